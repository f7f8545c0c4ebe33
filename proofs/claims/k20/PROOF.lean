import PyProof.Rows.All
import Wide.All
import OpenK.AllK
import Wide.FinOn
import HandS.Evl
import HandS.Iter
import HandS.Conv
import KE.GoesMore
import HandS.Zip
import HandS.Walk
import HandS.TupAny
import HandS.TupMul
import HandS.IsInst
import HandS.Dict
import HandS.Wide
import HandS.Style
import HandS.Words
import PySem.Challenge.RW_allcalls_k20_whole_tracks_that_are_neede
set_option Elab.async false
set_option linter.all false
set_option maxRecDepth 100000
set_option maxHeartbeats 2000000
/-! data behind values: what an expression evaluates to, told as data -/
namespace DL
open PySem PySem.Spec PyProof.Rows L2 Evl

section
variable {K : PySem.W.Frag} {H H' : Hp}
mutual
theorem dp_ex (e : Ex H H') : ∀ (d : PyData) (v : V), Dp K H v d → Dp K H' v d
  | .none, _, h => by cases h; exact .non
  | .bool b, _, h => by cases h; exact .bl b
  | .int i, _, h => by cases h; exact .int i
  | .str x, _, h => by cases h; exact .str x
  | .list ds, _, h => by
    cases h with
    | lst hs ha => exact .lst (ex_l e hs) (dpa_ex e ds _ ha)
  | .tuple ds, _, h => by
    cases h with
    | tup hs ha => exact .tup (ex_t e hs) (dpa_ex e ds _ ha)
  | .dict _, _, h => by cases h
theorem dpa_ex (e : Ex H H') : ∀ (ds : List PyData) (vs : List V), DpAll K H vs ds → DpAll K H' vs ds
  | [], _, h => by cases h; exact .nil
  | d :: ds, _, h => by
    cases h with
    | cons h1 h2 => exact .cons (dp_ex e d _ h1) (dpa_ex e ds _ h2)
end
theorem dpa_len : ∀ {vs : List V} {ds : List PyData}, DpAll K H vs ds → vs.length = ds.length
  | _, _, .nil => rfl
  | _, _, .cons _ t => congrArg (· + 1) (dpa_len t)
theorem dpa_get : ∀ {vs : List V} {ds : List PyData} {i : Nat} {d : PyData}, DpAll K H vs ds → ds[i]? = some d → ∃ v, vs[i]? = some v ∧ Dp K H v d
  | _, _, _, _, .nil, e => by simp at e
  | _, _, 0, _, .cons h _, e => ⟨_, rfl, by simp at e; subst e; exact h⟩
  | _, _, i + 1, _, .cons _ t, e => by
    obtain ⟨v, h1, h2⟩ := dpa_get (i := i) t (by simpa using e)
    exact ⟨v, by simpa using h1, h2⟩
theorem dpa_getV : ∀ {vs : List V} {ds : List PyData} {i : Nat} {v : V}, DpAll K H vs ds → vs[i]? = some v → ∃ d, ds[i]? = some d ∧ Dp K H v d
  | _, _, _, _, .nil, e => by simp at e
  | _, _, 0, _, .cons h _, e => ⟨_, rfl, by simp at e; subst e; exact h⟩
  | _, _, i + 1, _, .cons _ t, e => by
    obtain ⟨v, h1, h2⟩ := dpa_getV (i := i) t (by simpa using e)
    exact ⟨v, by simpa using h1, h2⟩
theorem dpa_app : ∀ {vs ws : List V} {ds es : List PyData}, DpAll K H vs ds → DpAll K H ws es → DpAll K H (vs ++ ws) (ds ++ es)
  | _, _, _, _, .nil, h => h
  | _, _, _, _, .cons a t, h => .cons a (dpa_app t h)
theorem dpa_drop : ∀ {vs : List V} {ds : List PyData} (n : Nat), DpAll K H vs ds → DpAll K H (vs.drop n) (ds.drop n)
  | _, _, 0, h => h
  | _, _, _ + 1, .nil => .nil
  | _, _, n + 1, .cons _ t => dpa_drop n t
theorem dpa_take : ∀ {vs : List V} {ds : List PyData} (n : Nat), DpAll K H vs ds → DpAll K H (vs.take n) (ds.take n)
  | _, _, 0, _ => .nil
  | _, _, _ + 1, .nil => .nil
  | _, _, n + 1, .cons a t => .cons a (dpa_take n t)
theorem dpa_set : ∀ {vs : List V} {ds : List PyData} {v : V} {d : PyData} (n : Nat), DpAll K H vs ds → Dp K H v d → DpAll K H (vs.set n v) (ds.set n d)
  | _, _, _, _, _, .nil, _ => .nil
  | _, _, _, _, 0, .cons _ t, h => .cons h t
  | _, _, _, _, n + 1, .cons a t, h => .cons a (dpa_set n t h)
theorem dpa_rep {v : V} {d : PyData} (h : Dp K H v d) : ∀ n, DpAll K H (List.replicate n v) (List.replicate n d)
  | 0 => .nil
  | n + 1 => .cons h (dpa_rep h n)
theorem dpa_rev : ∀ {vs : List V} {ds : List PyData}, DpAll K H vs ds → DpAll K H vs.reverse ds.reverse
  | _, _, .nil => .nil
  | _, _, .cons a t => by
    rw [List.reverse_cons, List.reverse_cons]
    exact dpa_app (dpa_rev t) (.cons a .nil)
/-- ints as data -/
abbrev dI (l : List Int) : List PyData := l.map PyData.int
abbrev tI (l : List Int) : PyData := .tuple (dI l)
theorem dpa_ints : ∀ {l : List Int} {vs : List V}, DpAll K H vs (dI l) → vs = l.map V.int
  | [], _, .nil => rfl
  | i :: l, _, .cons h t => by
    cases h
    rw [dpa_ints t]
    rfl
theorem ints_dpa : ∀ (l : List Int), DpAll K H (l.map V.int) (dI l)
  | [] => .nil
  | i :: l => .cons (.int i) (ints_dpa l)
theorem dp_tI {v : V} {l : List Int} (h : Dp K H v (tI l)) : ∃ a, v = .ref a ∧ SqT K H a (l.map V.int) := by
  cases h with
  | tup hs ha =>
    rw [dpa_ints ha] at hs
    exact ⟨_, rfl, hs⟩
theorem tI_dp {a : Addr} {l : List Int} (h : SqT K H a (l.map V.int)) : Dp K H (.ref a) (tI l) := .tup h (ints_dpa l)
theorem dp_int {v : V} {i : Int} (h : Dp K H v (.int i)) : v = .int i := by
  cases h; rfl
theorem dp_bool {v : V} {i : Bool} (h : Dp K H v (.bool i)) : v = .bl i := by
  cases h; rfl
theorem dp_none {v : V} (h : Dp K H v .none) : v = .non := by
  cases h; rfl
theorem dp_str {v : V} {s : Str} (h : Dp K H v (.str s)) : v = .str s := by
  cases h; rfl

/-! ### evaluation to data -/
def EvD (K : PySem.W.Frag) (te : TE) (σ : L2.St) (H : Hp) (d : PyData) : Prop := ∀ H1, Ex H H1 → ∀ Q : VK, (∀ v H2, Ex H1 H2 → Dp K H2 v d → Q v H2) → te σ H1 Q
/-- a new list -/
def EvN (K : PySem.W.Frag) (te : TE) (σ : L2.St) (H : Hp) (ds : List PyData) : Prop := ∀ H1, Ex H H1 → ∀ Q : VK, (∀ p vs H2, H1 p = none → Ex H1 H2 → H2 p = some (.lst vs) → DpAll K H2 vs ds → Q (.ref p) H2) → te σ H1 Q
def EvDA (K : PySem.W.Frag) (ta : TA) (σ : L2.St) (H : Hp) (ds : List PyData) : Prop := ∀ H1, Ex H H1 → ∀ Q : List V → Hp → Prop, (∀ vs H2, Ex H1 H2 → DpAll K H2 vs ds → Q vs H2) → ta σ H1 Q
variable {σ : L2.St} {ta tb te : TE} {t u : TT} {d : PyData} {ds : List PyData} {v : V} {i j : Int}
theorem EvD.ex (e : Ex H H') (h : EvD K te σ H d) : EvD K te σ H' d := fun H1 a Q q => h H1 (e.trans a) Q q
theorem EvN.ex (e : Ex H H') (h : EvN K te σ H ds) : EvN K te σ H' ds := fun H1 a Q q => h H1 (e.trans a) Q q
theorem EvDA.ex {ta : TA} (e : Ex H H') (h : EvDA K ta σ H ds) : EvDA K ta σ H' ds := fun H1 a Q q => h H1 (e.trans a) Q q
theorem EvN.toD (h : EvN K te σ H ds) : EvD K te σ H (.list ds) := fun H1 a Q q => h H1 a Q fun p vs H2 _ e2 hp hd => q _ H2 e2 (.lst (sq_of hp) hd)
theorem EvD.int (h : EvD K te σ H (.int i)) : Ev te σ H (.int i) := fun H1 a Q q => h H1 a Q fun v H2 e2 hd => by
  rw [dp_int hd]
  exact q H2 e2
theorem EvD.bool {b : Bool} (h : EvD K te σ H (.bool b)) : Ev te σ H (.bl b) := fun H1 a Q q => h H1 a Q fun v H2 e2 hd => by
  rw [dp_bool hd]
  exact q H2 e2
theorem EvD.non (h : EvD K te σ H .none) : Ev te σ H .non := fun H1 a Q q => h H1 a Q fun v H2 e2 hd => by
  rw [dp_none hd]
  exact q H2 e2
theorem ev_d (h : Ev te σ H v) (hd : Dp K H v d) : EvD K te σ H d := fun H1 a Q q => h H1 a Q fun H2 e2 => q v H2 e2 (dp_ex (a.trans e2) d v hd)
theorem ed_int (h : Ev te σ H (.int i)) : EvD K te σ H (.int i) := ev_d h (.int i)
theorem ed_bool {b : Bool} (h : Ev te σ H (.bl b)) : EvD K te σ H (.bool b) := ev_d h (.bl b)
theorem ed_str {b : Str} (h : Ev te σ H (.str b)) : EvD K te σ H (.str b) := ev_d h (.str b)
theorem ed_var {k : Nat} (h : σ[k]? = some (some v)) (hd : Dp K H v d) : EvD K (tVar k) σ H d := ev_d (ev_var h) hd
theorem ed_is {d' : PyData} (h : EvD K te σ H d) (e : d = d') : EvD K te σ H d' := e ▸ h
theorem en_is {ds' : List PyData} (h : EvN K te σ H ds) (e : ds = ds') : EvN K te σ H ds' := e ▸ h
theorem eda_nil : EvDA K tNil σ H [] := fun H1 _ _ q => q [] H1 (Ex.refl H1) .nil
theorem eda_cons {tr : TA} (h : EvD K te σ H d) (hr : EvDA K tr σ H ds) : EvDA K (tCons te tr) σ H (d :: ds) := fun H1 e _ q =>
  h H1 e _ fun v H2 e2 hd => hr H2 (e.trans e2) _ fun vs H3 e3 hv => q (v :: vs) H3 (e2.trans e3) (.cons (dp_ex e3 _ _ hd) hv)
theorem ed_tup {ta : TA} (h : EvDA K ta σ H ds) (hl : ds.length ≤ 100000) : EvD K (tTup ta) σ H (.tuple ds) := fun H1 e _ q =>
  h H1 e _ fun vs H2 e2 hv => ⟨sz_of (by rw [dpa_len hv]; exact hl), fun p hp => q (.ref p) _ (e2.trans (Ex.new hp)) (.tup (st_of upd_same) (dpa_ex (Ex.new hp) _ _ hv))⟩
theorem en_lst {ta : TA} (h : EvDA K ta σ H ds) (hl : ds.length ≤ 100000) : EvN K (tLst ta) σ H ds := fun H1 e _ q =>
  h H1 e _ fun vs H2 e2 hv => ⟨sz_of (by rw [dpa_len hv]; exact hl), fun p hp => q p vs _ (fresh_back e2 hp) (e2.trans (Ex.new hp)) upd_same (dpa_ex (Ex.new hp) _ _ hv)⟩
/-- t[i] -/
theorem ed_ixT {k : Nat} (h : EvD K ta σ H (.tuple ds)) (hi : Ev tb σ H (.int (k : Int))) (hk : ds[k]? = some d) : EvD K (tOp (rIxT K) ta tb) σ H d := fun H1 e Q q =>
  h H1 e _ fun w H2 e2 hw => hi H2 (e.trans e2) _ fun H3 e3 => by
    cases hw with
    | tup hs ha =>
      obtain ⟨y, hy, dy⟩ := dpa_get ha hk
      exact ⟨_, _, (k : Int), y, rfl, rfl, ex_t e3 hs, atI_nat hy, q y H3 (e2.trans e3) (dp_ex e3 _ _ dy)⟩
theorem ed_ixL {k : Nat} (h : EvD K ta σ H (.list ds)) (hi : Ev tb σ H (.int (k : Int))) (hk : ds[k]? = some d) : EvD K (tOp (rIxL K) ta tb) σ H d := fun H1 e Q q =>
  h H1 e _ fun w H2 e2 hw => hi H2 (e.trans e2) _ fun H3 e3 => by
    cases hw with
    | lst hs ha =>
      obtain ⟨y, hy, dy⟩ := dpa_get ha hk
      exact ⟨_, _, (k : Int), y, rfl, rfl, ex_l e3 hs, atI_nat hy, q y H3 (e2.trans e3) (dp_ex e3 _ _ dy)⟩
/-- len -/
theorem ev_lenT (h : EvD K te σ H (.tuple ds)) : Ev (tCB (fun xs H Q => ∃ p ys, xs = [.ref p] ∧ (SqL K H p ys ∨ SqT K H p ys) ∧ Q (.int ys.length) H) (tCons te tNil)) σ H (.int (ds.length : Int)) := fun H1 e Q q =>
  h H1 e _ fun w H2 e2 hw => by
    cases hw with
    | tup hs ha =>
      refine ⟨_, _, rfl, .inr hs, ?_⟩
      rw [dpa_len ha]
      exact q H2 e2
theorem ev_lenL (h : EvD K te σ H (.list ds)) : Ev (tCB (fun xs H Q => ∃ p ys, xs = [.ref p] ∧ (SqL K H p ys ∨ SqT K H p ys) ∧ Q (.int ys.length) H) (tCons te tNil)) σ H (.int (ds.length : Int)) := fun H1 e Q q =>
  h H1 e _ fun w H2 e2 hw => by
    cases hw with
    | lst hs ha =>
      refine ⟨_, _, rfl, .inl hs, ?_⟩
      rw [dpa_len ha]
      exact q H2 e2
/-- the promises: data in, data out; data in, a new list out -/
def spD (K : PySem.W.Frag) (n : Nat) (R : List PyData → PyData → Prop) : Sp := fun vs H Q _ => ∃ ds r, DpAll K H vs ds ∧ ds.length = n ∧ R ds r ∧ ∀ v H', Ex H H' → Dp K H' v r → Q v H'
def spN (K : PySem.W.Frag) (n : Nat) (R : List PyData → List PyData → Prop) : Sp := fun vs H Q _ => ∃ ds r, DpAll K H vs ds ∧ ds.length = n ∧ R ds r ∧ ∀ p ws H', H p = none → Ex H H' → H' p = some (.lst ws) → DpAll K H' ws r → Q (.ref p) H'
theorem spD_len {n : Nat} {R : List PyData → PyData → Prop} {vs : List V} {Q : VK} {E : XK} (h : spD K n R vs H Q E) : vs.length = n := by
  obtain ⟨ds, r, h1, h2, _⟩ := h
  rw [dpa_len h1, h2]
theorem spN_len {n : Nat} {R : List PyData → List PyData → Prop} {vs : List V} {Q : VK} {E : XK} (h : spN K n R vs H Q E) : vs.length = n := by
  obtain ⟨ds, r, h1, h2, _⟩ := h
  rw [dpa_len h1, h2]
theorem ed_call {n : Nat} {R : List PyData → PyData → Prop} {E : XK} {ta : TA} (h : EvDA K ta σ H ds) (hl : ds.length = n) (hr : R ds d) : EvD K (tCall (spD K n R) [] E ta) σ H d := fun H1 e Q q =>
  h H1 e _ fun vs H2 e2 hv => ⟨ds, d, by rw [List.append_nil]; exact hv, hl, hr, fun v H3 e3 hd => q v H3 (e2.trans e3) hd⟩
theorem en_call {n : Nat} {R : List PyData → List PyData → Prop} {r : List PyData} {E : XK} {ta : TA} (h : EvDA K ta σ H ds) (hl : ds.length = n) (hr : R ds r) : EvN K (tCall (spN K n R) [] E ta) σ H r := fun H1 e Q q =>
  h H1 e _ fun vs H2 e2 hv => ⟨ds, r, by rw [List.append_nil]; exact hv, hl, hr, fun p ws H3 hp e3 h3 hd => q p ws H3 (fresh_back e2 hp) (e2.trans e3) h3 hd⟩
/-! ### statements -/
variable {D : Ends} {tu tw tz : TS} {g : TG}
theorem d_asg {k : Nat} (h : EvD K te σ H d) (q : ∀ v H1, Ex H H1 → Dp K H1 v d → D.nx (σ.set k (some v)) H1) : tAsg te (gName k) D σ H := h H (Ex.refl H) _ q
theorem n_asg {k : Nat} (h : EvN K te σ H ds) (q : ∀ p vs H1, H p = none → Ex H H1 → H1 p = some (.lst vs) → DpAll K H1 vs ds → D.nx (σ.set k (some (.ref p))) H1) : tAsg te (gName k) D σ H := h H (Ex.refl H) _ q
theorem d_ret (h : EvD K te σ H d) (q : ∀ v H1, Ex H H1 → Dp K H1 v d → D.rt v H1) : tRet te D σ H := h H (Ex.refl H) _ q
theorem n_ret (h : EvN K te σ H ds) (q : ∀ p vs H1, H p = none → Ex H H1 → H1 p = some (.lst vs) → DpAll K H1 vs ds → D.rt (.ref p) H1) : tRet te D σ H := h H (Ex.refl H) _ q
theorem d_drop (h : EvD K te σ H d) (q : ∀ H1, Ex H H1 → D.nx σ H1) : tDrop te D σ H := h H (Ex.refl H) _ fun _ H1 e _ => q H1 e
/-- xs.append(e), e data that stays when the list at l changes (l is not known at H0) -/
theorem d_app {l : Addr} {xs : List V} (hl : H l = some (.lst xs)) (ha : Ev ta σ H (.ref l)) (h : EvD K te σ H d) (hz : xs.length < 100000) (q : ∀ v H1, Ex H H1 → Dp K H1 v d → D.nx σ (upd H1 l (.lst (xs ++ [v])))) :
    tDrop (tBM K "list" rAppend ta (tCons te tNil)) D σ H := ha H (Ex.refl H) _ fun H1 e1 =>
  ⟨Or.inl ⟨rfl, xs, sq_of (e1 l _ hl)⟩, h H1 e1 _ fun v H2 e2 hd => ⟨l, xs, v, rfl, rfl, e2 l _ (e1 l _ hl), sz_lt hz, q v H2 (e1.trans e2) hd⟩⟩
end
/-! ### data of tuples alone: no change of a list or a dict touches it -/
/-- tuples stay -/
def Tx (H H' : Hp) : Prop := ∀ a xs, Rd H a (.tup xs) → Rd H' a (.tup xs)
theorem Tx.of_ex {H H' : Hp} (e : Ex H H') : Tx H H' := fun _ _ h => ex_rd e h
theorem Tx.trans {H H1 H2 : Hp} (a : Tx H H1) (b : Tx H1 H2) : Tx H H2 := fun x o h => b x o (a x o h)
theorem Tx.refl (H : Hp) : Tx H H := fun _ _ h => h
theorem Tx.upd {H : Hp} {p : Addr} {o u : HO} (h : H p = some o) (n : ∀ xs, o ≠ .tup xs) (n2 : ∀ ob xs, o ≠ .frz ob (.tup xs)) : Tx H (upd H p u) := fun a xs r => by
  rcases r with r | ⟨ob, r⟩
  · have ne : a ≠ p := fun z => by
      rw [z, h] at r
      exact n xs (Option.some.inj r)
    exact Or.inl (by rw [upd_ne ne]; exact r)
  · have ne : a ≠ p := fun z => by
      rw [z, h] at r
      exact n2 ob xs (Option.some.inj r)
    exact Or.inr ⟨ob, by rw [upd_ne ne]; exact r⟩
theorem Tx.lst {H : Hp} {p : Addr} {xs : List V} {u : HO} (h : H p = some (.lst xs)) : Tx H (L2.upd H p u) := Tx.upd h (fun _ z => nomatch z) fun _ _ z => nomatch z
theorem Tx.dct {H : Hp} {p : Addr} {xs : List (Key × V)} {u : HO} (h : H p = some (.dK xs)) : Tx H (L2.upd H p u) := Tx.upd h (fun _ z => nomatch z) fun _ _ z => nomatch z
mutual
def imm : PyData → Bool
  | .none => true
  | .bool _ => true
  | .int _ => true
  | .str _ => true
  | .tuple ds => immAll ds
  | _ => false
def immAll : List PyData → Bool
  | [] => true
  | d :: ds => imm d && immAll ds
end
section
variable {K : PySem.W.Frag} {H H' : Hp}
theorem sqT_tx {a : Addr} {xs : List V} (e : Tx H H') (h : SqT K H a xs) : SqT K H' a xs := by
  rcases h with h | h
  · exact Or.inl (e _ _ h)
  · exact Or.inr h
mutual
theorem dp_tx (e : Tx H H') : ∀ (d : PyData) (v : V), imm d = true → Dp K H v d → Dp K H' v d
  | .none, _, _, h => by cases h; exact .non
  | .bool b, _, _, h => by cases h; exact .bl b
  | .int i, _, _, h => by cases h; exact .int i
  | .str x, _, _, h => by cases h; exact .str x
  | .list ds, _, i, h => by simp [imm] at i
  | .tuple ds, _, i, h => by
    cases h with
    | tup hs ha => exact .tup (sqT_tx e hs) (dpa_tx e ds _ (by simpa [imm] using i) ha)
  | .dict _, _, _, h => by cases h
theorem dpa_tx (e : Tx H H') : ∀ (ds : List PyData) (vs : List V), immAll ds = true → DpAll K H vs ds → DpAll K H' vs ds
  | [], _, _, h => by cases h; exact .nil
  | d :: ds, _, i, h => by
    simp only [immAll, Bool.and_eq_true] at i
    cases h with
    | cons h1 h2 => exact .cons (dp_tx e d _ i.1 h1) (dpa_tx e ds _ i.2 h2)
end
theorem immAll_ints : ∀ l : List Int, immAll (dI l) = true
  | [] => by simp [immAll]
  | i :: l => by
    rw [dI, List.map_cons, immAll, immAll_ints l]
    simp [imm]
theorem imm_tI (l : List Int) : imm (tI l) = true := by
  rw [imm]
  exact immAll_ints l
theorem immAll_tIs : ∀ l : List (List Int), immAll (l.map tI) = true
  | [] => by simp [immAll]
  | i :: l => by rw [List.map_cons, immAll, imm_tI, immAll_tIs l]; rfl
end
end DL
set_option Elab.async false
set_option linter.all false
set_option maxRecDepth 100000
set_option maxHeartbeats 2000000
/-! zip of a list or a tuple and a list or a tuple, in any mix: the pairs are new tuples -/
namespace DL
open PySem PySem.Spec PyProof.Rows L2 Evl

/-- a list or a tuple -/
def SqA (K : PySem.W.Frag) (t : Bool) (H : Hp) (a : Addr) (xs : List V) : Prop := if t then SqT K H a xs else SqL K H a xs
theorem sqa_l {K : PySem.W.Frag} {H : Hp} {a : Addr} {xs : List V} (h : SqL K H a xs) : SqA K false H a xs := h
theorem sqa_t {K : PySem.W.Frag} {H : Hp} {a : Addr} {xs : List V} (h : SqT K H a xs) : SqA K true H a xs := h
/-- the iterator over it, at the i-th turn -/
def ItA (t : Bool) (h : Heap) (it a : Addr) (vs : Array Value) (i : Nat) : Prop :=
  if t then h.IsTupleIter it a i ∧ h.IsTuple a vs else h.IsListIter it a i ∧ h.IsList a vs
theorem drawsA {prog : Program} {w : World} {A : Around} (hh : A.handled = none) (t : Bool) (it a : Addr) (hne : a ≠ it) (vs : Array Value) :
    Draws prog w A it [it, a] vs.size (fun i v => vs[i]? = some v) (fun i h => ItA t h it a vs i) := by
  cases t with
  | true => exact Draws.tuple hh it a hne vs
  | false => exact Draws.list hh it a hne vs
def objA (t : Bool) (a : Addr) : Obj := if t then { cls := .type "tuple_iterator", data := .fields #[.ref a, .int 0 0] } else { cls := .type "list_iterator", data := .fields #[.ref a, .int 0 0] }
def heldA (t : Bool) (a : Addr) (vs : Array Value) (h : Heap) : Prop := if t then h.IsTuple a vs else h.IsList a vs
theorem beginsA (t : Bool) (a : Addr) (vs : Array Value) : Begins (.ref a) (objA t a) (heldA t a vs) := by
  cases t with
  | true => exact begins_tuple a vs
  | false => exact begins_list a vs
theorem itA_new {t : Bool} {h : Heap} {it a : Addr} {vs : Array Value} (ho : h.get? it = some (objA t a)) (hv : heldA t a vs h) : ItA t h it a vs 0 := by
  cases t with
  | true => exact ⟨⟨_, ho, rfl, rfl⟩, hv⟩
  | false => exact ⟨⟨_, ho, rfl, rfl⟩, hv⟩
theorem heldA_kept {t : Bool} {h h' : Heap} {a : Addr} {vs : Array Value} (hv : heldA t a vs h) (k : ∀ o, h.get? a = some o → h'.get? a = some o) : heldA t a vs h' := by
  cases t with
  | true => exact Heap.IsTuple.at (show h.IsTuple a vs from hv) k
  | false => exact Heap.IsList.at (show h.IsList a vs from hv) k
theorem heldA_lt {t : Bool} {h : Heap} {a : Addr} {vs : Array Value} (hv : heldA t a vs h) : a < h.objs.size := by
  cases t with
  | true =>
    obtain ⟨o, ho, _⟩ := (show h.IsTuple a vs from hv)
    exact Heap.lt_size ho
  | false =>
    obtain ⟨o, ho, _⟩ := (show h.IsList a vs from hv)
    exact Heap.lt_size ho

/-- the walk of zip: what stands at a and b, their items in new pairs -/
def ItzM (K : PySem.W.Frag) (t u : Bool) (a b : Addr) : It :=
  ⟨fun i H => ∃ (xs ys : List V) (x y : V), SqA K t H a xs ∧ SqA K u H b ys ∧ xs[i]? = some x ∧ ys[i]? = some y,
    fun i H v H' => ∃ T x y, v = .ref T ∧ H T = none ∧ H' = upd H T (.tup [x, y]) ∧ (∀ xs, SqA K t H a xs → xs[i]? = some x) ∧ ∀ ys, SqA K u H b ys → ys[i]? = some y,
    fun i H => ∃ xs ys : List V, SqA K t H a xs ∧ SqA K u H b ys ∧ (xs.length = i ∧ i ≤ ys.length ∨ ys.length = i ∧ i ≤ xs.length)⟩
section
variable {X : Cx} {pins : List (Addr × Obj)} {σ : L2.St} {H : Hp} {s : Shared} {a b : Addr} {xs ys : List V} {t u : Bool}
theorem held_of (I : Inv X pins σ H s) (h : SqA X.K t H a xs) : ∃ its : List Value, Vals xs its ∧ heldA t a its.toArray s.heap := by
  cases t with
  | true =>
    obtain ⟨its, r, p, _⟩ := I.tuple (show SqT X.K H a xs from h)
    exact ⟨its, r, show s.heap.IsTuple a its.toArray from p⟩
  | false =>
    obtain ⟨its, r, p, _⟩ := I.list (show SqL X.K H a xs from h)
    exact ⟨its, r, p.isList⟩
theorem sqA_inj (I : Inv X pins σ H s) (h : SqA X.K t H a xs) (h' : SqA X.K t H a ys) : xs = ys := by
  cases t with
  | true => exact I.tuple_inj h h'
  | false => exact I.list_inj h h'
theorem held_inj {h : Heap} {vs ws : Array Value} (p : heldA t a vs h) (q : heldA t a ws h) : vs = ws := by
  cases t with
  | true =>
    obtain ⟨o, e, _, n, d⟩ := (show h.IsTuple a vs from p)
    obtain ⟨o', e', _, n', d'⟩ := (show h.IsTuple a ws from q)
    rw [e] at e'; cases e'
    rw [d] at d'
    injection d' with d1 _
  | false =>
    obtain ⟨o, e, _, n, d⟩ := (show h.IsList a vs from p)
    obtain ⟨o', e', _, n', d'⟩ := (show h.IsList a ws from q)
    rw [e] at e'; cases e'
    rw [d] at d'
    injection d' with d1 _
theorem itA_held {h : Heap} {it : Addr} {vs : Array Value} {i : Nat} (x : ItA t h it a vs i) : heldA t a vs h := by
  cases t with
  | true => exact x.2
  | false => exact x.2
theorem itA_obj {h : Heap} {it : Addr} {vs : Array Value} {i : Nat} (x : ItA t h it a vs i) : ∃ o fs, h.get? it = some o ∧ o.data = .fields fs := by
  cases t with
  | true => obtain ⟨⟨o, e, _, d⟩, _⟩ := x; exact ⟨o, _, e, d⟩
  | false => obtain ⟨⟨o, e, _, d⟩, _⟩ := x; exact ⟨o, _, e, d⟩
theorem itA_at {h h' : Heap} {it : Addr} {vs : Array Value} {i : Nat} (x : ItA t h it a vs i) (k : ∀ o, h.get? it = some o → h'.get? it = some o) (k2 : ∀ o, h.get? a = some o → h'.get? a = some o) : ItA t h' it a vs i := by
  cases t with
  | true => exact ⟨x.1.at k, Heap.IsTuple.at x.2 k2⟩
  | false => exact ⟨x.1.at k, Heap.IsList.at x.2 k2⟩
/-- the iterator's own place alone -/
def ItB (t : Bool) (h : Heap) (it a : Addr) (i : Nat) : Prop := if t then h.IsTupleIter it a i else h.IsListIter it a i
theorem itB_of {h : Heap} {it : Addr} {vs : Array Value} {i : Nat} (x : ItA t h it a vs i) : ItB t h it a i := by
  cases t with
  | true => exact x.1
  | false => exact x.1
theorem itA_of {h : Heap} {it : Addr} {vs : Array Value} {i : Nat} (x : ItB t h it a i) (y : heldA t a vs h) : ItA t h it a vs i := by
  cases t with
  | true => exact ⟨x, y⟩
  | false => exact ⟨x, y⟩
theorem itB_obj {h : Heap} {it : Addr} {i : Nat} (x : ItB t h it a i) : ∃ o fs, h.get? it = some o ∧ o.data = .fields fs := by
  cases t with
  | true => obtain ⟨o, e, _, d⟩ := x; exact ⟨o, _, e, d⟩
  | false => obtain ⟨o, e, _, d⟩ := x; exact ⟨o, _, e, d⟩
theorem itB_at {h h' : Heap} {it : Addr} {i : Nat} (x : ItB t h it a i) (k : ∀ o, h.get? it = some o → h'.get? it = some o) : ItB t h' it a i := by
  cases t with
  | true => exact Heap.IsTupleIter.at (show h.IsTupleIter it a i from x) k
  | false => exact Heap.IsListIter.at (show h.IsListIter it a i from x) k
end
/-- the cells of a zip and what it walks lie apart -/
theorem sep_of {z TI TO i1 i2 a b : Addr} (D : ZipApart z TI TO i1 i2 a b) : ZipSep2 z TI TO i1 i2 [i1, a] [i2, b] where
  TIz := D.TIz
  TOz := D.TOz
  TITO := D.TITO
  TIi1 := D.TIi1
  mem1 := by simp
  zf1 := by simp [D.i1z.symm, D.l1z.symm]
  Tf1 := by simp [D.TOi1, D.l1TO.symm]
  TIi2 := D.TIi2
  mem2 := by simp
  zf2 := by simp [D.i2z.symm, D.l2z.symm]
  Tf2 := by simp [D.TOi2, D.l2TO.symm]
  sep1_2 := by simp [D.i12, D.l2i1.symm]
  sep2_1 := by simp [D.i12.symm, D.l1i2.symm]
theorem five {z TI TO i1 i2 : Addr} {P : Addr → Prop} (h1 : P z) (h2 : P TI) (h3 : P TO) (h4 : P i1) (h5 : P i2) : ∀ c, c ∈ [z, TI, TO, i1, i2] → P c := fun c hc => by
  simp only [List.mem_cons, List.not_mem_nil, or_false] at hc
  rcases hc with rfl | rfl | rfl | rfl | rfl
  · exact h1
  · exact h2
  · exact h3
  · exact h4
  · exact h5
theorem turn_zipM {P : Program} {w : World} {K : PySem.W.Frag} {elts : List Expr} {kk : Nat} {tpos : Pos} {t u : Bool} {a b z TI TO i1 i2 : Addr} (D : ZipApart z TI TO i1 i2 a b) :
    Turn P w K (.Tuple elts kk tpos) (ItzM K t u a b) [z, TI, TO, i1, i2] z
      (fun i h => IsZip h z TI TO .none ∧ IsPair h TI (.ref i1) (.ref i2) ∧ (∃ x y, IsPair h TO x y) ∧ ItB t h i1 a i ∧ ItB u h i2 b i) where
  mem := by simp
  obj := fun i h st => by
    obtain ⟨hz, hTI, ⟨x, y, hTO⟩, h1, h2⟩ := st
    refine five ⟨_, hz, fun v q => nomatch q⟩ ⟨_, hTI, fun v q => nomatch q⟩ ⟨_, hTO, fun v q => nomatch q⟩ ?_ ?_
    · obtain ⟨o, fs, e, d⟩ := itB_obj h1
      exact ⟨o, e, fun v q => by rw [d] at q; cases q⟩
    · obtain ⟨o, fs, e, d⟩ := itB_obj h2
      exact ⟨o, e, fun v q => by rw [d] at q; cases q⟩
  keep := fun i h h' st k => by
    obtain ⟨hz, hTI, ⟨x, y, hTO⟩, h1, h2⟩ := st
    exact ⟨k z (by simp) _ hz, k TI (by simp) _ hTI, ⟨x, y, k TO (by simp) _ hTO⟩, itB_at h1 fun o q => k i1 (by simp) o q, itB_at h2 fun o q => k i2 (by simp) o q⟩
  item := by
    intro X hP hw hK hc i pins s σ H E I hf st hg
    subst hP hw hK
    obtain ⟨hz, hTI, ⟨x0, y0, hTO⟩, h1, h2⟩ := st
    obtain ⟨xs, ys, x, y, hqx, hqy, hx, hy⟩ := hg
    obtain ⟨its, rv, p⟩ := held_of I hqx
    obtain ⟨its2, rv2, p2⟩ := held_of I hqy
    obtain ⟨w1, hw1, rw1⟩ := rv.get hx
    obtain ⟨w2, hw2, rw2⟩ := rv2.get hy
    have l1 : i < its.toArray.size := by
      have := (List.getElem?_eq_some_iff.mp hw1).1
      simpa using this
    have l2 : i < its2.toArray.size := by
      have := (List.getElem?_eq_some_iff.mp hw2).1
      simpa using this
    have hh : X.A.in1.handled = none := I.ok.hd hc
    have hzl : z < s.heap.objs.size := Heap.lt_size hz
    refine wpAny_pyNext_zipD2_item (sep_of D) (drawsA hh t i1 a D.l1i1 its.toArray) (drawsA hh u i2 b D.l2i2 its2.toArray) hz hTI hTO (itA_of h1 p) (itA_of h2 p2) l1 l2 fun x1 x2 h' tk e1 e2 z' TO' s1 s2 hT hsz hk => ?_
    have ex1 : x1 = w1 := by
      have q := hw1
      rw [show its[i]? = some x1 by simpa using e1] at q
      exact Option.some.inj q
    have ex2 : x2 = w2 := by
      have q := hw2
      rw [show its2[i]? = some x2 by simpa using e2] at q
      exact Option.some.inj q
    subst ex1 ex2
    refine ⟨_, rfl, wpAny_letOwnedTupleGo_zip (s := { s with heap := h', toks := tk }) z' fun h'' z'' sb => ?_⟩
    have up : ∀ c o, c ≠ z → h'.get? c = some o → h''.get? c = some o := fun c o n q => (sb.2 c n).trans q
    have hT2 := up _ _ (Nat.ne_of_gt hzl) hT
    have new : ObjOk X.prog X.w (upd H s.heap.objs.size (.tup [x, y])) h'' s.heap.objs.size (.tup [x, y]) :=
      ⟨by show 2 ≤ sizeLine; decide, [x1, x2], .cons rw1 (.cons rw2 .nil), ⟨_, hT2, rfl, _, rfl⟩⟩
    have kk : ∀ c o, c ∉ [z, TI, TO, i1, i2] → s.heap.get? c = some o → h''.get? c = some o := fun c o nc q => by
      simp only [List.mem_cons, List.not_mem_nil, or_false, not_or] at nc
      exact up c o nc.1 (hk c o nc.1 nc.2.2.1 nc.2.2.2.1 nc.2.2.2.2 q)
    have I1 : Inv X pins σ (upd H s.heap.objs.size (.tup [x, y])) { s with heap := h'', toks := tk } := I.turnedNew (t' := tk) (ch := [z, TI, TO, i1, i2]) kk hf (Nat.le_refl _) new
    have hTI' : IsPair h'' TI (.ref i1) (.ref i2) := up _ _ D.TIz (hk _ _ D.TIz D.TITO D.TIi1 D.TIi2 hTI)
    refine ⟨.ref s.heap.objs.size, _, I1, rfl, ⟨_, x, y, rfl, I.hok.fresh (Nat.le_refl _), rfl, fun l hl => ?_, fun l hl => ?_⟩, ⟨z'', hTI', ⟨x1, x2, up _ _ D.TOz TO'⟩, ?_, ?_⟩, ?_⟩
    · rw [sqA_inj I hl hqx]
      exact hx
    · rw [sqA_inj I hl hqy]
      exact hy
    · exact itB_at (itB_of s1) fun o q => up _ o D.i1z q
    · exact itB_at (itB_of s2) fun o q => up _ o D.i2z q
    · have lt1 : i1 < s.heap.objs.size := by
        obtain ⟨o, _, e, _⟩ := itB_obj h1
        exact Heap.lt_size e
      have lt2 : i2 < s.heap.objs.size := by
        obtain ⟨o, _, e, _⟩ := itB_obj h2
        exact Heap.lt_size e
      have go : ∀ c, c < s.heap.objs.size → c ∈ [z, TI, TO, i1, i2] → upd H s.heap.objs.size (.tup [x, y]) c = none := fun c l m => by
        rw [upd_ne (Nat.ne_of_lt l)]
        exact (hf c m).1
      exact five (go _ hzl (by simp)) (go _ (Heap.lt_size hTI) (by simp)) (go _ (Heap.lt_size hTO) (by simp)) (go _ lt1 (by simp)) (go _ lt2 (by simp))
  done := by
    intro X hP hw hK hc i pins s σ H E I hf st hg
    subst hP hw hK
    obtain ⟨hz, hTI, ⟨x0, y0, hTO⟩, h1, h2⟩ := st
    obtain ⟨xs, ys, hqx, hqy, hend⟩ := hg
    obtain ⟨its, rv, p⟩ := held_of I hqx
    obtain ⟨its2, rv2, p2⟩ := held_of I hqy
    have n1 : its.toArray.size = xs.length := by rw [List.size_toArray, rv.length]
    have n2 : its2.toArray.size = ys.length := by rw [List.size_toArray, rv2.length]
    have hh : X.A.in1.handled = none := I.ok.hd hc
    refine wpAny_pyNext_zipD2_end (sep_of D) (drawsA hh t i1 a D.l1i1 its.toArray) (drawsA hh u i2 b D.l2i2 its2.toArray) hz hTI hTO (i := i) (itA_of h1 p) (itA_of h2 p2) (by omega) (by omega) (by omega) fun h' tk hk => ⟨rfl, ?_⟩
    refine I.turnedL (t' := tk) (ch := [z, TI, TO, i1, i2]) (fun c o nc q => ?_) hf
    simp only [List.mem_cons, List.not_mem_nil, or_false, not_or] at nc
    exact hk c o nc.1 nc.2.2.1 nc.2.2.2.1 nc.2.2.2.2 q
  self := fun A i s Q E st h => wpAny_pyIter_zip st.1 h

def iZipM (K : PySem.W.Frag) (t u : Bool) (ta : TA) : TI := fun σ H R => ta σ H fun vs H1 => ∃ a b xs ys, vs = [.ref a, .ref b] ∧ SqA K t H1 a xs ∧ SqA K u H1 b ys ∧ R (ItzM K t u a b) H1
theorem pi_zipM {X : Cx} {e e2 : Expr} {ta : TA} {p pos tpos : Pos} {elts : List Expr} {kk : Nat} (t u : Bool) (hg : Gl X "zip") (hm : X.mg "zip" = none) (ha : PA X [e, e2] ta)
    (hs : starEach [e, e2] X.env = (false, eval e X.env) :: starEach [e2] X.env := by rfl)
    (hpl : (backTo pos (starEach [e2] X.env)).any (·.1) = false := by rfl) :
    PI X (.Tuple elts kk tpos) (.Call (.Name "zip" p) [e, e2] [] pos) (iZipM X.K t u ta) := by
  refine ⟨fun pins s σ H R I h => ?_⟩
  refine Call_ (ld_blt I hg hm PyProof.Rows.boot_zip (PyProof.Rows.callWith_type1 (thn (ha.run pos pins s σ H _ I h) fun us s1 q0 => ?_) hs hpl))
  obtain ⟨vs, H1, I1, r1, a, b, xs, ys, rfl, hqx, hqy, q⟩ := q0
  obtain ⟨v1, v2, rfl, ra, rb⟩ := vals2 r1
  cases ra
  cases rb
  obtain ⟨its, rv, p1⟩ := held_of I1 hqx
  obtain ⟨its2, rv2, p2⟩ := held_of I1 hqy
  have fr : ∀ k, FpOk X pins H1 (s1.heap.objs.size + k) := fun k => I1.fpOk (Nat.le_add_right _ _) (I1.hok.fresh (Nat.le_add_right _ _))
  refine zip_begins2 (beginsA t a its.toArray) (beginsA u b its2.toArray) p1 p2 fun h' hz hTI hTO h1 h2 hsz hk => wpAny_pyIter_zip hz ?_
  have I2 : Inv X pins σ H1 { s1 with heap := h' } := I1.kept (t' := s1.toks) hk
  have b1 : ItB t h' s1.heap.objs.size a 0 := itB_of (itA_new (vs := its.toArray) h1 (heldA_kept p1 fun o e => hk a o e))
  have b2 : ItB u h' (s1.heap.objs.size + 1) b 0 := itB_of (itA_new (vs := its2.toArray) h2 (heldA_kept p2 fun o e => hk b o e))
  exact ⟨s1.heap.objs.size + 4, [s1.heap.objs.size + 4, s1.heap.objs.size + 2, s1.heap.objs.size + 3, s1.heap.objs.size, s1.heap.objs.size + 1], _, _, H1, rfl, I2,
    turn_zipM (PySem.W.ktu_apart s1.heap.objs.size a b (heldA_lt p1) (heldA_lt p2)), ⟨hz, hTI, ⟨_, _, hTO⟩, b1, b2⟩, five (fr 4) (fr 2) (fr 3) (fr 0) (fr 1), q⟩
theorem walk_zipM {K : PySem.W.Frag} {a b : Addr} {t u : Bool} {xs ys : List V} {n : Nat} (hn : n = min xs.length ys.length) :
    Walk (ItzM K t u a b) n (fun H => SqA K t H a xs ∧ SqA K u H b ys) (YPair (fun i => xs[i]?) (fun i => ys[i]?)) := by
  subst hn
  refine ⟨fun i _ hi q => ?_, fun _ q => ⟨xs, ys, q.1, q.2, by omega⟩, fun i H v H' _ q y => ?_⟩
  · have h1 : i < xs.length := by omega
    have h2 : i < ys.length := by omega
    exact ⟨xs, ys, xs[i], ys[i], q.1, q.2, List.getElem?_eq_getElem h1, List.getElem?_eq_getElem h2⟩
  · obtain ⟨T, x, z, h1, h2, h3, h4, h5⟩ := y
    exact ⟨T, x, z, h1, h2, h3, h4 xs q.1, h5 ys q.2⟩
end DL
set_option Elab.async false
set_option linter.all false
set_option maxRecDepth 100000
set_option maxHeartbeats 2000000
namespace DL
open PySem PySem.Spec PyProof.Rows L2 Evl

/-! ### what stays but for some lists -/
def Xp (S : List Addr) (H H' : Hp) : Prop := ∀ a o, H a = some o → a ∉ S → H' a = some o
theorem Xp.refl (S : List Addr) (H : Hp) : Xp S H H := fun _ _ h _ => h
theorem Xp.of_ex {S : List Addr} {H H' : Hp} (e : Ex H H') : Xp S H H' := fun a o h _ => e a o h
theorem Xp.to_ex {H H' : Hp} (e : Xp [] H H') : Ex H H' := fun a o h => e a o h (by simp)
theorem Xp.trans {S : List Addr} {H H1 H2 : Hp} (a : Xp S H H1) (b : Xp S H1 H2) : Xp S H H2 := fun x o h n => b x o (a x o h n) n
theorem Xp.then {S : List Addr} {H H1 H2 : Hp} (a : Xp S H H1) (b : Ex H1 H2) : Xp S H H2 := fun x o h n => b x o (a x o h n)
theorem Xp.upd {S : List Addr} {H H1 : Hp} {p : Addr} {o : HO} (a : Xp S H H1) (hp : p ∈ S) : Xp S H (L2.upd H1 p o) := fun x u h n => by
  rw [upd_ne (fun z : x = p => n (by rw [z]; exact hp))]
  exact a x u h n
/-- S holds lists alone -/
def Ls (H : Hp) (S : List Addr) : Prop := ∀ p ∈ S, ∃ l, H p = some (.lst l)
theorem Ls.nil (H : Hp) : Ls H [] := fun p hp => absurd hp (by simp)
theorem Ls.one {H : Hp} {p : Addr} {l : List V} (h : H p = some (.lst l)) : Ls H [p] := fun q hq => by
  have e : q = p := by simpa using hq
  exact ⟨l, e ▸ h⟩
theorem Ls.cons {H : Hp} {p : Addr} {S : List Addr} {l : List V} (h : H p = some (.lst l)) (r : Ls H S) : Ls H (p :: S) := fun q hq => by
  rcases List.mem_cons.mp hq with e | e
  · exact ⟨l, e ▸ h⟩
  · exact r q e
theorem Ls.ex {H H' : Hp} {S : List Addr} (h : Ls H S) (e : Ex H H') : Ls H' S := fun p hp => by
  obtain ⟨l, q⟩ := h p hp
  exact ⟨l, e p _ q⟩
theorem Xp.tx {S : List Addr} {H H' : Hp} (e : Xp S H H') (h : Ls H S) : Tx H H' := fun a xs r => by
  have n : ∀ o, H a = some o → (∀ l, o ≠ .lst l) → a ∉ S := fun o ho hn hs => by
    obtain ⟨l, q⟩ := h a hs
    rw [ho] at q
    exact hn l (Option.some.inj q)
  rcases r with r | ⟨ob, r⟩
  · exact Or.inl (e _ _ r (n _ r fun l z => nomatch z))
  · exact Or.inr ⟨ob, e _ _ r (n _ r fun l z => nomatch z)⟩

section
variable {K : PySem.W.Frag} {σ : L2.St} {H H' : Hp} {ta tb te : TE} {t u : TT} {d : PyData} {ds : List PyData} {v : V}
/-! ### what is walked, told as data -/
/-- n items ds; S: lists that may change meanwhile -/
def EvI (K : PySem.W.Frag) (wi : TI) (σ : L2.St) (H : Hp) (S : List Addr) (ds : List PyData) : Prop :=
  ∀ H1, Ex H H1 → ∀ R : It → Hp → Prop, (∀ J H2, Ex H1 H2 → Walk J ds.length (fun Ha => Xp S H2 Ha) (fun i Ha x Hb => Ex Ha Hb ∧ ∃ d, ds[i]? = some d ∧ Dp K Hb x d) → R J H2) → wi σ H1 R
theorem ei_ex {wi : TI} {S : List Addr} (e : Ex H H') (h : EvI K wi σ H S ds) : EvI K wi σ H' S ds := fun H1 a R q => h H1 (e.trans a) R q
theorem fresh_notin {S : List Addr} {p : Addr} (hS : Ls H S) (hp : H p = none) : p ∉ S := fun hs => by
  obtain ⟨l, q⟩ := hS p hs
  rw [hp] at q
  cases q
/-- a new list -/
theorem ei_new {S : List Addr} (hS : Ls H S) (h : EvN K te σ H ds) (hi : immAll ds = true) : EvI K (iList K te) σ H S ds := fun H1 e R q =>
  h H1 e _ fun p vs H2 hp e2 h2 hd => by
    refine ⟨p, rfl, ⟨vs, sq_of h2⟩, q _ H2 e2 ?_⟩
    have hn : p ∉ S := fresh_notin (hS.ex e) hp
    have hl := dpa_len hd
    rw [← hl]
    refine walk_list.mono (fun Ha x => sq_of (x p _ h2 hn)) fun i Ha x Hb hlt hg y => ?_
    obtain ⟨rfl, hx⟩ := y
    obtain ⟨d, hd1, hd2⟩ := dpa_getV (dpa_tx (hg.tx (hS.ex (e.trans e2))) _ _ hi hd) hx
    exact ⟨Ex.refl _, d, hd1, hd2⟩
/-- a list that stands -/
theorem ei_lst {S : List Addr} {q : Addr} {vs : List V} (hS : Ls H S) (h : Ev te σ H (.ref q)) (hq : H q = some (.lst vs)) (hn : q ∉ S) (hd : DpAll K H vs ds) (hi : immAll ds = true) : EvI K (iList K te) σ H S ds := fun H1 e R r =>
  h H1 e _ fun H2 e2 => by
    have h2 := e2 _ _ (e _ _ hq)
    refine ⟨q, rfl, ⟨vs, sq_of h2⟩, r _ H2 e2 ?_⟩
    rw [← dpa_len hd]
    refine walk_list.mono (fun Ha x => sq_of (x q _ h2 hn)) fun i Ha x Hb hlt hg y => ?_
    obtain ⟨rfl, hx⟩ := y
    obtain ⟨d, hd1, hd2⟩ := dpa_getV (dpa_tx (hg.tx (hS.ex (e.trans e2))) _ _ hi (dpa_ex (e.trans e2) _ _ hd)) hx
    exact ⟨Ex.refl _, d, hd1, hd2⟩
/-- a tuple -/
theorem ei_tup {S : List Addr} (hS : Ls H S) (h : EvD K te σ H (.tuple ds)) (hi : immAll ds = true) : EvI K (iTup K te) σ H S ds := fun H1 e R r =>
  h H1 e _ fun w H2 e2 hw => by
    cases hw with
    | tup hs ha =>
      refine ⟨_, rfl, ⟨_, hs⟩, r _ H2 e2 ?_⟩
      rw [← dpa_len ha]
      refine walk_tup.mono (fun Ha x => sqT_tx (x.tx (hS.ex (e.trans e2))) hs) fun i Ha x Hb hlt hg y => ?_
      obtain ⟨rfl, hx⟩ := y
      obtain ⟨d, hd1, hd2⟩ := dpa_getV (dpa_tx (hg.tx (hS.ex (e.trans e2))) _ _ hi ha) hx
      exact ⟨Ex.refl _, d, hd1, hd2⟩
/-- range -/
theorem rng_get {n : Nat} {f : Nat → PyData} {i : Nat} (h : i < n) : ((List.range n).map f)[i]? = some (f i) := by
  rw [List.getElem?_map, List.getElem?_range h]
  rfl
theorem ei_rng1 {S : List Addr} {ta : TA} {n : Int} (h : EvDA K ta σ H [.int n]) (hn : -(2 ^ 62) ≤ n ∧ n < 2 ^ 62) : EvI K (iRng1 ta) σ H S ((List.range n.toNat).map fun (i : Nat) => PyData.int (i : Int)) := fun H1 e R r =>
  h H1 e _ fun vs H2 e2 hv => by
    cases hv with
    | cons a b =>
      cases b
      cases a
      refine ⟨n, rfl, hn.1, hn.2, r _ H2 e2 ?_⟩
      rw [List.length_map, List.length_range]
      refine walk_range.mono (fun _ _ => trivial) fun i Ha x Hb hlt hg y => ?_
      obtain ⟨rfl, rfl⟩ := y
      refine ⟨Ex.refl _, _, rng_get hlt, ?_⟩
      show Dp K Hb (.int (0 + (i : Int))) (.int (i : Int))
      rw [Int.zero_add]
      exact .int _
theorem ei_rng2 {S : List Addr} {ta : TA} {m n : Int} (h : EvDA K ta σ H [.int m, .int n]) (hn : (-(2 ^ 62) ≤ m ∧ m < 2 ^ 62) ∧ -(2 ^ 62) ≤ n ∧ n < 2 ^ 62) : EvI K (iRng2 ta) σ H S ((List.range (n - m).toNat).map fun (i : Nat) => PyData.int (m + (i : Int))) := fun H1 e R r =>
  h H1 e _ fun vs H2 e2 hv => by
    cases hv with
    | cons a b =>
      cases b with
      | cons b c =>
        cases c
        cases a
        cases b
        refine ⟨m, n, rfl, ⟨hn.1.1, hn.1.2, hn.2.1, hn.2.2⟩, r _ H2 e2 ?_⟩
        rw [List.length_map, List.length_range]
        refine walk_range.mono (fun _ _ => trivial) fun i Ha x Hb hlt hg y => ?_
        obtain ⟨rfl, rfl⟩ := y
        exact ⟨Ex.refl _, _, rng_get hlt, .int _⟩
/-- range(m, e, -1) -/
theorem ei_rngD {S : List Addr} {ta : TA} {m n : Int} (h : EvDA K ta σ H [.int m, .int n, .int (-1)]) (hn : (-(2 ^ 61) ≤ m ∧ m < 2 ^ 61) ∧ -(2 ^ 61) ≤ n ∧ n < 2 ^ 61) (hr : RgC m n (-1) (m - n).toNat) :
    EvI K (iRng3 ta) σ H S ((List.range (m - n).toNat).map fun (i : Nat) => PyData.int (m - (i : Int))) := fun H1 e R r =>
  h H1 e _ fun vs H2 e2 hv => by
    cases hv with
    | cons a b =>
      cases b with
      | cons b c =>
        cases c with
        | cons c f =>
          cases f
          cases a
          cases b
          cases c
          refine ⟨m, n, -1, (m - n).toNat, rfl, hr, r _ H2 e2 ?_⟩
          rw [List.length_map, List.length_range]
          refine walk_rangeC.mono (fun _ _ => trivial) fun i Ha x Hb hlt hg y => ?_
          obtain ⟨rfl, rfl⟩ := y
          refine ⟨Ex.refl _, _, rng_get hlt, ?_⟩
          show Dp K Hb (.int (m + (i : Int) * (-1))) (.int (m - (i : Int)))
          rw [show m + (i : Int) * (-1) = m - (i : Int) by omega]
          exact .int _
/-! ### loops over it -/
variable {D : Ends} {tu tw tz : TS} {g : TG}
/-- a for: Pv of the heap at the start (all is evaluated), the turn, the slots, the heap -/
theorem d_for {wi : TI} {S : List Addr} (h : EvI K wi σ H S ds) (Pv : Hp → Nat → L2.St → Hp → Prop) (h0 : ∀ H2, Ex H H2 → Pv H2 0 σ H2) (hX : ∀ H2 i σ' Ha, i ≤ ds.length → Pv H2 i σ' Ha → Xp S H2 Ha)
    (hs : ∀ H2 i d x σ' Ha Hb, Ex H H2 → ds[i]? = some d → Pv H2 i σ' Ha → Ex Ha Hb → Dp K Hb x d → g x σ' Hb fun σ2 H3 => tu { D with nx := Pv H2 (i + 1), ct := Pv H2 (i + 1), bk := D.nx } σ2 H3)
    (hd : ∀ H2 σ' Ha, Ex H H2 → Pv H2 ds.length σ' Ha → D.nx σ' Ha) : tFor wi g tu D σ H := h H (Ex.refl H) _ fun J H2 e2 w =>
  for_it w (Pv H2) (h0 H2 e2) (fun i σ' Ha hi p => hX H2 i σ' Ha hi p) (fun i x σ' Ha Hb hlt p y => by
    obtain ⟨e, d, hd1, hd2⟩ := y
    exact hs H2 i d x σ' Ha Hb e2 hd1 p e hd2) fun σ' Ha p => hd H2 σ' Ha e2 p
theorem e_for {wi : TI} {S : List Addr} (h : EvI K wi σ H S ds) (Pv : Hp → Nat → L2.St → Hp → Prop) (h0 : ∀ H2, Ex H H2 → Pv H2 0 σ H2) (hX : ∀ H2 i σ' Ha, i ≤ ds.length → Pv H2 i σ' Ha → Xp S H2 Ha)
    (hs : ∀ H2 i d x σ' Ha Hb, Ex H H2 → ds[i]? = some d → Pv H2 i σ' Ha → Ex Ha Hb → Dp K Hb x d → g x σ' Hb fun σ2 H3 => tu { D with nx := Pv H2 (i + 1), ct := Pv H2 (i + 1), bk := tz D } σ2 H3)
    (hd : ∀ H2 σ' Ha, Ex H H2 → Pv H2 ds.length σ' Ha → tz D σ' Ha) : tSeq (tFor wi g tu) tz D σ H := d_for (D := { D with nx := tz D }) h Pv h0 hX hs hd
theorem gl_nil {Q : L2.St → Hp → Prop} : (fun (σ' : L2.St) H' => gNil [] σ' H' Q) = Q := by
  funext a b
  exact propext ⟨fun z => z.2, fun z => ⟨rfl, z⟩⟩
theorem gl_one {g2 : TG} {v : V} {Q : L2.St → Hp → Prop} : (fun (σ1 : L2.St) H1 => g2 v σ1 H1 Q) = fun σ1 H1 => gCons g2 gNil [v] σ1 H1 Q := by
  funext σ1 H1
  apply propext
  constructor
  · intro z
    refine ⟨v, [], rfl, ?_⟩
    rw [gl_nil]
    exact z
  · intro ⟨w, r, e, z⟩
    cases e
    rw [gl_nil] at z
    exact z
/-- targets: a name; a pair of targets; three -/
theorem g_two {g1 g2 : TG} {d1 d2 : PyData} {x : V} {Q : L2.St → Hp → Prop} (h : Dp K H x (.tuple [d1, d2])) (k : ∀ v1 v2, Dp K H v1 d1 → Dp K H v2 d2 → g1 v1 σ H fun σ1 H1 => g2 v2 σ1 H1 Q) :
    gTup K 2 (gCons g1 (gCons g2 gNil)) x σ H Q := by
  cases h with
  | tup hs ha =>
    cases ha with
    | cons a b =>
      cases b with
      | cons b c =>
        cases c
        refine ⟨_, _, rfl, hs, rfl, _, _, rfl, ?_⟩
        have q := k _ _ a b
        rw [gl_one] at q
        exact q
/-- a comprehension without a test -/
theorem en_lc {wi : TI} {vs : List Nat} (h : EvI K wi σ H [] ds) (hl : ds.length ≤ 50000) (f : Nat → PyData) (hi : ∀ i, i < ds.length → imm (f i) = true)
    (hs : ∀ H2 i d x Hb (Q : L2.St → Hp → Prop), Ex H H2 → ds[i]? = some d → Ex H2 Hb → Dp K Hb x d → (∀ σ2 H3, Ex Hb H3 → wipe σ2 vs = wipe σ vs → EvD K te σ2 H3 (f i) → Q σ2 H3) → g x (wipe σ vs) Hb Q) :
    EvN K (tLc wi g tYes te vs) σ H ((List.range ds.length).map f) := fun H1 e Q q => h H1 e _ fun J H2 e2 w => fun Dl hD => by
  have all : ∀ n, n ≤ ds.length → immAll ((List.range n).map f) = true := fun n => by
    induction n with
    | zero => intro _; simp [immAll]
    | succ n ih =>
      intro hn
      have app : ∀ (a b : List PyData), immAll a = true → immAll b = true → immAll (a ++ b) = true := fun a b ha hb => by
        induction a with
        | nil => exact hb
        | cons x a ih =>
          simp only [immAll, Bool.and_eq_true] at ha
          rw [List.cons_append, immAll, ha.1, ih ha.2]
          rfl
      rw [List.range_succ, List.map_append]
      exact app _ _ (ih (by omega)) (by simp [immAll, hi n (by omega)])
  refine lc_it w (fun n Ha => ∃ ws, Ex H2 Ha ∧ Ha Dl = some (.lst ws) ∧ DpAll K Ha ws ((List.range n).map f)) ⟨[], Ex.new hD, upd_same, by simp; exact .nil⟩ (fun n Ha _ p => by
    obtain ⟨ws, p1, _⟩ := p
    exact Xp.of_ex p1) (fun i x Ha Hb hlt p y => ?_) fun Ha p => ?_
  · obtain ⟨ws, p1, p2, p3⟩ := p
    obtain ⟨ey, d, hd1, hd2⟩ := y
    refine hs H2 i d x Hb _ (e.trans e2) hd1 (p1.trans ey) hd2 fun σ2 H3 e3 hw hv => ⟨hw, ?_⟩
    show te σ2 H3 _
    refine hv H3 (Ex.refl _) _ fun v H4 e4 hv4 => ⟨ws, e4 _ _ (e3 _ _ (ey _ _ p2)), ?_, ws ++ [v], ?_, upd_same, ?_⟩
    · have := dpa_len p3
      rw [List.length_map, List.length_range] at this
      exact sz_lt (by omega)
    · exact Ex.mut ((p1.trans ey).trans (e3.trans e4)) hD
    · have at4 : H4 Dl = some (.lst ws) := e4 _ _ (e3 _ _ (ey _ _ p2))
      rw [List.range_succ, List.map_append]
      refine dpa_app (dpa_tx (Tx.lst at4) _ _ (all i (by omega)) (dpa_ex ((ey.trans e3).trans e4) _ _ p3)) ?_
      exact .cons (dp_tx (Tx.lst at4) _ _ (hi i hlt) hv4) .nil
  · obtain ⟨ws, p1, p2, p3⟩ := p
    exact q Dl ws Ha (fresh_back e2 hD) (e2.trans p1) p2 p3
end
end DL
set_option Elab.async false
set_option linter.all false
set_option maxRecDepth 100000
set_option maxHeartbeats 2000000
namespace DL
open PySem PySem.Spec PyProof.Rows L2 Evl

/-! ### defs that are called by name -/
structure DF (P : Program) (w : World) (K : PySem.W.Frag) (mg : Str → Option Value) (base : Heap) (nm : Str) (k : Nat) (ps : List Str) (sp : Sp) : Prop where
  ex : ∃ (f : Addr) (fd : FuncData), FnOk P w K mg base CX0 k f fd ps sp ∧ mg nm = some (.ref f) ∧ PySem.W.keepIn K (.ref f) = true ∧ Binds K fd ps []
theorem pe_D {X : Cx} {nm : Str} {k : Nat} {ps : List Str} {sp : Sp} {e : Expr} {es : List Expr} {t : TA} {p pos : Pos} (F : DF X.prog X.w X.K X.mg X.base nm k ps sp) (hr : Room k X.A) (hg : Gl X nm) (ha : PA X (e :: es) t)
    (hdb : (nm == ("__debug__" : Str)) = false := by decide) (he : starEach (e :: es) X.env = (false, eval e X.env) :: starEach es X.env := by rfl) (hpl : (backTo pos (starEach es X.env)).any (·.1) = false := by rfl) :
    PE X (.Call (.Name nm p) (e :: es) [] pos) (tCall sp [] E0 t) := by
  obtain ⟨f, fd, h1, h2, h3, h4⟩ := F.ex
  exact pe_call h1 hr hg h2 h3 h4 .nil pass0 ha hdb he hpl

/-! ### a list's item, read to be changed -/
def rGetL (K : PySem.W.Frag) : V → V → Hp → VK → Prop := fun o i H Q => ∃ p xs v, ∃ j : Nat, o = .ref p ∧ i = .int (j : Int) ∧ SqL K H p xs ∧ xs[j]? = some v ∧ Q v H
theorem get_list {X : Cx} : PGet X (rGetL X.K) := fun pins s σ H o i ov iv Q I r1 r2 h => by
  obtain ⟨p, xs, v, j, rfl, rfl, hs, hv, q⟩ := h
  obtain ⟨its, rv, pl, hz⟩ := I.list hs
  cases r1
  obtain ⟨t, rfl⟩ := r2
  obtain ⟨u, hu, ru⟩ := rv.get hv
  have hj := (List.getElem?_eq_some_iff.mp hv).1
  have hn := line63
  refine wpAny_getItem_list pl.isList (by omega) (by omega) (x := u) (by simpa using hu) ⟨v, H, I, ru, q⟩

/-! ### max of a tuple of ints -/
section
variable {prog : Program} {w : World} {A : Around} {E : Value → Shared → Prop} {s : Shared} {l : Addr} {its : List Value} {ns : List Int} {Q : Value → Shared → Prop}
theorem max_rawT (hh : A.handled = none) (hl : s.heap.IsTuple l its.toArray) (hi : IntsAre its ns) (hne : 0 < ns.length)
    (h : ∀ h' tk M t', (∀ b o, s.heap.get? b = some o → h'.get? b = some o) → M ∈ ns → (∀ a, a ∈ ns → a ≤ M) → Q (.int M t') { s with heap := h', toks := tk }) :
    wpAny (model prog w) A (call (.builtin "max") [.ref l]) Q E s := by
  have len : its.length = ns.length := hi.length
  have at_ : ∀ (i : Nat) v, its.toArray[i]? = some v → ∃ t, v = .int (ns.getD i 0) t := fun i v hv => by
    have hv' : its[i]? = some v := by simpa using hv
    have go : ∀ {us : List Value} {ms : List Int}, IntsAre us ms → ∀ {i : Nat} {v : Value}, us[i]? = some v → ∃ t, v = .int (ms.getD i 0) t := by
      intro us ms hh
      induction hh with
      | nil => intro i v e; simp at e
      | cons n t _ ih =>
        intro i v e
        cases i with
        | zero => exact ⟨t, by simpa using e.symm⟩
        | succ i =>
          obtain ⟨t', q⟩ := ih (i := i) (v := v) (by simpa using e)
          exact ⟨t', by simpa using q⟩
    exact go hi hv'
  have hlt : l < s.heap.objs.size := by
    obtain ⟨o, ho, _⟩ := hl
    exact Heap.lt_size ho
  refine call_max_walk (wpAny_pyIter_tuple hl ?_)
  refine ⟨s.heap.objs.size, _, _, _, _, _, _, rfl, Walks.tuple (A := A.in1) hh _ l (Nat.ne_of_lt hlt) its.toArray, ⟨⟨_, Heap.get?_push_size _ rfl, rfl, rfl⟩, Heap.IsTuple.push hl _⟩, fun b hb => ?_, ?_, CmpOf.ints_gt (fun i => ns.getD i 0) at_, fun v h' tk hv hk => ?_⟩
  · show b < (s.heap.push _).objs.size
    rw [Heap.size_push]
    simp only [List.mem_cons, List.not_mem_nil, or_false] at hb
    rcases hb with e | e
    · rw [e]; exact Nat.lt_succ_self _
    · rw [e]; exact Nat.lt_succ_of_lt hlt
  · rw [List.size_toArray, len]
    exact hne
  · obtain ⟨t, rfl⟩ := at_ _ _ hv
    obtain ⟨h1, h2⟩ := argBest_gt (fun i => ns.getD i 0) (its.toArray.size - 1)
    have e1 : its.toArray.size = ns.length := by rw [List.size_toArray, len]
    refine h h' tk _ t (fun b o e => hk b o (fun hm => ?_) (Heap.get?_push_of_some _ e)) ?_ fun a ha => ?_
    · have := Heap.lt_size e
      simp only [List.mem_cons, List.not_mem_nil, or_false] at hm
      rw [hm] at this
      exact Nat.lt_irrefl _ this
    · exact PySem.getD_mem (by omega)
    · obtain ⟨j, hj, rfl⟩ := List.getElem_of_mem ha
      have q := h2 j (by omega)
      have ej : ns.getD j 0 = ns[j] := by rw [List.getD_eq_getElem?_getD, List.getElem?_eq_getElem hj]; rfl
      rw [ej] at q
      exact q
end
section
variable {X : Cx}
def rMaxT (K : PySem.W.Frag) : List V → Hp → VK → Prop := fun vs H Q => ∃ (a : Addr) (ns : List Int), vs = [V.ref a] ∧ SqT K H a (ns.map V.int) ∧ 0 < ns.length ∧ ∀ m, m ∈ ns → (∀ y, y ∈ ns → y ≤ m) → Q (.int m) H
theorem cr_maxT (hc : X.calm = true) : CallR X (.builtin "max") (rMaxT X.K) := by
  intro pins s σ H vs us Q I r h
  obtain ⟨a, ns, rfl, hs, hne, q⟩ := h
  obtain ⟨its, rv, hl, _⟩ := I.tuple hs
  rw [Vals.ref1 r]
  exact max_rawT (I.ok.hd hc) (show s.heap.IsTuple a its.toArray from hl) rv.ints hne fun h' tk m t' hk h1 h2 => ⟨.int _, H, I.kept hk, ⟨_, rfl⟩, q m h1 h2⟩
end
end DL
set_option Elab.async false
set_option linter.all false
set_option maxRecDepth 100000
set_option maxHeartbeats 2000000
namespace DL
open PySem PySem.Spec PyProof.Rows L2 Evl
section
variable {K : PySem.W.Frag} {σ : L2.St} {H H' : Hp} {ta tb te : TE} {t u : TT} {d : PyData} {ds es : List PyData} {v : V} {ns : List Int}
/-- a list that is tracked -/
def EvQ (K : PySem.W.Frag) (te : TE) (σ : L2.St) (H : Hp) (ds : List PyData) : Prop := ∀ H1, Ex H H1 → ∀ Q : VK, (∀ p vs H2, Ex H1 H2 → H2 p = some (.lst vs) → DpAll K H2 vs ds → Q (.ref p) H2) → te σ H1 Q
theorem EvN.toQ (h : EvN K te σ H ds) : EvQ K te σ H ds := fun H1 e Q q => h H1 e Q fun p vs H2 _ e2 h2 hd => q p vs H2 e2 h2 hd
theorem EvQ.toD (h : EvQ K te σ H ds) : EvD K te σ H (.list ds) := fun H1 e Q q => h H1 e Q fun p vs H2 e2 h2 hd => q _ H2 e2 (.lst (sq_of h2) hd)
theorem EvQ.ex (e : Ex H H') (h : EvQ K te σ H ds) : EvQ K te σ H' ds := fun H1 a Q q => h H1 (e.trans a) Q q
theorem eq_var {k : Nat} {p : Addr} {vs : List V} (h : σ[k]? = some (some (.ref p))) (hp : H p = some (.lst vs)) (hd : DpAll K H vs ds) : EvQ K (tVar k) σ H ds := fun H1 e Q q =>
  ⟨.ref p, h, q p vs H1 (Ex.refl _) (e _ _ hp) (dpa_ex e _ _ hd)⟩
theorem eq_is {ds' : List PyData} (h : EvQ K te σ H ds) (e : ds = ds') : EvQ K te σ H ds' := e ▸ h

/-! ### max, min, sum -/
theorem ev_maxL {m : Int} (h : EvD K te σ H (.list (dI ns))) (h0 : 0 < ns.length) (hm : m ∈ ns) (hb : ∀ y, y ∈ ns → y ≤ m) : Ev (tCB (rMax K) (tCons te tNil)) σ H (.int m) := fun H1 e Q q =>
  h H1 e _ fun w H2 e2 hw => by
    cases hw with
    | lst hs ha =>
      rw [dpa_ints ha] at hs
      refine ⟨_, ns, rfl, hs, h0, fun m' h1 h2 => ?_⟩
      rw [show m' = m from Int.le_antisymm (hb _ h1) (h2 _ hm)]
      exact q H2 e2
theorem ev_maxT {m : Int} (h : EvD K te σ H (tI ns)) (h0 : 0 < ns.length) (hm : m ∈ ns) (hb : ∀ y, y ∈ ns → y ≤ m) : Ev (tCB (rMaxT K) (tCons te tNil)) σ H (.int m) := fun H1 e Q q =>
  h H1 e _ fun w H2 e2 hw => by
    obtain ⟨a, rfl, hs⟩ := dp_tI hw
    refine ⟨a, ns, rfl, hs, h0, fun m' h1 h2 => ?_⟩
    rw [show m' = m from Int.le_antisymm (hb _ h1) (h2 _ hm)]
    exact q H2 e2
theorem ev_sumL (h : EvD K te σ H (.list (dI ns))) : Ev (tCB (rSum K) (tCons te tNil)) σ H (.int ns.sum) := fun H1 e Q q =>
  h H1 e _ fun w H2 e2 hw => by
    cases hw with
    | lst hs ha =>
      rw [dpa_ints ha] at hs
      exact ⟨_, ns, rfl, hs, q H2 e2⟩
theorem ev_min2 {i j : Int} (ha : Ev ta σ H (.int i)) (hb : Ev tb σ H (.int j)) : Ev (tCB (fun xs H Q => ∃ i j, xs = [.int i, .int j] ∧ Q (.int (if j < i then j else i)) H) (tCons ta (tCons tb tNil))) σ H (.int (min i j)) := fun H1 e Q q =>
  ha H1 e _ fun H2 e2 => hb H2 (e.trans e2) _ fun H3 e3 => ⟨i, j, rfl, by
    have : (if j < i then j else i) = min i j := by
      by_cases h : j < i
      · rw [if_pos h]; omega
      · rw [if_neg h]; omega
    rw [this]
    exact q H3 (e2.trans e3)⟩

/-! ### joining, repeating, cutting -/
theorem en_cat (ha : EvQ K ta σ H ds) (hb : EvQ K tb σ H es) (hl : ds.length + es.length ≤ 100000) : EvN K (tOp rCat ta tb) σ H (ds ++ es) := fun H1 e Q q =>
  ha H1 e _ fun p vs H2 e2 hp hd => hb H2 (e.trans e2) _ fun r ws H3 e3 hr he => ⟨p, r, vs, ws, rfl, rfl, e3 _ _ hp, hr, sz_of (by rw [dpa_len hd, dpa_len he]; exact hl), fun l hl =>
    q l _ _ (fresh_back (e2.trans e3) hl) ((e2.trans e3).trans (Ex.new hl)) upd_same (dpa_ex (Ex.new hl) _ _ (dpa_app (dpa_ex e3 _ _ hd) he))⟩
theorem en_rep {n : Int} (ha : EvQ K ta σ H [d]) (hb : Ev tb σ H (.int n)) (hn : n ≤ 100000) (hn0 : -100000 ≤ n) : EvN K (tOp rRep ta tb) σ H (List.replicate n.toNat d) := fun H1 e Q q =>
  ha H1 e _ fun p vs H2 e2 hp hd => hb H2 (e.trans e2) _ fun H3 e3 => by
    cases hd with
    | cons a b =>
      cases b
      rename_i v
      have hz : ([v] : List V).length * n.toNat ≤ 100000 := by simp; omega
      refine ⟨p, n, [v], rfl, rfl, e3 _ _ hp, by omega, by omega, sz_of hz, fun l hl => ?_⟩
      have ef : (List.replicate n.toNat [v]).flatten = List.replicate n.toNat v := by
        induction n.toNat with
        | zero => rfl
        | succ k ih => rw [List.replicate_succ, List.flatten_cons, ih, List.replicate_succ]; rfl
      rw [ef]
      exact q l _ _ (fresh_back (e2.trans e3) hl) ((e2.trans e3).trans (Ex.new hl)) upd_same (dpa_rep (dp_ex ((e3).trans (Ex.new hl)) _ _ a) _)
theorem ed_cat (ha : EvD K ta σ H (.tuple ds)) (hb : EvD K tb σ H (.tuple es)) (hl : ds.length + es.length ≤ 100000) : EvD K (tOp (rCatA K) ta tb) σ H (.tuple (ds ++ es)) := fun H1 e Q q =>
  ha H1 e _ fun x H2 e2 hx => hb H2 (e.trans e2) _ fun y H3 e3 hy => by
    cases hx with
    | tup h1 a1 =>
      cases hy with
      | tup h2 a2 =>
        have n1 := dpa_len a1
        have n2 := dpa_len a2
        refine ⟨_, _, _, _, rfl, rfl, ex_t e3 h1, h2, sz_of (by omega), fun e0 => ?_, fun _ e0 => ?_, fun _ _ l hl => ?_⟩
        · subst e0
          cases a1
          exact q _ H3 (e2.trans e3) (.tup h2 a2)
        · subst e0
          cases a2
          rw [List.append_nil] at q
          exact q _ H3 (e2.trans e3) (.tup (ex_t e3 h1) (dpa_ex e3 _ _ a1))
        · exact q _ _ ((e2.trans e3).trans (Ex.new hl)) (.tup (st_of upd_same) (dpa_ex (Ex.new hl) _ _ (dpa_app (dpa_ex e3 _ _ a1) a2)))
def cutD (ds : List PyData) (lo hi : Option Int) : List PyData := (ds.drop (HT.sIx ds.length 0 lo)).take (HT.sIx ds.length ds.length hi - HT.sIx ds.length 0 lo)
theorem dpa_cut {vs : List V} {lo hi : Option Int} (h : DpAll K H vs ds) : DpAll K H (cutV vs lo hi) (cutD ds lo hi) := by
  unfold cutV cutD
  rw [dpa_len h]
  exact dpa_take _ (dpa_drop _ h)
theorem ed_sl {tl th : TO} {lo hi : Option Int} (h : EvD K te σ H (.tuple ds)) (h1 : EvO tl σ H lo) (h2 : EvO th σ H hi) : EvD K (tSl (rSlA K) te tl th) σ H (.tuple (cutD ds lo hi)) := fun H1 e Q q =>
  h H1 e _ fun x H2 e2 hx => h1 H2 (e.trans e2) _ fun H3 e3 => h2 H3 ((e.trans e2).trans e3) _ fun H4 e4 => by
    cases hx with
    | tup hs ha =>
      have n1 := dpa_len ha
      refine ⟨_, _, rfl, ex_t (e3.trans e4) hs, fun hw => ?_, fun _ l hl => ?_⟩
      · have ec : cutD ds lo hi = ds := by
          unfold cutD
          rw [← n1, hw.1, hw.2, n1]
          simp
        rw [ec] at q
        exact q _ H4 ((e2.trans e3).trans e4) (.tup (ex_t (e3.trans e4) hs) (dpa_ex (e3.trans e4) _ _ ha))
      · exact q _ _ (((e2.trans e3).trans e4).trans (Ex.new hl)) (.tup (st_of upd_same) (dpa_ex ((e3.trans e4).trans (Ex.new hl)) _ _ (dpa_cut ha)))
theorem en_sl {tl th : TO} {lo hi : Option Int} (h : EvD K te σ H (.list ds)) (h1 : EvO tl σ H lo) (h2 : EvO th σ H hi) : EvN K (tSl (rSlL K) te tl th) σ H (cutD ds lo hi) := fun H1 e Q q =>
  h H1 e _ fun x H2 e2 hx => h1 H2 (e.trans e2) _ fun H3 e3 => h2 H3 ((e.trans e2).trans e3) _ fun H4 e4 => by
    cases hx with
    | lst hs ha =>
      refine ⟨_, _, rfl, ex_l (e3.trans e4) hs, fun l hl => ?_⟩
      exact q _ _ _ (fresh_back ((e2.trans e3).trans e4) hl) (((e2.trans e3).trans e4).trans (Ex.new hl)) upd_same (dpa_ex ((e3.trans e4).trans (Ex.new hl)) _ _ (dpa_cut ha))
theorem en_rev (h : EvD K te σ H (.list ds)) : EvN K (tRevL K te) σ H ds.reverse := fun H1 e Q q =>
  h H1 e _ fun x H2 e2 hx => by
    cases hx with
    | lst hs ha => exact ⟨_, _, rfl, hs, fun l hl => q _ _ _ (fresh_back e2 hl) (e2.trans (Ex.new hl)) upd_same (dpa_ex (Ex.new hl) _ _ (dpa_rev ha))⟩
/-- tuple(x), list(x) -/
theorem ed_tupleOf (h : EvD K te σ H (.list ds)) : EvD K (tCB (fun xs H Q => ∃ p ys, xs = [.ref p] ∧ ((SqL K H p ys ∧ ∀ l, H l = none → Q (.ref l) (upd H l (.tup ys))) ∨ (SqT K H p ys ∧ Q (.ref p) H))) (tCons te tNil)) σ H (.tuple ds) := fun H1 e Q q =>
  h H1 e _ fun x H2 e2 hx => by
    cases hx with
    | lst hs ha => exact ⟨_, _, rfl, .inl ⟨hs, fun l hl => q _ _ (e2.trans (Ex.new hl)) (.tup (st_of upd_same) (dpa_ex (Ex.new hl) _ _ ha))⟩⟩
theorem en_listOf (h : EvD K te σ H (.list ds)) : EvN K (tCB (fun xs H Q => ∃ p ys, xs = [.ref p] ∧ (SqL K H p ys ∨ SqT K H p ys) ∧ ∀ l, H l = none → Q (.ref l) (upd H l (.lst ys))) (tCons te tNil)) σ H ds := fun H1 e Q q =>
  h H1 e _ fun x H2 e2 hx => by
    cases hx with
    | lst hs ha => exact ⟨_, _, rfl, .inl hs, fun l hl => q _ _ _ (fresh_back e2 hl) (e2.trans (Ex.new hl)) upd_same (dpa_ex (Ex.new hl) _ _ ha)⟩
/-! ### tests -/
theorem ev_eqD {e1 e2 : PyData} (ha : EvD K ta σ H e1) (hb : EvD K tb σ H e2) (h1 : SeqAt.shaped e1 = true) (h2 : SeqAt.shaped e2 = true) : Ev (tOp (rEqD K) ta tb) σ H (.bl (PyData.eqv e1 e2)) := fun H1 e Q q =>
  ha H1 e _ fun x H2 e2' hx => hb H2 (e.trans e2') _ fun y H3 e3 hy => ⟨_, _, dp_ex e3 _ _ hx, hy, h1, h2, q H3 (e2'.trans e3)⟩
theorem eqvAll_ints : ∀ a b : List Int, PyData.eqvAll (dI a) (dI b) = decide (a = b)
  | [], [] => by simp [PyData.eqvAll]
  | [], _ :: _ => by simp [PyData.eqvAll]
  | _ :: _, [] => by simp [PyData.eqvAll]
  | x :: a, y :: b => by
    have ih := eqvAll_ints a b
    rw [dI, dI, List.map_cons, List.map_cons, PyData.eqvAll, ih, PyData.eqv]
    by_cases h : x = y
    · subst h; simp
    · simp [h]
theorem eqv_tI (a b : List Int) : PyData.eqv (tI a) (tI b) = decide (a = b) := by
  rw [PyData.eqv]
  exact eqvAll_ints a b
theorem canLay_ints : ∀ a : List Int, PyData.canLayAll0 (dI a) = true
  | [] => by simp [PyData.canLayAll0]
  | x :: a => by simp [PyData.canLayAll0, PyData.canLay0, canLay_ints a]
theorem depth_ints : ∀ a : List Int, PyData.depthAll (dI a) ≤ 1
  | [] => by simp [PyData.depthAll]
  | x :: a => by
    have h := depth_ints a
    rw [dI] at h
    rw [dI, List.map_cons, PyData.depthAll]
    simp only [PyData.depth]
    omega
theorem shaped_tI (a : List Int) : SeqAt.shaped (tI a) = true := by
  have h := depth_ints a
  show ((tI a).canLay0 && decide ((tI a).depth ≤ 64)) = true
  rw [Bool.and_eq_true]
  refine ⟨by rw [PyData.canLay0]; exact canLay_ints a, decide_eq_true ?_⟩
  rw [PyData.depth]
  omega
def isNoneD : PyData → Bool
  | .none => true
  | _ => false
theorem ev_isN {b : Bool} (ha : EvD K ta σ H d) (hb : b = isNoneD d) : Ev (tIsN ta) σ H (.bl b) := fun H1 e Q q =>
  ha H1 e _ fun x H2 e2 hx => by
    have : decide (x = V.non) = b := by
      rw [hb]
      cases hx <;> simp [isNoneD]
    rw [this]
    exact q H2 e2
theorem ev_notN {b : Bool} (ha : EvD K ta σ H d) (hb : b = !isNoneD d) : Ev (tNotN ta) σ H (.bl b) := fun H1 e Q q =>
  ha H1 e _ fun x H2 e2 hx => by
    have : (!decide (x = V.non)) = b := by
      rw [hb]
      cases hx <;> simp [isNoneD]
    rw [this]
    exact q H2 e2
/-- isinstance of an int, a bool, a tuple, a list -/
theorem ev_isi_int {nm : String} {b : Bool} {i : Int} (ha : Ev ta σ H (.int i)) (hb : kitB "int" nm = some b) : Ev (tCB (rIsi K) (tCons ta (tCons (tC (.ty nm)) tNil))) σ H (.bl b) := fun H1 e Q q =>
  ha H1 e _ fun H2 e2 => ⟨_, _, _, _, b, rfl, .ty nm, .base (.int i), kit_ty hb, q H2 e2⟩
theorem tyT {H : Hp} {a : Addr} {xs : List V} (h : SqT K H a xs) : TyX K H (.ref a) (.type "tuple") := by
  rcases h with (h | ⟨o, h⟩) | ⟨o, its, n, hk, hc, _⟩
  · exact .base (.tup h)
  · exact .fTuple h
  · exact .kTuple hk hc
theorem tyL {H : Hp} {a : Addr} {xs : List V} (h : SqL K H a xs) : TyX K H (.ref a) (.type "list") := by
  rcases h with (h | ⟨o, h⟩) | ⟨o, its, n, hk, hc, _⟩
  · exact .base (.lst h)
  · exact .base (.frz h)
  · exact .kList hk hc
theorem ev_isi_tup {nm : String} {b : Bool} (ha : EvD K ta σ H (.tuple ds)) (hb : kitB "tuple" nm = some b) : Ev (tCB (rIsi K) (tCons ta (tCons (tC (.ty nm)) tNil))) σ H (.bl b) := fun H1 e Q q =>
  ha H1 e _ fun x H2 e2 hx => by
    cases hx with
    | tup hs _ => exact ⟨_, _, _, _, b, rfl, .ty nm, tyT hs, kit_ty hb, q H2 e2⟩
/-- isinstance(x, (list, tuple)), x a list -/
theorem ev_isi_lst2 (ha : EvD K ta σ H (.list ds)) (h1 : kitB "list" "list" = some true) : Ev (tCB (rIsiT K) (tCons ta (tCons (tTup (tCons (tC (.ty "list")) (tCons (tC (.ty "tuple")) tNil))) tNil))) σ H (.bl true) := fun H1 e Q q =>
  ha H1 e _ fun x H2 e2 hx => by
    cases hx with
    | lst hs _ =>
      refine ⟨by show 2 ≤ sizeLine; decide, fun p hp => ?_⟩
      refine ⟨_, p, [.ty "list", .ty "tuple"], .type "list", [.type "list", .type "tuple"], true, rfl, upd_same, .cons (.ty _) (.cons (.ty _) .nil), tyL (ex_l (Ex.new hp) hs), ?_, q _ (e2.trans (Ex.new hp))⟩
      exact kitAny_cons (b := true) (kit_ty h1) (fun z => by cases z) fun _ => rfl
/-- a <= b <= c of ints -/
theorem ev_chain {f g : Int → Int → Bool} {tc : TE} {x y z : Int} (ha : Ev ta σ H (.int x)) (hb : Ev tb σ H (.int y)) (hc : Ev tc σ H (.int z)) :
    Ev (tChain (rI0 fun i j => .bl (f i j)) (rI0 fun i j => .bl (g i j)) ta tb tc) σ H (.bl (f x y && g y z)) := fun H1 e Q q =>
  ha H1 e _ fun H2 e2 => hb H2 (e.trans e2) _ fun H3 e3 => ⟨x, y, rfl, rfl, f x y, rfl, by
    cases h : f x y with
    | true =>
      show tc σ H3 _
      refine hc H3 ((e.trans e2).trans e3) _ fun H4 e4 => ⟨y, z, rfl, rfl, ?_⟩
      have := q H4 ((e2.trans e3).trans e4)
      rw [h, Bool.true_and] at this
      exact this
    | false =>
      show Q (.bl false) H3
      have := q H3 (e2.trans e3)
      rw [h, Bool.false_and] at this
      exact this⟩
/-- a list's truth -/
theorem et_lst (h : EvD K te σ H (.list ds)) : EvT (fun σ H Q => te σ H fun x H' => ∃ k, TruV K x H' k ∧ Q k H') σ H (!ds.isEmpty) := fun H1 e Q q =>
  h H1 e _ fun x H2 e2 hx => by
    cases hx with
    | lst hs ha =>
      refine ⟨_, .inl ⟨_, hs, rfl⟩, ?_⟩
      have : (!(List.isEmpty ‹List V›)) = !ds.isEmpty := by
        have n := dpa_len ha
        cases ds with
        | nil => rw [List.eq_nil_of_length_eq_zero n]; rfl
        | cons a b =>
          cases ‹List V› with
          | nil => simp at n
          | cons c d => rfl
      rw [this]
      exact q H2 e2
/-! ### arguments taken apart -/
theorem dpa_one {vs : List V} (h : DpAll K H vs [d]) : ∃ v, vs = [v] ∧ Dp K H v d := by
  cases h with
  | cons a b =>
    cases b
    exact ⟨_, rfl, a⟩
theorem dpa_two {vs : List V} {d2 : PyData} (h : DpAll K H vs [d, d2]) : ∃ v v2, vs = [v, v2] ∧ Dp K H v d ∧ Dp K H v2 d2 := by
  cases h with
  | cons a b =>
    obtain ⟨v, rfl, c⟩ := dpa_one b
    exact ⟨_, _, rfl, a, c⟩
theorem dpa_three {vs : List V} {d2 d3 : PyData} (h : DpAll K H vs [d, d2, d3]) : ∃ v v2 v3, vs = [v, v2, v3] ∧ Dp K H v d ∧ Dp K H v2 d2 ∧ Dp K H v3 d3 := by
  cases h with
  | cons a b =>
    obtain ⟨v, v2, rfl, c, c2⟩ := dpa_two b
    exact ⟨_, _, _, rfl, a, c, c2⟩
theorem dpa_four {vs : List V} {d2 d3 d4 : PyData} (h : DpAll K H vs [d, d2, d3, d4]) : ∃ v v2 v3 v4, vs = [v, v2, v3, v4] ∧ Dp K H v d ∧ Dp K H v2 d2 ∧ Dp K H v3 d3 ∧ Dp K H v4 d4 := by
  cases h with
  | cons a b =>
    obtain ⟨v, v2, v3, rfl, c, c2, c3⟩ := dpa_three b
    exact ⟨_, _, _, _, rfl, a, c, c2, c3⟩
/-- a tuple of ints, an int -/
theorem dpa_ti {vs : List V} {i : Int} (h : DpAll K H vs [d, .int i]) : ∃ v v1, vs = [v, v1] ∧ Dp K H v d ∧ v1 = .int i := by
  obtain ⟨v, v1, rfl, a, b⟩ := dpa_two h
  exact ⟨v, v1, rfl, a, dp_int b⟩
/-- an int, a tuple -/
theorem dpa_it {vs : List V} {i : Int} (h : DpAll K H vs [.int i, d]) : ∃ v, vs = [.int i, v] ∧ Dp K H v d := by
  obtain ⟨v, v1, rfl, a, b⟩ := dpa_two h
  cases dp_int a
  exact ⟨v1, rfl, b⟩
theorem dpa_iti {vs : List V} {i j : Int} (h : DpAll K H vs [.int i, d, .int j]) : ∃ v, vs = [.int i, v, .int j] ∧ Dp K H v d := by
  obtain ⟨v, v1, v2, rfl, a, b, c⟩ := dpa_three h
  cases dp_int a
  cases dp_int c
  exact ⟨v1, rfl, b⟩
theorem decide_vint (a b : Int) : decide (V.int a = V.int b) = decide (a = b) := by
  by_cases h : a = b
  · subst h; simp
  · simp [h]
/-- what is handed back is told by what holds of it -/
def spX (K : PySem.W.Frag) (n : Nat) (Pre : List PyData → Prop) (Post : List PyData → PyData → Prop) : Sp := fun vs H Q _ => ∃ ds, DpAll K H vs ds ∧ ds.length = n ∧ Pre ds ∧ ∀ r v H', Post ds r → Ex H H' → Dp K H' v r → Q v H'
theorem spX_len {n : Nat} {Pre : List PyData → Prop} {Post : List PyData → PyData → Prop} {vs : List V} {Q : VK} {E : XK} (h : spX K n Pre Post vs H Q E) : vs.length = n := by
  obtain ⟨ds, h1, h2, _⟩ := h
  rw [dpa_len h1, h2]
end
end DL
set_option Elab.async false
set_option linter.all false
set_option maxRecDepth 100000
set_option maxHeartbeats 2000000
namespace DL
open PySem PySem.Spec PyProof.Rows L2 Evl
theorem immAll_app : ∀ {a b : List PyData}, immAll a = true → immAll b = true → immAll (a ++ b) = true
  | [], _, _, h => h
  | x :: a, b, ha, hb => by
    simp only [immAll, Bool.and_eq_true] at ha
    rw [List.cons_append, immAll, ha.1, immAll_app ha.2 hb]
    rfl
theorem immAll_map {α : Type} {f : α → PyData} (h : ∀ a, imm (f a) = true) : ∀ l : List α, immAll (l.map f) = true
  | [] => by simp [immAll]
  | a :: l => by rw [List.map_cons, immAll, h a, immAll_map h l]; rfl
theorem immAll_flat {α : Type} {f : α → List PyData} (h : ∀ a, immAll (f a) = true) : ∀ l : List α, immAll (l.flatMap f) = true
  | [] => by simp [immAll]
  | a :: l => by rw [List.flatMap_cons]; exact immAll_app (h a) (immAll_flat h l)
section
variable {K : PySem.W.Frag} {σ : L2.St} {H H' : Hp} {ta tb te : TE} {t u : TT} {d : PyData} {ds es : List PyData} {v : V} {ns : List Int}
/-- two fors, their targets names, the items ints and tuples -/
theorem en_lc2 {wi wi1 : TI} {a b : Nat} {vs vs1 : List Nat} (h : EvI K wi σ H [] ds) (hi : immAll ds = true) (ds1 : Nat → List PyData) (hi1 : ∀ i, immAll (ds1 i) = true) (f : Nat → Nat → PyData) (hf : ∀ i j, imm (f i j) = true)
    (hl : ∀ i, (ds1 i).length ≤ 100) (hn : ds.length ≤ 100) (hw : ∀ x, wipe ((wipe σ vs).set a (some x)) vs = wipe σ vs)
    (hw1 : ∀ x y, wipe ((wipe ((wipe σ vs).set a (some x)) vs1).set b (some y)) vs1 = wipe ((wipe σ vs).set a (some x)) vs1)
    (hs : ∀ i d x H3, ds[i]? = some d → Dp K H3 x d → (∀ S, Ls H3 S → EvI K wi1 ((wipe σ vs).set a (some x)) H3 S (ds1 i)) ∧
      ∀ j d' y H5, (ds1 i)[j]? = some d' → Dp K H5 x d → Dp K H5 y d' → EvD K te ((wipe ((wipe σ vs).set a (some x)) vs1).set b (some y)) H5 (f i j)) :
    EvN K (tLc2 wi (gName a) tYes wi1 (gName b) tYes te vs vs1) σ H ((List.range ds.length).flatMap fun i => (List.range (ds1 i).length).map (f i)) := fun H1 e Q q => h H1 e _ fun J H2 e2 w => fun Dl hD => by
  have len : ∀ n, n ≤ ds.length → (((List.range n).flatMap fun i => (List.range (ds1 i).length).map (f i))).length ≤ 100 * n := fun n => by
    induction n with
    | zero => intro _; simp
    | succ n ih =>
      intro hn
      rw [List.range_succ, List.flatMap_append, List.length_append]
      have h1 := ih (by omega)
      have h2 := hl n
      rw [List.flatMap_cons, List.flatMap_nil, List.append_nil, List.length_map, List.length_range]
      omega
  have imf : ∀ n, immAll ((List.range n).flatMap fun i => (List.range (ds1 i).length).map (f i)) = true := fun n => immAll_flat (fun i => immAll_map (hf i) _) _
  let G : Nat → Hp → Prop := fun n Ha => ∃ ws, Ex H2 Ha ∧ Ha Dl = some (.lst ws) ∧ DpAll K Ha ws ((List.range n).flatMap fun i => (List.range (ds1 i).length).map (f i))
  have G0 : G 0 (upd H2 Dl (.lst [])) := ⟨[], Ex.new hD, upd_same, by simp; exact .nil⟩
  refine ⟨fun i m Ha => m = ds.length - i ∧ i ≤ ds.length ∧ G i Ha, ⟨_, rfl, Nat.zero_le _, G0⟩, ?_⟩
  rintro i m Ha ⟨rfl, hi', p⟩
  obtain ⟨ws, p1, p2, p3⟩ := p
  have gX : Xp [] H2 Ha := Xp.of_ex p1
  by_cases hlt : i < ds.length
  · refine .inr ⟨w.goes i Ha hlt gX, G (i + 1), fun H' p' => ⟨ds.length - (i + 1), by omega, rfl, hlt, p'⟩, fun x Hb y => ?_⟩
    obtain ⟨ey, d, hd1, hd2⟩ := w.yields i Ha x Hb hlt gX y
    refine ⟨hw x, ?_⟩
    show wi1 _ Hb _
    have di : imm d = true := by
      have all : ∀ {l : List PyData} {i : Nat} {d : PyData}, immAll l = true → l[i]? = some d → imm d = true := by
        intro l
        induction l with
        | nil => intro i d _ e; simp at e
        | cons x l ih =>
          intro i d hh e
          simp only [immAll, Bool.and_eq_true] at hh
          cases i with
          | zero => simp at e; subst e; exact hh.1
          | succ i => exact ih hh.2 (by simpa using e)
      exact all hi hd1
    obtain ⟨hq1, hq2⟩ := hs i d x Hb hd1 hd2
    have atB : Hb Dl = some (.lst ws) := ey _ _ p2
    refine hq1 [Dl] (Ls.one atB) Hb (Ex.refl _) _ fun J1 H4 e4 w1 => ?_
    let G1 : Nat → Hp → Prop := fun j Hc => ∃ wt, Xp [Dl] H4 Hc ∧ Ex H2 Hc ∧ Hc Dl = some (.lst wt) ∧ DpAll K Hc wt (((List.range i).flatMap fun i => (List.range (ds1 i).length).map (f i)) ++ (List.range j).map (f i))
    have e24 : Ex H2 H4 := (p1.trans ey).trans e4
    have G10 : G1 0 H4 := ⟨ws, Xp.refl _ _, e24, e4 _ _ atB, by simp; exact dpa_ex (ey.trans e4) _ _ p3⟩
    have tx4 : ∀ {Hc}, Xp [Dl] H4 Hc → Tx H4 Hc := fun z => z.tx ((Ls.one atB).ex e4)
    refine ⟨fun j k Hc => k = (ds1 i).length - j ∧ j ≤ (ds1 i).length ∧ G1 j Hc, ⟨_, rfl, Nat.zero_le _, G10⟩, ?_⟩
    rintro j k Hc ⟨rfl, hj, wt, r1, r2, r3, r4⟩
    by_cases hjt : j < (ds1 i).length
    · refine .inr ⟨w1.goes j Hc hjt r1, G1 (j + 1), fun H' p' => ⟨(ds1 i).length - (j + 1), by omega, rfl, hjt, p'⟩, fun y2 Hd yy => ?_⟩
      obtain ⟨ez, d', hd1', hd2'⟩ := w1.yields j Hc y2 Hd hjt r1 yy
      refine ⟨hw1 x y2, ?_⟩
      show te _ Hd _
      have tx : Tx Hb Hd := ((Tx.of_ex e4).trans (tx4 r1)).trans (Tx.of_ex ez)
      refine hq2 j d' y2 Hd hd1' (dp_tx tx _ _ di hd2) hd2' Hd (Ex.refl _) _ fun v7 H7 e7 hv => ⟨wt, e7 _ _ (ez _ _ r3), ?_, wt ++ [v7], ?_, ?_, upd_same, ?_⟩
      · have l1 := dpa_len r4
        have l2 := len i (by omega)
        have l3 := hl i
        rw [List.length_append, List.length_map, List.length_range] at l1
        exact sz_lt (by omega)
      · exact Xp.upd (Xp.then r1 (ez.trans e7)) (by simp)
      · exact Ex.mut ((r2.trans ez).trans e7) hD
      · have at7 : H7 Dl = some (.lst wt) := e7 _ _ (ez _ _ r3)
        rw [List.range_succ (n := j), List.map_append, ← List.append_assoc]
        refine dpa_app (dpa_tx (Tx.lst at7) _ _ (immAll_app (imf i) (immAll_map (hf i) _)) (dpa_ex (ez.trans e7) _ _ r4)) ?_
        exact .cons (dp_tx (Tx.lst at7) _ _ (hf i j) hv) .nil
    · have ej : j = (ds1 i).length := by omega
      subst ej
      refine .inl ⟨w1.stops Hc r1, wt, r2, r3, ?_⟩
      rw [List.range_succ, List.flatMap_append]
      simpa using r4
  · have ei : i = ds.length := by omega
    subst ei
    exact .inl ⟨w.stops Ha gX, q Dl ws Ha (fresh_back e2 hD) (e2.trans p1) p2 p3⟩
end
/-- a statement, then the rest -/
theorem q_asgD {t1 t2 : TS} {D : Ends} {σ : L2.St} {H : Hp} (h : t1 { D with nx := t2 D } σ H) : tSeq t1 t2 D σ H := h
section
variable {K : PySem.W.Frag} {σ : L2.St} {H H' : Hp} {ta tb te : TE} {d : PyData} {ds : List PyData} {D : Ends} {tz : TS}
theorem qd_asg {k : Nat} (h : EvD K te σ H d) (q : ∀ v H1, Ex H H1 → Dp K H1 v d → tz D (σ.set k (some v)) H1) : tSeq (tAsg te (gName k)) tz D σ H := h H (Ex.refl H) _ q
theorem qn_asg {k : Nat} (h : EvN K te σ H ds) (q : ∀ p vs H1, H p = none → Ex H H1 → H1 p = some (.lst vs) → DpAll K H1 vs ds → tz D (σ.set k (some (.ref p))) H1) : tSeq (tAsg te (gName k)) tz D σ H := h H (Ex.refl H) _ q
theorem qi_asg {k : Nat} {v : V} (h : Ev te σ H v) (q : ∀ H1, Ex H H1 → tz D (σ.set k (some v)) H1) : tSeq (tAsg te (gName k)) tz D σ H := h H (Ex.refl H) _ q
theorem qd_drop (h : EvD K te σ H d) (q : ∀ H1, Ex H H1 → tz D σ H1) : tSeq (tDrop te) tz D σ H := h H (Ex.refl H) _ fun _ H1 e _ => q H1 e
theorem qd_app {l : Addr} {xs : List V} (hl : H l = some (.lst xs)) (ha : Ev ta σ H (.ref l)) (h : EvD K te σ H d) (hz : xs.length < 100000) (q : ∀ v H1, Ex H H1 → Dp K H1 v d → tz D σ (upd H1 l (.lst (xs ++ [v])))) :
    tSeq (tDrop (tBM K "list" rAppend ta (tCons te tNil))) tz D σ H := d_app (D := { D with nx := tz D }) hl ha h hz q
end
/-! ### a tuple times 1 and more -/
theorem tuple_mul1 (l : Addr) (items : Array Value) (n : Nat) (dd : Option Addr) (sl : Array (Option Value)) (u : Tok) :
    Meets (Builtin.«tuple.__mul__» ⟨[.ref l, .int 1 u], []⟩) (fun _ R s => s.heap.get? l = some { cls := .type "tuple", dict := dd, data := .seq items n, slots := sl } ∧ R (.ok (.ret (Value.ref l))) s) :=
  .of_wp fun prog w A R s h => by
    obtain ⟨hp, g, d, tk, os⟩ := s
    obtain ⟨hl, h⟩ := h
    have f1 := AutoSeq1.idx_int
    have c0 : (decide ((1 : Int) < -(2 ^ 63)) || decide ((1 : Int) ≥ 2 ^ 63)) = false := by decide
    have c1 : (items.isEmpty || ((1 : Int) == 1)) = true := by simp
    wp_walk using AutoSeq1.wpAny_loadPart' hl
    repeat (first
      | (refine wpAny_ite_false (decide_eq_false (by rw [c0]; exact Bool.false_ne_true)) ?_; wp_walk using AutoSeq1.wpAny_loadPart' hl)
      | (refine wpAny_ite_true (decide_eq_true c1) ?_; wp_walk using AutoSeq1.wpAny_loadPart' hl))
    exact ⟨_, rfl, h⟩
def rMul1 (K : PySem.W.Frag) : R2 := fun x y H Q => ∃ l xs, x = .ref l ∧ y = .int 1 ∧ SqT K H l xs ∧ Q (.ref l) H
theorem op_mul1 {X : Cx} : OpR X (binaryOp .Mult) (rMul1 X.K) := by
  intro pins s σ H x y v u Q I rx ry h
  obtain ⟨l, xs, rfl, rfl, hT, q⟩ := h
  cases rx
  obtain ⟨t, rfl⟩ := ry
  obtain ⟨its, r, ⟨⟨cls, dd, data, sl⟩, ho, hc, n, hd⟩, hs⟩ := I.tuple hT
  simp only at hc hd
  subst hc hd
  exact wpAny_binaryOp_repeat_ref (T := "tuple") (U := "int") (by decide) ⟨_, ho, rfl⟩ (fun s' => typeIs_int s' 1 t) noFill_tuple_mul F.fills_int_mul F.slot_int_rmul repeat_tuple
    F.slot_int_index.lookup (call_meets F.slot_int_rmul (typeIs_int s 1 t) F.entry_int_rmul (F.args_int_rmul_2 _ _) (int_rmul_tuple 1 t l its.toArray n dd sl)
      ⟨ho, rfl, ⟨_, ho, rfl⟩, call_meets F.slot_tuple_mul ⟨_, ho, rfl⟩ F.entry_tuple_mul (F.args_tuple_mul_2 _ _) (tuple_mul1 l its.toArray n dd sl t) ⟨ho, ⟨.ref l, H, I, rfl, q⟩⟩⟩)
theorem op_repT1 {X : Cx} : OpR X (binaryOp .Mult) (fun x y H Q => rMul1 X.K x y H Q ∨ rRepT X.K x y H Q) := OpR.or op_mul1 op_repT
section
variable {K : PySem.W.Frag} {σ : L2.St} {H H' : Hp} {ta tb te : TE} {d : PyData}
theorem ed_rep1 {n : Int} (ha : EvD K ta σ H (.tuple [d])) (hb : Ev tb σ H (.int n)) (h1 : 1 ≤ n) (h2 : n ≤ 1000) : EvD K (tOp (fun x y H Q => rMul1 K x y H Q ∨ rRepT K x y H Q) ta tb) σ H (.tuple (List.replicate n.toNat d)) := fun H1 e Q q =>
  ha H1 e _ fun x H2 e2 hx => hb H2 (e.trans e2) _ fun H3 e3 => by
    cases hx with
    | tup hs hd =>
      cases hd with
      | cons a b =>
        cases b
        rename_i v
        by_cases hn : n = 1
        · subst hn
          exact .inl ⟨_, _, rfl, rfl, ex_t e3 hs, q _ H3 (e2.trans e3) (.tup (ex_t e3 hs) (.cons (dp_ex e3 _ _ a) .nil))⟩
        · refine .inr ⟨_, n, _, rfl, rfl, ex_t e3 hs, by simp, by omega, h2, by simp, fun l hl => ?_⟩
          have ef : (List.replicate n.toNat [v]).flatten = List.replicate n.toNat v := by
            induction n.toNat with
            | zero => rfl
            | succ k ih => rw [List.replicate_succ, List.flatten_cons, ih, List.replicate_succ]; rfl
          rw [ef]
          exact q _ _ ((e2.trans e3).trans (Ex.new hl)) (.tup (st_of upd_same) (dpa_rep (dp_ex (e3.trans (Ex.new hl)) _ _ a) _))
end
end DL
set_option Elab.async false
set_option linter.all false
set_option maxRecDepth 100000
set_option maxHeartbeats 2000000
namespace DL
open PySem PySem.Spec PyProof.Rows L2 Evl
section
variable {K : PySem.W.Frag} {σ : L2.St} {H H' : Hp} {ta tb te : TE} {d : PyData} {ds es : List PyData} {D : Ends} {tz : TS}
theorem g_three {g1 g2 g3 : TG} {d1 d2 d3 : PyData} {x : V} {Q : L2.St → Hp → Prop} (h : Dp K H x (.tuple [d1, d2, d3])) (k : ∀ v1 v2 v3, Dp K H v1 d1 → Dp K H v2 d2 → Dp K H v3 d3 → g1 v1 σ H fun σ1 H1 => g2 v2 σ1 H1 fun σ2 H2 => g3 v3 σ2 H2 Q) :
    gTup K 3 (gCons g1 (gCons g2 (gCons g3 gNil))) x σ H Q := by
  cases h with
  | tup hs ha =>
    cases ha with
    | cons a b =>
      cases b with
      | cons b c =>
        cases c with
        | cons c f =>
          cases f
          rename_i v1 v2 v3
          refine ⟨_, _, rfl, hs, rfl, v1, [v2, v3], rfl, ?_⟩
          have q := k v1 v2 v3 a b c
          have e : (fun σ1 H1 => g2 v2 σ1 H1 fun σ2 H2 => g3 v3 σ2 H2 Q) = fun σ1 H1 => gCons g2 (gCons g3 gNil) [v2, v3] σ1 H1 Q := by
            funext σ1 H1
            apply propext
            rw [gl_one]
            exact ⟨fun z => ⟨v2, [v3], rfl, z⟩, fun ⟨w, r, e, z⟩ => by cases e; exact z⟩
          rw [← e]
          exact q
/-- a, b = e; a, b, c = e -/
theorem qd_unp2 {a b : Nat} {d1 d2 : PyData} (h : EvD K te σ H (.tuple [d1, d2])) (k : ∀ v1 v2 H1, Ex H H1 → Dp K H1 v1 d1 → Dp K H1 v2 d2 → tz D ((σ.set a (some v1)).set b (some v2)) H1) :
    tSeq (tAsg te (gTup K 2 (gCons (gName a) (gCons (gName b) gNil)))) tz D σ H := h H (Ex.refl _) _ fun v H1 e hv => g_two hv fun v1 v2 h1 h2 => k v1 v2 H1 e h1 h2
theorem qd_unp3 {a b c : Nat} {d1 d2 d3 : PyData} (h : EvD K te σ H (.tuple [d1, d2, d3])) (k : ∀ v1 v2 v3 H1, Ex H H1 → Dp K H1 v1 d1 → Dp K H1 v2 d2 → Dp K H1 v3 d3 → tz D (((σ.set a (some v1)).set b (some v2)).set c (some v3)) H1) :
    tSeq (tAsg te (gTup K 3 (gCons (gName a) (gCons (gName b) (gCons (gName c) gNil))))) tz D σ H := h H (Ex.refl _) _ fun v H1 e hv => g_three hv fun v1 v2 v3 h1 h2 h3 => k v1 v2 v3 H1 e h1 h2 h3
/-- a list that is read and stays meanwhile -/
theorem ei_lstD (h : EvD K te σ H (.list ds)) (hi : immAll ds = true) : EvI K (iList K te) σ H [] ds := fun H1 e R r =>
  h H1 e _ fun w H2 e2 hw => by
    cases hw with
    | lst hs ha =>
      refine ⟨_, rfl, ⟨_, hs⟩, r _ H2 e2 ?_⟩
      rw [← dpa_len ha]
      refine walk_list.mono (fun Ha x => ex_l x.to_ex hs) fun i Ha x Hb hlt hg y => ?_
      obtain ⟨rfl, hx⟩ := y
      obtain ⟨d, hd1, hd2⟩ := dpa_getV (dpa_ex hg.to_ex _ _ ha) hx
      exact ⟨Ex.refl _, d, hd1, hd2⟩
theorem sqL_xp {p q : Addr} {vs : List V} {H1 Ha : Hp} (h : SqL K H q vs) (hp : H p = none) (e : Ex H H1) (x : Xp [p] H1 Ha) : SqL K Ha q vs := by
  have at_ : ∀ o, H q = some o → Ha q = some o := fun o ho => x q o (e q o ho) (fun hm => by
    have : q = p := by simpa using hm
    rw [this, hp] at ho
    cases ho)
  rcases h with (h | ⟨o, h⟩) | h
  · exact .inl (.inl (at_ _ h))
  · exact .inl (.inr ⟨o, at_ _ h⟩)
  · exact .inr h
/-- zip of two lists that are read -/
theorem ei_zipLL {es : List PyData} (ha : EvD K ta σ H (.list ds)) (hb : EvD K tb σ H (.list es)) (hi : immAll ds = true) (hj : immAll es = true) :
    EvI K (iZipM K false false (tCons ta (tCons tb tNil))) σ H [] (List.zipWith (fun x y => PyData.tuple [x, y]) ds es) := fun H1 e R r =>
  ha H1 e _ fun x H2 e2 hx => hb H2 (e.trans e2) _ fun y H3 e3 hy => by
    cases hx with
    | @lst a1 xs1 _ hs1 ha1 =>
      cases hy with
      | @lst a2 xs2 _ hs2 ha2 =>
        have hs1 := ex_l e3 hs1
        have ha1 := dpa_ex e3 _ _ ha1
        refine ⟨_, _, _, _, rfl, sqa_l hs1, sqa_l hs2, r _ H3 (e2.trans e3) ?_⟩
        rw [List.length_zipWith, ← dpa_len ha1, ← dpa_len ha2]
        have w := walk_zipM (K := K) (a := a1) (b := a2) (xs := xs1) (ys := xs2) (t := false) (u := false) (n := min xs1.length xs2.length) rfl
        refine (w.mono (fun Ha x => ⟨ex_l x.to_ex hs1, ex_l x.to_ex hs2⟩) fun i Ha v Hb hlt hg y => ?_)
        obtain ⟨T, v1, v2, rfl, hT, rfl, g1, g2⟩ := y
        obtain ⟨d1, q1, q2⟩ := dpa_getV (dpa_ex (hg.to_ex.trans (Ex.new hT)) _ _ ha1) g1
        obtain ⟨d2, q3, q4⟩ := dpa_getV (dpa_ex (hg.to_ex.trans (Ex.new hT)) _ _ ha2) g2
        refine ⟨Ex.new hT, .tuple [d1, d2], ?_, .tup (st_of upd_same) (.cons q2 (.cons q4 .nil))⟩
        rw [List.getElem?_zipWith, q1, q3]
theorem hu64 {A : Around} {k : Nat} (hr : Room k A) : A.units + 64 < cLine := by
  have := hr.un
  omega
theorem ix_tupK {X : Cx} (K : PySem.W.Frag) (h : X.K = K) : IxR X (rIxT K) := h ▸ ix_tup
theorem ix_listK {X : Cx} (K : PySem.W.Frag) (h : X.K = K) : IxR X (rIxL K) := h ▸ ix_list
theorem immAll_dI (l : List Int) : immAll (dI l) = true := immAll_ints l
theorem immAll_tI (l : List (List Int)) : immAll (l.map tI) = true := immAll_tIs l
end
end DL
set_option Elab.async false
set_option linter.all false
set_option maxRecDepth 100000
set_option maxHeartbeats 4000000
namespace K20
open PySem PySem.Spec PyProof.Rows L2 Evl DL

def topS (i : Nat) : Stmt := PySem.Challenge.pw_allcalls_k20_whole_tracks_that_are_neede.main.body.getD i (.Pass ⟨0, 0, 0, 0⟩)
/-- what the module's names hold -/
structure Txt (mg : Str → Option Value) : Prop where
  b_isinstance : mg "isinstance" = none
  b_int : mg "int" = none
  b_bool : mg "bool" = none
  b_tuple : mg "tuple" = none
  b_list : mg "list" = none
  b_len : mg "len" = none
  b_range : mg "range" = none
  b_zip : mg "zip" = none
  b_max : mg "max" = none
  b_min : mg "min" = none
  b_sum : mg "sum" = none
  b_abs : mg "abs" = none
  c_MOST_SIDES : ∃ t, mg "MOST_SIDES" = some (.int 5 t)
  c_MOST_NUMBER : ∃ t, mg "MOST_NUMBER" = some (.int 99 t)
  c_MOST_PLAIN_SIDES : ∃ t, mg "MOST_PLAIN_SIDES" = some (.int 4 t)
  c_MOST_ROOM : ∃ t, mg "MOST_ROOM" = some (.int 99 t)
  c_MOST_LET : ∃ t, mg "MOST_LET" = some (.int 20000 t)
theorem pe_const {X : Cx} {x : Str} {n : Int} {pos : Pos} (h : ∃ t, X.mg x = some (.int n t)) (hg : Gl X x) (hd : (x == ("__debug__" : Str)) = false := by decide) : PE X (.Name x pos) (tC (.int n)) := by
  obtain ⟨t, h⟩ := h
  exact pe_glob hg h ⟨t, rfl⟩ hd

local macro_rules | `(tactic| walk_at "dl") => `(tactic| first
  | exact ev_c | exact ev_var rfl | exact eda_nil
  | exact ed_var rfl (by assumption)
  | exact ed_int ev_c | exact ed_int (ev_var rfl)
  | (refine eda_cons ?_ ?_ <;> walk_at "dl")
  | (refine ed_int ?_; walk_at "dl")
  | (refine ev_op ?_ ?_ rv_I0 <;> walk_at "dl"))

section
variable {P : Program} {w : World} {K : PySem.W.Frag} {mg : Str → Option Value} {base : Heap}
abbrev D (P : Program) (w : World) (K : PySem.W.Frag) (mg : Str → Option Value) (base : Heap) (nm : Str) (k : Nat) (ps : List Str) (sp : Sp) : Prop := DF P w K mg base nm k ps sp

/-! is_number -/
abbrev s_is_number : Stmt := topS 7
abbrev N_is_number : List Str := ["thing"]
theorem sc_is_number : FnScope N_is_number ["thing"] (defScope s_is_number) := ⟨rfl, rfl, rfl, by decide +kernel, rfl, by decide +kernel, by decide +kernel⟩
def R_is_number (ds : List PyData) (r : PyData) : Prop := ∃ i : Int, ds = [.int i] ∧ r = .bool true
theorem ok_is_number {f : Addr} {fd : FuncData} (F : Fun K "is_number" "is_number" s_is_number f fd) (T : Txt mg) : FnOk P w K mg base CX0 1 f fd ["thing"] (spD K 1 R_is_number) := by
  refine F.ok sc_is_number (fun vs H Q E h => spD_len h) (fun cdv A outer s H vs Q E hr h => ?_)
  obtain ⟨ds, r, hd, _, ⟨i, rfl, rfl⟩, k⟩ := h
  obtain rfl := dpa_ints (l := [i]) hd
  refine ⟨_, (pss_one (ps_ret (pe_and (pe_callB call_isi (by rfl) T.b_isinstance (by decide +kernel) (pa_cons (pv 0) (pa_cons (pe_bltn (v := .ty "int") (u := .type "int") (by rfl) T.b_int (by decide +kernel) rfl) pa_nil))) (pe_one (pe_not (pe_callB call_isi (by rfl) T.b_isinstance (by decide +kernel) (pa_cons (pv 0) (pa_cons (pe_bltn (v := .ty "bool") (u := .type "bool") (by rfl) T.b_bool (by decide +kernel) rfl) pa_nil)))))))), ?_⟩
  refine d_ret (d := .bool true) (ed_bool ?_) fun v H1 e hv => k v H1 e hv
  exact ev_andV (a := true) (b := true) (ev_isi_int (ev_var rfl) (by decide +kernel)) fun _ => ev_notV (a := false) (ev_isi_int (ev_var rfl) (by decide +kernel))

/-! is_within -/
abbrev s_is_within : Stmt := topS 8
abbrev N_is_within : List Str := ["thing", "low", "high"]
theorem sc_is_within : FnScope N_is_within ["thing", "low", "high"] (defScope s_is_within) := ⟨rfl, rfl, rfl, by decide +kernel, rfl, by decide +kernel, by decide +kernel⟩
def R_is_within (ds : List PyData) (r : PyData) : Prop := ∃ i a b : Int, ds = [.int i, .int a, .int b] ∧ r = .bool (decide (a ≤ i) && decide (i ≤ b))
theorem ok_is_within {f : Addr} {fd : FuncData} (F : Fun K "is_within" "is_within" s_is_within f fd) (T : Txt mg)
    (D_is_number : D P w K mg base "is_number" 1 ["thing"] (spD K 1 R_is_number)) : FnOk P w K mg base CX0 2 f fd ["thing", "low", "high"] (spD K 3 R_is_within) := by
  refine F.ok sc_is_within (fun vs H Q E h => spD_len h) (fun cdv A outer s H vs Q E hr h => ?_)
  obtain ⟨ds, r, hd, _, ⟨i, a, b, rfl, rfl⟩, k⟩ := h
  obtain rfl := dpa_ints (l := [i, a, b]) hd
  refine ⟨_, (pss_one (ps_ret (pe_and (pe_D D_is_number (hr.mono (by decide)) (by rfl) (pa_cons (pv 0) pa_nil)) (pe_one (pe_chain op_le op_le (pv 1) (pv 0) (pv 2)))))), ?_⟩
  refine d_ret (d := .bool (decide (a ≤ i) && decide (i ≤ b))) (ed_bool ?_) fun v H1 e hv => k v H1 e hv
  refine ev_andV (a := true) (EvD.bool (ed_call (ds := [.int i]) (by walk_at "dl") rfl ⟨i, rfl, rfl⟩)) fun _ => ?_
  exact ev_chain (by walk_at "dl") (by walk_at "dl") (by walk_at "dl")
end
end K20
set_option Elab.async false
set_option linter.all false
set_option maxRecDepth 100000
set_option maxHeartbeats 4000000
namespace K20
open PySem PySem.Spec PyProof.Rows L2 Evl DL
local macro_rules | `(tactic| walk_at "dl") => `(tactic| first
  | exact ev_c | exact ev_var rfl | exact eda_nil
  | exact ed_var rfl (by assumption)
  | exact ed_int ev_c | exact ed_int (ev_var rfl)
  | (refine eda_cons ?_ ?_ <;> walk_at "dl")
  | (refine ed_int ?_; walk_at "dl")
  | (refine ev_op ?_ ?_ rv_I0 <;> walk_at "dl"))
section
variable {P : Program} {w : World} {K : PySem.W.Frag} {mg : Str → Option Value} {base : Heap}
def R_is_tuple_of (ds : List PyData) (r : PyData) : Prop := ∃ (l : List Int) (m : Int), ds = [tI l, .int m] ∧ r = .bool (decide ((l.length : Int) = m))
abbrev s_is_tuple_of : Stmt := topS 9
abbrev N_is_tuple_of : List Str := ["thing", "many"]
theorem sc_is_tuple_of : FnScope N_is_tuple_of ["thing", "many"] (defScope s_is_tuple_of) := ⟨rfl, rfl, rfl, by decide +kernel, rfl, by decide +kernel, by decide +kernel⟩
theorem ok_is_tuple_of {f : Addr} {fd : FuncData} (F : Fun K "is_tuple_of" "is_tuple_of" s_is_tuple_of f fd) (T : Txt mg)
     :
    FnOk P w K mg base CX0 1 f fd ["thing", "many"] (spD K 2 R_is_tuple_of) := by
  refine F.ok sc_is_tuple_of (fun vs H Q E h => spD_len h) (fun cdv A outer s H vs Q E hr h => ?_)
  obtain ⟨ds, r, hd, _, ⟨l, m, rfl, rfl⟩, k⟩ := h
  obtain ⟨v0, v1, rfl, d0, rfl⟩ := dpa_ti hd
  refine ⟨_, (pss_one (ps_ret (pe_and (pe_callB call_isi (by rfl) T.b_isinstance (by decide +kernel) (pa_cons (pv 0) (pa_cons (pe_bltn (v := .ty "tuple") (u := .type "tuple") (by rfl) T.b_tuple (by decide +kernel) rfl) pa_nil))) (pe_one (pe_cmpR op_eq (pe_callB call_len_seq (by rfl) T.b_len PySem.boot_len (pa_cons (pv 0) pa_nil)) (pv 1) (nomark _)))))), ?_⟩
  refine d_ret (d := .bool (decide ((l.length : Int) = m))) (ed_bool ?_) k
  refine ev_andV (a := true) (ev_isi_tup (ed_var rfl d0) (by decide +kernel)) fun _ => ?_
  refine ev_is (ev_op (ev_lenT (ed_var rfl d0)) (ev_var rfl) (rv_eq rfl)) ?_
  rw [List.length_map]
  exact congrArg V.bl (decide_vint _ _)

def R_is_row (ds : List PyData) (r : PyData) : Prop := ∃ l : List PyData, ds = [.list l] ∧ r = .bool true
abbrev s_is_row : Stmt := topS 10
abbrev N_is_row : List Str := ["thing"]
theorem sc_is_row : FnScope N_is_row ["thing"] (defScope s_is_row) := ⟨rfl, rfl, rfl, by decide +kernel, rfl, by decide +kernel, by decide +kernel⟩
theorem ok_is_row {f : Addr} {fd : FuncData} (F : Fun K "is_row" "is_row" s_is_row f fd) (T : Txt mg)
     :
    FnOk P w K mg base CX0 1 f fd ["thing"] (spD K 1 R_is_row) := by
  refine F.ok sc_is_row (fun vs H Q E h => spD_len h) (fun cdv A outer s H vs Q E hr h => ?_)
  obtain ⟨ds, r, hd, _, ⟨l, rfl, rfl⟩, k⟩ := h
  obtain ⟨v0, rfl, d0⟩ := dpa_one hd
  refine ⟨_, (pss_one (ps_ret (pe_callB call_isiT (by rfl) T.b_isinstance (by decide +kernel) (pa_cons (pv 0) (pa_cons (pe_tup (pa_cons (pe_bltn (v := .ty "list") (u := .type "list") (by rfl) T.b_list (by decide +kernel) rfl) (pa_cons (pe_bltn (v := .ty "tuple") (u := .type "tuple") (by rfl) T.b_tuple (by decide +kernel) rfl) pa_nil))) pa_nil))))), ?_⟩
  exact d_ret (d := .bool true) (ed_bool (ev_isi_lst2 (ed_var rfl d0) (by decide +kernel))) k

def R_check_sides (ds : List PyData) (r : PyData) : Prop := ∃ s m : Int, ds = [.int s, .int m] ∧ 2 ≤ s ∧ s ≤ m ∧ r = .none
abbrev s_check_sides : Stmt := topS 13
abbrev N_check_sides : List Str := ["sides", "most"]
theorem sc_check_sides : FnScope N_check_sides ["sides", "most"] (defScope s_check_sides) := ⟨rfl, rfl, rfl, by decide +kernel, rfl, by decide +kernel, by decide +kernel⟩
theorem ok_check_sides {f : Addr} {fd : FuncData} (F : Fun K "check_sides" "check_sides" s_check_sides f fd) (T : Txt mg)
    (D_is_within : DF P w K mg base "is_within" 2 ["thing", "low", "high"] (spD K 3 R_is_within)) :
    FnOk P w K mg base CX0 3 f fd ["sides", "most"] (spD K 2 R_check_sides) := by
  refine F.ok sc_check_sides (fun vs H Q E h => spD_len h) (fun cdv A outer s H vs Q E hr h => ?_)
  obtain ⟨ds, r, hd, _, ⟨x, m, rfl, h1, h2, rfl⟩, k⟩ := h
  obtain rfl := dpa_ints (l := [x, m]) hd
  refine ⟨_, (pss_one (ps_if (pt_not (pt_val (pe_D D_is_within (hr.mono (by decide)) (by rfl) (pa_cons (pv 0) (pa_cons pe_int (pa_cons (pv 1) pa_nil)))))) (pss_one ps_never) pss_nil)), ?_⟩
  refine s_if (b := false) (et_not (a := true) (et_B (ev_is (EvD.bool (ed_call (ds := [.int x, .int 2, .int m]) (by walk_at "dl") rfl ⟨x, 2, m, rfl, rfl⟩)) ?_))) (fun z => by cases z) fun _ H1 e => k .non H1 e .non
  rw [decide_eq_true h1, decide_eq_true h2] <;> rfl

def R_check_room (ds : List PyData) (r : PyData) : Prop := ∃ s : Int, ds = [.int s] ∧ 0 ≤ s ∧ s ≤ 99 ∧ r = .none
abbrev s_check_room : Stmt := topS 32
abbrev N_check_room : List Str := ["room"]
theorem sc_check_room : FnScope N_check_room ["room"] (defScope s_check_room) := ⟨rfl, rfl, rfl, by decide +kernel, rfl, by decide +kernel, by decide +kernel⟩
theorem ok_check_room {f : Addr} {fd : FuncData} (F : Fun K "check_room" "check_room" s_check_room f fd) (T : Txt mg)
    (D_is_within : DF P w K mg base "is_within" 2 ["thing", "low", "high"] (spD K 3 R_is_within)) :
    FnOk P w K mg base CX0 3 f fd ["room"] (spD K 1 R_check_room) := by
  refine F.ok sc_check_room (fun vs H Q E h => spD_len h) (fun cdv A outer s H vs Q E hr h => ?_)
  obtain ⟨ds, r, hd, _, ⟨x, rfl, h1, h2, rfl⟩, k⟩ := h
  obtain rfl := dpa_ints (l := [x]) hd
  refine ⟨_, (pss_one (ps_if (pt_not (pt_val (pe_D D_is_within (hr.mono (by decide)) (by rfl) (pa_cons (pv 0) (pa_cons pe_int (pa_cons (pe_const T.c_MOST_ROOM (by rfl)) pa_nil)))))) (pss_one ps_never) pss_nil)), ?_⟩
  refine s_if (b := false) (et_not (a := true) (et_B (ev_is (EvD.bool (ed_call (ds := [.int x, .int 0, .int 99]) (by walk_at "dl") rfl ⟨x, 0, 99, rfl, rfl⟩)) ?_))) (fun z => by cases z) fun _ H1 e => k .non H1 e .non
  rw [decide_eq_true h1, decide_eq_true h2] <;> rfl

def plc (s a b : Int) : Int := a * (2 * s - a - 1) / 2 + b - a - 1
def R_pair_place (ds : List PyData) (r : PyData) : Prop := ∃ s a b : Int, ds = [.int s, .int a, .int b] ∧ (0 ≤ a ∧ a ≤ 1000) ∧ r = .int (plc s a b)
abbrev s_pair_place : Stmt := topS 17
abbrev N_pair_place : List Str := ["sides", "side", "far"]
theorem sc_pair_place : FnScope N_pair_place ["sides", "side", "far"] (defScope s_pair_place) := ⟨rfl, rfl, rfl, by decide +kernel, rfl, by decide +kernel, by decide +kernel⟩
theorem ok_pair_place {f : Addr} {fd : FuncData} (F : Fun K "pair_place" "pair_place" s_pair_place f fd) (T : Txt mg)
     :
    FnOk P w K mg base CX0 1 f fd ["sides", "side", "far"] (spD K 3 R_pair_place) := by
  refine F.ok sc_pair_place (fun vs H Q E h => spD_len h) (fun cdv A outer s H vs Q E hr h => ?_)
  obtain ⟨ds, r, hd, _, ⟨x, a, b, rfl, ⟨h1, h2⟩, rfl⟩, k⟩ := h
  obtain rfl := dpa_ints (l := [x, a, b]) hd
  refine ⟨_, (pss_one (ps_ret (pe_op op_sub (pe_op op_sub (pe_op op_add (pe_op op_fdiv (pe_op op_mul (pv 1) (pe_op op_sub (pe_op op_sub (pe_op op_mul pe_int (pv 0)) (pv 1)) pe_int)) pe_int) (pv 2)) (pv 1)) pe_int))), ?_⟩
  refine d_ret (d := .int (plc x a b)) (ed_int ?_) k
  have i1 : Ev (tOp (rI CMul fun i j => .int (i * j)) (tC (.int 2)) (tVar 0)) (L2.start N_pair_place (List.map V.int [x, a, b])) H (.int (2 * x)) := ev_op ev_c (ev_var rfl) (rv_I (.inl (by omega)))
  have i2 := ev_op (r := rI0 fun i j => .int (i - j)) (ev_op (r := rI0 fun i j => .int (i - j)) i1 (ev_var (i := 1) (v := .int a) rfl) rv_I0) (ev_c (v := .int 1)) rv_I0
  have i3 := ev_op (r := rI CMul fun i j => .int (i * j)) (ev_var (i := 1) (v := .int a) rfl) i2 (rv_I (.inl (by omega)))
  have i4 := ev_op (r := rI CDiv fun i j => .int (i / j)) i3 (ev_c (v := .int 2)) (rv_I (by unfold CDiv; omega))
  exact ev_op (ev_op (ev_op i4 (ev_var (v := .int b) rfl) rv_I0) (ev_var (v := .int a) rfl) rv_I0) ev_c rv_I0

end
end K20
set_option Elab.async false
set_option linter.all false
set_option maxRecDepth 100000
set_option maxHeartbeats 4000000
namespace K20
open PySem PySem.Spec PyProof.Rows L2 Evl DL
local macro_rules | `(tactic| walk_at "dl") => `(tactic| first
  | exact ev_c | exact ev_var rfl | exact eda_nil
  | exact ed_var rfl (by assumption)
  | exact ed_int ev_c | exact ed_int (ev_var rfl)
  | (refine eda_cons ?_ ?_ <;> walk_at "dl")
  | (refine ed_int ?_; walk_at "dl")
  | (refine ev_op ?_ ?_ rv_I0 <;> walk_at "dl"))
section
variable {P : Program} {w : World} {K : PySem.W.Frag} {mg : Str → Option Value} {base : Heap}
def pD (p : Int × Int) : PyData := tI [p.1, p.2]
def prs (s : Int) : List (Int × Int) := (List.range s.toNat).flatMap fun (i : Nat) => (List.range (s - ((i : Int) + 1)).toNat).map fun (j : Nat) => ((i : Int), (i : Int) + 1 + (j : Int))
def np (s : Int) : Nat := (prs s).length
def R_side_pairs (ds : List PyData) (r : List PyData) : Prop := ∃ s : Int, ds = [.int s] ∧ 0 ≤ s ∧ s ≤ 5 ∧ r = (prs s).map pD
abbrev s_side_pairs : Stmt := topS 16
abbrev N_side_pairs : List Str := ["sides", "side", "far"]
theorem sc_side_pairs : FnScope N_side_pairs ["sides"] (defScope s_side_pairs) := ⟨rfl, rfl, rfl, by decide +kernel, rfl, by decide +kernel, by decide +kernel⟩
theorem ok_side_pairs {f : Addr} {fd : FuncData} (F : Fun K "side_pairs" "side_pairs" s_side_pairs f fd) (T : Txt mg)
     :
    FnOk P w K mg base CX0 1 f fd ["sides"] (spN K 1 R_side_pairs) := by
  refine F.ok sc_side_pairs (fun vs H Q E h => spN_len h) (fun cdv A outer s H vs Q E hr h => ?_)
  obtain ⟨ds, r, hd, _, ⟨x, rfl, h1, h2, rfl⟩, k⟩ := h
  obtain rfl := dpa_ints (l := [x]) hd
  refine ⟨_, (pss_one (ps_ret (pe_lc2 (own := [("side", 1), ("far", 2)]) (vs1 := [2]) (g := (gName 1)) (tt := tYes) (g1 := (gName 2)) (tt1 := tYes) rfl sc_side_pairs.nd (pi_range1 (by rfl) T.b_range (pa_cons (pv 0) pa_nil)) (blkOk_by (N := N_side_pairs) (sc := defScope s_side_pairs) (by decide +kernel)) (by decide) (fun _ _ _ _ _ => (pg_name (i := 1) sc_side_pairs.nd rfl (Or.inl rfl))) (fun _ _ _ _ _ => pts_nil) (fun _ _ _ _ _ => (pi_range2 (by rfl) T.b_range (pa_cons (pe_op op_add (pv 1) pe_int) (pa_cons (pv 0) pa_nil)))) (fun _ _ _ _ _ => (pg_name (i := 2) sc_side_pairs.nd rfl (Or.inl rfl))) (fun _ _ _ _ _ => pts_nil) (fun _ _ _ _ _ => (pe_tup (pa_cons (pv 1) (pa_cons (pv 2) pa_nil))))))), ?_⟩
  refine n_ret (en_is (en_lc2 (ei_rng1 (n := x) (by walk_at "dl") (by omega)) (immAll_map (fun _ => by simp [imm]) _) (fun i => (List.range (x - ((i : Int) + 1)).toNat).map fun (j : Nat) => PyData.int ((i : Int) + 1 + (j : Int)))
    (fun i => immAll_map (fun _ => by simp [imm]) _) (fun i j => tI [(i : Int), (i : Int) + 1 + (j : Int)]) (fun i j => imm_tI _) (fun i => by rw [List.length_map, List.length_range]; omega) (by rw [List.length_map, List.length_range]; omega)
    (fun _ => rfl) (fun _ _ => rfl) fun i d y H3 hd1 hd2 => ?_) ?_) k
  · have hlt : i < x.toNat := by
      have := (List.getElem?_eq_some_iff.mp hd1).1
      simpa using this
    rw [rng_get hlt] at hd1
    cases hd1
    cases hd2
    refine ⟨fun S hS => ei_rng2 (m := (i : Int) + 1) (n := x) (eda_cons (ed_int (ev_op (ev_var rfl) ev_c rv_I0)) (eda_cons (ed_int (ev_var rfl)) eda_nil)) (by omega), fun j d' y H5 hj hx hy => ?_⟩
    have hlt2 : j < (x - ((i : Int) + 1)).toNat := by
      have := (List.getElem?_eq_some_iff.mp hj).1
      simpa using this
    rw [rng_get hlt2] at hj
    cases hj
    cases hy
    exact ed_tup (eda_cons (ed_int (ev_var rfl)) (eda_cons (ed_int (ev_var rfl)) eda_nil)) (by simp)
  · unfold prs
    rw [List.map_flatMap, List.length_map, List.length_range]
    congr 1
    funext i
    rw [List.map_map, List.length_map, List.length_range]
    rfl

def R_no_wires (ds : List PyData) (r : PyData) : Prop := ∃ s : Int, ds = [.int s] ∧ 2 ≤ s ∧ s ≤ 5 ∧ r = tI (List.replicate (np s) 0)
theorem np_le {s : Int} (h1 : 2 ≤ s) (h2 : s ≤ 5) : 1 ≤ np s ∧ np s ≤ 10 := by
  have : s = 2 ∨ s = 3 ∨ s = 4 ∨ s = 5 := by omega
  rcases this with rfl | rfl | rfl | rfl <;> decide
abbrev s_no_wires : Stmt := topS 18
abbrev N_no_wires : List Str := ["sides"]
theorem sc_no_wires : FnScope N_no_wires ["sides"] (defScope s_no_wires) := ⟨rfl, rfl, rfl, by decide +kernel, rfl, by decide +kernel, by decide +kernel⟩
theorem ok_no_wires {f : Addr} {fd : FuncData} (F : Fun K "no_wires" "no_wires" s_no_wires f fd) (T : Txt mg)
    (D_side_pairs : DF P w K mg base "side_pairs" 1 ["sides"] (spN K 1 R_side_pairs)) :
    FnOk P w K mg base CX0 2 f fd ["sides"] (spD K 1 R_no_wires) := by
  refine F.ok sc_no_wires (fun vs H Q E h => spD_len h) (fun cdv A outer s H vs Q E hr h => ?_)
  obtain ⟨ds, r, hd, _, ⟨x, rfl, h1, h2, rfl⟩, k⟩ := h
  obtain rfl := dpa_ints (l := [x]) hd
  refine ⟨_, (pss_one (ps_ret (pe_op op_repT1 (pe_tup (pa_cons pe_int pa_nil)) (pe_callB call_len_seq (by rfl) T.b_len PySem.boot_len (pa_cons (pe_D D_side_pairs (hr.mono (by decide)) (by rfl) (pa_cons (pv 0) pa_nil)) pa_nil))))), ?_⟩
  have hn := np_le h1 h2
  refine d_ret (ed_is (ed_rep1 (ed_tup (eda_cons (ed_int ev_c) eda_nil) (by simp)) (ev_lenL (EvN.toD (en_call (ds := [.int x]) (by walk_at "dl") rfl ⟨x, rfl, by omega, h2, rfl⟩))) ?_ ?_) ?_) k
  · rw [List.length_map]
    exact Int.ofNat_le.mpr hn.1
  · rw [List.length_map]
    have : (prs x).length ≤ 10 := hn.2
    omega
  · rw [List.length_map]
    show PyData.tuple (List.replicate (((prs x).length : Nat) : Int).toNat (PyData.int 0)) = PyData.tuple ((List.replicate (np x) 0).map PyData.int)
    rw [List.map_replicate]
    rfl

/-- a load of so many sides -/
def Ld (s : Int) (l : List Int) : Prop := l.length = np s ∧ ∀ x ∈ l, 0 ≤ x ∧ x ≤ 99
def R_is_load_up_to (ds : List PyData) (r : PyData) : Prop := ∃ (s : Int) (l : List Int), ds = [.int s, tI l, .int 99] ∧ 2 ≤ s ∧ s ≤ 5 ∧ Ld s l ∧ r = .bool true
abbrev s_is_load_up_to : Stmt := topS 19
abbrev N_is_load_up_to : List Str := ["sides", "thing", "most", "number"]
theorem sc_is_load_up_to : FnScope N_is_load_up_to ["sides", "thing", "most"] (defScope s_is_load_up_to) := ⟨rfl, rfl, rfl, by decide +kernel, rfl, by decide +kernel, by decide +kernel⟩
theorem ok_is_load_up_to {f : Addr} {fd : FuncData} (F : Fun K "is_load_up_to" "is_load_up_to" s_is_load_up_to f fd) (T : Txt mg)
    (D_is_tuple_of : DF P w K mg base "is_tuple_of" 1 ["thing", "many"] (spD K 2 R_is_tuple_of)) (D_is_within : DF P w K mg base "is_within" 2 ["thing", "low", "high"] (spD K 3 R_is_within)) (D_side_pairs : DF P w K mg base "side_pairs" 1 ["sides"] (spN K 1 R_side_pairs)) :
    FnOk P w K mg base CX0 3 f fd ["sides", "thing", "most"] (spD K 3 R_is_load_up_to) := by
  refine F.ok sc_is_load_up_to (fun vs H Q E h => spD_len h) (fun cdv A outer s H vs Q E hr h => ?_)
  obtain ⟨ds, r, hd, _, ⟨x, l, rfl, h1, h2, hl, rfl⟩, k⟩ := h
  obtain ⟨v0, rfl, d0⟩ := dpa_iti hd
  refine ⟨_, (pss_cons (ps_if (pt_not (pt_val (pe_D D_is_tuple_of (hr.mono (by decide)) (by rfl) (pa_cons (pv 1) (pa_cons (pe_callB call_len_seq (by rfl) T.b_len PySem.boot_len (pa_cons (pe_D D_side_pairs (hr.mono (by decide)) (by rfl) (pa_cons (pv 0) pa_nil)) pa_nil)) pa_nil))))) (pss_one (ps_ret pe_bl)) pss_nil)
      (pss_cons (ps_for PassesOwn.never rfl (pi_tup (pv 1)) (pg_name (i := 3) sc_is_load_up_to.nd rfl (Or.inl rfl)) (pss_one (ps_if (pt_not (pt_val (pe_D D_is_within (hr.mono (by decide)) (by rfl) (pa_cons (pv 3) (pa_cons pe_int (pa_cons (pv 2) pa_nil)))))) (pss_one (ps_ret pe_bl)) pss_nil)))
      (pss_one (ps_ret pe_bl)))), ?_⟩
  have tru : decide ((l.length : Int) = ((np x : Nat) : Int)) = true := by rw [hl.1]; simp
  refine q_when (b := false) (et_not (a := true) (et_B (EvD.bool (ed_call (ds := [tI l, .int ((np x : Nat) : Int)]) (eda_cons (ed_var rfl d0) (eda_cons (ed_int (ev_is (ev_lenL (EvN.toD (en_call (ds := [.int x]) (by walk_at "dl") rfl ⟨x, rfl, by omega, h2, rfl⟩))) (by rw [List.length_map]; rfl))) eda_nil)) rfl ⟨l, _, rfl, by rw [tru]⟩)))) (fun z => by cases z) fun _ H1 e1 => ?_
  refine e_for (ei_tup (Ls.nil _) (ed_var rfl (dp_ex e1 _ _ d0)) (immAll_ints l)) (fun H2 i σ' Ha => Ex H2 Ha ∧ ∃ y, σ' = [some (.int x), some v0, some (.int 99), y]) (fun H2 e2 => ⟨Ex.refl _, none, rfl⟩) (fun H2 i σ' Ha _ p => Xp.of_ex p.1) ?_ ?_
  · rintro H2 i d y σ' Ha Hb e2 hd1 ⟨p1, z, rfl⟩ e3 hd2
    rw [List.getElem?_map] at hd1
    obtain ⟨n, hn, rfl⟩ := Option.map_eq_some_iff.mp hd1
    cases hd2
    have hb := hl.2 n (List.mem_of_getElem? hn)
    refine s_when (b := false) (et_not (a := true) (et_B (EvD.bool (ed_call (ds := [.int n, .int 0, .int 99]) (by walk_at "dl") rfl ⟨n, 0, 99, rfl, ?_⟩)))) (fun z => by cases z) fun _ H4 e4 => ⟨(p1.trans e3).trans e4, _, rfl⟩
    rw [decide_eq_true hb.1, decide_eq_true hb.2] <;> rfl
  · rintro H2 σ' Ha e2 ⟨p1, z, rfl⟩
    exact d_ret (ed_bool ev_c) fun v H3 e3 hv => k v H3 (((e1.trans e2).trans p1).trans e3) hv

def R_is_load_of (ds : List PyData) (r : PyData) : Prop := ∃ (s : Int) (l : List Int), ds = [.int s, tI l] ∧ 2 ≤ s ∧ s ≤ 5 ∧ Ld s l ∧ r = .bool true
abbrev s_is_load_of : Stmt := topS 20
abbrev N_is_load_of : List Str := ["sides", "thing"]
theorem sc_is_load_of : FnScope N_is_load_of ["sides", "thing"] (defScope s_is_load_of) := ⟨rfl, rfl, rfl, by decide +kernel, rfl, by decide +kernel, by decide +kernel⟩
theorem ok_is_load_of {f : Addr} {fd : FuncData} (F : Fun K "is_load_of" "is_load_of" s_is_load_of f fd) (T : Txt mg)
    (D_is_load_up_to : DF P w K mg base "is_load_up_to" 3 ["sides", "thing", "most"] (spD K 3 R_is_load_up_to)) :
    FnOk P w K mg base CX0 4 f fd ["sides", "thing"] (spD K 2 R_is_load_of) := by
  refine F.ok sc_is_load_of (fun vs H Q E h => spD_len h) (fun cdv A outer s H vs Q E hr h => ?_)
  obtain ⟨ds, r, hd, _, ⟨x, l, rfl, h1, h2, hl, rfl⟩, k⟩ := h
  obtain ⟨v0, rfl, d0⟩ := dpa_it hd
  refine ⟨_, (pss_one (ps_ret (pe_D D_is_load_up_to (hr.mono (by decide)) (by rfl) (pa_cons (pv 0) (pa_cons (pv 1) (pa_cons (pe_const T.c_MOST_NUMBER (by rfl)) pa_nil)))))), ?_⟩
  exact d_ret (ed_call (ds := [.int x, tI l, .int 99]) (by walk_at "dl") rfl ⟨x, l, rfl, h1, h2, hl, rfl⟩) k

def R_check_load (ds : List PyData) (r : PyData) : Prop := ∃ (s : Int) (l : List Int), ds = [.int s, tI l] ∧ 2 ≤ s ∧ s ≤ 5 ∧ Ld s l ∧ r = .none
abbrev s_check_load : Stmt := topS 21
abbrev N_check_load : List Str := ["sides", "load"]
theorem sc_check_load : FnScope N_check_load ["sides", "load"] (defScope s_check_load) := ⟨rfl, rfl, rfl, by decide +kernel, rfl, by decide +kernel, by decide +kernel⟩
theorem ok_check_load {f : Addr} {fd : FuncData} (F : Fun K "check_load" "check_load" s_check_load f fd) (T : Txt mg)
    (D_is_load_of : DF P w K mg base "is_load_of" 4 ["sides", "thing"] (spD K 2 R_is_load_of)) :
    FnOk P w K mg base CX0 5 f fd ["sides", "load"] (spD K 2 R_check_load) := by
  refine F.ok sc_check_load (fun vs H Q E h => spD_len h) (fun cdv A outer s H vs Q E hr h => ?_)
  obtain ⟨ds, r, hd, _, ⟨x, l, rfl, h1, h2, hl, rfl⟩, k⟩ := h
  obtain ⟨v0, rfl, d0⟩ := dpa_it hd
  refine ⟨_, (pss_one (ps_if (pt_not (pt_val (pe_D D_is_load_of (hr.mono (by decide)) (by rfl) (pa_cons (pv 0) (pa_cons (pv 1) pa_nil))))) (pss_one ps_never) pss_nil)), ?_⟩
  exact s_if (b := false) (et_not (a := true) (et_B (EvD.bool (ed_call (ds := [.int x, tI l]) (by walk_at "dl") rfl ⟨x, l, rfl, h1, h2, hl, rfl⟩)))) (fun z => by cases z) fun _ H1 e => k .non H1 e .non

end
end K20
set_option Elab.async false
set_option linter.all false
set_option maxRecDepth 100000
set_option maxHeartbeats 4000000
namespace K20
open PySem PySem.Spec PyProof.Rows L2 Evl DL
local macro_rules | `(tactic| walk_at "dl") => `(tactic| first
  | exact ev_c | exact ev_var rfl | exact eda_nil
  | exact ed_var rfl (by assumption)
  | exact ed_int ev_c | exact ed_int (ev_var rfl)
  | (refine eda_cons ?_ ?_ <;> walk_at "dl")
  | (refine ed_int ?_; walk_at "dl")
  | (refine ev_op ?_ ?_ rv_I0 <;> walk_at "dl"))

/-- two lists of ints, item by item -/
def zw (f : Int → Int → Int) (a b : List Int) : List Int := List.zipWith f a b
theorem pairs_get {a b : List Int} {i : Nat} {d : PyData} (h : (List.zipWith (fun x y => PyData.tuple [.int x, .int y]) a b)[i]? = some d) : ∃ x y, a[i]? = some x ∧ b[i]? = some y ∧ d = .tuple [.int x, .int y] := by
  rw [List.getElem?_zipWith] at h
  cases h1 : a[i]? with
  | none => rw [h1] at h; simp at h
  | some x =>
    cases h2 : b[i]? with
    | none => rw [h1, h2] at h; simp at h
    | some y => rw [h1, h2] at h; exact ⟨x, y, rfl, rfl, by simpa using h.symm⟩
theorem range_zip (f : Int → Int → Int) : ∀ (a b : List Int), (List.range (min a.length b.length)).map (fun i => f (a.getD i 0) (b.getD i 0)) = zw f a b := fun a b => by
  apply List.ext_getElem?
  intro i
  rw [List.getElem?_map, zw, List.getElem?_zipWith]
  by_cases h : i < min a.length b.length
  · have h1 : i < a.length := by omega
    have h2 : i < b.length := by omega
    rw [List.getElem?_range h, List.getElem?_eq_getElem h1, List.getElem?_eq_getElem h2]
    simp [List.getD_eq_getElem?_getD, h1, h2]
  · have h3 : ¬ (i < a.length ∧ i < b.length) := by omega
    rw [List.getElem?_eq_none (by simpa using h)]
    by_cases h1 : i < a.length
    · have h2 : b[i]? = none := List.getElem?_eq_none (by omega)
      rw [h2]
      cases a[i]? <;> rfl
    · rw [List.getElem?_eq_none (by omega : a.length ≤ i)]
      rfl
section
variable {K : PySem.W.Frag} {σ : L2.St} {H : Hp} {ta tb te : TE} {a b : List Int}
/-- zip of two tuples of ints -/
theorem ei_zipTT {S : List Addr} (hS : Ls H S) (ha : EvD K ta σ H (tI a)) (hb : EvD K tb σ H (tI b)) : EvI K (iZipM K true true (tCons ta (tCons tb tNil))) σ H S (List.zipWith (fun x y => PyData.tuple [.int x, .int y]) a b) := fun H1 e R r =>
  ha H1 e _ fun x H2 e2 hx => hb H2 (e.trans e2) _ fun y H3 e3 hy => by
    obtain ⟨p, rfl, h1⟩ := dp_tI hx
    obtain ⟨q, rfl, h2⟩ := dp_tI hy
    have h1 := ex_t e3 h1
    refine ⟨p, q, _, _, rfl, sqa_t h1, sqa_t h2, r _ H3 (e2.trans e3) ?_⟩
    rw [List.length_zipWith]
    have w := walk_zipM (K := K) (a := p) (b := q) (t := true) (u := true) (xs := a.map V.int) (ys := b.map V.int) (n := min a.length b.length) (by simp)
    refine w.mono (fun Ha x => ⟨sqT_tx (x.tx (hS.ex ((e.trans e2).trans e3))) h1, sqT_tx (x.tx (hS.ex ((e.trans e2).trans e3))) h2⟩) fun i Ha v Hb hlt hg y => ?_
    obtain ⟨T, v1, v2, rfl, hT, rfl, g1, g2⟩ := y
    simp only [List.getElem?_map] at g1 g2
    obtain ⟨n1, m1, rfl⟩ := Option.map_eq_some_iff.mp g1
    obtain ⟨n2, m2, rfl⟩ := Option.map_eq_some_iff.mp g2
    refine ⟨Ex.new hT, .tuple [.int n1, .int n2], ?_, .tup (st_of upd_same) (.cons (.int _) (.cons (.int _) .nil))⟩
    rw [List.getElem?_zipWith, m1, m2]
end
section
variable {P : Program} {w : World} {K : PySem.W.Frag} {mg : Str → Option Value} {base : Heap}
def R_summed (ds : List PyData) (r : PyData) : Prop := ∃ a b : List Int, ds = [tI a, tI b] ∧ a.length ≤ 100 ∧ r = tI (zw (· + ·) a b)
abbrev s_summed : Stmt := topS 24
abbrev N_summed : List Str := ["one", "other", "low", "high"]
theorem sc_summed : FnScope N_summed ["one", "other"] (defScope s_summed) := ⟨rfl, rfl, rfl, by decide +kernel, rfl, by decide +kernel, by decide +kernel⟩
theorem ok_summed {f : Addr} {fd : FuncData} (F : Fun K "summed" "summed" s_summed f fd) (T : Txt mg)
     :
    FnOk P w K mg base CX0 1 f fd ["one", "other"] (spD K 2 R_summed) := by
  refine F.ok sc_summed (fun vs H Q E h => spD_len h) (fun cdv A outer s H vs Q E hr h => ?_)
  obtain ⟨ds, r, hd, _, ⟨a, b, rfl, h1, rfl⟩, k⟩ := h
  obtain ⟨v0, v1, rfl, d0, d1⟩ := dpa_two hd
  refine ⟨_, (pss_one (ps_ret (pe_callTy call_tuple_of (by rfl) T.b_tuple (by decide +kernel) (pa_cons (pe_lc (own := [("low", 2), ("high", 3)]) (g := (gTup K 2 (gCons (gName 2) (gCons (gName 3) gNil)))) (tt := tYes) rfl sc_summed.nd (pi_zipM true true (by rfl) T.b_zip (pa_cons (pv 0) (pa_cons (pv 1) pa_nil))) (blkOk_by (N := N_summed) (sc := defScope s_summed) (by decide +kernel)) (fun _ _ _ _ _ => (pg_tup rfl (pgs_cons (pg_name (i := 2) sc_summed.nd rfl (Or.inl rfl)) (pgs_cons (pg_name (i := 3) sc_summed.nd rfl (Or.inl rfl)) pgs_nil)))) (fun _ _ _ _ _ => pts_nil) (fun _ _ _ _ _ => (pe_op op_add (pv 2) (pv 3)))) pa_nil)))), ?_⟩
  refine d_ret (ed_is (ed_tupleOf (EvN.toD (en_lc (ei_zipTT (Ls.nil _) (ed_var rfl d0) (ed_var rfl d1)) (by rw [List.length_zipWith]; omega) (fun i => .int (a.getD i 0 + b.getD i 0)) (fun _ _ => by simp [imm]) fun H2 i d y Hb Q' e2 hd1 e3 hd2 k2 => ?_))) ?_) k
  · obtain ⟨n, m, g1, g2, rfl⟩ := pairs_get hd1
    refine g_two hd2 fun w1 w2 u1 u2 => ?_
    cases u1
    cases u2
    refine k2 _ Hb (Ex.refl _) rfl (ed_int (ev_is (ev_op (ev_var rfl) (ev_var rfl) rv_I0) ?_))
    rw [List.getD_eq_getElem?_getD, List.getD_eq_getElem?_getD, g1, g2] <;> rfl
  · rw [List.length_zipWith, ← range_zip]
    show PyData.tuple _ = PyData.tuple (List.map PyData.int (List.map _ _))
    rw [List.map_map]
    rfl

def R_reduced (ds : List PyData) (r : PyData) : Prop := ∃ a b : List Int, ds = [tI a, tI b] ∧ a.length ≤ 100 ∧ r = tI (zw (· - ·) a b)
abbrev s_reduced : Stmt := topS 46
abbrev N_reduced : List Str := ["load", "part", "number", "own"]
theorem sc_reduced : FnScope N_reduced ["load", "part"] (defScope s_reduced) := ⟨rfl, rfl, rfl, by decide +kernel, rfl, by decide +kernel, by decide +kernel⟩
theorem ok_reduced {f : Addr} {fd : FuncData} (F : Fun K "reduced" "reduced" s_reduced f fd) (T : Txt mg)
     :
    FnOk P w K mg base CX0 1 f fd ["load", "part"] (spD K 2 R_reduced) := by
  refine F.ok sc_reduced (fun vs H Q E h => spD_len h) (fun cdv A outer s H vs Q E hr h => ?_)
  obtain ⟨ds, r, hd, _, ⟨a, b, rfl, h1, rfl⟩, k⟩ := h
  obtain ⟨v0, v1, rfl, d0, d1⟩ := dpa_two hd
  refine ⟨_, (pss_one (ps_ret (pe_callTy call_tuple_of (by rfl) T.b_tuple (by decide +kernel) (pa_cons (pe_lc (own := [("number", 2), ("own", 3)]) (g := (gTup K 2 (gCons (gName 2) (gCons (gName 3) gNil)))) (tt := tYes) rfl sc_reduced.nd (pi_zipM true true (by rfl) T.b_zip (pa_cons (pv 0) (pa_cons (pv 1) pa_nil))) (blkOk_by (N := N_reduced) (sc := defScope s_reduced) (by decide +kernel)) (fun _ _ _ _ _ => (pg_tup rfl (pgs_cons (pg_name (i := 2) sc_reduced.nd rfl (Or.inl rfl)) (pgs_cons (pg_name (i := 3) sc_reduced.nd rfl (Or.inl rfl)) pgs_nil)))) (fun _ _ _ _ _ => pts_nil) (fun _ _ _ _ _ => (pe_op op_sub (pv 2) (pv 3)))) pa_nil)))), ?_⟩
  refine d_ret (ed_is (ed_tupleOf (EvN.toD (en_lc (ei_zipTT (Ls.nil _) (ed_var rfl d0) (ed_var rfl d1)) (by rw [List.length_zipWith]; omega) (fun i => .int (a.getD i 0 - b.getD i 0)) (fun _ _ => by simp [imm]) fun H2 i d y Hb Q' e2 hd1 e3 hd2 k2 => ?_))) ?_) k
  · obtain ⟨n, m, g1, g2, rfl⟩ := pairs_get hd1
    refine g_two hd2 fun w1 w2 u1 u2 => ?_
    cases u1
    cases u2
    refine k2 _ Hb (Ex.refl _) rfl (ed_int (ev_is (ev_op (ev_var rfl) (ev_var rfl) rv_I0) ?_))
    rw [List.getD_eq_getElem?_getD, List.getD_eq_getElem?_getD, g1, g2] <;> rfl
  · rw [List.length_zipWith, ← range_zip]
    show PyData.tuple _ = PyData.tuple (List.map PyData.int (List.map _ _))
    rw [List.map_map]
    rfl

def blw (a b : List Int) : Bool := (List.zipWith (fun x y => decide (x ≤ y)) a b).all id
def R_is_below (ds : List PyData) (r : PyData) : Prop := ∃ a b : List Int, ds = [tI a, tI b] ∧ r = .bool (blw a b)
theorem blw_no {a b : List Int} {i : Nat} {x y : Int} (h1 : a[i]? = some x) (h2 : b[i]? = some y) (h : ¬ x ≤ y) : blw a b = false := by
  unfold blw
  rw [List.all_eq_false]
  refine ⟨false, List.mem_of_getElem? (i := i) ?_, by simp⟩
  rw [List.getElem?_zipWith, h1, h2]
  simp [h]
theorem blw_yes {a b : List Int} (h : ∀ (i : Nat) x y, a[i]? = some x → b[i]? = some y → x ≤ y) : blw a b = true := by
  unfold blw
  rw [List.all_eq_true]
  intro z hz
  obtain ⟨i, hi⟩ := List.mem_iff_getElem?.mp hz
  rw [List.getElem?_zipWith] at hi
  cases h1 : a[i]? with
  | none => rw [h1] at hi; simp at hi
  | some x =>
    cases h2 : b[i]? with
    | none => rw [h1, h2] at hi; simp at hi
    | some y =>
      rw [h1, h2] at hi
      have := h i x y h1 h2
      simpa [this] using hi.symm
abbrev s_is_below : Stmt := topS 22
abbrev N_is_below : List Str := ["one", "other", "low", "high"]
theorem sc_is_below : FnScope N_is_below ["one", "other"] (defScope s_is_below) := ⟨rfl, rfl, rfl, by decide +kernel, rfl, by decide +kernel, by decide +kernel⟩
theorem ok_is_below {f : Addr} {fd : FuncData} (F : Fun K "is_below" "is_below" s_is_below f fd) (T : Txt mg)
     :
    FnOk P w K mg base CX0 1 f fd ["one", "other"] (spD K 2 R_is_below) := by
  refine F.ok sc_is_below (fun vs H Q E h => spD_len h) (fun cdv A outer s H vs Q E hr h => ?_)
  obtain ⟨ds, r, hd, _, ⟨a, b, rfl, rfl⟩, k⟩ := h
  obtain ⟨v0, v1, rfl, d0, d1⟩ := dpa_two hd
  refine ⟨_, (pss_cons (ps_for PassesOwn.never rfl (pi_zipM true true (by rfl) T.b_zip (pa_cons (pv 0) (pa_cons (pv 1) pa_nil))) (pg_tup rfl (pgs_cons (pg_name (i := 2) sc_is_below.nd rfl (Or.inl rfl)) (pgs_cons (pg_name (i := 3) sc_is_below.nd rfl (Or.inl rfl)) pgs_nil))) (pss_one (ps_if (pt_cmpR op_gt (pv 2) (pv 3) (nomark _)) (pss_one (ps_ret pe_bl)) pss_nil)))
      (pss_one (ps_ret pe_bl))), ?_⟩
  refine e_for (ei_zipTT (Ls.nil _) (ed_var rfl d0) (ed_var rfl d1)) (fun H2 i σ' Ha => Ex H2 Ha ∧ (∃ y z, σ' = [some v0, some v1, y, z]) ∧ ∀ j, j < i → ∀ x y, a[j]? = some x → b[j]? = some y → x ≤ y) (fun H2 e2 => ⟨Ex.refl _, ⟨none, none, rfl⟩, fun j hj => absurd hj (by omega)⟩) (fun H2 i σ' Ha _ p => Xp.of_ex p.1) ?_ ?_
  · rintro H2 i d y σ' Ha Hb e2 hd1 ⟨p1, ⟨z1, z2, rfl⟩, p3⟩ e3 hd2
    obtain ⟨n, m, g1, g2, rfl⟩ := pairs_get hd1
    refine g_two hd2 fun w1 w2 u1 u2 => ?_
    cases u1
    cases u2
    refine s_when (b := decide (m < n)) (et_test (ev_op (ev_var rfl) (ev_var rfl) rv_I0)) (fun hb H3 e4 => ?_) fun hb H3 e4 => ⟨(p1.trans e3).trans e4, ⟨_, _, rfl⟩, fun j hj x y q1 q2 => ?_⟩
    · have no := blw_no g1 g2 (by have := of_decide_eq_true hb; omega)
      rw [no] at k
      exact d_ret (ed_bool ev_c) fun v H4 e5 hv => k v H4 (((e2.trans (p1.trans e3)).trans e4).trans e5) hv
    · by_cases ej : j = i
      · subst ej
        rw [g1] at q1
        rw [g2] at q2
        cases q1
        cases q2
        have := of_decide_eq_false hb
        omega
      · exact p3 j (by omega) x y q1 q2
  · rintro H2 σ' Ha e2 ⟨p1, ⟨z1, z2, rfl⟩, p3⟩
    have yes : blw a b = true := blw_yes fun i x y q1 q2 => p3 i (by
      rw [List.length_zipWith]
      have l1 := (List.getElem?_eq_some_iff.mp q1).1
      have l2 := (List.getElem?_eq_some_iff.mp q2).1
      omega) x y q1 q2
    rw [yes] at k
    exact d_ret (ed_bool ev_c) fun v H4 e5 hv => k v H4 ((e2.trans p1).trans e5) hv

theorem cut_lo (ds : List PyData) (p : Nat) (h : p ≤ ds.length) : DL.cutD ds none (some (p : Int)) = ds.take p := by
  unfold DL.cutD
  rw [HT.sIx_none, HT.sIx_nat, Nat.min_eq_left h]
  rfl
theorem cut_hi (ds : List PyData) (p : Nat) (h : p ≤ ds.length) : DL.cutD ds (some (p : Int)) none = ds.drop p := by
  unfold DL.cutD
  rw [HT.sIx_none, HT.sIx_nat, Nat.min_eq_left h]
  exact List.take_of_length_le (by simp)
def R_raised (ds : List PyData) (r : PyData) : Prop := ∃ (l : List Int) (p : Nat) (y : Int), ds = [tI l, .int (p : Int), .int y] ∧ p < l.length ∧ l.length ≤ 100 ∧ r = tI (l.set p (l.getD p 0 + y))
abbrev s_raised : Stmt := topS 23
abbrev N_raised : List Str := ["load", "place", "by"]
theorem sc_raised : FnScope N_raised ["load", "place", "by"] (defScope s_raised) := ⟨rfl, rfl, rfl, by decide +kernel, rfl, by decide +kernel, by decide +kernel⟩
theorem ok_raised {f : Addr} {fd : FuncData} (F : Fun K "raised" "raised" s_raised f fd) (T : Txt mg)
     :
    FnOk P w K mg base CX0 1 f fd ["load", "place", "by"] (spD K 3 R_raised) := by
  refine F.ok sc_raised (fun vs H Q E h => spD_len h) (fun cdv A outer s H vs Q E hr h => ?_)
  obtain ⟨ds, r, hd, _, ⟨l, p, y, rfl, h1, h2, rfl⟩, k⟩ := h
  obtain ⟨v0, v1, v2, rfl, d0, d1, d2⟩ := dpa_three hd
  cases dp_int d1
  cases dp_int d2
  refine ⟨_, (pss_one (ps_ret (pe_op op_catA (pe_op op_catA (pe_slice sl_tupA (pv 0) po_none (po_some (pv 1))) (pe_tup (pa_cons (pe_op op_add (pe_ix ix_tup (pv 0) (pv 1) (fun _ _ => rfl)) (pv 2)) pa_nil))) (pe_slice sl_tupA (pv 0) (po_some (pe_op op_add (pv 1) pe_int)) po_none)))), ?_⟩
  have e1 : EvD K (tOp (rI0 fun i j => .int (i + j)) (tOp (rIxT K) (tVar 0) (tVar 1)) (tVar 2)) (L2.start N_raised [v0, .int (p : Int), .int y]) H (.int (l.getD p 0 + y)) := ed_int (ev_op (EvD.int (ed_ixT (ds := dI l) (ed_var rfl d0) (ev_var rfl) (by rw [List.getElem?_map, List.getElem?_eq_getElem h1, List.getD_eq_getElem?_getD, List.getElem?_eq_getElem h1]; rfl))) (ev_var rfl) rv_I0)
  refine d_ret (ed_is (ed_cat (ed_cat (ed_sl (ed_var rfl d0) eo_none (eo_some (ev_var rfl))) (ed_tup (eda_cons e1 eda_nil) (by simp)) ?_) (ed_sl (ed_var rfl d0) (eo_some (ev_op (ev_var rfl) ev_c rv_I0)) eo_none) ?_) ?_) k
  · rw [cut_lo _ _ (by rw [List.length_map]; omega), List.length_take, List.length_map]
    simp
    omega
  · rw [cut_lo _ _ (by rw [List.length_map]; omega), show ((p : Int) + 1) = ((p + 1 : Nat) : Int) by omega, cut_hi _ _ (by rw [List.length_map]; omega), List.length_append, List.length_take, List.length_drop, List.length_map]
    simp
    omega
  · rw [cut_lo _ _ (by rw [List.length_map]; omega), show ((p : Int) + 1) = ((p + 1 : Nat) : Int) by omega, cut_hi _ _ (by rw [List.length_map]; omega)]
    show PyData.tuple _ = PyData.tuple _
    show PyData.tuple (((l.map PyData.int).take p ++ [.int (l.getD p 0 + y)]) ++ (l.map PyData.int).drop (p + 1)) = PyData.tuple ((l.set p (l.getD p 0 + y)).map PyData.int)
    rw [List.set_eq_take_append_cons_drop, if_pos h1, List.map_append, List.map_cons, List.map_take, List.map_drop]
    simp

end
end K20
set_option Elab.async false
set_option linter.all false
set_option maxRecDepth 100000
set_option maxHeartbeats 4000000
namespace K20
open PySem PySem.Spec PyProof.Rows L2 Evl DL
local macro_rules | `(tactic| walk_at "dl") => `(tactic| first
  | exact ev_c | exact ev_var rfl | exact eda_nil
  | exact ed_var rfl (by assumption)
  | exact ed_int ev_c | exact ed_int (ev_var rfl)
  | (refine eda_cons ?_ ?_ <;> walk_at "dl")
  | (refine ed_int ?_; walk_at "dl")
  | (refine ev_op ?_ ?_ rv_I0 <;> walk_at "dl"))

/-- the greatest -/
def mxl : List Int → Int
  | [] => 0
  | x :: r => r.foldl max x
theorem foldl_max_ge : ∀ (r : List Int) (x : Int), x ≤ r.foldl max x ∧ (∀ y ∈ r, y ≤ r.foldl max x) ∧ (r.foldl max x = x ∨ r.foldl max x ∈ r)
  | [], x => ⟨Int.le_refl _, fun y hy => by simp at hy, .inl rfl⟩
  | y :: r, x => by
    obtain ⟨h1, h2, h3⟩ := foldl_max_ge r (max x y)
    rw [List.foldl_cons]
    refine ⟨by omega, fun z hz => ?_, ?_⟩
    · rcases List.mem_cons.mp hz with rfl | hz
      · omega
      · exact h2 z hz
    · rcases h3 with h3 | h3
      · rw [h3]
        by_cases h : y ≤ x
        · exact .inl (by omega)
        · exact .inr (List.mem_cons.mpr (.inl (by omega)))
      · exact .inr (List.mem_cons_of_mem _ h3)
theorem mxl_mem {l : List Int} (h : 0 < l.length) : mxl l ∈ l := by
  cases l with
  | nil => simp at h
  | cons x r =>
    rcases (foldl_max_ge r x).2.2 with e | e
    · exact List.mem_cons.mpr (.inl e)
    · exact List.mem_cons_of_mem _ e
theorem mxl_ge {l : List Int} {y : Int} (h : y ∈ l) : y ≤ mxl l := by
  cases l with
  | nil => simp at h
  | cons x r =>
    rcases List.mem_cons.mp h with rfl | h
    · exact (foldl_max_ge r y).1
    · exact (foldl_max_ge r x).2.1 y h
section
variable {K : PySem.W.Frag} {σ : L2.St} {H H2 Ha : Hp} {ta tb te : TE}
theorem xp_fresh {p : Addr} (e : Ex H H2) (x : Xp [p] H2 Ha) (h : H p = none) : Ex H Ha := fun a o ho => x a o (e a o ho) (fun hm => by
  have : a = p := by simpa using hm
  rw [this, h] at ho
  cases ho)
/-- xs[i] op= e, a list of ints -/
theorem d_augL {D : Ends} {f : Int → Int → Int} {l : Addr} {ns : List Int} {a b j : Nat} {y : Int} (hl : H l = some (.lst (ns.map V.int))) (ho : σ[a]? = some (some (.ref l))) (hi : σ[b]? = some (some (.int (j : Int)))) (hj : j < ns.length) (he : Ev te σ H (.int y))
    (k : ∀ H1, Ex H H1 → D.nx σ (upd H1 l (.lst ((ns.set j (f (ns.getD j 0) y)).map V.int)))) : tAugS (tVar a) (tVar b) te (rGetL K) (ipI f) rSetL D σ H := by
  have g : (ns.map V.int)[j]? = some (.int (ns.getD j 0)) := by
    rw [List.getElem?_map, List.getElem?_eq_getElem hj, List.getD_eq_getElem?_getD, List.getElem?_eq_getElem hj]
    rfl
  refine ⟨_, ho, _, hi, l, _, _, j, rfl, rfl, sq_of hl, g, ?_⟩
  refine he H (Ex.refl _) _ fun H1 e1 => ⟨_, _, rfl, rfl, l, ns.map V.int, (j : Int), j, rfl, rfl, e1 _ _ hl, ixN_nat (by rw [List.length_map]; exact hj), ?_⟩
  have q := k H1 e1
  rw [List.map_set] at q
  exact q
theorem q_augL {D : Ends} {tz : TS} {f : Int → Int → Int} {l : Addr} {ns : List Int} {a b j : Nat} {y : Int} (hl : H l = some (.lst (ns.map V.int))) (ho : σ[a]? = some (some (.ref l))) (hi : σ[b]? = some (some (.int (j : Int)))) (hj : j < ns.length) (he : Ev te σ H (.int y))
    (k : ∀ H1, Ex H H1 → tz D σ (upd H1 l (.lst ((ns.set j (f (ns.getD j 0) y)).map V.int)))) : tSeq (tAugS (tVar a) (tVar b) te (rGetL K) (ipI f) rSetL) tz D σ H := d_augL (D := { D with nx := tz D }) hl ho hi hj he k
/-- zip of a new list of pairs and a tuple of ints -/
theorem ei_zipNT {S : List Addr} {ps : List (Int × Int)} {b : List Int} (hS : Ls H S) (ha : EvN K ta σ H (ps.map pD)) (hb : EvD K tb σ H (tI b)) :
    EvI K (iZipM K false true (tCons ta (tCons tb tNil))) σ H S (List.zipWith (fun p y => PyData.tuple [pD p, .int y]) ps b) := fun H1 e R r =>
  ha H1 e _ fun p vs H2 hp e2 h2 hd => hb H2 (e.trans e2) _ fun y H3 e3 hy => by
    obtain ⟨q, rfl, h4⟩ := dp_tI hy
    have h3 := e3 _ _ h2
    have hd3 := dpa_ex e3 _ _ hd
    have hn : p ∉ S := fresh_notin (hS.ex e) hp
    have lv : vs.length = ps.length := by rw [dpa_len hd, List.length_map]
    refine ⟨p, q, _, _, rfl, sqa_l (sq_of h3), sqa_t h4, r _ H3 (e2.trans e3) ?_⟩
    rw [List.length_zipWith]
    have w := walk_zipM (K := K) (a := p) (b := q) (t := false) (u := true) (xs := vs) (ys := b.map V.int) (n := min ps.length b.length) (by rw [lv, List.length_map])
    have ls3 := hS.ex ((e.trans e2).trans e3)
    refine w.mono (fun Ha x => ⟨sq_of (x p _ h3 hn), sqT_tx (x.tx ls3) h4⟩) fun i Ha v Hb hlt hg y => ?_
    obtain ⟨T, v1, v2, rfl, hT, rfl, g1, g2⟩ := y
    simp only [List.getElem?_map] at g2
    obtain ⟨n2, m2, rfl⟩ := Option.map_eq_some_iff.mp g2
    have tx : Tx H3 (upd Ha T (.tup [v1, .int n2])) := (hg.tx ls3).trans (Tx.of_ex (Ex.new hT))
    obtain ⟨d1, q1, q2⟩ := dpa_getV (dpa_tx tx _ _ (immAll_map (fun _ => imm_tI _) _) hd3) g1
    rw [List.getElem?_map] at q1
    obtain ⟨pp, m1, rfl⟩ := Option.map_eq_some_iff.mp q1
    refine ⟨Ex.new hT, .tuple [pD pp, .int n2], ?_, .tup (st_of upd_same) (.cons q2 (.cons (.int _) .nil))⟩
    rw [List.getElem?_zipWith, m1, m2]
end
section
variable {P : Program} {w : World} {K : PySem.W.Frag} {mg : Str → Option Value} {base : Heap}
def stp (acc : List Int) (q : (Int × Int) × Int) : List Int :=
  (acc.set q.1.1.toNat (acc.getD q.1.1.toNat 0 + q.2)).set q.1.2.toNat ((acc.set q.1.1.toNat (acc.getD q.1.1.toNat 0 + q.2)).getD q.1.2.toNat 0 + q.2)
def sms (s : Int) (l : List Int) : List Int := ((prs s).zip l).foldl stp (List.replicate s.toNat 0)
theorem stp_len (acc : List Int) (q : (Int × Int) × Int) : (stp acc q).length = acc.length := by simp [stp]
theorem stps_len : ∀ (qs : List ((Int × Int) × Int)) (acc : List Int), (qs.foldl stp acc).length = acc.length
  | [], _ => rfl
  | q :: qs, acc => by rw [List.foldl_cons, stps_len qs, stp_len]
theorem sms_len (s : Int) (l : List Int) : (sms s l).length = s.toNat := by rw [sms, stps_len, List.length_replicate]
theorem prs_in {s : Int} (h1 : 0 ≤ s) (h2 : s ≤ 5) {p : Int × Int} (h : p ∈ prs s) : 0 ≤ p.1 ∧ p.1 < p.2 ∧ p.2 < s := by
  unfold prs at h
  rw [List.mem_flatMap] at h
  obtain ⟨i, hi, h⟩ := h
  obtain ⟨j, hj, rfl⟩ := List.mem_map.mp h
  have := List.mem_range.mp hi
  have := List.mem_range.mp hj
  show 0 ≤ (i : Int) ∧ (i : Int) < (i : Int) + 1 + (j : Int) ∧ (i : Int) + 1 + (j : Int) < s
  omega
def R_sums_at_sides (ds : List PyData) (r : List PyData) : Prop := ∃ (s : Int) (l : List Int), ds = [.int s, tI l] ∧ 2 ≤ s ∧ s ≤ 5 ∧ r = dI (sms s l)
abbrev s_sums_at_sides : Stmt := topS 25
abbrev N_sums_at_sides : List Str := ["sides", "load", "sums", "side", "far", "number"]
theorem sc_sums_at_sides : FnScope N_sums_at_sides ["sides", "load"] (defScope s_sums_at_sides) := ⟨rfl, rfl, rfl, by decide +kernel, rfl, by decide +kernel, by decide +kernel⟩
theorem ok_sums_at_sides {f : Addr} {fd : FuncData} (F : Fun K "sums_at_sides" "sums_at_sides" s_sums_at_sides f fd) (T : Txt mg)
    (D_side_pairs : DF P w K mg base "side_pairs" 1 ["sides"] (spN K 1 R_side_pairs)) :
    FnOk P w K mg base CX0 2 f fd ["sides", "load"] (spN K 2 R_sums_at_sides) := by
  refine F.ok sc_sums_at_sides (fun vs H Q E h => spN_len h) (fun cdv A outer s H vs Q E hr h => ?_)
  obtain ⟨ds, r, hd, _, ⟨x, l, rfl, h1, h2, rfl⟩, k⟩ := h
  obtain ⟨v0, rfl, d0⟩ := dpa_it hd
  refine ⟨_, (pss_cons (ps_set (i := 2) sc_sums_at_sides.nd rfl (.inl rfl) (pe_op op_rep (pe_lst (pa_cons pe_int pa_nil)) (pv 0)))
      (pss_cons (ps_for PassesOwn.never rfl (pi_zipM false true (by rfl) T.b_zip (pa_cons (pe_D D_side_pairs (hr.mono (by decide)) (by rfl) (pa_cons (pv 0) pa_nil)) (pa_cons (pv 1) pa_nil))) (pg_tup rfl (pgs_cons (pg_tup rfl (pgs_cons (pg_name (i := 3) sc_sums_at_sides.nd rfl (Or.inl rfl)) (pgs_cons (pg_name (i := 4) sc_sums_at_sides.nd rfl (Or.inl rfl)) pgs_nil))) (pgs_cons (pg_name (i := 5) sc_sums_at_sides.nd rfl (Or.inl rfl)) pgs_nil))) (pss_cons (ps_augS (pv 2) (pv 3) get_list (pv 5) ip_add set_list)
      (pss_one (ps_augS (pv 2) (pv 4) get_list (pv 5) ip_add set_list))))
      (pss_one (ps_ret (pv 2))))), ?_⟩
  refine qn_asg (K := K) (en_rep (d := .int 0) (EvN.toQ (en_lst (eda_cons (ed_int ev_c) eda_nil) (by simp))) (ev_var rfl) (by omega) (by omega)) fun p vs H1 hp e1 h1' hd1 => ?_
  have hz : vs = (List.replicate x.toNat (0 : Int)).map V.int := by
    have := dpa_ints (l := List.replicate x.toNat 0) (by rw [dI, List.map_replicate]; exact hd1)
    exact this
  subst hz
  have d1 := dp_ex e1 _ _ d0
  refine e_for (S := [p]) (ei_zipNT (ps := prs x) (b := l) (Ls.one h1') (en_call (R := R_side_pairs) (ds := [.int x]) (by walk_at "dl") rfl ⟨x, rfl, by omega, h2, rfl⟩) (ed_var (v := v0) rfl d1))
    (fun H2 i σ' Ha => Xp [p] H2 Ha ∧ Ha p = some (.lst (((((prs x).zip l).take i).foldl stp (List.replicate x.toNat 0)).map V.int)) ∧ ∃ a b c, σ' = [some (.int x), some v0, some (.ref p), a, b, c])
    (fun H2 e2 => ⟨Xp.refl _ _, e2 _ _ h1', none, none, none, rfl⟩) (fun H2 i σ' Ha _ q => q.1) ?_ ?_
  · rintro H2 i d y σ' Ha Hb e2 hg ⟨p1, p2, a, b, c, rfl⟩ e3 hd2
    rw [List.getElem?_zipWith] at hg
    cases g1 : (prs x)[i]? with
    | none => rw [g1] at hg; simp at hg
    | some pp =>
      cases g2 : l[i]? with
      | none => rw [g1, g2] at hg; simp at hg
      | some n =>
        rw [g1, g2] at hg
        have hg : PyData.tuple [pD pp, .int n] = d := by simpa using hg
        subst hg
        obtain ⟨q1, q2, q3⟩ := prs_in (by omega) h2 (List.mem_of_getElem? g1)
        refine g_two hd2 fun w1 w2 u1 u2 => g_two u1 fun w3 w4 u3 u4 => ?_
        cases u2
        cases u3
        cases u4
        have at_ := e3 _ _ p2
        have len : ((((prs x).zip l).take i).foldl stp (List.replicate x.toNat 0)).length = x.toNat := by rw [stps_len, List.length_replicate]
        refine q_augL (j := pp.1.toNat) at_ rfl (by rw [Int.toNat_of_nonneg q1]; rfl) (by omega) (ev_var rfl) fun H3 e4 => ?_
        refine d_augL (j := pp.2.toNat) upd_same rfl (by rw [Int.toNat_of_nonneg (by omega)]; rfl) (by rw [List.length_set]; omega) (ev_var rfl) fun H4 e5 => ?_
        refine ⟨Xp.upd (Xp.then (Xp.upd ((p1.then e3).then e4) (by simp)) e5) (by simp), ?_, _, _, _, rfl⟩
        rw [upd_same, List.take_add_one, show ((prs x).zip l)[i]? = some (pp, n) by rw [List.getElem?_zip_eq_some]; exact ⟨g1, g2⟩]
        simp only [Option.toList_some, List.foldl_append, List.foldl_cons, List.foldl_nil]
        rfl
  · rintro H2 σ' Ha e2 ⟨p1, p2, a, b, c, rfl⟩
    have e0 : Ex H Ha := xp_fresh (e1.trans e2) p1 hp
    rw [List.length_zipWith, List.take_of_length_le (by rw [List.length_zip]; omega)] at p2
    exact ⟨.ref p, rfl, k p _ Ha hp e0 p2 (ints_dpa _)⟩

def R_is_let (ds : List PyData) (r : PyData) : Prop := ∃ (s : Int) (l : List Int) (m : Int), ds = [.int s, tI l, .int m] ∧ 2 ≤ s ∧ s ≤ 5 ∧ r = .bool (decide (mxl (sms s l) ≤ m))
abbrev s_is_let : Stmt := topS 33
abbrev N_is_let : List Str := ["sides", "load", "room"]
theorem sc_is_let : FnScope N_is_let ["sides", "load", "room"] (defScope s_is_let) := ⟨rfl, rfl, rfl, by decide +kernel, rfl, by decide +kernel, by decide +kernel⟩
theorem ok_is_let {f : Addr} {fd : FuncData} (F : Fun K "is_let" "is_let" s_is_let f fd) (T : Txt mg)
    (D_sums_at_sides : DF P w K mg base "sums_at_sides" 2 ["sides", "load"] (spN K 2 R_sums_at_sides)) :
    FnOk P w K mg base CX0 3 f fd ["sides", "load", "room"] (spD K 3 R_is_let) := by
  refine F.ok sc_is_let (fun vs H Q E h => spD_len h) (fun cdv A outer s H vs Q E hr h => ?_)
  obtain ⟨ds, r, hd, _, ⟨x, l, m, rfl, h1, h2, rfl⟩, k⟩ := h
  obtain ⟨v0, rfl, d0⟩ := dpa_iti hd
  refine ⟨_, (pss_one (ps_ret (pe_cmpR op_le (pe_callB (cr_max rfl) (by rfl) T.b_max (by decide +kernel) (pa_cons (pe_D D_sums_at_sides (hr.mono (by decide)) (by rfl) (pa_cons (pv 0) (pa_cons (pv 1) pa_nil))) pa_nil)) (pv 2) (nomark _)))), ?_⟩
  have h0 : 0 < (sms x l).length := by rw [sms_len]; omega
  exact d_ret (ed_bool (ev_op (ev_maxL (EvN.toD (en_call (ds := [.int x, tI l]) (by walk_at "dl") rfl ⟨x, l, rfl, h1, h2, rfl⟩)) h0 (mxl_mem h0) fun y hy => mxl_ge hy) (ev_var rfl) rv_I0)) k

def R_check_plain_load (ds : List PyData) (r : PyData) : Prop := ∃ (s : Int) (l : List Int), ds = [.int s, tI l] ∧ 2 ≤ s ∧ s ≤ 4 ∧ Ld s l ∧ r = .none
abbrev s_check_plain_load : Stmt := topS 31
abbrev N_check_plain_load : List Str := ["sides", "load"]
theorem sc_check_plain_load : FnScope N_check_plain_load ["sides", "load"] (defScope s_check_plain_load) := ⟨rfl, rfl, rfl, by decide +kernel, rfl, by decide +kernel, by decide +kernel⟩
theorem ok_check_plain_load {f : Addr} {fd : FuncData} (F : Fun K "check_plain_load" "check_plain_load" s_check_plain_load f fd) (T : Txt mg)
    (D_check_load : DF P w K mg base "check_load" 5 ["sides", "load"] (spD K 2 R_check_load)) (D_check_sides : DF P w K mg base "check_sides" 3 ["sides", "most"] (spD K 2 R_check_sides)) :
    FnOk P w K mg base CX0 6 f fd ["sides", "load"] (spD K 2 R_check_plain_load) := by
  refine F.ok sc_check_plain_load (fun vs H Q E h => spD_len h) (fun cdv A outer s H vs Q E hr h => ?_)
  obtain ⟨ds, r, hd, _, ⟨x, l, rfl, h1, h2, hl, rfl⟩, k⟩ := h
  obtain ⟨v0, rfl, d0⟩ := dpa_it hd
  refine ⟨_, (pss_cons (ps_expr (pe_D D_check_sides (hr.mono (by decide)) (by rfl) (pa_cons (pv 0) (pa_cons (pe_const T.c_MOST_PLAIN_SIDES (by rfl)) pa_nil))))
      (pss_one (ps_expr (pe_D D_check_load (hr.mono (by decide)) (by rfl) (pa_cons (pv 0) (pa_cons (pv 1) pa_nil)))))), ?_⟩
  refine (qd_drop (K := K) (d := .none) (ed_call (R := R_check_sides) (ds := [.int x, .int 4]) (by walk_at "dl") rfl ⟨x, 4, rfl, h1, h2, rfl⟩) fun H1 e1 => ?_)
  have d1 := dp_ex e1 _ _ d0
  exact d_drop (K := K) (d := .none) (ed_call (R := R_check_load) (ds := [.int x, tI l]) (by walk_at "dl") rfl ⟨x, l, rfl, h1, by omega, hl, rfl⟩) fun H2 e2 => k .non H2 (e1.trans e2) .non

def R_side_sums (ds : List PyData) (r : PyData) : Prop := ∃ (s : Int) (l : List Int), ds = [.int s, tI l] ∧ 2 ≤ s ∧ s ≤ 4 ∧ Ld s l ∧ r = tI (sms s l)
abbrev s_side_sums : Stmt := topS 37
abbrev N_side_sums : List Str := ["sides", "load"]
theorem sc_side_sums : FnScope N_side_sums ["sides", "load"] (defScope s_side_sums) := ⟨rfl, rfl, rfl, by decide +kernel, rfl, by decide +kernel, by decide +kernel⟩
theorem ok_side_sums {f : Addr} {fd : FuncData} (F : Fun K "side_sums" "side_sums" s_side_sums f fd) (T : Txt mg)
    (D_check_plain_load : DF P w K mg base "check_plain_load" 6 ["sides", "load"] (spD K 2 R_check_plain_load)) (D_sums_at_sides : DF P w K mg base "sums_at_sides" 2 ["sides", "load"] (spN K 2 R_sums_at_sides)) :
    FnOk P w K mg base CX0 7 f fd ["sides", "load"] (spD K 2 R_side_sums) := by
  refine F.ok sc_side_sums (fun vs H Q E h => spD_len h) (fun cdv A outer s H vs Q E hr h => ?_)
  obtain ⟨ds, r, hd, _, ⟨x, l, rfl, h1, h2, hl, rfl⟩, k⟩ := h
  obtain ⟨v0, rfl, d0⟩ := dpa_it hd
  refine ⟨_, (pss_cons (ps_expr (pe_D D_check_plain_load (hr.mono (by decide)) (by rfl) (pa_cons (pv 0) (pa_cons (pv 1) pa_nil))))
      (pss_one (ps_ret (pe_callTy call_tuple_of (by rfl) T.b_tuple (by decide +kernel) (pa_cons (pe_D D_sums_at_sides (hr.mono (by decide)) (by rfl) (pa_cons (pv 0) (pa_cons (pv 1) pa_nil))) pa_nil))))), ?_⟩
  refine (qd_drop (K := K) (d := .none) (ed_call (R := R_check_plain_load) (ds := [.int x, tI l]) (by walk_at "dl") rfl ⟨x, l, rfl, h1, h2, hl, rfl⟩) fun H1 e1 => ?_)
  have d1 := dp_ex e1 _ _ d0
  exact d_ret (ed_tupleOf (EvN.toD (en_call (ds := [.int x, tI l]) (by walk_at "dl") rfl ⟨x, l, rfl, h1, by omega, rfl⟩))) fun v H2 e2 hv => k v H2 (e1.trans e2) hv

end
end K20
set_option Elab.async false
set_option linter.all false
set_option maxRecDepth 100000
set_option maxHeartbeats 4000000
namespace K20
open PySem PySem.Spec PyProof.Rows L2 Evl DL
local macro_rules | `(tactic| walk_at "dl") => `(tactic| first
  | exact ev_c | exact ev_var rfl | exact eda_nil
  | exact ed_var rfl (by assumption)
  | exact ed_int ev_c | exact ed_int (ev_var rfl)
  | (refine eda_cons ?_ ?_ <;> walk_at "dl")
  | (refine ed_int ?_; walk_at "dl")
  | (refine ev_op ?_ ?_ rv_I0 <;> walk_at "dl"))

theorem plc_ok {s a b : Int} (h1 : 2 ≤ s) (h2 : s ≤ 5) (ha : 0 ≤ a) (hb : a < b) (hs : b < s) : 0 ≤ plc s a b ∧ (plc s a b).toNat < np s := by
  have n2 : np 2 = 1 := by decide
  have n3 : np 3 = 3 := by decide
  have n4 : np 4 = 6 := by decide
  have n5 : np 5 = 10 := by decide
  have hs' : s = 2 ∨ s = 3 ∨ s = 4 ∨ s = 5 := by omega
  have ha' : a = 0 ∨ a = 1 ∨ a = 2 ∨ a = 3 := by omega
  unfold plc
  rcases hs' with rfl | rfl | rfl | rfl <;> rcases ha' with rfl | rfl | rfl | rfl <;> simp only [n2, n3, n4, n5] <;> omega
section
variable {P : Program} {w : World} {K : PySem.W.Frag} {mg : Str → Option Value} {base : Heap}
def tr3 (s : Int) (i j : Nat) : List (List Int) := (List.range (s - ((i : Int) + 1 + (j : Int) + 1)).toNat).map fun (k : Nat) => [(i : Int), (i : Int) + 1 + (j : Int), (i : Int) + 1 + (j : Int) + 1 + (k : Int)]
def tr2 (s : Int) (i : Nat) : List (List Int) := (List.range (s - ((i : Int) + 1)).toNat).flatMap fun (j : Nat) => tr3 s i j
def tri (s : Int) : List (List Int) := (List.range s.toNat).flatMap fun (i : Nat) => tr2 s i
def R_triangles (ds : List PyData) (r : List PyData) : Prop := ∃ s : Int, ds = [.int s] ∧ 2 ≤ s ∧ s ≤ 4 ∧ r = (tri s).map tI
/-- the list at p holds such tuples, the slots of the loops behind it -/
def TrW (K : PySem.W.Frag) (x : Int) (p : Addr) (H0 : Hp) (l : List (List Int)) (σ : L2.St) (Ha : Hp) : Prop :=
  Xp [p] H0 Ha ∧ (∃ ws, Ha p = some (.lst ws) ∧ DpAll K Ha ws (l.map tI)) ∧ l.length ≤ 1000 ∧ ∃ a b c, σ = [some (.int x), some (.ref p), a, b, c]
theorem flat_succ {α : Type} (f : Nat → List α) (n : Nat) : (List.range (n + 1)).flatMap f = (List.range n).flatMap f ++ f n := by
  rw [List.range_succ, List.flatMap_append, List.flatMap_cons, List.flatMap_nil, List.append_nil]
theorem tri_small {x : Int} (h1 : 2 ≤ x) (h2 : x ≤ 4) : True := trivial
abbrev s_triangles : Stmt := topS 34
abbrev N_triangles : List Str := ["sides", "found", "side", "far", "last"]
theorem sc_triangles : FnScope N_triangles ["sides"] (defScope s_triangles) := ⟨rfl, rfl, rfl, by decide +kernel, rfl, by decide +kernel, by decide +kernel⟩
theorem ok_triangles {f : Addr} {fd : FuncData} (F : Fun K "triangles" "triangles" s_triangles f fd) (T : Txt mg)
     :
    FnOk P w K mg base CX0 1 f fd ["sides"] (spN K 1 R_triangles) := by
  refine F.ok sc_triangles (fun vs H Q E h => spN_len h) (fun cdv A outer s H vs Q E hr h => ?_)
  obtain ⟨ds, r, hd, _, ⟨x, rfl, h1, h2, rfl⟩, k⟩ := h
  obtain rfl := dpa_ints (l := [x]) hd
  refine ⟨_, (pss_cons (ps_set (i := 1) sc_triangles.nd rfl (.inl rfl) (pe_lst pa_nil))
      (pss_cons (ps_for PassesOwn.never rfl (pi_range1 (by rfl) T.b_range (pa_cons (pv 0) pa_nil)) (pg_name (i := 2) sc_triangles.nd rfl (Or.inl rfl)) (pss_one (ps_for PassesOwn.never rfl (pi_range2 (by rfl) T.b_range (pa_cons (pe_op op_add (pv 2) pe_int) (pa_cons (pv 0) pa_nil))) (pg_name (i := 3) sc_triangles.nd rfl (Or.inl rfl)) (pss_one (ps_for PassesOwn.never rfl (pi_range2 (by rfl) T.b_range (pa_cons (pe_op op_add (pv 3) pe_int) (pa_cons (pv 0) pa_nil))) (pg_name (i := 4) sc_triangles.nd rfl (Or.inl rfl)) (pss_one (ps_expr (pe_bm PySem.F.plainAttrs_list PySem.F.slot_list_append PySem.F.type_list_append mt_append (pv 1) (pa_cons (pe_tup (pa_cons (pv 2) (pa_cons (pv 3) (pa_cons (pv 4) pa_nil)))) pa_nil)))))))))
      (pss_one (ps_ret (pv 1))))), ?_⟩
  refine qn_asg (K := K) (en_lst eda_nil (by simp)) fun p vs H1 hp e1 h1' hd1 => ?_
  cases hd1
  have sm3 : ∀ i j : Nat, (tr3 x i j).length ≤ 4 := fun i j => by rw [tr3, List.length_map, List.length_range]; omega
  have sm2 : ∀ (i n : Nat), ((List.range n).flatMap fun j => tr3 x i j).length ≤ 4 * n := fun i n => by
    induction n with
    | zero => simp
    | succ n ih => rw [flat_succ, List.length_append]; have := sm3 i n; omega
  have sm1 : ∀ n : Nat, ((List.range n).flatMap fun i => tr2 x i).length ≤ 16 * n := fun n => by
    induction n with
    | zero => simp
    | succ n ih =>
      rw [flat_succ, List.length_append]
      have := sm2 n (x - ((n : Int) + 1)).toNat
      unfold tr2
      unfold tr2 at ih
      omega
  refine e_for (K := K) (S := [p]) (ei_rng1 (n := x) (by walk_at "dl") (by omega)) (fun H2 i σ' Ha => TrW K x p H2 ((List.range i).flatMap fun i => tr2 x i) σ' Ha)
    (fun H2 e2 => ⟨Xp.refl _ _, ⟨[], e2 _ _ h1', by simp; exact .nil⟩, by simp, none, none, none, rfl⟩) (fun H2 i σ' Ha _ q => q.1) ?_ ?_
  · rintro H2 i d y σ' Ha Hb e2 hg ⟨p1, ⟨ws, p2, p3⟩, p4, a, b, c, rfl⟩ e3 hd2
    have hlt : i < x.toNat := by have := (List.getElem?_eq_some_iff.mp hg).1; simpa using this
    rw [rng_get hlt] at hg
    cases hg
    cases hd2
    have at1 := e3 _ _ p2
    refine d_for (K := K) (S := [p]) (ei_rng2 (m := (i : Int) + 1) (n := x) (eda_cons (ed_int (ev_op (ev_var rfl) ev_c rv_I0)) (eda_cons (ed_int (ev_var rfl)) eda_nil)) (by omega))
      (fun H3 j σ' Ha => Xp [p] H2 H3 ∧ TrW K x p H3 (((List.range i).flatMap fun i => tr2 x i) ++ (List.range j).flatMap fun j => tr3 x i j) σ' Ha ∧ σ'[2]? = some (some (.int (i : Int))))
      (fun H3 e4 => ⟨(p1.then e3).then e4, ⟨Xp.refl _ _, ⟨ws, e4 _ _ at1, by simp; exact dpa_ex (e3.trans e4) _ _ p3⟩, by simpa using p4, _, _, _, rfl⟩, rfl⟩) (fun H3 j σ' Ha _ q => q.2.1.1) ?_ ?_
    · rintro H3 j d y σ' Ha Hb e4 hg ⟨q0, ⟨q1, ⟨wt, q2, q3⟩, q4, a, b, c, rfl⟩, q5⟩ e5 hd3
      have hlt2 : j < (x - ((i : Int) + 1)).toNat := by have := (List.getElem?_eq_some_iff.mp hg).1; simpa using this
      rw [rng_get hlt2] at hg
      cases hg
      cases hd3
      have ea : a = some (.int (i : Int)) := by simpa using q5
      subst ea
      have at2 := e5 _ _ q2
      refine d_for (K := K) (S := [p]) (ei_rng2 (m := (i : Int) + 1 + (j : Int) + 1) (n := x) (eda_cons (ed_int (ev_op (ev_var rfl) ev_c rv_I0)) (eda_cons (ed_int (ev_var rfl)) eda_nil)) (by omega))
        (fun H4 k σ' Ha => Xp [p] H3 H4 ∧ TrW K x p H4 ((((List.range i).flatMap fun i => tr2 x i) ++ (List.range j).flatMap fun j => tr3 x i j) ++ (List.range k).map fun (k : Nat) => [(i : Int), (i : Int) + 1 + (j : Int), (i : Int) + 1 + (j : Int) + 1 + (k : Int)]) σ' Ha ∧ σ'[2]? = some (some (.int (i : Int))) ∧ σ'[3]? = some (some (.int ((i : Int) + 1 + (j : Int)))))
        (fun H4 e6 => ⟨(q1.then e5).then e6, ⟨Xp.refl _ _, ⟨wt, e6 _ _ at2, by simp; exact dpa_ex (e5.trans e6) _ _ (by simpa using q3)⟩, by simpa using q4, _, _, _, rfl⟩, rfl, rfl⟩) (fun H4 k σ' Ha _ q => q.2.1.1) ?_ ?_
      · rintro H4 k d y σ' Ha Hb e6 hg ⟨r0, ⟨r1, ⟨wu, r2, r3⟩, r4, a, b, c, rfl⟩, r5, r6⟩ e7 hd4
        have hlt3 : k < (x - ((i : Int) + 1 + (j : Int) + 1)).toNat := by have := (List.getElem?_eq_some_iff.mp hg).1; simpa using this
        rw [rng_get hlt3] at hg
        cases hg
        cases hd4
        have ea : a = some (.int (i : Int)) := by simpa using r5
        have eb : b = some (.int ((i : Int) + 1 + (j : Int))) := by simpa using r6
        subst ea eb
        have at3 := e7 _ _ r2
        have l3 := dpa_len r3
        rw [List.length_map] at l3
        refine d_app (K := K) (d := tI [(i : Int), (i : Int) + 1 + (j : Int), (i : Int) + 1 + (j : Int) + 1 + (k : Int)]) at3 (ev_var rfl) (ed_tup (eda_cons (ed_int (ev_var rfl)) (eda_cons (ed_int (ev_var rfl)) (eda_cons (ed_int (ev_var rfl)) eda_nil))) (by simp)) (by omega) fun v H5 e8 hv => ?_
        have at4 := e8 _ _ at3
        refine ⟨r0, ⟨Xp.upd ((r1.then e7).then e8) (by simp), ⟨_, upd_same, ?_⟩, ?_, _, _, _, rfl⟩, rfl, rfl⟩
        · have es : ∀ (A : List (List Int)) (g : Nat → List Int), (A ++ (List.range (k + 1)).map g).map tI = (A ++ (List.range k).map g).map tI ++ [tI (g k)] := fun A g => by
            rw [List.range_succ]
            simp
          rw [es]
          exact dpa_app (dpa_tx (Tx.lst at4) _ _ (immAll_tI _) (dpa_ex (e7.trans e8) _ _ r3)) (.cons (dp_tx (Tx.lst at4) _ _ (imm_tI _) hv) .nil)
        · have b1 := sm1 i
          have b2 := sm2 i j
          rw [List.length_append, List.length_append, List.length_map, List.length_range]
          omega
      · rintro H4 σ' Ha e6 ⟨r0, ⟨r1, ⟨wu, r2, r3⟩, r4, r5⟩, r6, r7⟩
        rw [List.length_map, List.length_range] at r3 r4
        refine ⟨q0, ⟨q1.then e5 |>.then e6 |>.trans r1, ⟨wu, r2, ?_⟩, ?_, r5⟩, r6⟩
        · rw [flat_succ, ← List.append_assoc]
          exact r3
        · rw [flat_succ, ← List.append_assoc]
          exact r4
    · rintro H3 σ' Ha e4 ⟨q0, ⟨q1, ⟨wt, q2, q3⟩, q4, q5⟩, q6⟩
      rw [List.length_map, List.length_range] at q3 q4
      refine ⟨q0.trans q1, ⟨wt, q2, ?_⟩, ?_, q5⟩
      · rw [flat_succ]
        exact q3
      · rw [flat_succ]
        exact q4
  · rintro H2 σ' Ha e2 ⟨p1, ⟨ws, p2, p3⟩, p4, a, b, c, rfl⟩
    rw [List.length_map, List.length_range] at p3
    exact ⟨.ref p, rfl, k p ws Ha hp (xp_fresh (e1.trans e2) p1 hp) p2 p3⟩

end
end K20
set_option Elab.async false
set_option linter.all false
set_option maxRecDepth 100000
set_option maxHeartbeats 4000000
namespace K20
open PySem PySem.Spec PyProof.Rows L2 Evl DL
local macro_rules | `(tactic| walk_at "dl") => `(tactic| first
  | exact ev_c | exact ev_var rfl | exact eda_nil
  | exact ed_var rfl (by assumption)
  | exact ed_int ev_c | exact ed_int (ev_var rfl)
  | (refine eda_cons ?_ ?_ <;> walk_at "dl")
  | (refine ed_int ?_; walk_at "dl")
  | (refine ev_op ?_ ?_ rv_I0 <;> walk_at "dl"))

section
variable {P : Program} {w : World} {K : PySem.W.Frag} {mg : Str → Option Value} {base : Heap}
/-- the number at the pair's place -/
def at2 (s : Int) (l : List Int) (a b : Int) : Int := l.getD (plc s a b).toNat 0
def tsum (s : Int) (l : List Int) (t : List Int) : Int := at2 s l (t.getD 0 0) (t.getD 1 0) + at2 s l (t.getD 0 0) (t.getD 2 0) + at2 s l (t.getD 1 0) (t.getD 2 0)
def R_sum_in_triangle (ds : List PyData) (r : PyData) : Prop := ∃ (s : Int) (l : List Int) (a b c : Int), ds = [.int s, tI l, tI [a, b, c]] ∧ 2 ≤ s ∧ s ≤ 5 ∧ l.length = np s ∧ 0 ≤ a ∧ a < b ∧ b < c ∧ c < s ∧ r = .int (tsum s l [a, b, c])
theorem ed_at2 {σ : L2.St} {H : Hp} {te tb : TE} {s a b : Int} {l : List Int} (h : EvD K te σ H (tI l)) (hp : Ev tb σ H (.int (plc s a b))) (h1 : 2 ≤ s) (h2 : s ≤ 5) (hl : l.length = np s) (ha : 0 ≤ a) (hb : a < b) (hs : b < s) : Ev (tOp (rIxT K) te tb) σ H (.int (at2 s l a b)) := by
  obtain ⟨q1, q2⟩ := plc_ok h1 h2 ha hb hs
  refine EvD.int (ed_ixT (ds := dI l) (k := (plc s a b).toNat) h (by rw [Int.toNat_of_nonneg q1]; exact hp) ?_)
  rw [← hl] at q2
  rw [at2, List.getElem?_map, List.getElem?_eq_getElem q2, List.getD_eq_getElem?_getD, List.getElem?_eq_getElem q2]
  rfl
abbrev s_sum_in_triangle : Stmt := topS 35
abbrev N_sum_in_triangle : List Str := ["sides", "load", "three", "side", "far", "last", "total"]
theorem sc_sum_in_triangle : FnScope N_sum_in_triangle ["sides", "load", "three"] (defScope s_sum_in_triangle) := ⟨rfl, rfl, rfl, by decide +kernel, rfl, by decide +kernel, by decide +kernel⟩
theorem ok_sum_in_triangle {f : Addr} {fd : FuncData} (F : Fun K "sum_in_triangle" "sum_in_triangle" s_sum_in_triangle f fd) (T : Txt mg)
    (D_pair_place : DF P w K mg base "pair_place" 1 ["sides", "side", "far"] (spD K 3 R_pair_place)) :
    FnOk P w K mg base CX0 2 f fd ["sides", "load", "three"] (spD K 3 R_sum_in_triangle) := by
  refine F.ok sc_sum_in_triangle (fun vs H Q E h => spD_len h) (fun cdv A outer s H vs Q E hr h => ?_)
  obtain ⟨ds, r, hd, _, ⟨x, l, a, b, c, rfl, h1, h2, hl, ha, hb, hc, hs, rfl⟩, k⟩ := h
  obtain ⟨v0, v1, v2, rfl, d0, d1, d2⟩ := dpa_three hd
  cases dp_int d0
  refine ⟨_, (pss_cons (ps_asg (pv 2) (pg_tup rfl (pgs_cons (pg_name (i := 3) sc_sum_in_triangle.nd rfl (Or.inl rfl)) (pgs_cons (pg_name (i := 4) sc_sum_in_triangle.nd rfl (Or.inl rfl)) (pgs_cons (pg_name (i := 5) sc_sum_in_triangle.nd rfl (Or.inl rfl)) pgs_nil)))))
      (pss_cons (ps_set (i := 6) sc_sum_in_triangle.nd rfl (.inl rfl) (pe_op op_add (pe_ix ix_tup (pv 1) (pe_D D_pair_place (hr.mono (by decide)) (by rfl) (pa_cons (pv 0) (pa_cons (pv 3) (pa_cons (pv 4) pa_nil)))) (fun _ _ => rfl)) (pe_ix ix_tup (pv 1) (pe_D D_pair_place (hr.mono (by decide)) (by rfl) (pa_cons (pv 0) (pa_cons (pv 3) (pa_cons (pv 5) pa_nil)))) (fun _ _ => rfl))))
      (pss_one (ps_ret (pe_op op_add (pv 6) (pe_ix ix_tup (pv 1) (pe_D D_pair_place (hr.mono (by decide)) (by rfl) (pa_cons (pv 0) (pa_cons (pv 4) (pa_cons (pv 5) pa_nil)))) (fun _ _ => rfl))))))), ?_⟩
  refine qd_unp3 (K := K) (d1 := .int a) (d2 := .int b) (d3 := .int c) (ed_var rfl d2) fun w1 w2 w3 H1 e1 u1 u2 u3 => ?_
  cases dp_int u1
  cases dp_int u2
  cases dp_int u3
  have d1' := dp_ex e1 _ _ d1
  have pp : ∀ {σ : L2.St} {H' : Hp} (i j : Nat) (y z : Int), σ[0]? = some (some (.int x)) → σ[i]? = some (some (.int y)) → σ[j]? = some (some (.int z)) → 0 ≤ y → y ≤ 1000 →
      Ev (tCall (spD K 3 R_pair_place) [] E0 (tCons (tVar 0) (tCons (tVar i) (tCons (tVar j) tNil)))) σ H' (.int (plc x y z)) := fun i j y z g0 g1 g2 g3 g4 =>
    EvD.int (ed_call (ds := [.int x, .int y, .int z]) (eda_cons (ed_int (ev_var g0)) (eda_cons (ed_int (ev_var g1)) (eda_cons (ed_int (ev_var g2)) eda_nil))) rfl ⟨x, y, z, rfl, ⟨g3, g4⟩, rfl⟩)
  refine qi_asg (v := .int (at2 x l a b + at2 x l a c)) (ev_op (ed_at2 (ed_var rfl d1') (pp 3 4 a b rfl rfl rfl ha (by omega)) h1 h2 hl ha hb (by omega)) (ed_at2 (ed_var rfl d1') (pp 3 5 a c rfl rfl rfl ha (by omega)) h1 h2 hl ha (by omega) hs) rv_I0) fun H2 e2 => ?_
  have d2' := dp_ex e2 _ _ d1'
  exact d_ret (ed_int (ev_op (ev_var rfl) (ed_at2 (ed_var rfl d2') (pp 4 5 b c rfl rfl rfl (by omega) (by omega)) h1 h2 hl (by omega) hc hs) rv_I0)) fun v H3 e3 hv => k v H3 ((e1.trans e2).trans e3) hv

def need (s : Int) (l : List Int) : Int := mxl (sms s l ++ (tri s).map (tsum s l))
theorem tri_in {s : Int} (h1 : 2 ≤ s) (h2 : s ≤ 4) {t : List Int} (h : t ∈ tri s) : ∃ a b c, t = [a, b, c] ∧ 0 ≤ a ∧ a < b ∧ b < c ∧ c < s := by
  unfold tri tr2 tr3 at h
  simp only [List.mem_flatMap, List.mem_map, List.mem_range] at h
  obtain ⟨i, hi, j, hj, k, hk, rfl⟩ := h
  exact ⟨_, _, _, rfl, by omega, by omega, by omega, by omega⟩
theorem tri_len {s : Int} (h1 : 2 ≤ s) (h2 : s ≤ 4) : (tri s).length ≤ 4 := by
  have hs' : s = 2 ∨ s = 3 ∨ s = 4 := by omega
  rcases hs' with rfl | rfl | rfl <;> decide
def R_need_of (ds : List PyData) (r : PyData) : Prop := ∃ (s : Int) (l : List Int), ds = [.int s, tI l] ∧ 2 ≤ s ∧ s ≤ 4 ∧ l.length = np s ∧ r = .int (need s l)
abbrev s_need_of : Stmt := topS 36
abbrev N_need_of : List Str := ["sides", "load", "sums", "three"]
theorem sc_need_of : FnScope N_need_of ["sides", "load"] (defScope s_need_of) := ⟨rfl, rfl, rfl, by decide +kernel, rfl, by decide +kernel, by decide +kernel⟩
theorem ok_need_of {f : Addr} {fd : FuncData} (F : Fun K "need_of" "need_of" s_need_of f fd) (T : Txt mg)
    (D_sum_in_triangle : DF P w K mg base "sum_in_triangle" 2 ["sides", "load", "three"] (spD K 3 R_sum_in_triangle)) (D_sums_at_sides : DF P w K mg base "sums_at_sides" 2 ["sides", "load"] (spN K 2 R_sums_at_sides)) (D_triangles : DF P w K mg base "triangles" 1 ["sides"] (spN K 1 R_triangles)) :
    FnOk P w K mg base CX0 3 f fd ["sides", "load"] (spD K 2 R_need_of) := by
  refine F.ok sc_need_of (fun vs H Q E h => spD_len h) (fun cdv A outer s H vs Q E hr h => ?_)
  obtain ⟨ds, r, hd, _, ⟨x, l, rfl, h1, h2, hl, rfl⟩, k⟩ := h
  obtain ⟨v0, rfl, d0⟩ := dpa_it hd
  refine ⟨_, (pss_cons (ps_set (i := 2) sc_need_of.nd rfl (.inl rfl) (pe_op op_cat (pe_D D_sums_at_sides (hr.mono (by decide)) (by rfl) (pa_cons (pv 0) (pa_cons (pv 1) pa_nil))) (pe_lc (own := [("three", 3)]) (g := (gName 3)) (tt := tYes) rfl sc_need_of.nd (pi_list (pe_D D_triangles (hr.mono (by decide)) (by rfl) (pa_cons (pv 0) pa_nil))) (blkOk_by (N := N_need_of) (sc := defScope s_need_of) (by decide +kernel)) (fun _ _ _ _ _ => (pg_name (i := 3) sc_need_of.nd rfl (Or.inl rfl))) (fun _ _ _ _ _ => pts_nil) (fun _ _ _ _ _ => (pe_D D_sum_in_triangle (hr.mono (by decide)) (by rfl) (pa_cons (pv 0) (pa_cons (pv 1) (pa_cons (pv 3) pa_nil))))))))
      (pss_one (ps_ret (pe_callB (cr_max rfl) (by rfl) T.b_max (by decide +kernel) (pa_cons (pv 2) pa_nil))))), ?_⟩
  have tl := tri_len h1 h2
  have sl := sms_len x l
  refine qn_asg (K := K) (ds := dI (sms x l ++ (tri x).map (tsum x l))) (en_is (en_cat (EvN.toQ (en_call (R := R_sums_at_sides) (r := dI (sms x l)) (ds := [.int x, tI l]) (by walk_at "dl") rfl ⟨x, l, rfl, h1, by omega, rfl⟩))
    (EvN.toQ (en_lc (ei_new (ds := (tri x).map tI) (Ls.nil _) (en_call (R := R_triangles) (ds := [.int x]) (by walk_at "dl") rfl ⟨x, rfl, h1, h2, rfl⟩) (immAll_tI _)) (by rw [List.length_map]; omega) (fun i => .int (tsum x l ((tri x).getD i []))) (fun _ _ => by simp [imm]) fun H2 i d y Hb Q' e2 hg e3 hd2 k2 => ?_)) ?_) ?_) fun p vs H1 hp e1 h1' hd1 => ?_
  · rw [List.getElem?_map] at hg
    obtain ⟨t, ht, rfl⟩ := Option.map_eq_some_iff.mp hg
    obtain ⟨a, b, c, rfl, q1, q2, q3, q4⟩ := tri_in h1 h2 (List.mem_of_getElem? ht)
    have d0' := dp_ex (e2.trans e3) _ _ d0
    refine k2 _ Hb (Ex.refl _) rfl (ed_is (ed_call (R := R_sum_in_triangle) (ds := [.int x, tI l, tI [a, b, c]]) (by walk_at "dl") rfl ⟨x, l, a, b, c, rfl, h1, by omega, hl, q1, q2, q3, q4, rfl⟩) ?_)
    rw [List.getD_eq_getElem?_getD, ht]
    rfl
  · rw [List.length_map, List.length_map, List.length_map, List.length_range, sl]
    omega
  · show (sms x l).map PyData.int ++ (List.range ((tri x).map tI).length).map _ = (sms x l ++ (tri x).map (tsum x l)).map PyData.int
    rw [List.map_append, List.map_map, List.length_map]
    congr 1
    apply List.ext_getElem?
    intro i
    rw [List.getElem?_map, List.getElem?_map]
    by_cases hi : i < (tri x).length
    · rw [List.getElem?_range hi, List.getElem?_eq_getElem hi]
      simp [List.getD_eq_getElem?_getD, hi]
    · rw [List.getElem?_eq_none (by simpa using hi), List.getElem?_eq_none (by omega)]
      rfl
  · obtain rfl := dpa_ints hd1
    have h0 : 0 < (sms x l ++ (tri x).map (tsum x l)).length := by rw [List.length_append, sl]; omega
    exact d_ret (ed_int (ev_maxL (EvQ.toD (eq_var rfl h1' (ints_dpa _))) h0 (mxl_mem h0) fun y hy => mxl_ge hy)) fun v H2 e2 hv => k v H2 (e1.trans e2) hv

def R_plain_need (ds : List PyData) (r : PyData) : Prop := ∃ (s : Int) (l : List Int), ds = [.int s, tI l] ∧ 2 ≤ s ∧ s ≤ 4 ∧ Ld s l ∧ r = .int (need s l)
abbrev s_plain_need : Stmt := topS 38
abbrev N_plain_need : List Str := ["sides", "load"]
theorem sc_plain_need : FnScope N_plain_need ["sides", "load"] (defScope s_plain_need) := ⟨rfl, rfl, rfl, by decide +kernel, rfl, by decide +kernel, by decide +kernel⟩
theorem ok_plain_need {f : Addr} {fd : FuncData} (F : Fun K "plain_need" "plain_need" s_plain_need f fd) (T : Txt mg)
    (D_check_plain_load : DF P w K mg base "check_plain_load" 6 ["sides", "load"] (spD K 2 R_check_plain_load)) (D_need_of : DF P w K mg base "need_of" 3 ["sides", "load"] (spD K 2 R_need_of)) :
    FnOk P w K mg base CX0 7 f fd ["sides", "load"] (spD K 2 R_plain_need) := by
  refine F.ok sc_plain_need (fun vs H Q E h => spD_len h) (fun cdv A outer s H vs Q E hr h => ?_)
  obtain ⟨ds, r, hd, _, ⟨x, l, rfl, h1, h2, hl, rfl⟩, k⟩ := h
  obtain ⟨v0, rfl, d0⟩ := dpa_it hd
  refine ⟨_, (pss_cons (ps_expr (pe_D D_check_plain_load (hr.mono (by decide)) (by rfl) (pa_cons (pv 0) (pa_cons (pv 1) pa_nil))))
      (pss_one (ps_ret (pe_D D_need_of (hr.mono (by decide)) (by rfl) (pa_cons (pv 0) (pa_cons (pv 1) pa_nil)))))), ?_⟩
  refine (qd_drop (K := K) (d := .none) (ed_call (R := R_check_plain_load) (ds := [.int x, tI l]) (by walk_at "dl") rfl ⟨x, l, rfl, h1, h2, hl, rfl⟩) fun H1 e1 => ?_)
  have d1 := dp_ex e1 _ _ d0
  exact d_ret (ed_call (R := R_need_of) (ds := [.int x, tI l]) (by walk_at "dl") rfl ⟨x, l, rfl, h1, h2, hl.1, rfl⟩) fun v H2 e2 hv => k v H2 (e1.trans e2) hv

def mrm (r : Int) : List Int := List.replicate (r / 2).toNat 2 ++ List.replicate (r % 2).toNat 1
def R_mates_rooms (ds : List PyData) (r : List PyData) : Prop := ∃ x : Int, ds = [.int x] ∧ 0 ≤ x ∧ x ≤ 99 ∧ r = dI (mrm x)
abbrev s_mates_rooms : Stmt := topS 45
abbrev N_mates_rooms : List Str := ["room"]
theorem sc_mates_rooms : FnScope N_mates_rooms ["room"] (defScope s_mates_rooms) := ⟨rfl, rfl, rfl, by decide +kernel, rfl, by decide +kernel, by decide +kernel⟩
theorem ok_mates_rooms {f : Addr} {fd : FuncData} (F : Fun K "mates_rooms" "mates_rooms" s_mates_rooms f fd) (T : Txt mg)
     :
    FnOk P w K mg base CX0 1 f fd ["room"] (spN K 1 R_mates_rooms) := by
  refine F.ok sc_mates_rooms (fun vs H Q E h => spN_len h) (fun cdv A outer s H vs Q E hr h => ?_)
  obtain ⟨ds, r, hd, _, ⟨x, rfl, h1, h2, rfl⟩, k⟩ := h
  obtain rfl := dpa_ints (l := [x]) hd
  refine ⟨_, (pss_one (ps_ret (pe_op op_cat (pe_op op_rep (pe_lst (pa_cons pe_int pa_nil)) (pe_op op_fdiv (pv 0) pe_int)) (pe_op op_rep (pe_lst (pa_cons pe_int pa_nil)) (pe_op op_mod (pv 0) pe_int))))), ?_⟩
  refine n_ret (en_is (en_cat (EvN.toQ (en_rep (d := .int 2) (n := x / 2) (EvN.toQ (en_lst (eda_cons (ed_int ev_c) eda_nil) (by simp))) (ev_op (ev_var rfl) ev_c (rv_I (by unfold CDiv; omega))) (by omega) (by omega)))
    (EvN.toQ (en_rep (d := .int 1) (n := x % 2) (EvN.toQ (en_lst (eda_cons (ed_int ev_c) eda_nil) (by simp))) (ev_op (ev_var rfl) ev_c (rv_I (by omega))) (by omega) (by omega))) (by simp; omega)) ?_) k
  show _ = (mrm x).map PyData.int
  rw [mrm, List.map_append, List.map_replicate, List.map_replicate]

end
end K20
set_option Elab.async false
set_option linter.all false
set_option maxRecDepth 100000
set_option maxHeartbeats 4000000
namespace K20
open PySem PySem.Spec PyProof.Rows L2 Evl DL
local macro_rules | `(tactic| walk_at "dl") => `(tactic| first
  | exact ev_c | exact ev_var rfl | exact eda_nil
  | exact ed_var rfl (by assumption)
  | exact ed_int ev_c | exact ed_int (ev_var rfl)
  | (refine eda_cons ?_ ?_ <;> walk_at "dl")
  | (refine ed_int ?_; walk_at "dl")
  | (refine ev_op ?_ ?_ rv_I0 <;> walk_at "dl"))

section
variable {P : Program} {w : World} {K : PySem.W.Frag} {mg : Str → Option Value} {base : Heap}
def zer (s : Int) : List Int := List.replicate (np s) 0
/-- the parts fit into the rooms and sum up to l -/
structure Adds (s : Int) (l : List Int) (rooms : List Int) (ps : List (List Int)) : Prop where
  len : ps.length = rooms.length
  ld : ∀ p ∈ ps, Ld s p
  fit : ∀ (i : Nat) p r, ps[i]? = some p → rooms[i]? = some r → mxl (sms s p) ≤ r
  sum : ps.foldl (zw (· + ·)) (zer s) = l
def R_adds_up (ds : List PyData) (r : PyData) : Prop := ∃ (s : Int) (l rooms : List Int) (ps : List (List Int)), ds = [.int s, tI l, .list (dI rooms), .list (ps.map tI)] ∧ 2 ≤ s ∧ s ≤ 5 ∧ ps.length ≤ 1000 ∧ Adds s l rooms ps ∧ r = .bool true
theorem zw_len {f : Int → Int → Int} {a b : List Int} (h : a.length = b.length) : (zw f a b).length = a.length := by
  rw [zw, List.length_zipWith]
  omega
theorem adds_len {s : Int} : ∀ (ps : List (List Int)) (a : List Int), (∀ p ∈ ps, Ld s p) → a.length = np s → (ps.foldl (zw (· + ·)) a).length = np s
  | [], a, _, h => h
  | p :: ps, a, hp, h => by
    rw [List.foldl_cons]
    refine adds_len ps _ (fun q hq => hp q (List.mem_cons_of_mem _ hq)) ?_
    rw [zw_len (by rw [h, (hp p List.mem_cons_self).1])]
    exact h
abbrev s_adds_up : Stmt := topS 43
abbrev N_adds_up : List Str := ["sides", "load", "rooms", "thing", "total", "part", "room"]
theorem sc_adds_up : FnScope N_adds_up ["sides", "load", "rooms", "thing"] (defScope s_adds_up) := ⟨rfl, rfl, rfl, by decide +kernel, rfl, by decide +kernel, by decide +kernel⟩
theorem ok_adds_up {f : Addr} {fd : FuncData} (F : Fun K "adds_up" "adds_up" s_adds_up f fd) (T : Txt mg)
    (D_is_let : DF P w K mg base "is_let" 3 ["sides", "load", "room"] (spD K 3 R_is_let)) (D_is_load_of : DF P w K mg base "is_load_of" 4 ["sides", "thing"] (spD K 2 R_is_load_of)) (D_is_row : DF P w K mg base "is_row" 1 ["thing"] (spD K 1 R_is_row)) (D_no_wires : DF P w K mg base "no_wires" 2 ["sides"] (spD K 1 R_no_wires)) (D_summed : DF P w K mg base "summed" 1 ["one", "other"] (spD K 2 R_summed)) :
    FnOk P w K mg base CX0 5 f fd ["sides", "load", "rooms", "thing"] (spD K 4 R_adds_up) := by
  refine F.ok sc_adds_up (fun vs H Q E h => spD_len h) (fun cdv A outer s H vs Q E hr h => ?_)
  obtain ⟨ds, r, hd, _, ⟨x, l, rooms, ps, rfl, h1, h2, h3, ha, rfl⟩, k⟩ := h
  obtain ⟨v0, v1, v2, v3, rfl, d0, d1, d2, d3⟩ := dpa_four hd
  cases dp_int d0
  refine ⟨_, (pss_cons (ps_if (PW.pt (pw_or (pt_not (pt_val (pe_D D_is_row (hr.mono (by decide)) (by rfl) (pa_cons (pv 3) pa_nil)))) (pw_or1 (pt_cmpR op_ne (pe_callB call_len_seq (by rfl) T.b_len PySem.boot_len (pa_cons (pv 3) pa_nil)) (pe_callB call_len_seq (by rfl) T.b_len PySem.boot_len (pa_cons (pv 2) pa_nil)) (nomark _))))) (pss_one (ps_ret pe_bl)) pss_nil)
      (pss_cons (ps_set (i := 4) sc_adds_up.nd rfl (.inl rfl) (pe_D D_no_wires (hr.mono (by decide)) (by rfl) (pa_cons (pv 0) pa_nil)))
      (pss_cons (ps_for PassesOwn.never rfl (pi_zipM false false (by rfl) T.b_zip (pa_cons (pv 3) (pa_cons (pv 2) pa_nil))) (pg_tup rfl (pgs_cons (pg_name (i := 5) sc_adds_up.nd rfl (Or.inl rfl)) (pgs_cons (pg_name (i := 6) sc_adds_up.nd rfl (Or.inl rfl)) pgs_nil))) (pss_cons (ps_if (PW.pt (pw_or (pt_not (pt_val (pe_D D_is_load_of (hr.mono (by decide)) (by rfl) (pa_cons (pv 0) (pa_cons (pv 5) pa_nil))))) (pw_or1 (pt_not (pt_val (pe_D D_is_let (hr.mono (by decide)) (by rfl) (pa_cons (pv 0) (pa_cons (pv 5) (pa_cons (pv 6) pa_nil))))))))) (pss_one (ps_ret pe_bl)) pss_nil)
      (pss_one (ps_set (i := 4) sc_adds_up.nd rfl (.inl rfl) (pe_D D_summed (hr.mono (by decide)) (by rfl) (pa_cons (pv 4) (pa_cons (pv 5) pa_nil)))))))
      (pss_one (ps_ret (pe_cmpR (op_eqD (hu64 hr)) (pv 4) (pv 1) (nomark _))))))), ?_⟩
  have lens : ((ps.map tI).length : Int) = ((dI rooms).length : Int) := by rw [List.length_map, List.length_map, ha.len]
  refine q_when (b := false) (et_or (a := false) (et_not (a := true) (et_B (EvD.bool (ed_call (R := R_is_row) (ds := [.list (ps.map tI)]) (by walk_at "dl") rfl ⟨_, rfl, rfl⟩)))) fun _ => et_test (ev_is (ev_op (ev_lenL (ed_var rfl d3)) (ev_lenL (ed_var rfl d2)) (rv_ne rfl)) ?_)) (fun z => by cases z) fun _ H1 e1 => ?_
  · rw [lens]
    simp
  have d1 := dp_ex e1 _ _ d1
  have d2 := dp_ex e1 _ _ d2
  have d3 := dp_ex e1 _ _ d3
  refine qd_asg (K := K) (d := tI (zer x)) (ed_call (R := R_no_wires) (ds := [.int x]) (by walk_at "dl") rfl ⟨x, rfl, h1, h2, rfl⟩) fun w0 H2 e2 u0 => ?_
  have d1 := dp_ex e2 _ _ d1
  have d2 := dp_ex e2 _ _ d2
  have d3 := dp_ex e2 _ _ d3
  have np10 := np_le h1 h2
  refine e_for (ei_zipLL (ed_var rfl d3) (ed_var rfl d2) (immAll_tI _) (immAll_dI _)) (fun H3 i σ' Ha => Ex H3 Ha ∧ ∃ wt a b, Dp K Ha wt (tI ((ps.take i).foldl (zw (· + ·)) (zer x))) ∧ σ' = [some (.int x), some v1, some v2, some v3, some wt, a, b])
    (fun H3 e3 => ⟨Ex.refl _, w0, none, none, by simpa using dp_ex e3 _ _ u0, rfl⟩) (fun H3 i σ' Ha _ q => Xp.of_ex q.1) ?_ ?_
  · rintro H3 i d y σ' Ha Hb e3 hg ⟨p1, wt, a, b, p2, rfl⟩ e4 hd2
    rw [List.getElem?_zipWith, List.getElem?_map, List.getElem?_map] at hg
    cases g1 : ps[i]? with
    | none => rw [g1] at hg; simp at hg
    | some p =>
      cases g2 : rooms[i]? with
      | none => rw [g1, g2] at hg; simp at hg
      | some m =>
        rw [g1, g2] at hg
        have hg : PyData.tuple [tI p, .int m] = d := by simpa using hg
        subst hg
        refine g_two hd2 fun w1 w2 u1 u2 => ?_
        cases dp_int u2
        have hp := ha.ld p (List.mem_of_getElem? g1)
        have hm := ha.fit i p m g1 g2
        refine q_when (b := false) (et_or (a := false) (et_not (a := true) (et_B (EvD.bool (ed_call (R := R_is_load_of) (ds := [.int x, tI p]) (by walk_at "dl") rfl ⟨x, p, rfl, h1, h2, hp, rfl⟩)))) fun _ => et_not (a := true) (et_B (EvD.bool (ed_call (R := R_is_let) (ds := [.int x, tI p, .int m]) (by walk_at "dl") rfl ⟨x, p, m, rfl, h1, h2, by rw [decide_eq_true hm]⟩)))) (fun z => by cases z) fun _ H4 e5 => ?_
        have u1 := dp_ex e5 _ _ u1
        have p2 := dp_ex (e4.trans e5) _ _ p2
        have ln : ((ps.take i).foldl (zw (· + ·)) (zer x)).length = np x := adds_len _ _ (fun q hq => ha.ld q (List.mem_of_mem_take hq)) (by simp [zer])
        refine d_asg (K := K) (d := tI (zw (· + ·) ((ps.take i).foldl (zw (· + ·)) (zer x)) p)) (ed_call (R := R_summed) (ds := [tI ((ps.take i).foldl (zw (· + ·)) (zer x)), tI p]) (by walk_at "dl") rfl ⟨_, _, rfl, by rw [ln]; omega, rfl⟩) fun v H5 e6 hv => ?_
        refine ⟨((p1.trans e4).trans e5).trans e6, v, _, _, ?_, rfl⟩
        rw [List.take_add_one, g1, Option.toList_some, List.foldl_append]
        exact hv
  · rintro H3 σ' Ha e3 ⟨p1, wt, a, b, p2, rfl⟩
    rw [List.length_zipWith, List.length_map, List.length_map, ← ha.len, Nat.min_self, List.take_length, ha.sum] at p2
    have d1 := dp_ex (e3.trans p1) _ _ d1
    refine d_ret (ed_bool (ev_is (ev_eqD (ed_var rfl p2) (ed_var rfl d1) (shaped_tI _) (shaped_tI _)) ?_)) fun v H4 e4 hv => k v H4 ((((e1.trans e2).trans e3).trans p1).trans e4) hv
    rw [eqv_tI]
    simp

def R_is_plain_split (ds : List PyData) (r : PyData) : Prop := ∃ (s : Int) (l : List Int) (m : Int) (ps : List (List Int)), ds = [.int s, tI l, .int m, .list (ps.map tI)] ∧ 2 ≤ s ∧ s ≤ 4 ∧ Ld s l ∧ 0 ≤ m ∧ m ≤ 99 ∧ Adds s l (List.replicate m.toNat 1) ps ∧ r = .bool true
abbrev s_is_plain_split : Stmt := topS 44
abbrev N_is_plain_split : List Str := ["sides", "load", "room", "thing"]
theorem sc_is_plain_split : FnScope N_is_plain_split ["sides", "load", "room", "thing"] (defScope s_is_plain_split) := ⟨rfl, rfl, rfl, by decide +kernel, rfl, by decide +kernel, by decide +kernel⟩
theorem ok_is_plain_split {f : Addr} {fd : FuncData} (F : Fun K "is_plain_split" "is_plain_split" s_is_plain_split f fd) (T : Txt mg)
    (D_adds_up : DF P w K mg base "adds_up" 5 ["sides", "load", "rooms", "thing"] (spD K 4 R_adds_up)) (D_check_plain_load : DF P w K mg base "check_plain_load" 6 ["sides", "load"] (spD K 2 R_check_plain_load)) (D_check_room : DF P w K mg base "check_room" 3 ["room"] (spD K 1 R_check_room)) :
    FnOk P w K mg base CX0 7 f fd ["sides", "load", "room", "thing"] (spD K 4 R_is_plain_split) := by
  refine F.ok sc_is_plain_split (fun vs H Q E h => spD_len h) (fun cdv A outer s H vs Q E hr h => ?_)
  obtain ⟨ds, r, hd, _, ⟨x, l, m, ps, rfl, h1, h2, hl, h3, h4, ha, rfl⟩, k⟩ := h
  obtain ⟨v0, v1, v2, v3, rfl, d0, d1, d2, d3⟩ := dpa_four hd
  cases dp_int d0
  cases dp_int d2
  refine ⟨_, (pss_cons (ps_expr (pe_D D_check_plain_load (hr.mono (by decide)) (by rfl) (pa_cons (pv 0) (pa_cons (pv 1) pa_nil))))
      (pss_cons (ps_expr (pe_D D_check_room (hr.mono (by decide)) (by rfl) (pa_cons (pv 2) pa_nil)))
      (pss_one (ps_ret (pe_D D_adds_up (hr.mono (by decide)) (by rfl) (pa_cons (pv 0) (pa_cons (pv 1) (pa_cons (pe_op op_rep (pe_lst (pa_cons pe_int pa_nil)) (pv 2)) (pa_cons (pv 3) pa_nil))))))))), ?_⟩
  refine (qd_drop (K := K) (d := .none) (ed_call (R := R_check_plain_load) (ds := [.int x, tI l]) (by walk_at "dl") rfl ⟨x, l, rfl, h1, h2, hl, rfl⟩) fun H1 e1 => ?_)
  refine (qd_drop (K := K) (d := .none) (ed_call (R := R_check_room) (ds := [.int m]) (by walk_at "dl") rfl ⟨m, rfl, h3, h4, rfl⟩) fun H2 e2 => ?_)
  have d1 := dp_ex (e1.trans e2) _ _ d1
  have d3 := dp_ex (e1.trans e2) _ _ d3
  have a3 : EvD K (tOp rRep (tLst (tCons (tC (.int 1)) tNil)) (tVar 2)) (L2.start N_is_plain_split [.int x, v1, .int m, v3]) H2 (.list (dI (List.replicate m.toNat 1))) := ed_is (EvN.toD (en_rep (d := .int 1) (n := m) (EvN.toQ (en_lst (eda_cons (ed_int ev_c) eda_nil) (by simp))) (ev_var rfl) (by omega) (by omega))) (by rw [dI, List.map_replicate])
  have hpl := ha.len
  rw [List.length_replicate] at hpl
  exact d_ret (ed_call (R := R_adds_up) (ds := [.int x, tI l, .list (dI (List.replicate m.toNat 1)), .list (ps.map tI)]) (eda_cons (ed_int (ev_var rfl)) (eda_cons (ed_var rfl d1) (eda_cons a3 (eda_cons (ed_var rfl d3) eda_nil)))) rfl ⟨x, l, _, ps, rfl, h1, by omega, by omega, ha, rfl⟩) fun v H3 e3 hv => k v H3 ((e1.trans e2).trans e3) hv

def R_is_crossed_split (ds : List PyData) (r : PyData) : Prop := ∃ (s : Int) (l : List Int) (m : Int) (ps : List (List Int)), ds = [.int s, tI l, .int m, .list (ps.map tI)] ∧ 2 ≤ s ∧ s ≤ 5 ∧ Ld s l ∧ 0 ≤ m ∧ m ≤ 99 ∧ Adds s l (mrm m) ps ∧ r = .bool true
abbrev s_is_crossed_split : Stmt := topS 49
abbrev N_is_crossed_split : List Str := ["sides", "load", "room", "thing"]
theorem sc_is_crossed_split : FnScope N_is_crossed_split ["sides", "load", "room", "thing"] (defScope s_is_crossed_split) := ⟨rfl, rfl, rfl, by decide +kernel, rfl, by decide +kernel, by decide +kernel⟩
theorem ok_is_crossed_split {f : Addr} {fd : FuncData} (F : Fun K "is_crossed_split" "is_crossed_split" s_is_crossed_split f fd) (T : Txt mg)
    (D_adds_up : DF P w K mg base "adds_up" 5 ["sides", "load", "rooms", "thing"] (spD K 4 R_adds_up)) (D_check_load : DF P w K mg base "check_load" 5 ["sides", "load"] (spD K 2 R_check_load)) (D_check_room : DF P w K mg base "check_room" 3 ["room"] (spD K 1 R_check_room)) (D_check_sides : DF P w K mg base "check_sides" 3 ["sides", "most"] (spD K 2 R_check_sides)) (D_mates_rooms : DF P w K mg base "mates_rooms" 1 ["room"] (spN K 1 R_mates_rooms)) :
    FnOk P w K mg base CX0 6 f fd ["sides", "load", "room", "thing"] (spD K 4 R_is_crossed_split) := by
  refine F.ok sc_is_crossed_split (fun vs H Q E h => spD_len h) (fun cdv A outer s H vs Q E hr h => ?_)
  obtain ⟨ds, r, hd, _, ⟨x, l, m, ps, rfl, h1, h2, hl, h3, h4, ha, rfl⟩, k⟩ := h
  obtain ⟨v0, v1, v2, v3, rfl, d0, d1, d2, d3⟩ := dpa_four hd
  cases dp_int d0
  cases dp_int d2
  refine ⟨_, (pss_cons (ps_expr (pe_D D_check_sides (hr.mono (by decide)) (by rfl) (pa_cons (pv 0) (pa_cons (pe_const T.c_MOST_SIDES (by rfl)) pa_nil))))
      (pss_cons (ps_expr (pe_D D_check_load (hr.mono (by decide)) (by rfl) (pa_cons (pv 0) (pa_cons (pv 1) pa_nil))))
      (pss_cons (ps_expr (pe_D D_check_room (hr.mono (by decide)) (by rfl) (pa_cons (pv 2) pa_nil)))
      (pss_one (ps_ret (pe_D D_adds_up (hr.mono (by decide)) (by rfl) (pa_cons (pv 0) (pa_cons (pv 1) (pa_cons (pe_D D_mates_rooms (hr.mono (by decide)) (by rfl) (pa_cons (pv 2) pa_nil)) (pa_cons (pv 3) pa_nil)))))))))), ?_⟩
  refine (qd_drop (K := K) (d := .none) (ed_call (R := R_check_sides) (ds := [.int x, .int 5]) (by walk_at "dl") rfl ⟨x, 5, rfl, h1, h2, rfl⟩) fun H1 e1 => ?_)
  have d1 := dp_ex e1 _ _ d1
  refine (qd_drop (K := K) (d := .none) (ed_call (R := R_check_load) (ds := [.int x, tI l]) (by walk_at "dl") rfl ⟨x, l, rfl, h1, h2, hl, rfl⟩) fun H2 e2 => ?_)
  refine (qd_drop (K := K) (d := .none) (ed_call (R := R_check_room) (ds := [.int m]) (by walk_at "dl") rfl ⟨m, rfl, h3, h4, rfl⟩) fun H3 e3 => ?_)
  have d1 := dp_ex (e2.trans e3) _ _ d1
  have d3 := dp_ex ((e1.trans e2).trans e3) _ _ d3
  have hpl := ha.len
  rw [mrm, List.length_append, List.length_replicate, List.length_replicate] at hpl
  exact d_ret (ed_call (R := R_adds_up) (ds := [.int x, tI l, .list (dI (mrm m)), .list (ps.map tI)]) (eda_cons (ed_int (ev_var rfl)) (eda_cons (ed_var rfl d1) (eda_cons (EvN.toD (en_call (R := R_mates_rooms) (ds := [.int m]) (by walk_at "dl") rfl ⟨m, rfl, h3, h4, rfl⟩)) (eda_cons (ed_var rfl d3) eda_nil)))) rfl ⟨x, l, _, ps, rfl, h1, h2, by omega, ha, rfl⟩) fun v H4 e4 hv => k v H4 (((e1.trans e2).trans e3).trans e4) hv

def P_plain_bar (ds : List PyData) : Prop := ∃ (s : Int) (l : List Int) (m : Int), ds = [.int s, tI l, .int m] ∧ 2 ≤ s ∧ s ≤ 4 ∧ Ld s l ∧ 0 ≤ m ∧ m ≤ 99
def Q_plain_bar (ds : List PyData) (r : PyData) : Prop := ∃ (s : Int) (l : List Int) (m : Int), ds = [.int s, tI l, .int m] ∧ isNoneD r = decide (need s l ≤ m)
theorem need_le {s : Int} {l : List Int} {m : Int} (h1 : 2 ≤ s) (a : ∀ (i : Nat) y, (sms s l)[i]? = some y → y ≤ m) (b : ∀ t, t ∈ tri s → tsum s l t ≤ m) : need s l ≤ m := by
  have h0 : 0 < (sms s l ++ (tri s).map (tsum s l)).length := by rw [List.length_append, sms_len]; omega
  have hm := mxl_mem h0
  rcases List.mem_append.mp hm with hm | hm
  · obtain ⟨i, hi⟩ := List.mem_iff_getElem?.mp hm
    exact a i _ hi
  · obtain ⟨t, ht, e⟩ := List.mem_map.mp hm
    have := b t ht
    unfold need
    rw [← e]
    exact this
theorem need_ge1 {s : Int} {l : List Int} {y : Int} (h : y ∈ sms s l) : y ≤ need s l := mxl_ge (List.mem_append_left _ h)
theorem need_ge2 {s : Int} {l : List Int} {t : List Int} (h : t ∈ tri s) : tsum s l t ≤ need s l := mxl_ge (List.mem_append_right _ (List.mem_map_of_mem h))
abbrev s_plain_bar : Stmt := topS 42
abbrev N_plain_bar : List Str := ["sides", "load", "room", "sums", "side", "three"]
theorem sc_plain_bar : FnScope N_plain_bar ["sides", "load", "room"] (defScope s_plain_bar) := ⟨rfl, rfl, rfl, by decide +kernel, rfl, by decide +kernel, by decide +kernel⟩
theorem ok_plain_bar {f : Addr} {fd : FuncData} (F : Fun K "plain_bar" "plain_bar" s_plain_bar f fd) (T : Txt mg)
    (D_check_plain_load : DF P w K mg base "check_plain_load" 6 ["sides", "load"] (spD K 2 R_check_plain_load)) (D_check_room : DF P w K mg base "check_room" 3 ["room"] (spD K 1 R_check_room)) (D_sum_in_triangle : DF P w K mg base "sum_in_triangle" 2 ["sides", "load", "three"] (spD K 3 R_sum_in_triangle)) (D_sums_at_sides : DF P w K mg base "sums_at_sides" 2 ["sides", "load"] (spN K 2 R_sums_at_sides)) (D_triangles : DF P w K mg base "triangles" 1 ["sides"] (spN K 1 R_triangles)) :
    FnOk P w K mg base CX0 7 f fd ["sides", "load", "room"] (spX K 3 P_plain_bar Q_plain_bar) := by
  refine F.ok sc_plain_bar (fun vs H Q E h => spX_len h) (fun cdv A outer s H vs Q E hr h => ?_)
  obtain ⟨ds, hd, _, ⟨x, l, m, rfl, h1, h2, hl, h3, h4⟩, k⟩ := h
  obtain ⟨v0, v1, v2, rfl, d0, d1, d2⟩ := dpa_three hd
  cases dp_int d0
  cases dp_int d2
  refine ⟨_, (pss_cons (ps_expr (pe_D D_check_plain_load (hr.mono (by decide)) (by rfl) (pa_cons (pv 0) (pa_cons (pv 1) pa_nil))))
      (pss_cons (ps_expr (pe_D D_check_room (hr.mono (by decide)) (by rfl) (pa_cons (pv 2) pa_nil)))
      (pss_cons (ps_set (i := 3) sc_plain_bar.nd rfl (.inl rfl) (pe_D D_sums_at_sides (hr.mono (by decide)) (by rfl) (pa_cons (pv 0) (pa_cons (pv 1) pa_nil))))
      (pss_cons (ps_for PassesOwn.never rfl (pi_range1 (by rfl) T.b_range (pa_cons (pv 0) pa_nil)) (pg_name (i := 4) sc_plain_bar.nd rfl (Or.inl rfl)) (pss_one (ps_if (pt_cmpR op_gt (pe_ix ix_list (pv 3) (pv 4) (fun _ _ => rfl)) (pv 2) (nomark _)) (pss_one (ps_ret (pe_tup (pa_cons pe_str (pa_cons (pv 4) pa_nil))))) pss_nil)))
      (pss_cons (ps_for PassesOwn.never rfl (pi_list (pe_D D_triangles (hr.mono (by decide)) (by rfl) (pa_cons (pv 0) pa_nil))) (pg_name (i := 5) sc_plain_bar.nd rfl (Or.inl rfl)) (pss_one (ps_if (pt_cmpR op_gt (pe_D D_sum_in_triangle (hr.mono (by decide)) (by rfl) (pa_cons (pv 0) (pa_cons (pv 1) (pa_cons (pv 5) pa_nil)))) (pv 2) (nomark _)) (pss_one (ps_ret (pe_tup (pa_cons pe_str (pa_cons (pv 5) pa_nil))))) pss_nil)))
      (pss_one (ps_ret pe_non))))))), ?_⟩
  refine (qd_drop (K := K) (d := .none) (ed_call (R := R_check_plain_load) (ds := [.int x, tI l]) (by walk_at "dl") rfl ⟨x, l, rfl, h1, h2, hl, rfl⟩) fun H1 e1 => ?_)
  refine (qd_drop (K := K) (d := .none) (ed_call (R := R_check_room) (ds := [.int m]) (by walk_at "dl") rfl ⟨m, rfl, h3, h4, rfl⟩) fun H2 e2 => ?_)
  have d1 := dp_ex (e1.trans e2) _ _ d1
  refine qn_asg (K := K) (ds := dI (sms x l)) (en_call (R := R_sums_at_sides) (ds := [.int x, tI l]) (by walk_at "dl") rfl ⟨x, l, rfl, h1, by omega, rfl⟩) fun p vs H3 hp e3 h3' hd3 => ?_
  obtain rfl := dpa_ints hd3
  have d1 := dp_ex e3 _ _ d1
  have e03 := (e1.trans e2).trans e3
  have sl := sms_len x l
  refine e_for (K := K) (S := []) (ei_rng1 (n := x) (by walk_at "dl") (by omega)) (fun H4 i σ' Ha => Ex H4 Ha ∧ (∃ a b, σ' = [some (.int x), some v1, some (.int m), some (.ref p), a, b]) ∧ ∀ j y, j < i → (sms x l)[j]? = some y → y ≤ m)
    (fun H4 e4 => ⟨Ex.refl _, ⟨none, none, rfl⟩, fun j y hj => absurd hj (by omega)⟩) (fun H4 i σ' Ha _ q => Xp.of_ex q.1) ?_ ?_
  · rintro H4 i d y σ' Ha Hb e4 hg ⟨p1, ⟨a, b, rfl⟩, p3⟩ e5 hd2
    have hlt : i < x.toNat := by have := (List.getElem?_eq_some_iff.mp hg).1; simpa using this
    rw [rng_get hlt] at hg
    cases hg
    cases hd2
    have hi : i < (sms x l).length := by omega
    have at3 := e5 _ _ (p1 _ _ (e4 _ _ h3'))
    have gi : (sms x l)[i]? = some ((sms x l)[i]) := List.getElem?_eq_getElem hi
    refine s_when (b := decide (m < (sms x l)[i])) (et_test (ev_op (EvD.int (ed_ixL (ds := dI (sms x l)) (k := i) (EvQ.toD (eq_var rfl at3 (ints_dpa _))) (ev_var rfl) (by rw [List.getElem?_map, gi]; rfl))) (ev_var rfl) rv_I0)) (fun hb H5 e6 => ?_) fun hb H5 e6 => ⟨(p1.trans e5).trans e6, ⟨_, _, rfl⟩, fun j y hj hy => ?_⟩
    · refine d_ret (K := K) (ed_tup (eda_cons (ed_str ev_c) (eda_cons (ed_int (ev_var rfl)) eda_nil)) (by simp)) fun v H6 e7 hv => k _ v H6 ⟨x, l, m, rfl, ?_⟩ ((((e03.trans e4).trans p1).trans e5).trans (e6.trans e7)) hv
      have : ¬ need x l ≤ m := fun z => by
        have := of_decide_eq_true hb
        have := need_ge1 (List.mem_of_getElem? gi)
        omega
      rw [decide_eq_false this]
      rfl
    · by_cases ej : j = i
      · subst ej
        rw [gi] at hy
        cases hy
        have := of_decide_eq_false hb
        omega
      · exact p3 j y (by omega) hy
  · rintro H4 σ' Ha e4 ⟨p1, ⟨a, b, rfl⟩, p3⟩
    rw [List.length_map, List.length_range] at p3
    have d1 := dp_ex (e4.trans p1) _ _ d1
    refine e_for (S := []) (ei_new (ds := (tri x).map tI) (Ls.nil _) (en_call (R := R_triangles) (ds := [.int x]) (by walk_at "dl") rfl ⟨x, rfl, h1, h2, rfl⟩) (immAll_tI _)) (fun H5 i σ' Ha => Ex H5 Ha ∧ (∃ b, σ' = [some (.int x), some v1, some (.int m), some (.ref p), a, b]) ∧ ∀ j t, j < i → (tri x)[j]? = some t → tsum x l t ≤ m)
      (fun H5 e5 => ⟨Ex.refl _, ⟨b, rfl⟩, fun j t hj => absurd hj (by omega)⟩) (fun H4 i σ' Ha _ q => Xp.of_ex q.1) ?_ ?_
    · rintro H5 i d y σ' Hc Hb e5 hg ⟨q1, ⟨b, rfl⟩, q3⟩ e6 hd2
      rw [List.getElem?_map] at hg
      obtain ⟨t, ht, rfl⟩ := Option.map_eq_some_iff.mp hg
      obtain ⟨a', b', c', rfl, g1, g2, g3, g4⟩ := tri_in h1 h2 (List.mem_of_getElem? ht)
      have d1 := dp_ex ((e5.trans q1).trans e6) _ _ d1
      refine s_when (b := decide (m < tsum x l [a', b', c'])) (et_test (ev_op (EvD.int (ed_call (R := R_sum_in_triangle) (ds := [.int x, tI l, tI [a', b', c']]) (by walk_at "dl") rfl ⟨x, l, a', b', c', rfl, h1, by omega, hl.1, g1, g2, g3, g4, rfl⟩)) (ev_var rfl) rv_I0)) (fun hb H6 e7 => ?_) fun hb H6 e7 => ⟨(q1.trans e6).trans e7, ⟨_, rfl⟩, fun j t hj hy => ?_⟩
      · have hd2 := dp_ex e7 _ _ hd2
        refine d_ret (K := K) (ed_tup (eda_cons (ed_str ev_c) (eda_cons (ed_var rfl hd2) eda_nil)) (by simp)) fun v H6 e8 hv => k _ v H6 ⟨x, l, m, rfl, ?_⟩ ((((((e03.trans e4).trans p1).trans e5).trans q1).trans e6).trans (e7.trans e8)) hv
        have : ¬ need x l ≤ m := fun z => by
          have := of_decide_eq_true hb
          have := need_ge2 (l := l) (List.mem_of_getElem? ht)
          omega
        rw [decide_eq_false this]
        rfl
      · by_cases ej : j = i
        · subst ej
          rw [ht] at hy
          cases hy
          have := of_decide_eq_false hb
          omega
        · exact q3 j t (by omega) hy
    · rintro H5 σ' Hc e5 ⟨q1, ⟨b, rfl⟩, q3⟩
      rw [List.length_map] at q3
      refine d_ret (K := K) (d := .none) (ev_d ev_c .non) fun v H6 e6 hv => k _ v H6 ⟨x, l, m, rfl, ?_⟩ (((((e03.trans e4).trans p1).trans e5).trans q1).trans e6) hv
      have : need x l ≤ m := need_le h1 (fun i y hy => p3 i y (by have := (List.getElem?_eq_some_iff.mp hy).1; omega) hy) fun t ht => by
        obtain ⟨j, hj⟩ := List.mem_iff_getElem?.mp ht
        exact q3 j t (List.getElem?_eq_some_iff.mp hj).1 hj
      rw [decide_eq_true this]
      rfl

end
end K20
set_option Elab.async false
set_option linter.all false
set_option maxRecDepth 100000
set_option maxHeartbeats 4000000
namespace K20
open PySem PySem.Spec PyProof.Rows L2 Evl DL
local macro_rules | `(tactic| walk_at "dl") => `(tactic| first
  | exact ev_c | exact ev_var rfl | exact eda_nil
  | exact ed_var rfl (by assumption)
  | exact ed_int ev_c | exact ed_int (ev_var rfl)
  | (refine eda_cons ?_ ?_ <;> walk_at "dl")
  | (refine ed_int ?_; walk_at "dl")
  | (refine ev_op ?_ ?_ rv_I0 <;> walk_at "dl"))

section
variable {K : PySem.W.Frag} {σ : L2.St} {H : Hp} {ta tb te : TE} {ds : List PyData} {pss : List (List PyData)}
/-- new lists, one an argument -/
def EvLL (K : PySem.W.Frag) (ta : TA) (σ : L2.St) (H : Hp) (pss : List (List PyData)) : Prop := ∀ H1, Ex H H1 → ∀ Q : List V → Hp → Prop,
  (∀ qs H2, Ex H1 H2 → Paired (fun q ds => H1 q = none ∧ ∃ ws, H2 q = some (.lst ws) ∧ DpAll K H2 ws ds) qs pss → Q (qs.map V.ref) H2) → ta σ H1 Q
theorem ell_nil : EvLL K tNil σ H [] := fun H1 _ Q q => q [] H1 (Ex.refl _) .nil
theorem ell_cons {tr : TA} (h : EvN K te σ H ds) (hr : EvLL K tr σ H pss) : EvLL K (tCons te tr) σ H (ds :: pss) := fun H1 e Q q =>
  h H1 e _ fun p vs H2 hp e2 h2 hd => hr H2 (e.trans e2) _ fun qs H3 e3 hq => q (p :: qs) H3 (e2.trans e3) (.cons ⟨hp, vs, e3 _ _ h2, dpa_ex e3 _ _ hd⟩ (Paired.mapP hq fun a b z => ⟨fresh_back e2 z.1, z.2⟩))
/-- xs.extend(e) -/
theorem d_ext {D : Ends} {l : Addr} {xs : List V} (hl : H l = some (.lst xs)) (ha : Ev ta σ H (.ref l)) (h : EvQ K te σ H ds) (hz : xs.length + ds.length ≤ 100000) (k : ∀ zs H1, Ex H H1 → DpAll K H1 zs ds → D.nx σ (upd H1 l (.lst (xs ++ zs)))) :
    tDrop (tBM K "list" rExtend ta (tCons te tNil)) D σ H := ha H (Ex.refl H) _ fun H1 e1 =>
  ⟨Or.inl ⟨rfl, xs, sq_of (e1 l _ hl)⟩, h H1 e1 _ fun b zs H2 e2 hb hd => ⟨l, b, xs, zs, rfl, rfl, e2 l _ (e1 l _ hl), hb, sz_of (by rw [dpa_len hd]; exact hz), k zs H2 (e1.trans e2) hd⟩⟩
end
section
variable {P : Program} {w : World} {K : PySem.W.Frag} {mg : Str → Option Value} {base : Heap}
def pgs (s : Int) : List (List (Int × Int)) := if s = 2 then [[(0, 1)]] else if s = 3 then [[(0, 1)], [(0, 2)], [(1, 2)]] else [[(0, 1), (2, 3)], [(0, 2), (1, 3)], [(0, 3), (1, 2)]]
def spPg (K : PySem.W.Frag) : Sp := fun vs H Q _ => ∃ s : Int, vs = [.int s] ∧ 2 ≤ s ∧ s ≤ 4 ∧ ∀ p qs H', H p = none → Ex H H' → H' p = some (.lst (qs.map V.ref)) →
  Paired (fun q ds => H q = none ∧ ∃ ws, H' q = some (.lst ws) ∧ DpAll K H' ws ds) qs ((pgs s).map fun ps => ps.map pD) → Q (.ref p) H'
theorem ed_pr {σ : L2.St} {H : Hp} {a b : Int} : EvD K (tTup (tCons (tC (.int a)) (tCons (tC (.int b)) tNil))) σ H (pD (a, b)) := ed_tup (eda_cons (ed_int ev_c) (eda_cons (ed_int ev_c) eda_nil)) (by simp)
theorem s_pg {D : Ends} {σ : L2.St} {H : Hp} {ta : TA} {pss : List (List PyData)} (h : EvLL K ta σ H pss) (hl : pss.length ≤ 100) (k : ∀ p qs H1, H p = none → Ex H H1 → H1 p = some (.lst (qs.map V.ref)) →
    Paired (fun q ds => H q = none ∧ ∃ ws, H1 q = some (.lst ws) ∧ DpAll K H1 ws ds) qs pss → D.rt (.ref p) H1) : tRet (tLst ta) D σ H := h H (Ex.refl _) _ fun qs H1 e hq => by
  refine ⟨sz_of (by rw [List.length_map, Paired.length hq]; omega), fun p hp => k p qs _ (fresh_back e hp) (e.trans (Ex.new hp)) upd_same (Paired.mapP hq fun a b z => ⟨z.1, ?_⟩)⟩
  obtain ⟨_, ws, z1, z2⟩ := z
  exact ⟨ws, Ex.new hp _ _ z1, dpa_ex (Ex.new hp) _ _ z2⟩
abbrev s_pairings : Stmt := topS 39
abbrev N_pairings : List Str := ["sides"]
theorem sc_pairings : FnScope N_pairings ["sides"] (defScope s_pairings) := ⟨rfl, rfl, rfl, by decide +kernel, rfl, by decide +kernel, by decide +kernel⟩
theorem ok_pairings {f : Addr} {fd : FuncData} (F : Fun K "pairings" "pairings" s_pairings f fd) (T : Txt mg)
     :
    FnOk P w K mg base CX0 1 f fd ["sides"] (spPg K) := by
  refine F.ok sc_pairings (fun vs H Q E h => by obtain ⟨x, rfl, _⟩ := h; rfl) (fun cdv A outer s H vs Q E hr h => ?_)
  obtain ⟨x, rfl, h1, h2, k⟩ := h
  refine ⟨_, (pss_cons (ps_if (pt_cmpR op_eq (pv 0) pe_int (nomark _)) (pss_one (ps_ret (pe_lst (pa_cons (pe_lst (pa_cons (pe_tup (pa_cons pe_int (pa_cons pe_int pa_nil))) pa_nil)) pa_nil)))) pss_nil)
      (pss_cons (ps_if (pt_cmpR op_eq (pv 0) pe_int (nomark _)) (pss_one (ps_ret (pe_lst (pa_cons (pe_lst (pa_cons (pe_tup (pa_cons pe_int (pa_cons pe_int pa_nil))) pa_nil)) (pa_cons (pe_lst (pa_cons (pe_tup (pa_cons pe_int (pa_cons pe_int pa_nil))) pa_nil)) (pa_cons (pe_lst (pa_cons (pe_tup (pa_cons pe_int (pa_cons pe_int pa_nil))) pa_nil)) pa_nil)))))) pss_nil)
      (pss_one (ps_ret (pe_lst (pa_cons (pe_lst (pa_cons (pe_tup (pa_cons pe_int (pa_cons pe_int pa_nil))) (pa_cons (pe_tup (pa_cons pe_int (pa_cons pe_int pa_nil))) pa_nil))) (pa_cons (pe_lst (pa_cons (pe_tup (pa_cons pe_int (pa_cons pe_int pa_nil))) (pa_cons (pe_tup (pa_cons pe_int (pa_cons pe_int pa_nil))) pa_nil))) (pa_cons (pe_lst (pa_cons (pe_tup (pa_cons pe_int (pa_cons pe_int pa_nil))) (pa_cons (pe_tup (pa_cons pe_int (pa_cons pe_int pa_nil))) pa_nil))) pa_nil)))))))), ?_⟩
  refine q_when (b := decide (x = 2)) (et_test (ev_is (ev_op (ev_var rfl) ev_c (rv_eq rfl)) (congrArg V.bl (decide_vint _ _)))) (fun hb H1 e1 => ?_) fun hb H1 e1 => ?_
  · obtain rfl := of_decide_eq_true hb
    exact s_pg (K := K) (pss := [[pD (0, 1)]]) (ell_cons (en_lst (eda_cons ed_pr eda_nil) (by simp)) ell_nil) (by simp) fun p qs H2 hp e2 h2' hq => k p qs H2 (fresh_back e1 hp) (e1.trans e2) h2' (Paired.mapP hq fun a b z => ⟨fresh_back e1 z.1, z.2⟩)
  · have n2 : ¬ x = 2 := of_decide_eq_false hb
    refine q_when (b := decide (x = 3)) (et_test (ev_is (ev_op (ev_var rfl) ev_c (rv_eq rfl)) (congrArg V.bl (decide_vint _ _)))) (fun hb H2 e2 => ?_) fun hb H2 e2 => ?_
    · obtain rfl := of_decide_eq_true hb
      exact s_pg (K := K) (pss := [[pD (0, 1)], [pD (0, 2)], [pD (1, 2)]]) (ell_cons (en_lst (eda_cons ed_pr eda_nil) (by simp)) (ell_cons (en_lst (eda_cons ed_pr eda_nil) (by simp)) (ell_cons (en_lst (eda_cons ed_pr eda_nil) (by simp)) ell_nil))) (by simp) fun p qs H3 hp e3 h3' hq =>
        k p qs H3 (fresh_back (e1.trans e2) hp) ((e1.trans e2).trans e3) h3' (Paired.mapP hq fun a b z => ⟨fresh_back (e1.trans e2) z.1, z.2⟩)
    · have n3 : ¬ x = 3 := of_decide_eq_false hb
      obtain rfl : x = 4 := by omega
      exact s_pg (K := K) (pss := [[pD (0, 1), pD (2, 3)], [pD (0, 2), pD (1, 3)], [pD (0, 3), pD (1, 2)]]) (ell_cons (en_lst (eda_cons ed_pr (eda_cons ed_pr eda_nil)) (by simp)) (ell_cons (en_lst (eda_cons ed_pr (eda_cons ed_pr eda_nil)) (by simp)) (ell_cons (en_lst (eda_cons ed_pr (eda_cons ed_pr eda_nil)) (by simp)) ell_nil))) (by simp) fun p qs H3 hp e3 h3' hq =>
        k p qs H3 (fresh_back (e1.trans e2) hp) ((e1.trans e2).trans e3) h3' (Paired.mapP hq fun a b z => ⟨fresh_back (e1.trans e2) z.1, z.2⟩)

def tst (s k : Int) (acc : List Int) (q : (Int × Int) × Int) : List Int := if k < q.2 then acc.set (plc s q.1.1 q.1.2).toNat (acc.getD (plc s q.1.1 q.1.2).toNat 0 + 1) else acc
def trk (s : Int) (ps : List (Int × Int)) (left : List Int) (k : Int) : List Int := (ps.zip left).foldl (tst s k) (zer s)
def lfs (s : Int) (l : List Int) (ps : List (Int × Int)) : List Int := ps.map fun p => at2 s l p.1 p.2
def tks (s : Int) (l : List Int) (ps : List (Int × Int)) : List (List Int) := (List.range (mxl (lfs s l ps)).toNat).map fun (k : Nat) => trk s ps (lfs s l ps) (k : Int)
def R_tracks_of (ds : List PyData) (r : List PyData) : Prop := ∃ (s : Int) (l : List Int) (ps : List (Int × Int)), ds = [.int s, tI l, .list (ps.map pD)] ∧ 2 ≤ s ∧ s ≤ 5 ∧ Ld s l ∧ 0 < ps.length ∧ ps.length ≤ 10 ∧ (∀ p ∈ ps, 0 ≤ p.1 ∧ p.1 < p.2 ∧ p.2 < s) ∧ r = (tks s l ps).map tI
theorem at2_bd {s : Int} {l : List Int} {a b : Int} (h1 : 2 ≤ s) (h2 : s ≤ 5) (hl : Ld s l) (ha : 0 ≤ a) (hb : a < b) (hs : b < s) : 0 ≤ at2 s l a b ∧ at2 s l a b ≤ 99 := by
  obtain ⟨q1, q2⟩ := plc_ok h1 h2 ha hb hs
  rw [← hl.1] at q2
  rw [at2, List.getD_eq_getElem?_getD, List.getElem?_eq_getElem q2]
  exact hl.2 _ (List.getElem_mem q2)
theorem tst_len (s k : Int) (acc : List Int) (q : (Int × Int) × Int) : (tst s k acc q).length = acc.length := by
  unfold tst
  split
  · rw [List.length_set]
  · rfl
theorem tsts_len (s k : Int) : ∀ (qs : List ((Int × Int) × Int)) (acc : List Int), (qs.foldl (tst s k) acc).length = acc.length
  | [], _ => rfl
  | q :: qs, acc => by rw [List.foldl_cons, tsts_len s k qs, tst_len]
abbrev s_tracks_of : Stmt := topS 40
abbrev N_tracks_of : List Str := ["sides", "load", "pairs", "side", "far", "left", "found", "k", "track", "number"]
theorem sc_tracks_of : FnScope N_tracks_of ["sides", "load", "pairs"] (defScope s_tracks_of) := ⟨rfl, rfl, rfl, by decide +kernel, rfl, by decide +kernel, by decide +kernel⟩
theorem ok_tracks_of {f : Addr} {fd : FuncData} (F : Fun K "tracks_of" "tracks_of" s_tracks_of f fd) (T : Txt mg)
    (D_no_wires : DF P w K mg base "no_wires" 2 ["sides"] (spD K 1 R_no_wires)) (D_pair_place : DF P w K mg base "pair_place" 1 ["sides", "side", "far"] (spD K 3 R_pair_place)) (D_raised : DF P w K mg base "raised" 1 ["load", "place", "by"] (spD K 3 R_raised)) :
    FnOk P w K mg base CX0 3 f fd ["sides", "load", "pairs"] (spN K 3 R_tracks_of) := by
  refine F.ok sc_tracks_of (fun vs H Q E h => spN_len h) (fun cdv A outer s H vs Q E hr h => ?_)
  obtain ⟨ds, r, hd, _, ⟨x, l, ps, rfl, h1, h2, hl, h3, h4, h5, rfl⟩, k⟩ := h
  obtain ⟨v0, v1, v2, rfl, d0, d1, d2⟩ := dpa_three hd
  cases dp_int d0
  have np10 := np_le h1 h2
  refine ⟨_, (pss_cons (ps_setLc (i := 5) (own := [("side", 3), ("far", 4)]) (g := (gTup K 2 (gCons (gName 3) (gCons (gName 4) gNil)))) (tt := tYes) rfl sc_tracks_of.nd rfl rfl (sw_true rfl rfl rfl (by decide +kernel)) (pi_list (pv 2)) (blkOk_by (N := N_tracks_of) (sc := defScope s_tracks_of) (by decide +kernel)) (fun _ _ _ _ _ => (pg_tup rfl (pgs_cons (pg_name (i := 3) sc_tracks_of.nd rfl (Or.inl rfl)) (pgs_cons (pg_name (i := 4) sc_tracks_of.nd rfl (Or.inl rfl)) pgs_nil)))) (fun _ _ _ _ _ => pts_nil) (fun _ _ _ _ _ => (pe_ix (ix_tupK K rfl) (pv 1) (pe_D D_pair_place (hr.mono (by decide)) (by rfl) (pa_cons (pv 0) (pa_cons (pv 3) (pa_cons (pv 4) pa_nil)))) (fun _ _ => rfl))))
      (pss_cons (ps_set (i := 6) sc_tracks_of.nd rfl (.inl rfl) (pe_lst pa_nil))
      (pss_cons (ps_for PassesOwn.never rfl (pi_range1 (by rfl) T.b_range (pa_cons (pe_callB (cr_max rfl) (by rfl) T.b_max (by decide +kernel) (pa_cons (pv 5) pa_nil)) pa_nil)) (pg_name (i := 7) sc_tracks_of.nd rfl (Or.inl rfl)) (pss_cons (ps_set (i := 8) sc_tracks_of.nd rfl (.inl rfl) (pe_D D_no_wires (hr.mono (by decide)) (by rfl) (pa_cons (pv 0) pa_nil)))
      (pss_cons (ps_for PassesOwn.never rfl (pi_zipM false false (by rfl) T.b_zip (pa_cons (pv 2) (pa_cons (pv 5) pa_nil))) (pg_tup rfl (pgs_cons (pg_tup rfl (pgs_cons (pg_name (i := 3) sc_tracks_of.nd rfl (Or.inl rfl)) (pgs_cons (pg_name (i := 4) sc_tracks_of.nd rfl (Or.inl rfl)) pgs_nil))) (pgs_cons (pg_name (i := 9) sc_tracks_of.nd rfl (Or.inl rfl)) pgs_nil))) (pss_one (ps_if (pt_cmpR op_lt (pv 7) (pv 9) (nomark _)) (pss_one (ps_set (i := 8) sc_tracks_of.nd rfl (.inl rfl) (pe_D D_raised (hr.mono (by decide)) (by rfl) (pa_cons (pv 8) (pa_cons (pe_D D_pair_place (hr.mono (by decide)) (by rfl) (pa_cons (pv 0) (pa_cons (pv 3) (pa_cons (pv 4) pa_nil)))) (pa_cons pe_int pa_nil)))))) pss_nil)))
      (pss_one (ps_expr (pe_bm PySem.F.plainAttrs_list PySem.F.slot_list_append PySem.F.type_list_append mt_append (pv 6) (pa_cons (pv 8) pa_nil)))))))
      (pss_one (ps_ret (pv 6)))))), ?_⟩
  refine qn_asg (K := K) (ds := dI (lfs x l ps)) (en_is (en_lc (ei_lstD (ds := ps.map pD) (ed_var rfl d2) (immAll_map (fun _ => imm_tI _) _)) (by rw [List.length_map]; omega) (fun i => .int ((lfs x l ps).getD i 0)) (fun _ _ => by simp [imm]) fun H2 i d y Hb Q' e2 hg e3 hd2 k2 => ?_) ?_) fun lf vs H1 hlf e1 h1' hd1 => ?_
  · rw [List.getElem?_map] at hg
    obtain ⟨p, hp, rfl⟩ := Option.map_eq_some_iff.mp hg
    obtain ⟨g1, g2, g3⟩ := h5 p (List.mem_of_getElem? hp)
    refine g_two hd2 fun w1 w2 u1 u2 => ?_
    cases dp_int u1
    cases dp_int u2
    have d1' := dp_ex (e2.trans e3) _ _ d1
    refine k2 _ Hb (Ex.refl _) rfl (ed_is (ed_int (ed_at2 (s := x) (a := p.1) (b := p.2) (ed_var rfl d1') (EvD.int (ed_call (R := R_pair_place) (ds := [.int x, .int p.1, .int p.2]) (by walk_at "dl") rfl ⟨x, _, _, rfl, ⟨g1, by omega⟩, rfl⟩)) h1 h2 hl.1 g1 g2 g3)) ?_)
    rw [lfs, List.getD_eq_getElem?_getD, List.getElem?_map, hp]
    rfl
  · show _ = (lfs x l ps).map PyData.int
    rw [List.length_map]
    apply List.ext_getElem?
    intro i
    rw [List.getElem?_map, List.getElem?_map]
    have ll : (lfs x l ps).length = ps.length := by rw [lfs, List.length_map]
    by_cases hi : i < ps.length
    · rw [List.getElem?_range hi, List.getElem?_eq_getElem (by omega)]
      simp [List.getD_eq_getElem?_getD, ll, hi]
    · rw [List.getElem?_eq_none (by simpa using hi), List.getElem?_eq_none (by omega)]
      rfl
  · obtain rfl := dpa_ints hd1
    have d1 := dp_ex e1 _ _ d1
    have d2 := dp_ex e1 _ _ d2
    refine qn_asg (K := K) (en_lst eda_nil (by simp)) fun p vs H2 hp e2 h2' hd2 => ?_
    cases hd2
    have d1 := dp_ex e2 _ _ d1
    have hlf2 := e2 _ _ h1'
    have plf : lf ≠ p := ne_of_none h1' hp
    cases d2 with
    | @lst q vq _ hsq haq =>
    have haq2 := dpa_ex e2 _ _ haq
    have ll : (lfs x l ps).length = ps.length := by rw [lfs, List.length_map]
    have l0 : 0 < (lfs x l ps).length := by omega
    have bd : ∀ y ∈ lfs x l ps, 0 ≤ y ∧ y ≤ 99 := fun y hy => by
      obtain ⟨pp, hpp, rfl⟩ := List.mem_map.mp hy
      obtain ⟨g1, g2, g3⟩ := h5 pp hpp
      exact at2_bd h1 h2 hl g1 g2 g3
    have bm := bd _ (mxl_mem l0)
    have imp : immAll (ps.map pD) = true := immAll_map (fun _ => imm_tI _) _
    refine e_for (K := K) (S := [p]) (ei_rng1 (n := mxl (lfs x l ps)) (eda_cons (ed_int (ev_maxL (EvQ.toD (eq_var rfl hlf2 (ints_dpa _))) l0 (mxl_mem l0) fun y hy => mxl_ge hy)) eda_nil) (by omega))
      (fun H3 i σ' Ha => Xp [p] H3 Ha ∧ (∃ ws, Ha p = some (.lst ws) ∧ DpAll K Ha ws (((List.range i).map fun (k : Nat) => trk x ps (lfs x l ps) (k : Int)).map tI)) ∧ ∃ a b c d e, σ' = [some (.int x), some v1, some (.ref q), a, b, some (.ref lf), some (.ref p), c, d, e])
      (fun H3 e3 => ⟨Xp.refl _ _, ⟨[], e3 _ _ h2', by simp; exact .nil⟩, _, _, _, _, _, rfl⟩) (fun H3 i σ' Ha _ q => q.1) ?_ ?_
    · rintro H3 i d y σ' Ha Hb e3 hg ⟨p1, ⟨ws, p2, p3⟩, a, b, c, d', e', rfl⟩ e4 hd3
      have hlt : i < (mxl (lfs x l ps)).toNat := by have := (List.getElem?_eq_some_iff.mp hg).1; simpa using this
      rw [rng_get hlt] at hg
      cases hg
      cases hd3
      have ls3 : Ls H3 [p] := Ls.one (e3 _ _ h2')
      have tx3 : Tx H2 Hb := ((Tx.of_ex e3).trans (p1.tx ls3)).trans (Tx.of_ex e4)
      refine qd_asg (K := K) (d := tI (zer x)) (ed_call (R := R_no_wires) (ds := [.int x]) (by walk_at "dl") rfl ⟨x, rfl, h1, h2, rfl⟩) fun w0 H4 e5 u0 => ?_
      have sqq : SqL K H4 q vq := ex_l (e4.trans e5) (sqL_xp hsq hp (e2.trans e3) p1)
      have tx4 := tx3.trans (Tx.of_ex e5)
      have dq : Dp K H4 (.ref q) (.list (ps.map pD)) := .lst sqq (dpa_tx tx4 _ _ imp haq2)
      have lf4 : H4 lf = some (.lst ((lfs x l ps).map V.int)) := e5 _ _ (e4 _ _ (p1 _ _ (e3 _ _ hlf2) (by simpa using plf)))
      have d1 := dp_tx tx4 _ _ (imm_tI _) d1
      refine e_for (ei_zipLL (ds := ps.map pD) (es := dI (lfs x l ps)) (ed_var rfl dq) (EvQ.toD (eq_var rfl lf4 (ints_dpa _))) imp (immAll_dI _))
        (fun H5 j σ' Hc => Ex H5 Hc ∧ ∃ wt a b e, Dp K Hc wt (tI (((ps.zip (lfs x l ps)).take j).foldl (tst x (i : Int)) (zer x))) ∧ σ' = [some (.int x), some v1, some (.ref q), a, b, some (.ref lf), some (.ref p), some (.int (i : Int)), some wt, e])
        (fun H5 e6 => ⟨Ex.refl _, w0, _, _, _, by simpa using dp_ex e6 _ _ u0, rfl⟩) (fun H5 i σ' Ha _ q => Xp.of_ex q.1) ?_ ?_
      · rintro H5 j d y σ' Hc Hd e6 hg ⟨q1, wt, a, b, e, q2, rfl⟩ e7 hd4
        rw [List.getElem?_zipWith, List.getElem?_map, List.getElem?_map] at hg
        cases g1 : ps[j]? with
        | none => rw [g1] at hg; simp at hg
        | some pp =>
          cases g2 : (lfs x l ps)[j]? with
          | none => rw [g1, g2] at hg; simp at hg
          | some n =>
            rw [g1, g2] at hg
            have hg : PyData.tuple [pD pp, .int n] = d := by simpa using hg
            subst hg
            obtain ⟨z1, z2, z3⟩ := h5 pp (List.mem_of_getElem? g1)
            refine g_two hd4 fun w1 w2 u1 u2 => g_two u1 fun w3 w4 u3 u4 => ?_
            cases dp_int u2
            cases dp_int u3
            cases dp_int u4
            obtain ⟨y1, y2⟩ := plc_ok h1 h2 z1 z2 z3
            have q2 := dp_ex e7 _ _ q2
            have ln : (((ps.zip (lfs x l ps)).take j).foldl (tst x (i : Int)) (zer x)).length = np x := by rw [tsts_len]; simp [zer]
            have tk : (ps.zip (lfs x l ps)).take (j + 1) = (ps.zip (lfs x l ps)).take j ++ [(pp, n)] := by
              rw [List.take_add_one, show (ps.zip (lfs x l ps))[j]? = some (pp, n) by rw [List.getElem?_zip_eq_some]; exact ⟨g1, g2⟩]
              rfl
            refine s_when (b := decide ((i : Int) < n)) (et_test (ev_op (ev_var rfl) (ev_var rfl) rv_I0)) (fun hb H6 e8 => ?_) fun hb H6 e8 => ?_
            · have q2 := dp_ex e8 _ _ q2
              have hp3 : EvD K (tCall (spD K 3 R_pair_place) [] E0 (tCons (tVar 0) (tCons (tVar 3) (tCons (tVar 4) tNil)))) [some (.int x), some v1, some (.ref q), some (.int pp.1), some (.int pp.2), some (.ref lf), some (.ref p), some (.int (i : Int)), some wt, some (.int n)] H6 (.int (((plc x pp.1 pp.2).toNat : Nat) : Int)) :=
                ed_is (ed_call (R := R_pair_place) (ds := [.int x, .int pp.1, .int pp.2]) (by walk_at "dl") rfl ⟨x, _, _, rfl, ⟨z1, by omega⟩, rfl⟩) (by rw [Int.toNat_of_nonneg y1])
              refine d_asg (K := K) (d := tI (tst x (i : Int) (((ps.zip (lfs x l ps)).take j).foldl (tst x (i : Int)) (zer x)) (pp, n))) (ed_call (R := R_raised) (ds := [tI (((ps.zip (lfs x l ps)).take j).foldl (tst x (i : Int)) (zer x)), .int (((plc x pp.1 pp.2).toNat : Nat) : Int), .int 1]) (eda_cons (ed_var rfl q2) (eda_cons hp3 (eda_cons (ed_int ev_c) eda_nil))) rfl ⟨_, _, _, rfl, by omega, by omega, ?_⟩) fun v H7 e9 hv => ?_
              · rw [tst, if_pos (show (i : Int) < n from of_decide_eq_true hb)]
              · refine ⟨((q1.trans e7).trans e8).trans e9, v, _, _, _, ?_, rfl⟩
                rw [tk, List.foldl_append]
                exact hv
            · refine ⟨(q1.trans e7).trans e8, wt, _, _, _, ?_, rfl⟩
              rw [tk, List.foldl_append, List.foldl_cons, List.foldl_nil, tst, if_neg (show ¬ (i : Int) < n from of_decide_eq_false hb)]
              exact dp_ex e8 _ _ q2
      · rintro H5 σ' Hc e6 ⟨q1, wt, a, b, e, q2, rfl⟩
        rw [List.length_zipWith, List.length_map, List.length_map, List.take_of_length_le (by rw [List.length_zip]; omega)] at q2
        have atc := q1 _ _ (e6 _ _ (e5 _ _ (e4 _ _ p2)))
        have l3 := dpa_len p3
        rw [List.length_map, List.length_map, List.length_range] at l3
        refine d_app (K := K) (d := tI (trk x ps (lfs x l ps) (i : Int))) atc (ev_var rfl) (ed_var rfl q2) (by omega) fun v H6 e7 hv => ?_
        have at6 := e7 _ _ atc
        refine ⟨Xp.upd ((((p1.then e4).then e5).then (e6.trans q1)).then e7) (by simp), ⟨_, upd_same, ?_⟩, _, _, _, _, _, rfl⟩
        rw [List.range_succ, List.map_append, List.map_append]
        exact dpa_app (dpa_tx (Tx.lst at6) _ _ (immAll_tI _) (dpa_ex ((e4.trans e5).trans ((e6.trans q1).trans e7)) _ _ p3)) (.cons (dp_tx (Tx.lst at6) _ _ (imm_tI _) hv) .nil)
    · rintro H3 σ' Ha e3 ⟨p1, ⟨ws, p2, p3⟩, a, b, c, d', e', rfl⟩
      rw [List.length_map, List.length_range] at p3
      have e0 : Ex H Ha := xp_fresh (((e1.trans e2)).trans e3) p1 (fresh_back e1 hp)
      exact ⟨.ref p, rfl, k p ws Ha (fresh_back e1 hp) e0 p2 p3⟩

end
end K20
set_option Elab.async false
set_option linter.all false
set_option maxRecDepth 100000
set_option maxHeartbeats 4000000
namespace K20
open PySem PySem.Spec PyProof.Rows L2 Evl DL
local macro_rules | `(tactic| walk_at "dl") => `(tactic| first
  | exact ev_c | exact ev_var rfl | exact eda_nil
  | exact ed_var rfl (by assumption)
  | exact ed_int ev_c | exact ed_int (ev_var rfl)
  | (refine eda_cons ?_ ?_ <;> walk_at "dl")
  | (refine ed_int ?_; walk_at "dl")
  | (refine ev_op ?_ ?_ rv_I0 <;> walk_at "dl"))

section
variable {P : Program} {w : World} {K : PySem.W.Frag} {mg : Str → Option Value} {base : Heap}
def psl (s : Int) (l : List Int) : List (List Int) := (pgs s).flatMap (tks s l)
def R_plain_split (ds : List PyData) (r : PyData) : Prop := ∃ (s : Int) (l : List Int) (m : Int), ds = [.int s, tI l, .int m] ∧ 2 ≤ s ∧ s ≤ 4 ∧ Ld s l ∧ 0 ≤ m ∧ m ≤ 99 ∧
  r = if ((psl s l).length : Int) ≤ m then .list ((psl s l ++ List.replicate (m - ((psl s l).length : Int)).toNat (zer s)).map tI) else .none
theorem paired_get {α β : Type} {F : α → β → Prop} : ∀ {l : List α} {m : List β} {i : Nat} {a : α}, Paired F l m → l[i]? = some a → ∃ b, m[i]? = some b ∧ F a b
  | _, _, i, _, .nil, e => by simp at e
  | _, _, 0, _, .cons h _, e => ⟨_, rfl, by simp at e; subst e; exact h⟩
  | _, _, i + 1, _, .cons _ t, e => by
    obtain ⟨b, h1, h2⟩ := paired_get (i := i) t (by simpa using e)
    exact ⟨b, by simpa using h1, h2⟩
theorem pgs_in {s : Int} (h1 : 2 ≤ s) (h2 : s ≤ 4) : (pgs s).length ≤ 3 ∧ ∀ ps ∈ pgs s, 0 < ps.length ∧ ps.length ≤ 10 ∧ ∀ p ∈ ps, 0 ≤ p.1 ∧ p.1 < p.2 ∧ p.2 < s := by
  have hs' : s = 2 ∨ s = 3 ∨ s = 4 := by omega
  rcases hs' with rfl | rfl | rfl <;> decide
theorem tks_len {s : Int} {l : List Int} (h1 : 2 ≤ s) (h2 : s ≤ 5) (hl : Ld s l) {ps : List (Int × Int)} (h3 : 0 < ps.length) (h5 : ∀ p ∈ ps, 0 ≤ p.1 ∧ p.1 < p.2 ∧ p.2 < s) : (tks s l ps).length ≤ 99 := by
  have l0 : 0 < (lfs s l ps).length := by rw [lfs, List.length_map]; exact h3
  obtain ⟨pp, hpp, e⟩ := List.mem_map.mp (mxl_mem l0)
  obtain ⟨g1, g2, g3⟩ := h5 pp hpp
  have := at2_bd h1 h2 hl g1 g2 g3
  rw [tks, List.length_map, List.length_range]
  have e' : at2 s l pp.1 pp.2 = mxl (lfs s l ps) := e
  omega
theorem psl_take {s : Int} {l : List Int} (h1 : 2 ≤ s) (h2 : s ≤ 4) (hl : Ld s l) : ∀ n, (((pgs s).take n).flatMap (tks s l)).length ≤ 99 * n
  | 0 => by simp
  | n + 1 => by
    have ih := psl_take h1 h2 hl n
    rw [List.take_add_one, List.flatMap_append, List.length_append]
    cases g : (pgs s)[n]? with
    | none =>
      show _ + 0 ≤ _
      omega
    | some ps =>
      obtain ⟨q1, q2, q3⟩ := (pgs_in h1 h2).2 ps (List.mem_of_getElem? g)
      have := tks_len h1 (by omega) hl q1 q3
      rw [Option.toList_some, List.flatMap_cons, List.flatMap_nil, List.append_nil]
      omega
abbrev s_plain_split : Stmt := topS 41
abbrev N_plain_split : List Str := ["sides", "load", "room", "found", "pairs"]
theorem sc_plain_split : FnScope N_plain_split ["sides", "load", "room"] (defScope s_plain_split) := ⟨rfl, rfl, rfl, by decide +kernel, rfl, by decide +kernel, by decide +kernel⟩
theorem ok_plain_split {f : Addr} {fd : FuncData} (F : Fun K "plain_split" "plain_split" s_plain_split f fd) (T : Txt mg)
    (D_check_plain_load : DF P w K mg base "check_plain_load" 6 ["sides", "load"] (spD K 2 R_check_plain_load)) (D_check_room : DF P w K mg base "check_room" 3 ["room"] (spD K 1 R_check_room)) (D_no_wires : DF P w K mg base "no_wires" 2 ["sides"] (spD K 1 R_no_wires)) (D_pairings : DF P w K mg base "pairings" 1 ["sides"] (spPg K)) (D_tracks_of : DF P w K mg base "tracks_of" 3 ["sides", "load", "pairs"] (spN K 3 R_tracks_of)) :
    FnOk P w K mg base CX0 7 f fd ["sides", "load", "room"] (spD K 3 R_plain_split) := by
  refine F.ok sc_plain_split (fun vs H Q E h => spD_len h) (fun cdv A outer s H vs Q E hr h => ?_)
  obtain ⟨ds, r, hd, _, ⟨x, l, m, rfl, h1, h2, hl, h3, h4, rfl⟩, k⟩ := h
  obtain ⟨v0, v1, v2, rfl, d0, d1, d2⟩ := dpa_three hd
  cases dp_int d0
  cases dp_int d2
  refine ⟨_, (pss_cons (ps_expr (pe_D D_check_plain_load (hr.mono (by decide)) (by rfl) (pa_cons (pv 0) (pa_cons (pv 1) pa_nil))))
      (pss_cons (ps_expr (pe_D D_check_room (hr.mono (by decide)) (by rfl) (pa_cons (pv 2) pa_nil)))
      (pss_cons (ps_set (i := 3) sc_plain_split.nd rfl (.inl rfl) (pe_lst pa_nil))
      (pss_cons (ps_for PassesOwn.never rfl (pi_list (pe_D D_pairings (hr.mono (by decide)) (by rfl) (pa_cons (pv 0) pa_nil))) (pg_name (i := 4) sc_plain_split.nd rfl (Or.inl rfl)) (pss_one (ps_expr (pe_bm PySem.F.plainAttrs_list PySem.F.slot_list_extend PySem.F.type_list_extend mt_extend (pv 3) (pa_cons (pe_D D_tracks_of (hr.mono (by decide)) (by rfl) (pa_cons (pv 0) (pa_cons (pv 1) (pa_cons (pv 4) pa_nil)))) pa_nil)))))
      (pss_cons (ps_if (pt_cmpR op_gt (pe_callB call_len_seq (by rfl) T.b_len PySem.boot_len (pa_cons (pv 3) pa_nil)) (pv 2) (nomark _)) (pss_one (ps_ret pe_non)) pss_nil)
      (pss_one (ps_ret (pe_op op_cat (pv 3) (pe_op op_rep (pe_lst (pa_cons (pe_D D_no_wires (hr.mono (by decide)) (by rfl) (pa_cons (pv 0) pa_nil)) pa_nil)) (pe_op op_sub (pv 2) (pe_callB call_len_seq (by rfl) T.b_len PySem.boot_len (pa_cons (pv 3) pa_nil)))))))))))), ?_⟩
  refine (qd_drop (K := K) (d := .none) (ed_call (R := R_check_plain_load) (ds := [.int x, tI l]) (by walk_at "dl") rfl ⟨x, l, rfl, h1, h2, hl, rfl⟩) fun H1 e1 => ?_)
  refine (qd_drop (K := K) (d := .none) (ed_call (R := R_check_room) (ds := [.int m]) (by walk_at "dl") rfl ⟨m, rfl, h3, h4, rfl⟩) fun H2 e2 => ?_)
  refine qn_asg (K := K) (en_lst eda_nil (by simp)) fun p vs H3 hp e3 h3' hd3 => ?_
  cases hd3
  have d1 := dp_ex ((e1.trans e2).trans e3) _ _ d1
  obtain ⟨pl3, pin⟩ := pgs_in h1 h2
  show tFor _ _ _ _ _ H3
  refine ⟨.int x, rfl, x, rfl, h1, h2, fun pg qs H4 hpg e4 h4' hq => ⟨pg, rfl, ⟨_, sq_of h4'⟩, ?_⟩⟩
  have h3'' := e4 _ _ h3'
  have ppg : pg ≠ p := (ne_of_none h3' hpg).symm
  have lq := Paired.length hq
  rw [List.length_map] at lq
  refine for_list (xs := qs.map V.ref) (fun i σ' Ha => Xp [p] H4 Ha ∧ (∃ ws, Ha p = some (.lst ws) ∧ DpAll K Ha ws ((((pgs x).take i).flatMap (tks x l)).map tI)) ∧ ∃ a, σ' = [some (.int x), some v1, some (.int m), some (.ref p), a])
    ⟨Xp.refl _ _, ⟨[], h3'', by simp; exact .nil⟩, none, rfl⟩ (fun i σ' Ha _ z => sq_of (z.1 _ _ h4' (by simpa using ppg))) ?_ ?_
  · rintro i y σ' Ha hy ⟨p1, ⟨ws, p2, p3⟩, a, rfl⟩
    rw [List.getElem?_map] at hy
    obtain ⟨q, hqi, rfl⟩ := Option.map_eq_some_iff.mp hy
    obtain ⟨b, hb, hqn, wq, hq1, hq2⟩ := paired_get hq hqi
    rw [List.getElem?_map] at hb
    obtain ⟨ps, hps, rfl⟩ := Option.map_eq_some_iff.mp hb
    obtain ⟨z1, z2, z3⟩ := pin ps (List.mem_of_getElem? hps)
    have qp : q ≠ p := (ne_of_none h3' hqn).symm
    have hqa : Ha q = some (.lst wq) := p1 _ _ hq1 (by simpa using qp)
    have tx : Tx H4 Ha := p1.tx (Ls.one h3'')
    have dq : Dp K Ha (.ref q) (.list (ps.map pD)) := .lst (sq_of hqa) (dpa_tx tx _ _ (immAll_map (fun _ => imm_tI _) _) hq2)
    have d1 := dp_tx ((Tx.of_ex e4).trans tx) _ _ (imm_tI _) d1
    have tl := tks_len h1 (by omega) hl z1 z3
    have pt := psl_take h1 h2 hl i
    have il : i < (pgs x).length := (List.getElem?_eq_some_iff.mp hps).1
    have lw := dpa_len p3
    rw [List.length_map] at lw
    refine d_ext (K := K) (ds := (tks x l ps).map tI) p2 (ev_var rfl) (EvN.toQ (en_call (R := R_tracks_of) (ds := [.int x, tI l, .list (ps.map pD)]) (eda_cons (ed_int (ev_var rfl)) (eda_cons (ed_var rfl d1) (eda_cons (ed_var rfl dq) eda_nil))) rfl ⟨x, l, ps, rfl, h1, by omega, hl, z1, z2, z3, rfl⟩)) (by rw [List.length_map]; omega) fun zs H5 e5 hz => ?_
    have at5 := e5 _ _ p2
    refine ⟨Xp.upd (p1.then e5) (by simp), ⟨_, upd_same, ?_⟩, _, rfl⟩
    rw [List.take_add_one, hps, List.flatMap_append, List.map_append]
    refine dpa_app (dpa_tx (Tx.lst at5) _ _ (immAll_tI _) (dpa_ex e5 _ _ p3)) ?_
    simpa using dpa_tx (Tx.lst at5) _ _ (immAll_tI _) hz
  · rintro σ' Ha ⟨p1, ⟨ws, p2, p3⟩, a, rfl⟩
    rw [List.length_map, lq, List.take_length] at p3
    have p3 : DpAll K Ha ws ((psl x l).map tI) := p3
    have e0 : Ex H Ha := xp_fresh (((e1.trans e2).trans e3).trans e4) p1 (fresh_back (e1.trans e2) hp)
    have pt := psl_take h1 h2 hl (pgs x).length
    rw [List.take_length] at pt
    have pt : (psl x l).length ≤ 99 * (pgs x).length := pt
    refine q_when (b := decide (m < ((psl x l).length : Int))) (et_test (ev_op (ev_is (ev_lenL (EvQ.toD (eq_var rfl p2 p3))) (by rw [List.length_map])) (ev_var rfl) rv_I0)) (fun hb H5 e5 => ?_) fun hb H5 e5 => ?_
    · have := of_decide_eq_true hb
      rw [if_neg (by omega)] at k
      exact d_ret (K := K) (d := .none) (ev_d ev_c .non) fun v H6 e6 hv => k v H6 ((e0.trans e5).trans e6) hv
    · have := of_decide_eq_false hb
      rw [if_pos (by omega)] at k
      have p2 := e5 _ _ p2
      have p3 := dpa_ex e5 _ _ p3
      refine d_ret (K := K) (ed_is (EvN.toD (en_cat (eq_var rfl p2 p3) (EvN.toQ (en_rep (d := tI (zer x)) (n := m - ((psl x l).length : Int)) (EvN.toQ (en_lst (eda_cons (ed_call (R := R_no_wires) (ds := [.int x]) (by walk_at "dl") rfl ⟨x, rfl, h1, by omega, rfl⟩) eda_nil) (by simp))) (ev_op (ev_var rfl) (ev_is (ev_lenL (EvQ.toD (eq_var rfl p2 p3))) (by rw [List.length_map])) rv_I0) (by omega) (by omega))) ?_)) ?_) fun v H6 e6 hv => k v H6 ((e0.trans e5).trans e6) hv
      · rw [List.length_map, List.length_replicate]
        omega
      · rw [List.map_append, List.map_replicate]

end
end K20
set_option Elab.async false
set_option linter.all false
set_option maxRecDepth 100000
set_option maxHeartbeats 4000000
namespace K20
open PySem PySem.Spec PyProof.Rows L2 Evl DL
local macro_rules | `(tactic| walk_at "dl") => `(tactic| first
  | exact ev_c | exact ev_var rfl | exact eda_nil
  | exact ed_var rfl (by assumption)
  | exact ed_int ev_c | exact ed_int (ev_var rfl)
  | (refine eda_cons ?_ ?_ <;> walk_at "dl")
  | (refine ed_int ?_; walk_at "dl")
  | (refine ev_op ?_ ?_ rv_I0 <;> walk_at "dl"))

section
variable {K : PySem.W.Frag} {σ : L2.St} {H : Hp} {ta tb te : TE} {d : PyData}
/-- xs.append((e, x)) -/
theorem app_pair {D : Ends} {l : Addr} {xs : List V} {v : V} {i k : Nat} (hl : H l = some (.lst xs)) (ha : σ[i]? = some (some (.ref l))) (h : EvD K te σ H d) (hv : σ[k]? = some (some v)) (hz : xs.length < 100000)
    (q : ∀ T a H1, Ex H H1 → H T = none → H1 T = some (.tup [a, v]) → Dp K H1 a d → D.nx σ (upd H1 l (.lst (xs ++ [.ref T])))) :
    tDrop (tBM K "list" rAppend (tVar i) (tCons (tTup (tCons te (tCons (tVar k) tNil))) tNil)) D σ H :=
  ⟨_, ha, Or.inl ⟨rfl, xs, sq_of hl⟩, h H (Ex.refl _) _ fun a H1 e1 hd => ⟨v, hv, by show 2 ≤ sizeLine; decide, fun T hT => ⟨l, xs, .ref T, rfl, rfl, Ex.new hT _ _ (e1 _ _ hl), sz_lt hz,
    q T a _ (e1.trans (Ex.new hT)) (fresh_back e1 hT) upd_same (dp_ex (Ex.new hT) _ _ hd)⟩⟩⟩
theorem et_lstV {k : Nat} {l : Addr} {xs : List V} (h : σ[k]? = some (some (.ref l))) (hl : H l = some (.lst xs)) : EvT (fun σ H Q => tVar k σ H fun x H' => ∃ k, TruV K x H' k ∧ Q k H') σ H (!xs.isEmpty) := fun H1 e Q q =>
  ⟨_, h, _, .inl ⟨xs, sq_of (e _ _ hl), rfl⟩, q H1 (Ex.refl _)⟩
end
section
variable {P : Program} {w : World} {K : PySem.W.Frag} {mg : Str → Option Value} {base : Heap}
theorem xp_fresh2 {p r : Addr} {H H2 Ha : Hp} (e : Ex H H2) (hp : H p = none) (hr : H r = none) (x : Xp [p, r] H2 Ha) : Ex H Ha := fun a o ho => x a o (e a o ho) (fun hm => by
  rcases (by simpa using hm : a = p ∨ a = r) with rfl | rfl
  · rw [hp] at ho; cases ho
  · rw [hr] at ho; cases ho)
theorem gpair {T : Addr} {v1 v2 : V} {σ : L2.St} {H : Hp} {i j : Nat} {Q : L2.St → Hp → Prop} (h : SqT K H T [v1, v2]) (q : Q ((σ.set i (some v1)).set j (some v2)) H) : gTup K 2 (gCons (gName i) (gCons (gName j) gNil)) (.ref T) σ H Q :=
  ⟨T, [v1, v2], rfl, h, rfl, v1, [v2], rfl, v2, [], rfl, rfl, q⟩
abbrev LS := List (List Int × List Int) × List (List Int)
def subr (rm : List Int) (q : Int × Int) (n : Int) : List Int := (rm.set q.1.toNat (rm.getD q.1.toNat 0 - n)).set q.2.toNat ((rm.set q.1.toNat (rm.getD q.1.toNat 0 - n)).getD q.2.toNat 0 - n)
def lnew (s : Int) (l rm : List Int) : List (List Int × List Int) :=
  (List.range (min (rm.getD ((prs s).getD l.length (0, 0)).1.toNat 0) (rm.getD ((prs s).getD l.length (0, 0)).2.toNat 0) - -1).toNat).map fun (i : Nat) =>
    (l ++ [min (rm.getD ((prs s).getD l.length (0, 0)).1.toNat 0) (rm.getD ((prs s).getD l.length (0, 0)).2.toNat 0) - (i : Int)],
      subr rm ((prs s).getD l.length (0, 0)) (min (rm.getD ((prs s).getD l.length (0, 0)).1.toNat 0) (rm.getD ((prs s).getD l.length (0, 0)).2.toNat 0) - (i : Int)))
def lstep (s : Int) (st : LS) : LS := match st.1.getLast? with
  | none => st
  | some (l, rm) => if l.length = np s then (st.1.dropLast, st.2 ++ [l]) else (st.1.dropLast ++ lnew s l rm, st.2)
def liter (s t : Int) : Nat → LS
  | 0 => ([([], List.replicate s.toNat t)], [])
  | n + 1 => lstep s (liter s t n)
def LL (s t : Int) : List (List Int) := (liter s t 400).2
structure Good (s : Int) (n : Nat) (st : LS) : Prop where
  its : ∀ q ∈ st.1, q.1.length ≤ np s ∧ q.2.length = s.toNat ∧ ∀ i : Nat, 0 ≤ q.2.getD i 0 ∧ q.2.getD i 0 ≤ 2
  l1 : st.1.length ≤ 1 + 3 * n
  l2 : st.2.length ≤ n
theorem getD_set {l : List Int} {i j : Nat} {v : Int} (h : i < l.length) : (l.set i v).getD j 0 = if j = i then v else l.getD j 0 := by
  rw [List.getD_eq_getElem?_getD, List.getD_eq_getElem?_getD, List.getElem?_set]
  by_cases e : j = i
  · subst e; simp [h]
  · rw [if_neg (Ne.symm e), if_neg e]
theorem prs_get {s : Int} (h1 : 2 ≤ s) (h2 : s ≤ 5) {k : Nat} (h : k < np s) : (prs s)[k]? = some ((prs s).getD k (0, 0)) ∧ 0 ≤ ((prs s).getD k (0, 0)).1 ∧ ((prs s).getD k (0, 0)).1 < ((prs s).getD k (0, 0)).2 ∧ ((prs s).getD k (0, 0)).2 < s := by
  have h' : k < (prs s).length := h
  have e : (prs s)[k]? = some ((prs s).getD k (0, 0)) := by rw [List.getD_eq_getElem?_getD, List.getElem?_eq_getElem h']; rfl
  exact ⟨e, prs_in (by omega) h2 (List.mem_of_getElem? e)⟩
theorem good_step {s : Int} (h1 : 2 ≤ s) (h2 : s ≤ 5) {n : Nat} {st : LS} (g : Good s n st) : Good s (n + 1) (lstep s st) := by
  have gl1 := g.l1
  have gl2 := g.l2
  unfold lstep
  cases hlast : st.1.getLast? with
  | none => exact (show Good s (n + 1) st from ⟨g.its, by omega, by omega⟩)
  | some q =>
    obtain ⟨l, rm⟩ := q
    have hm : (l, rm) ∈ st.1 := List.mem_of_getLast? hlast
    obtain ⟨g1, g2, g3⟩ := g.its _ hm
    have g1 : l.length ≤ np s := g1
    have g2 : rm.length = s.toNat := g2
    have g3 : ∀ i : Nat, 0 ≤ rm.getD i 0 ∧ rm.getD i 0 ≤ 2 := g3
    have dl : st.1.dropLast.length = st.1.length - 1 := List.length_dropLast
    show Good s (n + 1) (if l.length = np s then _ else _)
    split
    · exact ⟨fun q hq => g.its q (List.dropLast_subset _ hq), by show st.1.dropLast.length ≤ _; omega, by show (st.2 ++ [l]).length ≤ _; rw [List.length_append, List.length_singleton]; omega⟩
    · rename_i hne
      have hlt : l.length < np s := by omega
      obtain ⟨_, p1, p2, p3⟩ := prs_get h1 h2 hlt
      have ga := g3 ((prs s).getD l.length (0, 0)).1.toNat
      have gb := g3 ((prs s).getD l.length (0, 0)).2.toNat
      refine ⟨fun q hq => ?_, ?_, by show st.2.length ≤ _; omega⟩
      · rcases List.mem_append.mp hq with hq | hq
        · exact g.its q (List.dropLast_subset _ hq)
        · obtain ⟨i, hi, rfl⟩ := List.mem_map.mp hq
          have hi := List.mem_range.mp hi
          have sl : ∀ n, (subr rm ((prs s).getD l.length (0, 0)) n).length = rm.length := fun n => by simp [subr]
          refine ⟨by show (l ++ [_]).length ≤ _; rw [List.length_append, List.length_singleton]; omega, by rw [sl]; exact g2, fun j => ?_⟩
          have gj := g3 j
          show 0 ≤ (subr rm _ _).getD j 0 ∧ _
          unfold subr
          rw [getD_set (by rw [List.length_set]; omega), getD_set (by omega), getD_set (by omega)]
          have ne : ¬ ((prs s).getD l.length (0, 0)).2.toNat = ((prs s).getD l.length (0, 0)).1.toNat := by omega
          rw [if_neg ne]
          split
          · omega
          · split <;> omega
      · show (st.1.dropLast ++ lnew s l rm).length ≤ _
        rw [List.length_append, dl, lnew, List.length_map, List.length_range]
        omega
theorem good_iter {s t : Int} (h1 : 2 ≤ s) (h2 : s ≤ 5) (h3 : 0 ≤ t) (h4 : t ≤ 2) : ∀ n, Good s n (liter s t n)
  | 0 => ⟨fun q hq => by
      have e : q = ([], List.replicate s.toNat t) := by simpa [liter] using hq
      subst e
      refine ⟨by simp, by simp, fun i => ?_⟩
      show 0 ≤ (List.replicate s.toNat t).getD i 0 ∧ (List.replicate s.toNat t).getD i 0 ≤ 2
      rw [List.getD_eq_getElem?_getD, List.getElem?_replicate]
      split
      · exact ⟨h3, h4⟩
      · exact ⟨Int.le_refl _, by decide⟩, by simp [liter], by simp [liter]⟩
  | n + 1 => good_step h1 h2 (good_iter h1 h2 h3 h4 n)
theorem liter_stop {s t : Int} {n : Nat} (h : (liter s t n).1 = []) : ∀ k, liter s t (n + k) = liter s t n
  | 0 => rfl
  | k + 1 => by
    show lstep s (liter s t (n + k)) = _
    rw [liter_stop h k]
    unfold lstep
    rw [h]
    rfl
/-- an item of rest: (load, room) -/
def Itm (K : PySem.W.Frag) (p r : Addr) (H : Hp) (v : V) (q : List Int × List Int) : Prop := ∃ T a b, v = .ref T ∧ H T = some (.tup [a, .ref b]) ∧ Dp K H a (tI q.1) ∧ H b = some (.lst (q.2.map V.int)) ∧ b ≠ p ∧ b ≠ r
theorem itm_ex {p r : Addr} {H H' : Hp} {v : V} {q : List Int × List Int} (e : Ex H H') (h : Itm K p r H v q) : Itm K p r H' v q := by
  obtain ⟨T, a, b, rfl, h1, h2, h3, h4, h5⟩ := h
  exact ⟨T, a, b, rfl, e _ _ h1, dp_ex e _ _ h2, e _ _ h3, h4, h5⟩
/-- found or rest itself changes -/
theorem itm_upd {p r c : Addr} {H : Hp} {o : List V} {u : HO} {v : V} {q : List Int × List Int} (hc : H c = some (.lst o)) (hn : c = p ∨ c = r) (h : Itm K p r H v q) : Itm K p r (L2.upd H c u) v q := by
  obtain ⟨T, a, b, rfl, h1, h2, h3, h4, h5⟩ := h
  refine ⟨T, a, b, rfl, ?_, dp_tx (Tx.lst hc) _ _ (imm_tI _) h2, ?_, h4, h5⟩
  · rw [upd_ne (ne_of h1 hc (fun z => nomatch z))]
    exact h1
  · rw [upd_ne (by rcases hn with rfl | rfl <;> assumption)]
    exact h3
theorem itms_ex {p r : Addr} {H H' : Hp} {vs : List V} {m : List (List Int × List Int)} (e : Ex H H') (h : Paired (Itm K p r H) vs m) : Paired (Itm K p r H') vs m := by
  induction h with
  | nil => exact .nil
  | cons a _ ih => exact .cons (itm_ex e a) ih
theorem itms_upd {p r c : Addr} {H : Hp} {o : List V} {u : HO} {vs : List V} {m : List (List Int × List Int)} (hc : H c = some (.lst o)) (hn : c = p ∨ c = r) (h : Paired (Itm K p r H) vs m) : Paired (Itm K p r (L2.upd H c u)) vs m := by
  induction h with
  | nil => exact .nil
  | cons a _ ih => exact .cons (itm_upd hc hn a) ih
def R_let_loads (ds : List PyData) (r : List PyData) : Prop := ∃ s t : Int, ds = [.int s, .int t, .int 20000] ∧ 2 ≤ s ∧ s ≤ 5 ∧ 0 ≤ t ∧ t ≤ 2 ∧ (liter s t 400).1 = [] ∧ r = (LL s t).map tI
/-- the loop's word at the n-th turn -/
def LW (K : PySem.W.Frag) (s t : Int) (pq p r : Addr) (Hs : Hp) (n : Nat) (σ : L2.St) (Ha : Hp) : Prop :=
  Xp [p, r] Hs Ha ∧ (∃ ws, Ha r = some (.lst ws) ∧ Paired (Itm K p r Ha) ws (liter s t n).1) ∧ (∃ vs, Ha p = some (.lst vs) ∧ DpAll K Ha vs ((liter s t n).2.map tI)) ∧
  ∃ a b c d e f, σ = [some (.int s), some (.int t), some (.int 20000), some (.ref pq), some (.ref p), some (.ref r), a, b, c, d, e, f]
theorem paired_last {α β : Type} {F : α → β → Prop} {l : List α} {m : List β} {y : β} (h : Paired F l m) (e : m.getLast? = some y) : ∃ x, l[l.length - 1]? = some x ∧ F x y ∧ Paired F l.dropLast m.dropLast := by
  have hl := Paired.length h
  rw [List.getLast?_eq_getElem?] at e
  have get : ∀ {l : List α} {m : List β} {i : Nat} {b : β}, Paired F l m → m[i]? = some b → ∃ a, l[i]? = some a ∧ F a b := by
    intro l m i b hh
    induction hh generalizing i with
    | nil => intro e; simp at e
    | cons h _ ih =>
      intro e
      cases i with
      | zero => exact ⟨_, rfl, by simp at e; subst e; exact h⟩
      | succ i => exact ih (by simpa using e)
  obtain ⟨x, hx, hf⟩ := get h e
  refine ⟨x, by rw [hl]; exact hx, hf, ?_⟩
  have dl : ∀ {l : List α} {m : List β}, Paired F l m → Paired F l.dropLast m.dropLast := by
    intro l m hh
    induction hh with
    | nil => exact .nil
    | @cons a b as bs h t ih =>
      cases t with
      | nil => exact .nil
      | cons h2 t2 => exact .cons h ih
  exact dl h
theorem paired_app {α β : Type} {F : α → β → Prop} : ∀ {l : List α} {m : List β} {l2 : List α} {m2 : List β}, Paired F l m → Paired F l2 m2 → Paired F (l ++ l2) (m ++ m2)
  | _, _, _, _, .nil, h => h
  | _, _, _, _, .cons a t, h => .cons a (paired_app t h)
abbrev s_let_loads : Stmt := topS 26
abbrev N_let_loads : List Str := ["sides", "tracks", "most", "pairs", "found", "rest", "load", "room", "side", "far", "number", "left"]
theorem sc_let_loads : FnScope N_let_loads ["sides", "tracks", "most"] (defScope s_let_loads) := ⟨rfl, rfl, rfl, by decide +kernel, rfl, by decide +kernel, by decide +kernel⟩
theorem ok_let_loads {f : Addr} {fd : FuncData} (F : Fun K "let_loads" "let_loads" s_let_loads f fd) (T : Txt mg)
    (D_side_pairs : DF P w K mg base "side_pairs" 1 ["sides"] (spN K 1 R_side_pairs)) :
    FnOk P w K mg base CX0 2 f fd ["sides", "tracks", "most"] (spN K 3 R_let_loads) := by
  refine F.ok sc_let_loads (fun vs H Q E h => spN_len h) (fun cdv A outer s H vs Q E hr h => ?_)
  obtain ⟨ds, r, hd, _, ⟨x, t, rfl, h1, h2, h3, h4, h5, rfl⟩, k⟩ := h
  obtain rfl := dpa_ints (l := [x, t, 20000]) hd
  refine ⟨_, (pss_cons (ps_set (i := 3) sc_let_loads.nd rfl (.inl rfl) (pe_D D_side_pairs (hr.mono (by decide)) (by rfl) (pa_cons (pv 0) pa_nil)))
      (pss_cons (ps_set (i := 4) sc_let_loads.nd rfl (.inl rfl) (pe_lst pa_nil))
      (pss_cons (ps_set (i := 5) sc_let_loads.nd rfl (.inl rfl) (pe_lst (pa_cons (pe_tup (pa_cons (pe_tup pa_nil) (pa_cons (pe_op op_rep (pe_lst (pa_cons (pv 1) pa_nil)) (pv 0)) pa_nil))) pa_nil)))
      (pss_cons (ps_while PassesOwn.never (pt_truth (pv 5) (by intro _; rfl)) (pss_cons (ps_asg (pe_bm0 PySem.F.plainAttrs_list PySem.F.slot_list_pop PySem.F.type_list_pop mt_pop (pv 5)) (pg_tup rfl (pgs_cons (pg_name (i := 6) sc_let_loads.nd rfl (Or.inl rfl)) (pgs_cons (pg_name (i := 7) sc_let_loads.nd rfl (Or.inl rfl)) pgs_nil))))
      (pss_cons (ps_if (pt_cmpR op_eq (pe_callB call_len_seq (by rfl) T.b_len PySem.boot_len (pa_cons (pv 6) pa_nil)) (pe_callB call_len_seq (by rfl) T.b_len PySem.boot_len (pa_cons (pv 3) pa_nil)) (nomark _)) (pss_cons (ps_expr (pe_bm PySem.F.plainAttrs_list PySem.F.slot_list_append PySem.F.type_list_append mt_append (pv 4) (pa_cons (pv 6) pa_nil)))
      (pss_cons (ps_if (pt_cmpR op_gt (pe_callB call_len_seq (by rfl) T.b_len PySem.boot_len (pa_cons (pv 4) pa_nil)) (pv 2) (nomark _)) (pss_one ps_never) pss_nil)
      (pss_one ps_continue))) pss_nil)
      (pss_cons (ps_asg (pe_ix ix_list (pv 3) (pe_callB call_len_seq (by rfl) T.b_len PySem.boot_len (pa_cons (pv 6) pa_nil)) (fun _ _ => rfl)) (pg_tup rfl (pgs_cons (pg_name (i := 8) sc_let_loads.nd rfl (Or.inl rfl)) (pgs_cons (pg_name (i := 9) sc_let_loads.nd rfl (Or.inl rfl)) pgs_nil))))
      (pss_one (ps_for PassesOwn.never rfl (pi_range3 (by rfl) T.b_range (pa_cons (pe_callB (call_min2 rfl) (by rfl) T.b_min (by decide +kernel) (pa_cons (pe_ix ix_list (pv 7) (pv 8) (fun _ _ => rfl)) (pa_cons (pe_ix ix_list (pv 7) (pv 9) (fun _ _ => rfl)) pa_nil))) (pa_cons (pe_un un_neg pe_int) (pa_cons (pe_un un_neg pe_int) pa_nil)))) (pg_name (i := 10) sc_let_loads.nd rfl (Or.inl rfl)) (pss_cons (ps_set (i := 11) sc_let_loads.nd rfl (.inl rfl) (pe_callTy call_list_of (by rfl) T.b_list (by decide +kernel) (pa_cons (pv 7) pa_nil)))
      (pss_cons (ps_augS (pv 11) (pv 8) get_list (pv 10) ip_sub set_list)
      (pss_cons (ps_augS (pv 11) (pv 9) get_list (pv 10) ip_sub set_list)
      (pss_one (ps_expr (pe_bm PySem.F.plainAttrs_list PySem.F.slot_list_append PySem.F.type_list_append mt_append (pv 5) (pa_cons (pe_tup (pa_cons (pe_op op_catA (pv 6) (pe_tup (pa_cons (pv 10) pa_nil))) (pa_cons (pv 11) pa_nil))) pa_nil)))))))))))))
      (pss_one (ps_ret (pv 4))))))), ?_⟩
  refine qn_asg (K := K) (en_call (R := R_side_pairs) (ds := [.int x]) (by walk_at "dl") rfl ⟨x, rfl, by omega, h2, rfl⟩) fun pq wq H1 hpq e1 h1' hd1 => ?_
  refine qn_asg (K := K) (en_lst eda_nil (by simp)) fun p vs H2 hp e2 h2' hd2 => ?_
  cases hd2
  refine ⟨by show 0 ≤ sizeLine; decide, fun a0 ha0 => ?_⟩
  refine en_rep (K := K) (σ := [some (.int x), some (.int t), some (.int 20000), some (.ref pq), some (.ref p), none, none, none, none, none, none, none]) (d := .int t) (EvN.toQ (en_lst (eda_cons (ed_int (ev_var rfl)) eda_nil) (by simp))) (ev_var rfl) (by omega) (by omega) _ (Ex.refl _) _ fun b wb H4 hb e4 h4' hd4 => ?_
  refine ⟨by show 2 ≤ sizeLine; decide, fun T0 hT0 => ⟨by show 1 ≤ sizeLine; decide, fun r hr0 => ?_⟩⟩
  have e24 : Ex H2 H4 := (Ex.new ha0).trans e4
  have e25 : Ex H2 (upd (upd H4 T0 (.tup [.ref a0, .ref b])) r (.lst [.ref T0])) := (e24.trans (Ex.new hT0)).trans (Ex.new hr0)
  have hpq1 : H1 pq ≠ none := by rw [h1']; simp
  have npp : pq ≠ p := fun z => by rw [z] at hpq1; exact hpq1 hp
  have h2p : H2 p ≠ none := by rw [h2']; simp
  have hpT : p ≠ T0 := fun z => h2p (fresh_back e24 (z ▸ hT0))
  have hpr : p ≠ r := fun z => h2p (fresh_back (e24.trans (Ex.new hT0)) (z ▸ hr0))
  have nqr : pq ≠ r := fun z => hpq1 (fresh_back ((e2.trans e24).trans (Ex.new hT0)) (z ▸ hr0))
  have hbr : b ≠ r := fun z => by
    have q := Ex.new hT0 (o := .tup [.ref a0, .ref b]) b _ h4'
    have z2 := hr0
    rw [← z, q] at z2
    cases z2
  have hrn : H r = none := fresh_back ((e1.trans e2).trans (e24.trans (Ex.new hT0))) hr0
  have hbp : b ≠ p := fun z => by
    have q := (Ex.new ha0 (o := .tup [])) p _ h2'
    rw [← z, hb] at q
    cases q
  have hab : upd H2 a0 (.tup []) a0 = some (.tup []) := upd_same
  generalize hHs : upd (upd H4 T0 (.tup [.ref a0, .ref b])) r (.lst [.ref T0]) = Hs at e25 ⊢
  have e4s : Ex H4 Hs := hHs ▸ (Ex.new hT0).trans (Ex.new hr0)
  have hsr : Hs r = some (.lst [.ref T0]) := by rw [← hHs]; exact upd_same
  have hsT : Hs T0 = some (.tup [.ref a0, .ref b]) := by
    rw [← hHs, upd_ne (fun z => by rw [← z, upd_same] at hr0; cases hr0)]
    exact upd_same
  have hspq : Hs pq = some (.lst wq) := e25 _ _ (e2 _ _ h1')
  have dpq : DpAll K Hs wq ((prs x).map pD) := dpa_ex (e2.trans e25) _ _ hd1
  have ipq : immAll ((prs x).map pD) = true := immAll_map (fun _ => imm_tI _) _
  have lsS : Ls Hs [p, r] := Ls.cons (e25 _ _ h2') (Ls.one hsr)
  have hb' : DpAll K Hs wb (dI (List.replicate x.toNat t)) := by
    rw [dI, List.map_replicate]
    exact dpa_ex e4s _ _ hd4
  rw [dpa_ints hb'] at h4'
  have w0 : LW K x t pq p r Hs 0 [some (.int x), some (.int t), some (.int 20000), some (.ref pq), some (.ref p), some (.ref r), none, none, none, none, none, none] Hs :=
    ⟨Xp.refl _ _, ⟨_, hsr, .cons ⟨T0, .ref a0, b, rfl, hsT, .tup (st_of (e4s _ _ (e4 _ _ hab))) .nil, e4s _ _ h4', hbp, hbr⟩ .nil⟩, ⟨[], e25 _ _ h2', .nil⟩, none, none, none, none, none, none, rfl⟩
  have lnp : ∀ {l : List Int}, ((dI l).length : Int) = (l.length : Int) := fun {l} => by rw [dI, List.length_map]
  refine ⟨fun m σ' Ha => ∃ n, m = 400 - n ∧ n ≤ 400 ∧ LW K x t pq p r Hs n σ' Ha, ⟨_, 0, rfl, by decide, w0⟩, ?_⟩
  rintro m σ' Ha ⟨n, rfl, hn, xp, ⟨ws, hrw, pws⟩, ⟨vs, hpv, dvs⟩, a, b, c, d, e, f, rfl⟩
  have gd := good_iter h1 h2 h3 h4 n
  refine et_lstV (K := K) rfl hrw Ha (Ex.refl _) _ fun Hb eb => ?_
  have hrw := eb _ _ hrw
  have hpv := eb _ _ hpv
  have dvs := dpa_ex eb _ _ dvs
  have pws := itms_ex eb pws
  have xp := xp.then eb
  cases hlast : (liter x t n).1.getLast? with
  | none =>
    have em : (liter x t n).1 = [] := List.getLast?_eq_none_iff.mp hlast
    have lw := Paired.length pws
    rw [em] at lw
    have wn : ws = [] := List.eq_nil_of_length_eq_zero lw
    subst wn
    show tRet (tVar 4) _ _ _
    have el : liter x t 400 = liter x t n := by
      have := liter_stop em (400 - n)
      rwa [show n + (400 - n) = 400 by omega] at this
    refine ⟨.ref p, rfl, k p vs Hb (fresh_back e1 hp) (xp_fresh2 ((e1.trans e2).trans e25) (fresh_back e1 hp) hrn xp) hpv ?_⟩
    rw [LL, el]
    exact dvs
  | some q =>
    obtain ⟨l, rm⟩ := q
    have hm : (l, rm) ∈ (liter x t n).1 := List.mem_of_getLast? hlast
    obtain ⟨g1, g2, g3⟩ := gd.its _ hm
    have g1 : l.length ≤ np x := g1
    have g2 : rm.length = x.toNat := g2
    have g3 : ∀ i : Nat, 0 ≤ rm.getD i 0 ∧ rm.getD i 0 ≤ 2 := g3
    have gl1 := gd.l1
    have gl2 := gd.l2
    obtain ⟨y, hy, ⟨T, va, b, rfl, hT, da, hbl, nbp, nbr⟩, pd⟩ := paired_last pws hlast
    have lw := Paired.length pws
    have n0 : (liter x t n).1 ≠ [] := fun z => by rw [z] at hm; cases hm
    have hlt : n < 400 := by
      by_cases hne : n = 400
      · subst hne
        exact absurd h5 n0
      · omega
    have wne : ws ≠ [] := fun z => by
      rw [z] at lw
      exact n0 (List.eq_nil_of_length_eq_zero lw.symm)
    have tst : (!ws.isEmpty) = true := by cases ws with | nil => exact absurd rfl wne | cons _ _ => rfl
    rw [if_pos tst]
    refine ⟨LW K x t pq p r Hs (n + 1), fun σ2 H2 z => ⟨400 - (n + 1), by omega, n + 1, rfl, by omega, z⟩, ?_⟩
    have lst1 : liter x t (n + 1) = if l.length = np x then ((liter x t n).1.dropLast, (liter x t n).2 ++ [l]) else ((liter x t n).1.dropLast ++ lnew x l rm, (liter x t n).2) := by
      show lstep x (liter x t n) = _
      unfold lstep
      rw [hlast]
    refine ⟨.ref r, rfl, Or.inl ⟨rfl, ws, sq_of hrw⟩, r, ws, .ref T, rfl, rfl, hrw, hy, ?_⟩
    have rT : T ≠ r := ne_of hT hrw (fun z => nomatch z)
    refine gpair (K := K) (st_of (by rw [upd_ne rT]; exact hT)) ?_
    have pd := itms_upd (u := .lst ws.dropLast) hrw (Or.inr rfl) pd
    have tx1 : Tx Hb (upd Hb r (.lst ws.dropLast)) := Tx.lst hrw
    have dvs := dpa_tx tx1 _ _ (immAll_tI _) dvs
    have da := dp_tx tx1 _ _ (imm_tI _) da
    have xp : Xp [p, r] Hs (upd Hb r (.lst ws.dropLast)) := Xp.upd xp (by simp)
    have hbl : upd Hb r (.lst ws.dropLast) b = some (.lst (rm.map V.int)) := by rw [upd_ne nbr]; exact hbl
    have hpv : upd Hb r (.lst ws.dropLast) p = some (.lst vs) := by rw [upd_ne hpr]; exact hpv
    have hrw' : upd Hb r (.lst ws.dropLast) r = some (.lst ws.dropLast) := upd_same
    clear hrw hT hy
    generalize upd Hb r (.lst ws.dropLast) = Hc at *
    have hcq : Hc pq = some (.lst wq) := xp _ _ hspq (by simp [npp, nqr])
    have dcq : DpAll K Hc wq ((prs x).map pD) := dpa_tx (xp.tx lsS) _ _ ipq dpq
    show tSeq _ _ _ [some (.int x), some (.int t), some (.int 20000), some (.ref pq), some (.ref p), some (.ref r), some va, some (.ref b), c, d, e, f] Hc
    refine q_when (b := decide (l.length = np x)) (et_test (ev_is (ev_op (ev_lenT (ed_var (K := K) rfl da)) (ev_lenL (K := K) (ds := (prs x).map pD) (ed_var rfl (.lst (sq_of hcq) dcq))) (rv_eq rfl)) ?_)) (fun hb Hd ed => ?_) fun hb Hd ed => ?_
    · congr 1
      rw [decide_vint, lnp, List.length_map]
      exact decide_eq_decide.mpr ⟨fun h => Int.ofNat.inj h, fun h => congrArg Nat.cast h⟩
    · have hb := of_decide_eq_true hb
      rw [if_pos hb] at lst1
      have lv := dpa_len dvs
      rw [List.length_map] at lv
      refine qd_app (K := K) (d := tI l) (ed _ _ hpv) (ev_var rfl) (ed_var rfl (dp_ex ed _ _ da)) (by omega) fun v He ee hv => ?_
      have hpe : He p = some (.lst vs) := ee _ _ (ed _ _ hpv)
      have dn : DpAll K (upd He p (.lst (vs ++ [v]))) (vs ++ [v]) (((liter x t n).2 ++ [l]).map tI) := by
        rw [List.map_append]
        exact dpa_app (dpa_tx (Tx.lst hpe) _ _ (immAll_tI _) (dpa_ex (ed.trans ee) _ _ dvs)) (.cons (dp_tx (Tx.lst hpe) _ _ (imm_tI _) hv) .nil)
      refine q_when (b := false) (et_test (ev_is (ev_op (ev_lenL (K := K) (ed_var rfl (.lst (sq_of upd_same) dn))) (ev_var rfl) rv_I0) ?_)) (fun h => nomatch h) fun _ Hf ef => ?_
      · rw [List.length_map, List.length_append, List.length_singleton]
        congr 1
        exact decide_eq_false (by omega)
      show LW K x t pq p r Hs (n + 1) _ Hf
      refine ⟨(Xp.upd (xp.then (ed.trans ee)) (by simp)).then ef, ⟨ws.dropLast, ef _ _ ?_, ?_⟩, ⟨vs ++ [v], ef _ _ upd_same, ?_⟩, _, _, _, _, _, _, rfl⟩
      · rw [upd_ne (Ne.symm hpr)]
        exact ee _ _ (ed _ _ hrw')
      · rw [lst1]
        exact itms_ex ef (itms_upd hpe (Or.inl rfl) (itms_ex (ed.trans ee) pd))
      · rw [lst1]
        exact dpa_ex ef _ _ dn
    · have hb := of_decide_eq_false hb
      rw [if_neg hb] at lst1
      have hll : l.length < np x := by omega
      obtain ⟨pe, p1, p2, p3⟩ := prs_get h1 h2 hll
      unfold lnew at lst1
      generalize (prs x).getD l.length (0, 0) = q at *
      obtain ⟨q1, q2⟩ := q
      have p1 : 0 ≤ q1 := p1
      have p2 : q1 < q2 := p2
      have p3 : q2 < x := p3
      obtain ⟨qa, rfl⟩ := Int.eq_ofNat_of_zero_le p1
      obtain ⟨qb, rfl⟩ := Int.eq_ofNat_of_zero_le (by omega : 0 ≤ q2)
      have ga := g3 qa
      have gb := g3 qb
      have hcq := ed _ _ hcq
      have dcq := dpa_ex ed _ _ dcq
      refine qd_unp2 (K := K) (d1 := .int (qa : Int)) (d2 := .int (qb : Int)) (ed_ixL (K := K) (ds := (prs x).map pD) (k := l.length) (ed_var rfl (.lst (sq_of hcq) dcq)) (ev_is (ev_lenT (ed_var (K := K) rfl (dp_ex ed _ _ da))) (by rw [lnp])) (by rw [List.getElem?_map, pe]; rfl)) fun v1 v2 He ee hv1 hv2 => ?_
      cases dp_int hv1
      cases dp_int hv2
      have ece := ed.trans ee
      have da := dp_ex ece _ _ da
      have hbl := ece _ _ hbl
      have hpv := ece _ _ hpv
      have dvs := dpa_ex ece _ _ dvs
      have hrw' := ece _ _ hrw'
      have pd := itms_ex ece pd
      have xp := xp.then ece
      have lrm : (rm.map V.int).length = x.toNat := by rw [List.length_map, g2]
      have at_ : ∀ j : Nat, j < x.toNat → atI (rm.map V.int) (j : Int) = some (.int (rm.getD j 0)) := fun j hj => atI_nat (by
        rw [List.getElem?_map, List.getElem?_eq_getElem (by omega), List.getD_eq_getElem?_getD, List.getElem?_eq_getElem (by omega)]
        rfl)
      show tFor _ _ _ _ [some (.int x), some (.int t), some (.int 20000), some (.ref pq), some (.ref p), some (.ref r), some va, some (.ref b), some (.int (qa : Int)), some (.int (qb : Int)), e, f] He
      generalize hmn : min (rm.getD qa 0) (rm.getD qb 0) = mn at *
      have lst1 : liter x t (n + 1) = ((liter x t n).1.dropLast ++ (List.range (mn - -1).toNat).map fun (i : Nat) => (l ++ [mn - (i : Int)], subr rm ((qa : Int), (qb : Int)) (mn - (i : Int))), (liter x t n).2) := by
        rw [lst1]
        show (_ ++ List.map _ (List.range (min (rm.getD qa 0) (rm.getD qb 0) - -1).toNat), _) = _
        rw [← hmn]
        rfl
      have dl : (liter x t n).1.dropLast.length = (liter x t n).1.length - 1 := List.length_dropLast
      refine d_for (S := [r]) (ei_rngD (K := K) (m := mn) (n := -1) (eda_cons (ed_int (ev_is (ev_min2 (ev_op (ev_var rfl) (ev_var rfl) (rv_ixL (K := K) (sq_of hbl) (at_ qa (by omega)))) (ev_op (ev_var rfl) (ev_var rfl) (rv_ixL (K := K) (sq_of hbl) (at_ qb (by omega))))) (by rw [hmn]))) (eda_cons (ed_int (ev_un ev_c ru_neg)) (eda_cons (ed_int (ev_un ev_c ru_neg)) eda_nil))) ⟨⟨by omega, by omega⟩, by decide, by decide⟩ (RgC.neg (by omega) (by omega) (by decide) (by decide)))
        (fun H2 i σ' Hx => Xp [r] H2 Hx ∧ (∃ ws', Hx r = some (.lst ws') ∧ Paired (Itm K p r Hx) ws' ((liter x t n).1.dropLast ++ (List.range i).map fun (i : Nat) => (l ++ [mn - (i : Int)], subr rm ((qa : Int), (qb : Int)) (mn - (i : Int))))) ∧ ∃ e f, σ' = [some (.int x), some (.int t), some (.int 20000), some (.ref pq), some (.ref p), some (.ref r), some va, some (.ref b), some (.int (qa : Int)), some (.int (qb : Int)), e, f])
        (fun H2 e2 => ⟨Xp.refl _ _, ⟨_, e2 _ _ hrw', by simpa using itms_ex e2 pd⟩, e, f, rfl⟩) (fun H2 i σ' Ha _ z => z.1) ?_ ?_
      · rintro Hg i d y σ' Hx Hy eg hdi ⟨xg, ⟨w2, hw2, pw2⟩, e, f, rfl⟩ ey hy
        have hil : i < (mn - -1).toNat := by simpa using (List.getElem?_eq_some_iff.mp hdi).1
        rw [rng_get hil] at hdi
        cases hdi
        cases dp_int hy
        have byG : ∀ a o, He a = some o → a ≠ r → Hy a = some o := fun a o h n => ey _ _ (xg _ _ (eg _ _ h) (by simpa using n))
        have txg : Tx He Hy := (Tx.of_ex eg).trans ((xg.tx (Ls.one (eg _ _ hrw'))).trans (Tx.of_ex ey))
        have hbl' := byG _ _ hbl nbr
        have da' := dp_tx txg _ _ (imm_tI _) da
        have hpy := byG _ _ hpv hpr
        have hry := ey _ _ hw2
        refine qn_asg (K := K) (en_listOf (K := K) (ds := dI rm) (ed_var rfl (.lst (sq_of hbl') (ints_dpa rm)))) fun c wc H5 hc e5 h5 hd5 => ?_
        rw [dpa_ints hd5] at h5
        refine q_augL (K := K) (j := qa) h5 rfl rfl (by omega) (ev_var rfl) fun H6 e6 => ?_
        refine q_augL (K := K) (j := qb) (ns := rm.set qa (rm.getD qa 0 - (mn - (i : Int)))) upd_same rfl rfl (by rw [List.length_set]; omega) (ev_var rfl) fun H7 e7 => ?_
        have x7 : Ex Hy H7 := (Ex.mut (e5.trans e6) hc).trans e7
        have x8 := Ex.mut (o := .lst (((rm.set qa (rm.getD qa 0 - (mn - (i : Int)))).set qb ((rm.set qa (rm.getD qa 0 - (mn - (i : Int)))).getD qb 0 - (mn - (i : Int)))).map V.int)) x7 hc
        have hc8 : upd H7 c (.lst (((rm.set qa (rm.getD qa 0 - (mn - (i : Int)))).set qb ((rm.set qa (rm.getD qa 0 - (mn - (i : Int)))).getD qb 0 - (mn - (i : Int)))).map V.int)) c = _ := upd_same
        generalize upd H7 c (.lst (((rm.set qa (rm.getD qa 0 - (mn - (i : Int)))).set qb ((rm.set qa (rm.getD qa 0 - (mn - (i : Int)))).getD qb 0 - (mn - (i : Int)))).map V.int)) = H8 at x8 hc8 ⊢
        have ncr : c ≠ r := fun z => by rw [z, hry] at hc; cases hc
        have ncp : c ≠ p := fun z => by rw [z, hpy] at hc; cases hc
        have lw2 := Paired.length pw2
        rw [List.length_append, List.length_map, List.length_range] at lw2
        refine app_pair (K := K) (d := tI (l ++ [mn - (i : Int)])) (x8 _ _ hry) rfl (ed_is (ed_cat (ds := dI l) (es := [.int (mn - (i : Int))]) (ed_var rfl (dp_ex x8 _ _ da')) (ed_tup (eda_cons (ed_int (ev_var rfl)) eda_nil) (by simp)) ?_) ?_) rfl (by omega) fun T2 a2 H9 e9 hT2 hn2 hd2 => ?_
        · rw [List.length_map]
          have : np x ≤ 10 := by
            have : x = 2 ∨ x = 3 ∨ x = 4 ∨ x = 5 := by omega
            rcases this with rfl | rfl | rfl | rfl <;> decide
          show l.length + 1 ≤ _
          omega
        · show _ = PyData.tuple (List.map PyData.int (l ++ [mn - (i : Int)]))
          rw [List.map_append]
          rfl
        · have hr9 := e9 _ _ (x8 _ _ hry)
          refine ⟨Xp.upd (xg.then (ey.trans (x8.trans e9))) (by simp), ⟨_, upd_same, ?_⟩, _, _, rfl⟩
          rw [List.range_succ, List.map_append, ← List.append_assoc]
          refine itms_upd hr9 (Or.inr rfl) (paired_app (itms_ex (ey.trans (x8.trans e9)) pw2) (.cons ⟨T2, a2, c, rfl, hn2, hd2, ?_, ncp, ncr⟩ .nil))
          exact e9 _ _ hc8
      · rintro Hg σ' Hx eg ⟨xg, ⟨w2, hw2, pw2⟩, e, f, rfl⟩
        show LW K x t pq p r Hs (n + 1) _ Hx
        rw [List.length_map, List.length_range] at pw2
        have txg : Tx He Hx := (Tx.of_ex eg).trans (xg.tx (Ls.one (eg _ _ hrw')))
        refine ⟨(xp.then eg).trans fun a o ho hn => xg a o ho (fun z => hn (by simp at z; simp [z])), ⟨w2, hw2, by rw [lst1]; exact pw2⟩, ⟨vs, xg _ _ (eg _ _ hpv) (by simpa using hpr), by rw [lst1]; exact dpa_tx txg _ _ (immAll_tI _) dvs⟩, _, _, _, _, _, _, rfl⟩

end
end K20
set_option Elab.async false
set_option linter.all false
set_option maxRecDepth 100000
set_option maxHeartbeats 4000000
namespace K20
open PySem PySem.Spec PyProof.Rows L2 Evl DL
/-! each load that is let by an even room has a part let by 2 that leaves what the room less 2 lets; each one let by an odd room has a part let by 1 alike -/
def in21 (p : List Int) : Bool := (LL 2 1).contains p
theorem leaf21 {a R : Int} (pa : Int) (hm : in21 [pa] = true) (h : pa ≤ a ∧ 0 + (a - pa) ≤ R - 1 ∧ 0 + (a - pa) ≤ R - 1) :
    ∃ p ∈ LL 2 1, blw p [a] = true ∧ ∀ y ∈ sms 2 (zw (· - ·) [a] p), y ≤ R - 1 := by
  obtain ⟨ha, k0, k1⟩ := h
  refine ⟨[pa], List.contains_iff_mem.mp hm, ?_, ?_⟩
  · simp [blw, ha]
  · intro y hy
    have hy : y ∈ [0 + (a - pa), 0 + (a - pa)] := hy
    simp only [List.mem_cons, List.not_mem_nil, or_false] at hy
    rcases hy with rfl | rfl <;> assumption
theorem heart21 {a R : Int} (hn : 0 ≤ a) (g0 : 0 + a ≤ R) (g1 : 0 + a ≤ R) (hR : R % 2 = 1 ∧ 1 ≤ R) : ∃ p ∈ LL 2 1, blw p [a] = true ∧ ∀ y ∈ sms 2 (zw (· - ·) [a] p), y ≤ R - 1 := by
  have na := hn
  obtain ⟨r1, r2⟩ := hR
  by_cases z1 : a ≤ 0
  ·
    exact leaf21 (0) (by decide +kernel) (by omega)
  ·
    exact leaf21 (1) (by decide +kernel) (by omega)
def in22 (p : List Int) : Bool := (LL 2 2).contains p
theorem leaf22 {a R : Int} (pa : Int) (hm : in22 [pa] = true) (h : pa ≤ a ∧ 0 + (a - pa) ≤ R - 2 ∧ 0 + (a - pa) ≤ R - 2) :
    ∃ p ∈ LL 2 2, blw p [a] = true ∧ ∀ y ∈ sms 2 (zw (· - ·) [a] p), y ≤ R - 2 := by
  obtain ⟨ha, k0, k1⟩ := h
  refine ⟨[pa], List.contains_iff_mem.mp hm, ?_, ?_⟩
  · simp [blw, ha]
  · intro y hy
    have hy : y ∈ [0 + (a - pa), 0 + (a - pa)] := hy
    simp only [List.mem_cons, List.not_mem_nil, or_false] at hy
    rcases hy with rfl | rfl <;> assumption
theorem heart22 {a R : Int} (hn : 0 ≤ a) (g0 : 0 + a ≤ R) (g1 : 0 + a ≤ R) (hR : R % 2 = 0 ∧ 2 ≤ R) : ∃ p ∈ LL 2 2, blw p [a] = true ∧ ∀ y ∈ sms 2 (zw (· - ·) [a] p), y ≤ R - 2 := by
  have na := hn
  obtain ⟨r1, r2⟩ := hR
  by_cases z1 : a ≤ 0
  ·
    exact leaf22 (0) (by decide +kernel) (by omega)
  ·
    by_cases z2 : a ≤ 1
    ·
      exact leaf22 (1) (by decide +kernel) (by omega)
    ·
      exact leaf22 (2) (by decide +kernel) (by omega)
def in31 (p : List Int) : Bool := (LL 3 1).contains p
theorem leaf31 {a b c R : Int} (pa pb pc : Int) (hm : in31 [pa, pb, pc] = true) (h : pa ≤ a ∧ pb ≤ b ∧ pc ≤ c ∧ 0 + (a - pa) + (b - pb) ≤ R - 1 ∧ 0 + (a - pa) + (c - pc) ≤ R - 1 ∧ 0 + (b - pb) + (c - pc) ≤ R - 1) :
    ∃ p ∈ LL 3 1, blw p [a, b, c] = true ∧ ∀ y ∈ sms 3 (zw (· - ·) [a, b, c] p), y ≤ R - 1 := by
  obtain ⟨ha, hb, hc, k0, k1, k2⟩ := h
  refine ⟨[pa, pb, pc], List.contains_iff_mem.mp hm, ?_, ?_⟩
  · simp [blw, ha, hb, hc]
  · intro y hy
    have hy : y ∈ [0 + (a - pa) + (b - pb), 0 + (a - pa) + (c - pc), 0 + (b - pb) + (c - pc)] := hy
    simp only [List.mem_cons, List.not_mem_nil, or_false] at hy
    rcases hy with rfl | rfl | rfl <;> assumption
theorem heart31 {a b c R : Int} (hn : 0 ≤ a ∧ 0 ≤ b ∧ 0 ≤ c) (g0 : 0 + a + b ≤ R) (g1 : 0 + a + c ≤ R) (g2 : 0 + b + c ≤ R) (hR : R % 2 = 1 ∧ 1 ≤ R) : ∃ p ∈ LL 3 1, blw p [a, b, c] = true ∧ ∀ y ∈ sms 3 (zw (· - ·) [a, b, c] p), y ≤ R - 1 := by
  obtain ⟨na, nb, nc⟩ := hn
  obtain ⟨r1, r2⟩ := hR
  by_cases z1 : a ≤ 0
  ·
    by_cases z2 : b ≤ 0
    ·
      by_cases z3 : c ≤ 0
      ·
        exact leaf31 (0) (0) (0) (by decide +kernel) (by omega)
      ·
        exact leaf31 (0) (0) (1) (by decide +kernel) (by omega)
    ·
      exact leaf31 (0) (1) (0) (by decide +kernel) (by omega)
  ·
    by_cases z2 : R - (0 + b + c) ≤ 0
    ·
      by_cases z3 : R - (0 + a + b) ≤ 0
      ·
        exact leaf31 (0) (1) (0) (by decide +kernel) (by omega)
      ·
        exact leaf31 (0) (0) (1) (by decide +kernel) (by omega)
    ·
      exact leaf31 (1) (0) (0) (by decide +kernel) (by omega)
def in32 (p : List Int) : Bool := (LL 3 2).contains p
theorem leaf32 {a b c R : Int} (pa pb pc : Int) (hm : in32 [pa, pb, pc] = true) (h : pa ≤ a ∧ pb ≤ b ∧ pc ≤ c ∧ 0 + (a - pa) + (b - pb) ≤ R - 2 ∧ 0 + (a - pa) + (c - pc) ≤ R - 2 ∧ 0 + (b - pb) + (c - pc) ≤ R - 2) :
    ∃ p ∈ LL 3 2, blw p [a, b, c] = true ∧ ∀ y ∈ sms 3 (zw (· - ·) [a, b, c] p), y ≤ R - 2 := by
  obtain ⟨ha, hb, hc, k0, k1, k2⟩ := h
  refine ⟨[pa, pb, pc], List.contains_iff_mem.mp hm, ?_, ?_⟩
  · simp [blw, ha, hb, hc]
  · intro y hy
    have hy : y ∈ [0 + (a - pa) + (b - pb), 0 + (a - pa) + (c - pc), 0 + (b - pb) + (c - pc)] := hy
    simp only [List.mem_cons, List.not_mem_nil, or_false] at hy
    rcases hy with rfl | rfl | rfl <;> assumption
theorem heart32 {a b c R : Int} (hn : 0 ≤ a ∧ 0 ≤ b ∧ 0 ≤ c) (g0 : 0 + a + b ≤ R) (g1 : 0 + a + c ≤ R) (g2 : 0 + b + c ≤ R) (hR : R % 2 = 0 ∧ 2 ≤ R) : ∃ p ∈ LL 3 2, blw p [a, b, c] = true ∧ ∀ y ∈ sms 3 (zw (· - ·) [a, b, c] p), y ≤ R - 2 := by
  obtain ⟨na, nb, nc⟩ := hn
  obtain ⟨r1, r2⟩ := hR
  by_cases z1 : a ≤ 0
  ·
    by_cases z2 : b ≤ 1
    ·
      by_cases z3 : c ≤ 1
      ·
        by_cases z4 : b ≤ 0
        ·
          by_cases z5 : c ≤ 0
          ·
            exact leaf32 (0) (0) (0) (by decide +kernel) (by omega)
          ·
            exact leaf32 (0) (0) (1) (by decide +kernel) (by omega)
        ·
          by_cases z5 : c ≤ 0
          ·
            exact leaf32 (0) (1) (0) (by decide +kernel) (by omega)
          ·
            exact leaf32 (0) (1) (1) (by decide +kernel) (by omega)
      ·
        exact leaf32 (0) (0) (2) (by decide +kernel) (by omega)
    ·
      exact leaf32 (0) (2) (0) (by decide +kernel) (by omega)
  ·
    by_cases z2 : b ≤ 0
    ·
      by_cases z3 : c ≤ 0
      ·
        by_cases z4 : a ≤ 1
        ·
          exact leaf32 (1) (0) (0) (by decide +kernel) (by omega)
        ·
          exact leaf32 (2) (0) (0) (by decide +kernel) (by omega)
      ·
        exact leaf32 (1) (0) (1) (by decide +kernel) (by omega)
    ·
      by_cases z3 : c ≤ 0
      ·
        exact leaf32 (1) (1) (0) (by decide +kernel) (by omega)
      ·
        exact leaf32 (1) (1) (1) (by decide +kernel) (by omega)
def in41 (p : List Int) : Bool := (LL 4 1).contains p
theorem leaf41 {a b c d e f R : Int} (pa pb pc pd pe pf : Int) (hm : in41 [pa, pb, pc, pd, pe, pf] = true) (h : pa ≤ a ∧ pb ≤ b ∧ pc ≤ c ∧ pd ≤ d ∧ pe ≤ e ∧ pf ≤ f ∧ 0 + (a - pa) + (b - pb) + (c - pc) ≤ R - 1 ∧ 0 + (a - pa) + (d - pd) + (e - pe) ≤ R - 1 ∧ 0 + (b - pb) + (d - pd) + (f - pf) ≤ R - 1 ∧ 0 + (c - pc) + (e - pe) + (f - pf) ≤ R - 1) :
    ∃ p ∈ LL 4 1, blw p [a, b, c, d, e, f] = true ∧ ∀ y ∈ sms 4 (zw (· - ·) [a, b, c, d, e, f] p), y ≤ R - 1 := by
  obtain ⟨ha, hb, hc, hd, he, hf, k0, k1, k2, k3⟩ := h
  refine ⟨[pa, pb, pc, pd, pe, pf], List.contains_iff_mem.mp hm, ?_, ?_⟩
  · simp [blw, ha, hb, hc, hd, he, hf]
  · intro y hy
    have hy : y ∈ [0 + (a - pa) + (b - pb) + (c - pc), 0 + (a - pa) + (d - pd) + (e - pe), 0 + (b - pb) + (d - pd) + (f - pf), 0 + (c - pc) + (e - pe) + (f - pf)] := hy
    simp only [List.mem_cons, List.not_mem_nil, or_false] at hy
    rcases hy with rfl | rfl | rfl | rfl <;> assumption
theorem heart41 {a b c d e f R : Int} (hn : 0 ≤ a ∧ 0 ≤ b ∧ 0 ≤ c ∧ 0 ≤ d ∧ 0 ≤ e ∧ 0 ≤ f) (g0 : 0 + a + b + c ≤ R) (g1 : 0 + a + d + e ≤ R) (g2 : 0 + b + d + f ≤ R) (g3 : 0 + c + e + f ≤ R) (hR : R % 2 = 1 ∧ 1 ≤ R) : ∃ p ∈ LL 4 1, blw p [a, b, c, d, e, f] = true ∧ ∀ y ∈ sms 4 (zw (· - ·) [a, b, c, d, e, f] p), y ≤ R - 1 := by
  obtain ⟨na, nb, nc, nd, ne, nf⟩ := hn
  obtain ⟨r1, r2⟩ := hR
  by_cases z1 : a ≤ 0
  ·
    by_cases z2 : b ≤ 0
    ·
      by_cases z3 : e ≤ 0
      ·
        by_cases z4 : f ≤ 0
        ·
          by_cases z5 : c ≤ 0
          ·
            by_cases z6 : d ≤ 0
            ·
              exact leaf41 (0) (0) (0) (0) (0) (0) (by decide +kernel) (by omega)
            ·
              exact leaf41 (0) (0) (0) (1) (0) (0) (by decide +kernel) (by omega)
          ·
            by_cases z6 : d ≤ 0
            ·
              exact leaf41 (0) (0) (1) (0) (0) (0) (by decide +kernel) (by omega)
            ·
              exact leaf41 (0) (0) (1) (1) (0) (0) (by decide +kernel) (by omega)
        ·
          exact leaf41 (0) (0) (0) (0) (0) (1) (by decide +kernel) (by omega)
      ·
        by_cases z4 : R - (0 + b + d + f) ≤ 0
        ·
          by_cases z5 : c ≤ 0
          ·
            by_cases z6 : R - (0 + a + d + e) ≤ 0
            ·
              exact leaf41 (0) (0) (0) (1) (0) (0) (by decide +kernel) (by omega)
            ·
              exact leaf41 (0) (0) (0) (0) (0) (1) (by decide +kernel) (by omega)
          ·
            exact leaf41 (0) (0) (1) (1) (0) (0) (by decide +kernel) (by omega)
        ·
          exact leaf41 (0) (0) (0) (0) (1) (0) (by decide +kernel) (by omega)
    ·
      by_cases z3 : e ≤ 0
      ·
        by_cases z4 : R - (0 + c + e + f) ≤ 0
        ·
          by_cases z5 : d ≤ 0
          ·
            by_cases z6 : R - (0 + a + b + c) ≤ 0
            ·
              exact leaf41 (0) (0) (1) (0) (0) (0) (by decide +kernel) (by omega)
            ·
              exact leaf41 (0) (0) (0) (0) (0) (1) (by decide +kernel) (by omega)
          ·
            exact leaf41 (0) (0) (1) (1) (0) (0) (by decide +kernel) (by omega)
        ·
          exact leaf41 (0) (1) (0) (0) (0) (0) (by decide +kernel) (by omega)
      ·
        exact leaf41 (0) (1) (0) (0) (1) (0) (by decide +kernel) (by omega)
  ·
    by_cases z2 : f ≤ 0
    ·
      by_cases z3 : R - (0 + b + d + f) ≤ 0
      ·
        by_cases z4 : c ≤ 0
        ·
          by_cases z5 : e ≤ 0
          ·
            by_cases z6 : R - (0 + a + b + c) ≤ 0
            ·
              exact leaf41 (0) (1) (0) (0) (0) (0) (by decide +kernel) (by omega)
            ·
              exact leaf41 (0) (0) (0) (1) (0) (0) (by decide +kernel) (by omega)
          ·
            exact leaf41 (0) (1) (0) (0) (1) (0) (by decide +kernel) (by omega)
        ·
          exact leaf41 (0) (0) (1) (1) (0) (0) (by decide +kernel) (by omega)
      ·
        by_cases z4 : R - (0 + c + e + f) ≤ 0
        ·
          by_cases z5 : b ≤ 0
          ·
            by_cases z6 : d ≤ 0
            ·
              by_cases z7 : R - (0 + a + b + c) ≤ 0
              ·
                exact leaf41 (0) (0) (1) (0) (0) (0) (by decide +kernel) (by omega)
              ·
                exact leaf41 (0) (0) (0) (0) (1) (0) (by decide +kernel) (by omega)
            ·
              exact leaf41 (0) (0) (1) (1) (0) (0) (by decide +kernel) (by omega)
          ·
            exact leaf41 (0) (1) (0) (0) (1) (0) (by decide +kernel) (by omega)
        ·
          exact leaf41 (1) (0) (0) (0) (0) (0) (by decide +kernel) (by omega)
    ·
      exact leaf41 (1) (0) (0) (0) (0) (1) (by decide +kernel) (by omega)
def in42 (p : List Int) : Bool := (LL 4 2).contains p
theorem leaf42 {a b c d e f R : Int} (pa pb pc pd pe pf : Int) (hm : in42 [pa, pb, pc, pd, pe, pf] = true) (h : pa ≤ a ∧ pb ≤ b ∧ pc ≤ c ∧ pd ≤ d ∧ pe ≤ e ∧ pf ≤ f ∧ 0 + (a - pa) + (b - pb) + (c - pc) ≤ R - 2 ∧ 0 + (a - pa) + (d - pd) + (e - pe) ≤ R - 2 ∧ 0 + (b - pb) + (d - pd) + (f - pf) ≤ R - 2 ∧ 0 + (c - pc) + (e - pe) + (f - pf) ≤ R - 2) :
    ∃ p ∈ LL 4 2, blw p [a, b, c, d, e, f] = true ∧ ∀ y ∈ sms 4 (zw (· - ·) [a, b, c, d, e, f] p), y ≤ R - 2 := by
  obtain ⟨ha, hb, hc, hd, he, hf, k0, k1, k2, k3⟩ := h
  refine ⟨[pa, pb, pc, pd, pe, pf], List.contains_iff_mem.mp hm, ?_, ?_⟩
  · simp [blw, ha, hb, hc, hd, he, hf]
  · intro y hy
    have hy : y ∈ [0 + (a - pa) + (b - pb) + (c - pc), 0 + (a - pa) + (d - pd) + (e - pe), 0 + (b - pb) + (d - pd) + (f - pf), 0 + (c - pc) + (e - pe) + (f - pf)] := hy
    simp only [List.mem_cons, List.not_mem_nil, or_false] at hy
    rcases hy with rfl | rfl | rfl | rfl <;> assumption
theorem heart42 {a b c d e f R : Int} (hn : 0 ≤ a ∧ 0 ≤ b ∧ 0 ≤ c ∧ 0 ≤ d ∧ 0 ≤ e ∧ 0 ≤ f) (g0 : 0 + a + b + c ≤ R) (g1 : 0 + a + d + e ≤ R) (g2 : 0 + b + d + f ≤ R) (g3 : 0 + c + e + f ≤ R) (hR : R % 2 = 0 ∧ 2 ≤ R) : ∃ p ∈ LL 4 2, blw p [a, b, c, d, e, f] = true ∧ ∀ y ∈ sms 4 (zw (· - ·) [a, b, c, d, e, f] p), y ≤ R - 2 := by
  obtain ⟨na, nb, nc, nd, ne, nf⟩ := hn
  obtain ⟨r1, r2⟩ := hR
  by_cases z1 : R - (0 + a + b + c) ≤ 1
  ·
    by_cases z2 : R - (0 + a + d + e) ≤ 1
    ·
      by_cases z3 : R - (0 + b + d + f) ≤ 1
      ·
        by_cases z4 : R - (0 + c + e + f) ≤ 1
        ·
          by_cases z5 : a ≤ 1
          ·
            by_cases z6 : b ≤ 1
            ·
              by_cases z7 : c ≤ 1
              ·
                by_cases z8 : a ≤ 0
                ·
                  by_cases z9 : b ≤ 0
                  ·
                    by_cases z10 : d ≤ 1
                    ·
                      by_cases z11 : e ≤ 0
                      ·
                        by_cases z12 : f ≤ 0
                        ·
                          exact leaf42 (0) (0) (1) (1) (0) (0) (by decide +kernel) (by omega)
                        ·
                          exact leaf42 (0) (0) (1) (1) (0) (1) (by decide +kernel) (by omega)
                      ·
                        exact leaf42 (0) (0) (1) (1) (1) (0) (by decide +kernel) (by omega)
                    ·
                      exact leaf42 (0) (0) (1) (2) (0) (0) (by decide +kernel) (by omega)
                  ·
                    by_cases z10 : c ≤ 0
                    ·
                      by_cases z11 : d ≤ 0
                      ·
                        by_cases z12 : e ≤ 1
                        ·
                          by_cases z13 : f ≤ 0
                          ·
                            exact leaf42 (0) (1) (0) (0) (1) (0) (by decide +kernel) (by omega)
                          ·
                            exact leaf42 (0) (1) (0) (0) (1) (1) (by decide +kernel) (by omega)
                        ·
                          exact leaf42 (0) (1) (0) (0) (2) (0) (by decide +kernel) (by omega)
                      ·
                        exact leaf42 (0) (1) (0) (1) (1) (0) (by decide +kernel) (by omega)
                    ·
                      by_cases z11 : d ≤ 0
                      ·
                        exact leaf42 (0) (1) (1) (0) (1) (0) (by decide +kernel) (by omega)
                      ·
                        by_cases z12 : e ≤ 0
                        ·
                          exact leaf42 (0) (1) (1) (1) (0) (0) (by decide +kernel) (by omega)
                        ·
                          exact leaf42 (0) (1) (1) (1) (1) (0) (by decide +kernel) (by omega)
                ·
                  by_cases z9 : b ≤ 0
                  ·
                    by_cases z10 : c ≤ 0
                    ·
                      by_cases z11 : d ≤ 0
                      ·
                        by_cases z12 : e ≤ 0
                        ·
                          by_cases z13 : f ≤ 1
                          ·
                            exact leaf42 (1) (0) (0) (0) (0) (1) (by decide +kernel) (by omega)
                          ·
                            exact leaf42 (1) (0) (0) (0) (0) (2) (by decide +kernel) (by omega)
                        ·
                          exact leaf42 (1) (0) (0) (0) (1) (1) (by decide +kernel) (by omega)
                      ·
                        exact leaf42 (1) (0) (0) (1) (0) (1) (by decide +kernel) (by omega)
                    ·
                      by_cases z11 : d ≤ 0
                      ·
                        exact leaf42 (1) (0) (1) (0) (0) (1) (by decide +kernel) (by omega)
                      ·
                        by_cases z12 : f ≤ 0
                        ·
                          exact leaf42 (1) (0) (1) (1) (0) (0) (by decide +kernel) (by omega)
                        ·
                          exact leaf42 (1) (0) (1) (1) (0) (1) (by decide +kernel) (by omega)
                  ·
                    by_cases z10 : e ≤ 0
                    ·
                      exact leaf42 (1) (1) (0) (0) (0) (1) (by decide +kernel) (by omega)
                    ·
                      by_cases z11 : f ≤ 0
                      ·
                        exact leaf42 (1) (1) (0) (0) (1) (0) (by decide +kernel) (by omega)
                      ·
                        exact leaf42 (1) (1) (0) (0) (1) (1) (by decide +kernel) (by omega)
              ·
                by_cases z8 : d ≤ 1
                ·
                  exact leaf42 (0) (0) (2) (1) (0) (0) (by decide +kernel) (by omega)
                ·
                  exact leaf42 (0) (0) (2) (2) (0) (0) (by decide +kernel) (by omega)
            ·
              by_cases z7 : e ≤ 1
              ·
                exact leaf42 (0) (2) (0) (0) (1) (0) (by decide +kernel) (by omega)
              ·
                exact leaf42 (0) (2) (0) (0) (2) (0) (by decide +kernel) (by omega)
          ·
            by_cases z6 : f ≤ 1
            ·
              exact leaf42 (2) (0) (0) (0) (0) (1) (by decide +kernel) (by omega)
            ·
              exact leaf42 (2) (0) (0) (0) (0) (2) (by decide +kernel) (by omega)
        ·
          by_cases z5 : a ≤ 0
          ·
            exact leaf42 (0) (1) (0) (1) (0) (0) (by decide +kernel) (by omega)
          ·
            by_cases z6 : b ≤ 0
            ·
              exact leaf42 (1) (0) (0) (1) (0) (0) (by decide +kernel) (by omega)
            ·
              by_cases z7 : d ≤ 0
              ·
                exact leaf42 (1) (1) (0) (0) (0) (0) (by decide +kernel) (by omega)
              ·
                exact leaf42 (1) (1) (0) (1) (0) (0) (by decide +kernel) (by omega)
      ·
        by_cases z4 : R - (0 + c + e + f) ≤ 1
        ·
          by_cases z5 : a ≤ 0
          ·
            exact leaf42 (0) (0) (1) (0) (1) (0) (by decide +kernel) (by omega)
          ·
            by_cases z6 : c ≤ 0
            ·
              exact leaf42 (1) (0) (0) (0) (1) (0) (by decide +kernel) (by omega)
            ·
              by_cases z7 : e ≤ 0
              ·
                exact leaf42 (1) (0) (1) (0) (0) (0) (by decide +kernel) (by omega)
              ·
                exact leaf42 (1) (0) (1) (0) (1) (0) (by decide +kernel) (by omega)
        ·
          by_cases z5 : a ≤ 1
          ·
            exact leaf42 (1) (0) (0) (0) (0) (0) (by decide +kernel) (by omega)
          ·
            exact leaf42 (2) (0) (0) (0) (0) (0) (by decide +kernel) (by omega)
    ·
      by_cases z3 : R - (0 + b + d + f) ≤ 1
      ·
        by_cases z4 : R - (0 + c + e + f) ≤ 1
        ·
          by_cases z5 : b ≤ 0
          ·
            exact leaf42 (0) (0) (1) (0) (0) (1) (by decide +kernel) (by omega)
          ·
            by_cases z6 : c ≤ 0
            ·
              exact leaf42 (0) (1) (0) (0) (0) (1) (by decide +kernel) (by omega)
            ·
              by_cases z7 : f ≤ 0
              ·
                exact leaf42 (0) (1) (1) (0) (0) (0) (by decide +kernel) (by omega)
              ·
                exact leaf42 (0) (1) (1) (0) (0) (1) (by decide +kernel) (by omega)
        ·
          by_cases z5 : b ≤ 1
          ·
            exact leaf42 (0) (1) (0) (0) (0) (0) (by decide +kernel) (by omega)
          ·
            exact leaf42 (0) (2) (0) (0) (0) (0) (by decide +kernel) (by omega)
      ·
        by_cases z4 : c ≤ 1
        ·
          by_cases z5 : c ≤ 0
          ·
            exact leaf42 (1) (1) (0) (0) (0) (0) (by decide +kernel) (by omega)
          ·
            by_cases z6 : a ≤ 0
            ·
              exact leaf42 (0) (0) (1) (0) (0) (0) (by decide +kernel) (by omega)
            ·
              exact leaf42 (1) (0) (1) (0) (0) (0) (by decide +kernel) (by omega)
        ·
          exact leaf42 (0) (0) (2) (0) (0) (0) (by decide +kernel) (by omega)
  ·
    by_cases z2 : R - (0 + a + d + e) ≤ 1
    ·
      by_cases z3 : R - (0 + b + d + f) ≤ 1
      ·
        by_cases z4 : R - (0 + c + e + f) ≤ 1
        ·
          by_cases z5 : d ≤ 0
          ·
            exact leaf42 (0) (0) (0) (0) (1) (1) (by decide +kernel) (by omega)
          ·
            by_cases z6 : e ≤ 0
            ·
              exact leaf42 (0) (0) (0) (1) (0) (1) (by decide +kernel) (by omega)
            ·
              by_cases z7 : f ≤ 0
              ·
                exact leaf42 (0) (0) (0) (1) (1) (0) (by decide +kernel) (by omega)
              ·
                exact leaf42 (0) (0) (0) (1) (1) (1) (by decide +kernel) (by omega)
        ·
          by_cases z5 : d ≤ 1
          ·
            exact leaf42 (0) (0) (0) (1) (0) (0) (by decide +kernel) (by omega)
          ·
            exact leaf42 (0) (0) (0) (2) (0) (0) (by decide +kernel) (by omega)
      ·
        by_cases z4 : e ≤ 1
        ·
          by_cases z5 : e ≤ 0
          ·
            exact leaf42 (1) (0) (0) (1) (0) (0) (by decide +kernel) (by omega)
          ·
            by_cases z6 : a ≤ 0
            ·
              exact leaf42 (0) (0) (0) (0) (1) (0) (by decide +kernel) (by omega)
            ·
              exact leaf42 (1) (0) (0) (0) (1) (0) (by decide +kernel) (by omega)
        ·
          exact leaf42 (0) (0) (0) (0) (2) (0) (by decide +kernel) (by omega)
    ·
      by_cases z3 : f ≤ 1
      ·
        by_cases z4 : R - (0 + b + d + f) ≤ 1
        ·
          by_cases z5 : f ≤ 0
          ·
            exact leaf42 (0) (1) (0) (1) (0) (0) (by decide +kernel) (by omega)
          ·
            by_cases z6 : b ≤ 0
            ·
              exact leaf42 (0) (0) (0) (0) (0) (1) (by decide +kernel) (by omega)
            ·
              exact leaf42 (0) (1) (0) (0) (0) (1) (by decide +kernel) (by omega)
        ·
          by_cases z5 : R - (0 + c + e + f) ≤ 1
          ·
            by_cases z6 : c ≤ 0
            ·
              exact leaf42 (0) (0) (0) (0) (0) (1) (by decide +kernel) (by omega)
            ·
              by_cases z7 : c ≤ 1
              ·
                exact leaf42 (0) (0) (1) (0) (1) (0) (by decide +kernel) (by omega)
              ·
                exact leaf42 (0) (0) (2) (0) (0) (0) (by decide +kernel) (by omega)
          ·
            exact leaf42 (0) (0) (0) (0) (0) (0) (by decide +kernel) (by omega)
      ·
        exact leaf42 (0) (0) (0) (0) (0) (2) (by decide +kernel) (by omega)
end K20
set_option Elab.async false
set_option linter.all false
set_option maxRecDepth 100000
set_option maxHeartbeats 4000000
namespace K20
open PySem PySem.Spec PyProof.Rows L2 Evl DL
local macro_rules | `(tactic| walk_at "dl") => `(tactic| first
  | exact ev_c | exact ev_var rfl | exact eda_nil
  | exact ed_var rfl (by assumption)
  | exact ed_int ev_c | exact ed_int (ev_var rfl)
  | (refine eda_cons ?_ ?_ <;> walk_at "dl")
  | (refine ed_int ?_; walk_at "dl")
  | (refine ev_op ?_ ?_ rv_I0 <;> walk_at "dl"))

theorem mxl_le {l : List Int} {R : Int} (h0 : 0 < l.length) (h : ∀ y ∈ l, y ≤ R) : mxl l ≤ R := h _ (mxl_mem h0)
theorem heart {s own R : Int} {l : List Int} (h1 : 2 ≤ s) (h2 : s ≤ 4) (hl : Ld s l) (hm : mxl (sms s l) ≤ R) (ho : own = 2 ∧ R % 2 = 0 ∧ 2 ≤ R ∨ own = 1 ∧ R % 2 = 1 ∧ 1 ≤ R) :
    ∃ p ∈ LL s own, blw p l = true ∧ mxl (sms s (zw (· - ·) l p)) ≤ R - own := by
  have hy : ∀ y ∈ sms s l, y ≤ R := fun y hy => Int.le_trans (mxl_ge hy) hm
  have fin : (∃ p ∈ LL s own, blw p l = true ∧ ∀ y ∈ sms s (zw (· - ·) l p), y ≤ R - own) → ∃ p ∈ LL s own, blw p l = true ∧ mxl (sms s (zw (· - ·) l p)) ≤ R - own := fun ⟨p, a, b, c⟩ =>
    ⟨p, a, b, mxl_le (by rw [sms_len]; omega) c⟩
  apply fin
  obtain ⟨hlen, hb⟩ := hl
  have hs' : s = 2 ∨ s = 3 ∨ s = 4 := by omega
  rcases hs' with rfl | rfl | rfl
  · match l, hlen with
    | [a], _ =>
      have n := hb a (by simp)
      have g : ∀ y ∈ [0 + a, 0 + a], y ≤ R := hy
      rcases ho with ⟨rfl, hR⟩ | ⟨rfl, hR⟩
      · exact heart22 n.1 (g _ (by simp)) (g _ (by simp)) hR
      · exact heart21 n.1 (g _ (by simp)) (g _ (by simp)) hR
  · match l, hlen with
    | [a, b, c], _ =>
      have na := hb a (by simp)
      have nb := hb b (by simp)
      have nc := hb c (by simp)
      have g : ∀ y ∈ [0 + a + b, 0 + a + c, 0 + b + c], y ≤ R := hy
      rcases ho with ⟨rfl, hR⟩ | ⟨rfl, hR⟩
      · exact heart32 ⟨na.1, nb.1, nc.1⟩ (g _ (by simp)) (g _ (by simp)) (g _ (by simp)) hR
      · exact heart31 ⟨na.1, nb.1, nc.1⟩ (g _ (by simp)) (g _ (by simp)) (g _ (by simp)) hR
  · match l, hlen with
    | [a, b, c, d, e, f], _ =>
      have na := hb a (by simp)
      have nb := hb b (by simp)
      have nc := hb c (by simp)
      have nd := hb d (by simp)
      have ne := hb e (by simp)
      have nf := hb f (by simp)
      have g : ∀ y ∈ [0 + a + b + c, 0 + a + d + e, 0 + b + d + f, 0 + c + e + f], y ≤ R := hy
      rcases ho with ⟨rfl, hR⟩ | ⟨rfl, hR⟩
      · exact heart42 ⟨na.1, nb.1, nc.1, nd.1, ne.1, nf.1⟩ (g _ (by simp)) (g _ (by simp)) (g _ (by simp)) (g _ (by simp)) hR
      · exact heart41 ⟨na.1, nb.1, nc.1, nd.1, ne.1, nf.1⟩ (g _ (by simp)) (g _ (by simp)) (g _ (by simp)) (g _ (by simp)) hR
def goodL (s t : Int) : Bool := (LL s t).all fun p => decide (p.length = np s) && p.all (fun x => decide (0 ≤ x) && decide (x ≤ 2)) && decide (mxl (sms s p) ≤ t)
theorem goods {s own : Int} (h1 : 2 ≤ s) (h2 : s ≤ 4) (ho : own = 2 ∨ own = 1) : goodL s own = true ∧ (liter s own 400).1 = [] := by
  have hs' : s = 2 ∨ s = 3 ∨ s = 4 := by omega
  have key : (goodL 2 2 && goodL 3 2 && goodL 4 2 && goodL 2 1 && goodL 3 1 && goodL 4 1) = true := by decide +kernel
  have em : (liter 2 2 400).1 = [] ∧ (liter 3 2 400).1 = [] ∧ (liter 4 2 400).1 = [] ∧ (liter 2 1 400).1 = [] ∧ (liter 3 1 400).1 = [] ∧ (liter 4 1 400).1 = [] := by decide +kernel
  simp only [Bool.and_eq_true] at key
  obtain ⟨⟨⟨⟨⟨a, b⟩, c⟩, d⟩, e⟩, f⟩ := key
  obtain ⟨a', b', c', d', e', f'⟩ := em
  rcases hs' with rfl | rfl | rfl <;> rcases ho with rfl | rfl
  · exact ⟨a, a'⟩
  · exact ⟨d, d'⟩
  · exact ⟨b, b'⟩
  · exact ⟨e, e'⟩
  · exact ⟨c, c'⟩
  · exact ⟨f, f'⟩
theorem good_mem {s own : Int} (h1 : 2 ≤ s) (h2 : s ≤ 4) (ho : own = 2 ∨ own = 1) {p : List Int} (h : p ∈ LL s own) : Ld s p ∧ mxl (sms s p) ≤ own := by
  have g := (goods h1 h2 ho).1
  have g := List.all_eq_true.mp g p h
  simp only [Bool.and_eq_true, decide_eq_true_eq, List.all_eq_true] at g
  exact ⟨⟨g.1.1, fun x hx => by have := g.1.2 x hx; omega⟩, g.2⟩
section
variable {P : Program} {w : World} {K : PySem.W.Frag} {mg : Str → Option Value} {base : Heap}
def okp (s : Int) (l : List Int) (m : Int) (p : List Int) : Bool := blw p l && decide (mxl (sms s (zw (· - ·) l p)) ≤ m)
def R_part_off (ds : List PyData) (r : PyData) : Prop := ∃ (s : Int) (l : List Int) (own m : Int) (part : List Int), ds = [.int s, tI l, .int own, .int m] ∧ 2 ≤ s ∧ s ≤ 4 ∧ (own = 2 ∨ own = 1) ∧ Ld s l ∧ (LL s own).find? (okp s l m) = some part ∧ r = tI part
theorem find_at {α : Type} {f : α → Bool} : ∀ {l : List α} {i : Nat} {x : α}, l[i]? = some x → f x = true → (∀ j, j < i → ∀ y, l[j]? = some y → f y = false) → l.find? f = some x
  | [], _, _, h, _, _ => by simp at h
  | a :: l, 0, x, h, hx, _ => by
    simp at h
    subst h
    rw [List.find?_cons, hx]
  | a :: l, i + 1, x, h, hx, hn => by
    rw [List.find?_cons, hn 0 (by omega) a rfl]
    exact find_at (by simpa using h) hx fun j hj y hy => hn (j + 1) (by omega) y (by simpa using hy)
abbrev s_part_off : Stmt := topS 47
abbrev N_part_off : List Str := ["sides", "load", "own", "room", "part"]
theorem sc_part_off : FnScope N_part_off ["sides", "load", "own", "room"] (defScope s_part_off) := ⟨rfl, rfl, rfl, by decide +kernel, rfl, by decide +kernel, by decide +kernel⟩
theorem ok_part_off {f : Addr} {fd : FuncData} (F : Fun K "part_off" "part_off" s_part_off f fd) (T : Txt mg)
    (D_is_below : DF P w K mg base "is_below" 1 ["one", "other"] (spD K 2 R_is_below)) (D_is_let : DF P w K mg base "is_let" 3 ["sides", "load", "room"] (spD K 3 R_is_let)) (D_let_loads : DF P w K mg base "let_loads" 2 ["sides", "tracks", "most"] (spN K 3 R_let_loads)) (D_reduced : DF P w K mg base "reduced" 1 ["load", "part"] (spD K 2 R_reduced)) :
    FnOk P w K mg base CX0 4 f fd ["sides", "load", "own", "room"] (spD K 4 R_part_off) := by
  refine F.ok sc_part_off (fun vs H Q E h => spD_len h) (fun cdv A outer s H vs Q E hr h => ?_)
  obtain ⟨ds, r, hd, _, ⟨x, l, own, m, part, rfl, h1, h2, h3, hl, hf, rfl⟩, k⟩ := h
  obtain ⟨v0, v1, v2, v3, rfl, d0, d1, d2, d3⟩ := dpa_four hd
  cases dp_int d0
  cases dp_int d2
  cases dp_int d3
  refine ⟨_, (pss_cons (ps_for PassesOwn.never rfl (pi_list (pe_D D_let_loads (hr.mono (by decide)) (by rfl) (pa_cons (pv 0) (pa_cons (pv 2) (pa_cons (pe_const T.c_MOST_LET (by rfl)) pa_nil))))) (pg_name (i := 4) sc_part_off.nd rfl (Or.inl rfl)) (pss_one (ps_if (PW.pt (pw_and (pt_val (pe_D D_is_below (hr.mono (by decide)) (by rfl) (pa_cons (pv 4) (pa_cons (pv 1) pa_nil)))) (pw_and1 (pt_val (pe_D D_is_let (hr.mono (by decide)) (by rfl) (pa_cons (pv 0) (pa_cons (pe_D D_reduced (hr.mono (by decide)) (by rfl) (pa_cons (pv 1) (pa_cons (pv 4) pa_nil))) (pa_cons (pv 3) pa_nil)))))))) (pss_one (ps_ret (pv 4))) pss_nil)))
      (pss_one (ps_ret pe_non))), ?_⟩
  have lst := (goods h1 h2 h3).2
  refine e_for (S := []) (ei_new (K := K) (ds := (LL x own).map tI) (Ls.nil _) (en_call (R := R_let_loads) (ds := [.int x, .int own, .int 20000]) (by walk_at "dl") rfl ⟨x, own, rfl, h1, by omega, by omega, by omega, lst, rfl⟩) (immAll_tI _))
    (fun H2 i σ' Ha => Ex H2 Ha ∧ (∀ j, j < i → ∀ y, (LL x own)[j]? = some y → okp x l m y = false) ∧ ∃ a, σ' = [some (.int x), some v1, some (.int own), some (.int m), a])
    (fun H2 e2 => ⟨Ex.refl _, fun j hj => absurd hj (by omega), none, rfl⟩) (fun H2 i σ' Ha _ z => Xp.of_ex z.1) ?_ ?_
  · rintro H2 i d y σ' Ha Hb e2 hdi ⟨p1, pn, a, rfl⟩ eb hy
    rw [List.getElem?_map] at hdi
    obtain ⟨p, hp, rfl⟩ := Option.map_eq_some_iff.mp hdi
    have hg := good_mem h1 h2 h3 (List.mem_of_getElem? hp)
    have d1 := dp_ex ((e2.trans p1).trans eb) _ _ d1
    have np10 := np_le (s := x) h1 (by omega)
    have ll : l.length = np x := hl.1
    show tIfS _ _ _ _ [some (.int x), some v1, some (.int own), some (.int m), some y] Hb
    refine s_when (b := okp x l m p) (et_and (a := blw p l) (et_B (EvD.bool (ed_call (R := R_is_below) (ds := [tI p, tI l]) (by walk_at "dl") rfl ⟨p, l, rfl, rfl⟩))) fun _ => et_B (EvD.bool (ed_call (R := R_is_let) (ds := [.int x, tI (zw (· - ·) l p), .int m]) (eda_cons (ed_int (ev_var rfl)) (eda_cons (ed_call (R := R_reduced) (ds := [tI l, tI p]) (by walk_at "dl") rfl ⟨l, p, rfl, by omega, rfl⟩) (eda_cons (ed_int (ev_var rfl)) eda_nil))) rfl ⟨x, _, m, rfl, h1, by omega, rfl⟩))) (fun hb H4 e4 => ?_) fun hb H4 e4 => ?_
    · have e := find_at hp hb pn
      rw [hf] at e
      cases e
      exact d_ret (K := K) (ed_var rfl (dp_ex e4 _ _ hy)) fun v H5 e5 hv => k v H5 ((((e2.trans p1).trans eb).trans e4).trans e5) hv
    · refine ⟨(p1.trans eb).trans e4, fun j hj z hz => ?_, _, rfl⟩
      by_cases hji : j = i
      · subst hji
        rw [hp] at hz
        cases hz
        exact hb
      · exact pn j (by omega) z hz
  · rintro H2 σ' Ha e2 ⟨p1, pn, a, rfl⟩
    exfalso
    have m1 := List.mem_of_find?_eq_some hf
    have m2 := List.find?_some hf
    obtain ⟨i, hi, e⟩ := List.getElem_of_mem m1
    have q := pn i (by rw [List.length_map]; exact hi) part (by rw [List.getElem?_eq_getElem hi, e])
    rw [m2] at q
    cases q

end
end K20
set_option Elab.async false
set_option linter.all false
set_option maxRecDepth 100000
set_option maxHeartbeats 4000000
namespace K20
open PySem PySem.Spec PyProof.Rows L2 Evl DL
local macro_rules | `(tactic| walk_at "dl") => `(tactic| first
  | exact ev_c | exact ev_var rfl | exact eda_nil
  | exact ed_var rfl (by assumption)
  | exact ed_int ev_c | exact ed_int (ev_var rfl)
  | (refine eda_cons ?_ ?_ <;> walk_at "dl")
  | (refine ed_int ?_; walk_at "dl")
  | (refine ev_op ?_ ?_ rv_I0 <;> walk_at "dl"))

section
variable {P : Program} {w : World} {K : PySem.W.Frag} {mg : Str → Option Value} {base : Heap}
def P_crossed_split (ds : List PyData) : Prop := ∃ (s : Int) (l : List Int) (m : Int), ds = [.int s, tI l, .int m] ∧ 2 ≤ s ∧ s ≤ 4 ∧ Ld s l ∧ 0 ≤ m ∧ m ≤ 99
def Q_crossed_split (ds : List PyData) (r : PyData) : Prop := ∃ (s : Int) (l : List Int) (m : Int), ds = [.int s, tI l, .int m] ∧ if mxl (sms s l) ≤ m then ∃ ps, r = .list (ps.map tI) ∧ Adds s l (mrm m) ps else r = .none
theorem cut_take {ds : List PyData} {k : Nat} (h : k ≤ ds.length) : cutD ds none (some (k : Int)) = ds.take k := by
  have e : HT.sIx ds.length ds.length (some (k : Int)) = k := by
    rw [HT.sIx_nat]
    omega
  have e0 : HT.sIx ds.length 0 none = 0 := by simp [HT.sIx]
  rw [DL.cutD, e, e0]
  simp
def mrmOk (m : Nat) : Bool := (List.range (mrm (m : Int)).length).all (fun k => decide (((mrm (m : Int)).take (k + 1)).sum = ((mrm (m : Int)).take k).sum + (mrm (m : Int)).getD k 0) &&
  (((mrm (m : Int)).getD k 0 == 2 && ((mrm (m : Int)).take (k + 1)).sum % 2 == 0 && decide (2 ≤ ((mrm (m : Int)).take (k + 1)).sum)) || ((mrm (m : Int)).getD k 0 == 1 && ((mrm (m : Int)).take (k + 1)).sum % 2 == 1 && decide (1 ≤ ((mrm (m : Int)).take (k + 1)).sum)))) &&
  decide ((mrm (m : Int)).sum = (m : Int)) && decide ((mrm (m : Int)).length ≤ 50)
theorem mrm_all : (List.range 100).all mrmOk = true := by decide +kernel
theorem mrm_ok {m : Int} (h1 : 0 ≤ m) (h2 : m ≤ 99) : (mrm m).sum = m ∧ (mrm m).length ≤ 50 ∧ ∀ k, k < (mrm m).length → ((mrm m).take (k + 1)).sum = ((mrm m).take k).sum + (mrm m).getD k 0 ∧
    ((mrm m).getD k 0 = 2 ∧ ((mrm m).take (k + 1)).sum % 2 = 0 ∧ 2 ≤ ((mrm m).take (k + 1)).sum ∨ (mrm m).getD k 0 = 1 ∧ ((mrm m).take (k + 1)).sum % 2 = 1 ∧ 1 ≤ ((mrm m).take (k + 1)).sum) := by
  obtain ⟨n, rfl⟩ := Int.eq_ofNat_of_zero_le h1
  have g := List.all_eq_true.mp mrm_all n (List.mem_range.mpr (by omega))
  simp only [mrmOk, Bool.and_eq_true, decide_eq_true_eq, List.all_eq_true, Bool.or_eq_true, beq_iff_eq, List.mem_range] at g
  refine ⟨g.1.2, g.2, fun k hk => ?_⟩
  obtain ⟨a, b⟩ := g.1.1 k hk
  refine ⟨a, ?_⟩
  rcases b with b | b
  · exact .inl ⟨b.1.1, b.1.2, b.2⟩
  · exact .inr ⟨b.1.1, b.1.2, b.2⟩
theorem zw_back : ∀ {a b : List Int}, a.length = b.length → zw (· + ·) (zw (· - ·) a b) b = a
  | [], [], _ => rfl
  | x :: a, y :: b, h => by
    have ih := zw_back (a := a) (b := b) (by simpa using h)
    show (x - y + y) :: zw (· + ·) (zw (· - ·) a b) b = x :: a
    rw [ih, Int.sub_add_cancel]
theorem zw_sub_ld : ∀ {a b : List Int}, blw b a = true → (∀ x ∈ a, 0 ≤ x ∧ x ≤ 99) → (∀ x ∈ b, 0 ≤ x ∧ x ≤ 99) → ∀ x ∈ zw (· - ·) a b, 0 ≤ x ∧ x ≤ 99
  | [], _, _, _, _, x, hx => by simp [zw] at hx
  | _ :: _, [], _, _, _, x, hx => by simp [zw] at hx
  | p :: a, q :: b, h, ha, hb, x, hx => by
    rw [blw, List.zipWith_cons_cons, List.all_cons, Bool.and_eq_true] at h
    rcases List.mem_cons.mp (show x ∈ (p - q) :: zw (· - ·) a b from hx) with rfl | hx
    · have h1 : q ≤ p := of_decide_eq_true h.1
      have h2 := ha p List.mem_cons_self
      have h3 := hb q List.mem_cons_self
      omega
    · exact zw_sub_ld (a := a) (b := b) h.2 (fun y hy => ha y (List.mem_cons_of_mem _ hy)) (fun y hy => hb y (List.mem_cons_of_mem _ hy)) x hx
theorem zer_of {s : Int} {l : List Int} (h1 : 2 ≤ s) (h2 : s ≤ 4) (hl : Ld s l) (h : mxl (sms s l) ≤ 0) : l = zer s := by
  have hy : ∀ y ∈ sms s l, y ≤ 0 := fun y hy => Int.le_trans (mxl_ge hy) h
  obtain ⟨hlen, hb⟩ := hl
  have hs' : s = 2 ∨ s = 3 ∨ s = 4 := by omega
  rcases hs' with rfl | rfl | rfl
  · match l, hlen with
    | [a], _ =>
      have n := hb a (by simp)
      have g : ∀ y ∈ [0 + a, 0 + a], y ≤ 0 := hy
      have g1 := g (0 + a) (by simp)
      have : a = 0 := by omega
      subst this
      rfl
  · match l, hlen with
    | [a, b, c], _ =>
      have na := hb a (by simp)
      have nb := hb b (by simp)
      have nc := hb c (by simp)
      have g : ∀ y ∈ [0 + a + b, 0 + a + c, 0 + b + c], y ≤ 0 := hy
      have g1 := g (0 + a + b) (by simp)
      have g2 := g (0 + a + c) (by simp)
      have : a = 0 ∧ b = 0 ∧ c = 0 := by omega
      obtain ⟨rfl, rfl, rfl⟩ := this
      rfl
  · match l, hlen with
    | [a, b, c, d, e, f], _ =>
      have na := hb a (by simp)
      have nb := hb b (by simp)
      have nc := hb c (by simp)
      have nd := hb d (by simp)
      have ne := hb e (by simp)
      have nf := hb f (by simp)
      have g : ∀ y ∈ [0 + a + b + c, 0 + a + d + e, 0 + b + d + f, 0 + c + e + f], y ≤ 0 := hy
      have g1 := g (0 + a + b + c) (by simp)
      have g2 := g (0 + a + d + e) (by simp)
      have g3 := g (0 + b + d + f) (by simp)
      have : a = 0 ∧ b = 0 ∧ c = 0 ∧ d = 0 ∧ e = 0 ∧ f = 0 := by omega
      obtain ⟨rfl, rfl, rfl, rfl, rfl, rfl⟩ := this
      rfl
/-- the loop's word at the i-th turn -/
def CW (K : PySem.W.Frag) (s : Int) (l : List Int) (m : Int) (v1 : V) (q p : Addr) (H2 : Hp) (i : Nat) (σ : L2.St) (Ha : Hp) : Prop :=
  Xp [p] H2 Ha ∧ ∃ (qs : List (List Int)) (left : List Int) (ws : List V) (vl a b : _), Ha p = some (.lst ws) ∧ DpAll K Ha ws (qs.reverse.map tI) ∧ qs.length = i ∧ Ld s left ∧ mxl (sms s left) ≤ ((mrm m).take ((mrm m).length - i)).sum ∧
    Paired (fun part r => mxl (sms s part) ≤ r) qs ((mrm m).drop ((mrm m).length - i)) ∧ (∀ part ∈ qs, Ld s part) ∧ qs.foldl (zw (· + ·)) left = l ∧ Dp K Ha vl (tI left) ∧
    σ = [some (.int s), some v1, some (.int m), some (.ref q), some (.ref p), some vl, a, b]
abbrev s_crossed_split : Stmt := topS 48
abbrev N_crossed_split : List Str := ["sides", "load", "room", "rooms", "found", "left", "k", "part"]
theorem sc_crossed_split : FnScope N_crossed_split ["sides", "load", "room"] (defScope s_crossed_split) := ⟨rfl, rfl, rfl, by decide +kernel, rfl, by decide +kernel, by decide +kernel⟩
theorem ok_crossed_split {f : Addr} {fd : FuncData} (F : Fun K "crossed_split" "crossed_split" s_crossed_split f fd) (T : Txt mg)
    (D_check_load : DF P w K mg base "check_load" 5 ["sides", "load"] (spD K 2 R_check_load)) (D_check_room : DF P w K mg base "check_room" 3 ["room"] (spD K 1 R_check_room)) (D_check_sides : DF P w K mg base "check_sides" 3 ["sides", "most"] (spD K 2 R_check_sides)) (D_is_let : DF P w K mg base "is_let" 3 ["sides", "load", "room"] (spD K 3 R_is_let)) (D_mates_rooms : DF P w K mg base "mates_rooms" 1 ["room"] (spN K 1 R_mates_rooms)) (D_part_off : DF P w K mg base "part_off" 4 ["sides", "load", "own", "room"] (spD K 4 R_part_off)) (D_reduced : DF P w K mg base "reduced" 1 ["load", "part"] (spD K 2 R_reduced)) :
    FnOk P w K mg base CX0 6 f fd ["sides", "load", "room"] (spX K 3 P_crossed_split Q_crossed_split) := by
  refine F.ok sc_crossed_split (fun vs H Q E h => spX_len h) (fun cdv A outer s H vs Q E hr h => ?_)
  obtain ⟨ds, hd, _, ⟨x, l, m, rfl, h1, h2, hl, h3, h4⟩, k⟩ := h
  obtain ⟨v0, v1, v2, rfl, d0, d1, d2⟩ := dpa_three hd
  cases dp_int d0
  cases dp_int d2
  have k : ∀ r v H', (if mxl (sms x l) ≤ m then ∃ ps, r = .list (ps.map tI) ∧ Adds x l (mrm m) ps else r = .none) → Ex H H' → Dp K H' v r → Q v H' := fun r v H' h => k r v H' ⟨x, l, m, rfl, h⟩
  refine ⟨_, (pss_cons (ps_expr (pe_D D_check_sides (hr.mono (by decide)) (by rfl) (pa_cons (pv 0) (pa_cons (pe_const T.c_MOST_SIDES (by rfl)) pa_nil))))
      (pss_cons (ps_expr (pe_D D_check_load (hr.mono (by decide)) (by rfl) (pa_cons (pv 0) (pa_cons (pv 1) pa_nil))))
      (pss_cons (ps_expr (pe_D D_check_room (hr.mono (by decide)) (by rfl) (pa_cons (pv 2) pa_nil)))
      (pss_cons (ps_if (pt_not (pt_val (pe_D D_is_let (hr.mono (by decide)) (by rfl) (pa_cons (pv 0) (pa_cons (pv 1) (pa_cons (pv 2) pa_nil)))))) (pss_one (ps_ret pe_non)) pss_nil)
      (pss_cons (ps_set (i := 3) sc_crossed_split.nd rfl (.inl rfl) (pe_D D_mates_rooms (hr.mono (by decide)) (by rfl) (pa_cons (pv 2) pa_nil)))
      (pss_cons (ps_set (i := 4) sc_crossed_split.nd rfl (.inl rfl) (pe_lst pa_nil))
      (pss_cons (ps_set (i := 5) sc_crossed_split.nd rfl (.inl rfl) (pv 1))
      (pss_cons (ps_for PassesOwn.never rfl (pi_range3 (by rfl) T.b_range (pa_cons (pe_op op_sub (pe_callB call_len_seq (by rfl) T.b_len PySem.boot_len (pa_cons (pv 3) pa_nil)) pe_int) (pa_cons (pe_un un_neg pe_int) (pa_cons (pe_un un_neg pe_int) pa_nil)))) (pg_name (i := 6) sc_crossed_split.nd rfl (Or.inl rfl)) (pss_cons (ps_set (i := 7) sc_crossed_split.nd rfl (.inl rfl) (pe_D D_part_off (hr.mono (by decide)) (by rfl) (pa_cons (pv 0) (pa_cons (pv 5) (pa_cons (pe_ix ix_list (pv 3) (pv 6) (fun _ _ => rfl)) (pa_cons (pe_callB (cr_sum rfl) (by rfl) T.b_sum (by decide +kernel) (pa_cons (pe_slice sl_list (pv 3) po_none (po_some (pv 6))) pa_nil)) pa_nil))))))
      (pss_cons (ps_set (i := 5) sc_crossed_split.nd rfl (.inl rfl) (pe_D D_reduced (hr.mono (by decide)) (by rfl) (pa_cons (pv 5) (pa_cons (pv 7) pa_nil))))
      (pss_one (ps_expr (pe_bm PySem.F.plainAttrs_list PySem.F.slot_list_append PySem.F.type_list_append mt_append (pv 4) (pa_cons (pv 7) pa_nil)))))))
      (pss_one (ps_ret (pe_revL (pv 4)))))))))))), ?_⟩
  have np10 := np_le (s := x) h1 (by omega)
  refine (qd_drop (K := K) (d := .none) (ed_call (R := R_check_sides) (ds := [.int x, .int 5]) (by walk_at "dl") rfl ⟨x, 5, rfl, h1, by omega, rfl⟩) fun H1 e1 => ?_)
  have d1 := dp_ex e1 _ _ d1
  refine (qd_drop (K := K) (d := .none) (ed_call (R := R_check_load) (ds := [.int x, tI l]) (by walk_at "dl") rfl ⟨x, l, rfl, h1, by omega, hl, rfl⟩) fun H2 e2 => ?_)
  refine (qd_drop (K := K) (d := .none) (ed_call (R := R_check_room) (ds := [.int m]) (by walk_at "dl") rfl ⟨m, rfl, h3, h4, rfl⟩) fun H3 e3 => ?_)
  have d1 := dp_ex (e2.trans e3) _ _ d1
  have e03 := (e1.trans e2).trans e3
  refine q_when (b := !decide (mxl (sms x l) ≤ m)) (et_not (et_B (EvD.bool (ed_call (R := R_is_let) (ds := [.int x, tI l, .int m]) (by walk_at "dl") rfl ⟨x, l, m, rfl, h1, by omega, rfl⟩)))) (fun hb H4 e4 => ?_) fun hb H4 e4 => ?_
  · have hb : ¬ mxl (sms x l) ≤ m := by simpa using hb
    refine d_ret (K := K) (d := .none) (ev_d ev_c .non) fun v H5 e5 hv => k .none v H5 ?_ ((e03.trans e4).trans e5) hv
    rw [if_neg hb]
  have hb : mxl (sms x l) ≤ m := by simpa using hb
  have d1 := dp_ex e4 _ _ d1
  obtain ⟨m1, m2, m3⟩ := mrm_ok h3 h4
  refine qn_asg (K := K) (en_call (R := R_mates_rooms) (ds := [.int m]) (by walk_at "dl") rfl ⟨m, rfl, h3, h4, rfl⟩) fun q wq H5 hq e5 h5' hd5 => ?_
  refine qn_asg (K := K) (en_lst eda_nil (by simp)) fun p ws H6 hp e6 h6' hd6 => ?_
  cases hd6
  have d1 := dp_ex (e5.trans e6) _ _ d1
  have e06 := ((e03.trans e4).trans e5).trans e6
  have hq6 := e6 _ _ h5'
  have dq6 := dpa_ex e6 _ _ hd5
  refine qd_asg (K := K) (ed_var (v := v1) rfl d1) fun v5 H7 e7 d5 => ?_
  have npq : q ≠ p := fun z => by rw [z] at h5'; rw [hp] at h5'; cases h5'
  have hq7 := e7 _ _ hq6
  have dq7 := dpa_ex e7 _ _ dq6
  have h7' := e7 _ _ h6'
  have dq7' := dpa_ints dq7
  have lq : ((dI (mrm m)).length : Int) = ((mrm m).length : Int) := by rw [dI, List.length_map]
  refine e_for (S := [p]) (ei_rngD (K := K) (m := ((mrm m).length : Int) - 1) (n := -1) (eda_cons (ed_int (ev_is (ev_op (ev_lenL (ed_var (K := K) rfl (.lst (sq_of hq7) dq7))) ev_c rv_I0) (by rw [lq]))) (eda_cons (ed_int (ev_un ev_c ru_neg)) (eda_cons (ed_int (ev_un ev_c ru_neg)) eda_nil))) ⟨⟨by omega, by omega⟩, by decide, by decide⟩ (RgC.neg (by omega) (by omega) (by decide) (by decide)))
    (fun H2 i σ' Ha => CW K x l m v1 q p H2 i σ' Ha)
    (fun H8 e8 => ⟨Xp.refl _ _, [], l, [], v5, none, none, e8 _ _ h7', .nil, rfl, hl, ?_, ?_, fun part z => by simp at z, rfl, dp_ex e8 _ _ d5, rfl⟩) (fun H2 i σ' Ha _ z => z.1) ?_ ?_
  · rw [Nat.sub_zero, List.take_length, m1]
    exact hb
  · rw [Nat.sub_zero, List.drop_length]
    exact .nil
  · rintro H8 i d y σ' Ha Hb e8 hdi ⟨xp, qs, left, ws, vl, a, b, hpa, dws, lqs, hle, hm, pr, hld, hfo, dl, rfl⟩ eb hy
    have hil : i < (mrm m).length := by
      have := (List.getElem?_eq_some_iff.mp hdi).1
      simp at this
      omega
    rw [rng_get (by omega)] at hdi
    cases hdi
    cases dp_int hy
    obtain ⟨kk, hkk⟩ : ∃ kk, (mrm m).length - i = kk + 1 := ⟨(mrm m).length - i - 1, by omega⟩
    have ek : ((mrm m).length : Int) - 1 - (i : Int) = (kk : Int) := by omega
    rw [ek]
    rw [hkk] at hm pr
    obtain ⟨r1, r2⟩ := m3 kk (by omega)
    obtain ⟨p1, p2, p3, p4⟩ := heart h1 h2 hle hm (own := (mrm m).getD kk 0) r2
    have r0 : (mrm m).getD kk 0 = 2 ∨ (mrm m).getD kk 0 = 1 := by
      rcases r2 with z | z
      · exact .inl z.1
      · exact .inr z.1
    have rle : ((mrm m).take (kk + 1)).sum - (mrm m).getD kk 0 = ((mrm m).take kk).sum := by omega
    rw [rle] at p4
    generalize hown : (mrm m).getD kk 0 = own at *
    obtain ⟨part, hf⟩ : ∃ part, (LL x own).find? (okp x left ((mrm m).take kk).sum) = some part := by
      cases hc : (LL x own).find? (okp x left ((mrm m).take kk).sum) with
      | some part => exact ⟨part, rfl⟩
      | none =>
        have := List.find?_eq_none.mp hc p1 p2
        simp [okp, p3, p4] at this
    have f1 := List.find?_some hf
    simp only [okp, Bool.and_eq_true, decide_eq_true_eq] at f1
    obtain ⟨f1, f2⟩ := f1
    obtain ⟨g1, g2⟩ := good_mem h1 h2 r0 (List.mem_of_find?_eq_some hf)
    have tx : Tx H8 Hb := (xp.tx (Ls.one (e8 _ _ h7'))).trans (Tx.of_ex eb)
    have hqb : Hb q = some (.lst wq) := eb _ _ (xp _ _ (e8 _ _ hq7) (by simpa using npq))
    have dqb : DpAll K Hb wq (dI (mrm m)) := by
      rw [dq7']
      exact ints_dpa _
    have dl := dp_ex eb _ _ dl
    have hgk : (dI (mrm m))[kk]? = some (.int own) := by
      rw [dI, List.getElem?_map, List.getElem?_eq_getElem (by omega), ← hown, List.getD_eq_getElem?_getD, List.getElem?_eq_getElem (by omega)]
      rfl
    have hpb := eb _ _ hpa
    show tSeq _ _ _ [some (.int x), some v1, some (.int m), some (.ref q), some (.ref p), some vl, some (.int (kk : Int)), b] Hb
    refine qd_asg (K := K) (ed_call (R := R_part_off) (ds := [.int x, tI left, .int own, .int ((mrm m).take kk).sum]) (eda_cons (ed_int (ev_var rfl)) (eda_cons (ed_var rfl dl) (eda_cons (ed_ixL (K := K) (ds := dI (mrm m)) (k := kk) (ed_var rfl (.lst (sq_of hqb) dqb)) (ev_var rfl) hgk) (eda_cons (ed_int (ev_sumL (K := K) (ed_is (EvN.toD (en_sl (K := K) (ds := dI (mrm m)) (ed_var rfl (.lst (sq_of hqb) dqb)) eo_none (eo_some (ev_var (v := .int (kk : Int)) rfl)))) (by rw [cut_take (by rw [dI, List.length_map]; omega), dI, dI, List.map_take])))) eda_nil)))) rfl
      ⟨x, left, own, _, part, rfl, h1, h2, r0, hle, hf, rfl⟩) fun vp H9 e9 hvp => ?_
    refine qd_asg (K := K) (ed_call (R := R_reduced) (ds := [tI left, tI part]) (eda_cons (ed_var rfl (dp_ex e9 _ _ dl)) (eda_cons (ed_var rfl hvp) eda_nil)) rfl ⟨left, part, rfl, by rw [hle.1]; omega, rfl⟩) fun vr Ha2 e10 hvr => ?_
    have lws := dpa_len dws
    rw [List.length_map, List.length_reverse] at lws
    refine d_app (K := K) (d := tI part) ((e9.trans e10) _ _ hpb) (ev_var rfl) (ed_var (v := vp) rfl (dp_ex e10 _ _ hvp)) (by omega) fun vv Hc e11 hvv => ?_
    have hpc := e11 _ _ ((e9.trans e10) _ _ hpb)
    refine ⟨Xp.upd (xp.then (eb.trans ((e9.trans e10).trans e11))) (by simp), part :: qs, zw (· - ·) left part, _, vr, _, _, upd_same, ?_, by rw [List.length_cons, lqs], ⟨by rw [zw_len (by rw [hle.1, g1.1])]; exact hle.1, zw_sub_ld f1 hle.2 g1.2⟩, ?_, ?_, ?_, ?_, dp_tx (Tx.lst hpc) _ _ (imm_tI _) (dp_ex e11 _ _ hvr), rfl⟩
    · rw [List.reverse_cons, List.map_append]
      exact dpa_app (dpa_tx (Tx.lst hpc) _ _ (immAll_tI _) (dpa_ex (eb.trans ((e9.trans e10).trans e11)) _ _ dws)) (.cons (dp_tx (Tx.lst hpc) _ _ (imm_tI _) hvv) .nil)
    · rw [show (mrm m).length - (i + 1) = kk by omega]
      exact f2
    · rw [show (mrm m).length - (i + 1) = kk by omega, List.drop_eq_getElem_cons (by omega)]
      refine .cons ?_ pr
      have : (mrm m)[kk]'(by omega) = own := by
        rw [← hown, List.getD_eq_getElem?_getD, List.getElem?_eq_getElem (by omega)]
        rfl
      rw [this]
      exact g2
    · intro z hz
      rcases List.mem_cons.mp hz with rfl | hz
      · exact g1
      · exact hld z hz
    · rw [List.foldl_cons, zw_back (by rw [hle.1, g1.1])]
      exact hfo
  · rintro H8 σ' Ha e8 ⟨xp, qs, left, ws, vl, a, b, hpa, dws, lqs, hle, hm, pr, hld, hfo, dl, rfl⟩
    have ln : (((List.range (((mrm m).length : Int) - 1 - -1).toNat).map fun (i : Nat) => PyData.int (((mrm m).length : Int) - 1 - (i : Int))).length) = (mrm m).length := by
      rw [List.length_map, List.length_range]
      omega
    rw [ln] at lqs hm pr
    rw [Nat.sub_self, List.take_zero] at hm
    rw [Nat.sub_self, List.drop_zero] at pr
    have hz := zer_of h1 h2 hle hm
    rw [hz] at hfo
    have e0 : Ex H Ha := xp_fresh (((e06).trans e7).trans e8) xp (fresh_back (((e03.trans e4).trans e5)) hp)
    refine d_ret (K := K) (d := .list (qs.map tI)) (ed_is (EvN.toD (en_rev (K := K) (ds := qs.reverse.map tI) (ed_var rfl (.lst (sq_of hpa) dws)))) (by rw [← List.map_reverse, List.reverse_reverse])) fun v H9 e9 hv => k _ v H9 ?_ (e0.trans e9) hv
    rw [if_pos hb]
    refine ⟨qs, rfl, Paired.length pr, hld, fun i p r hp hr => ?_, hfo⟩
    have get : ∀ {α β : Type} {F : α → β → Prop} {l : List α} {m : List β} {i : Nat} {a : α} {b : β}, Paired F l m → l[i]? = some a → m[i]? = some b → F a b := by
      intro α β F l m i a b h h1 h2
      obtain ⟨b', h3, h4⟩ := paired_get h h1
      rw [h2] at h3
      cases h3
      exact h4
    exact get (F := fun part r => mxl (sms x part) ≤ r) pr hp hr

end
end K20
set_option Elab.async false
set_option linter.all false
set_option maxRecDepth 100000
set_option maxHeartbeats 4000000
namespace K20
open PySem PySem.Spec PyProof.Rows L2 Evl DL
local macro_rules | `(tactic| walk_at "dl") => `(tactic| first
  | exact ev_c | exact ev_var rfl | exact eda_nil
  | exact ed_var rfl (by assumption)
  | exact ed_int ev_c | exact ed_int (ev_var rfl)
  | (refine eda_cons ?_ ?_ <;> walk_at "dl")
  | (refine ed_int ?_; walk_at "dl")
  | (refine ev_op ?_ ?_ rv_I0 <;> walk_at "dl"))

section
variable {K : PySem.W.Frag} {σ : L2.St} {H H' : Hp} {ta tb te : TE} {D : Ends} {tz : TS} {st lg cl : Addr}
/-! ### the drawing state -/
def kL : Key := .inr "large"
def kC : Key := .inr "cells"
def kF : Key := .inr "left"
def kT : Key := .inr "turn"
theorem k_ne : kL ≠ kC ∧ kL ≠ kF ∧ kL ≠ kT ∧ kC ≠ kF ∧ kC ≠ kT ∧ kF ≠ kT := by decide +kernel
def dk (lg cl : Addr) (l t : Int) : List (Key × V) := [(kL, .ref lg), (kC, .ref cl), (kF, .int l), (kT, .int t)]
theorem dk_L {l t : Int} : valV (dk lg cl l t) kL = some (.ref lg) := valV_pos rfl
theorem dk_C {l t : Int} : valV (dk lg cl l t) kC = some (.ref cl) := by
  obtain ⟨a, b, c, d, e, f⟩ := k_ne
  rw [dk, valV_neg a, valV_pos rfl]
theorem dk_F {l t : Int} : valV (dk lg cl l t) kF = some (.int l) := by
  obtain ⟨a, b, c, d, e, f⟩ := k_ne
  rw [dk, valV_neg b, valV_neg d, valV_pos rfl]
theorem dk_T {l t : Int} : valV (dk lg cl l t) kT = some (.int t) := by
  obtain ⟨a, b, c, d, e, f⟩ := k_ne
  rw [dk, valV_neg c, valV_neg e, valV_neg f, valV_pos rfl]
theorem put_F {l t l' : Int} : putK (dk lg cl l t) kF (.int l') = dk lg cl l' t := by
  obtain ⟨a, b, c, d, e, f⟩ := k_ne
  simp [putK, dk, a, b, c, d, e, f, Ne.symm f]
theorem put_T {l t t' : Int} : putK (dk lg cl l t) kT (.int t') = dk lg cl l t' := by
  obtain ⟨a, b, c, d, e, f⟩ := k_ne
  simp [putK, dk, a, b, c, d, e, f]
def StK (st lg cl : Addr) (n : Nat) (H : Hp) : Prop := ∃ (l t : Int) (xs cs : List Int), H st = some (.dK (dk lg cl l t)) ∧ H lg = some (.lst (xs.map V.int)) ∧ H cl = some (.lst (cs.map V.int)) ∧ cl ≠ lg ∧ 0 ≤ t ∧ t ≤ (n : Int)
theorem stk_ex {n : Nat} (e : Ex H H') (h : StK st lg cl n H) : StK st lg cl n H' := by
  obtain ⟨l, t, xs, cs, h1, h2, h3, h4⟩ := h
  exact ⟨l, t, xs, cs, e _ _ h1, e _ _ h2, e _ _ h3, h4⟩
theorem stk_mono {n m : Nat} (hnm : n ≤ m) (h : StK st lg cl n H) : StK st lg cl m H := by
  obtain ⟨l, t, xs, cs, h1, h2, h3, h4, h5, h6⟩ := h
  exact ⟨l, t, xs, cs, h1, h2, h3, h4, h5, by omega⟩
/-- tuples stay while the state changes -/
theorem stk_tx {n : Nat} (h : StK st lg cl n H) (x : Xp [st, lg] H H') : Tx H H' := by
  obtain ⟨l, t, xs, cs, h1, h2, h3, h4⟩ := h
  intro a ys r
  have nin : ∀ o, H a = some o → (∀ l, o ≠ .lst l) → (∀ l, o ≠ .dK l) → a ∉ [st, lg] := fun o ho n1 n2 hm => by
    rcases (by simpa using hm : a = st ∨ a = lg) with rfl | rfl
    · rw [h1] at ho
      exact n2 _ (Option.some.inj ho).symm
    · rw [h2] at ho
      exact n1 _ (Option.some.inj ho).symm
  rcases r with r | ⟨ob, r⟩
  · exact .inl (x _ _ r (nin _ r (fun _ z => nomatch z) fun _ z => nomatch z))
  · exact .inr ⟨ob, x _ _ r (nin _ r (fun _ z => nomatch z) fun _ z => nomatch z)⟩
theorem ev_dget {i : Nat} {k : Key} {kvs : List (Key × V)} {v : V} (hs : σ[i]? = some (some (.ref st))) (h : H st = some (.dK kvs)) (hv : valV kvs k = some v) : Ev (tDGet (tVar i) (tC (kV k))) σ H v := fun H1 e Q q =>
  ⟨.ref st, hs, st, v, rfl, hv ▸ DGet.k (e _ _ h), q H1 (Ex.refl _)⟩
theorem s_dput {i : Nat} {k : Key} {kvs : List (Key × V)} {v : V} (hs : σ[i]? = some (some (.ref st))) (h : H st = some (.dK kvs)) (hl : kvs.length ≤ 1000) (hv : Ev te σ H v) (q : ∀ H1, Ex H H1 → D.nx σ (upd H1 st (.dK (putK kvs k v)))) :
    sDPut (tVar i) (tC (kV k)) te D σ H := hv H (Ex.refl _) _ fun H1 e => ⟨.ref st, hs, st, _, rfl, DPut.k (e _ _ h) (sz_lt (by omega)), q H1 e⟩
theorem q_dput {i : Nat} {k : Key} {kvs : List (Key × V)} {v : V} (hs : σ[i]? = some (some (.ref st))) (h : H st = some (.dK kvs)) (hl : kvs.length ≤ 1000) (hv : Ev te σ H v) (q : ∀ H1, Ex H H1 → tz D σ (upd H1 st (.dK (putK kvs k v)))) :
    tSeq (sDPut (tVar i) (tC (kV k)) te) tz D σ H := s_dput (D := { D with nx := tz D }) hs h hl hv q
theorem ev_int1 {i : Int} (h : Ev ta σ H (.int i)) : Ev (tCB (fun xs H Q => (∃ i, xs = [.int i] ∧ Q (.int i) H) ∨ ∃ k, xs = [.bl k] ∧ Q (.int (if k then 1 else 0)) H) (tCons ta tNil)) σ H (.int i) := fun H1 e Q q =>
  h H1 e _ fun H2 e2 => .inl ⟨i, rfl, q H2 e2⟩
theorem shaped_dI (a : List Int) : SeqAt.shaped (.list (dI a)) = true := by
  have h := depth_ints a
  show ((PyData.list (dI a)).canLay0 && decide ((PyData.list (dI a)).depth ≤ 64)) = true
  rw [Bool.and_eq_true]
  refine ⟨by rw [PyData.canLay0]; exact canLay_ints a, decide_eq_true ?_⟩
  rw [PyData.depth]
  omega
theorem eqv_nil (a : List Int) : PyData.eqv (.list (dI a)) (.list []) = a.isEmpty := by
  rw [PyData.eqv]
  cases a with
  | nil => simp [PyData.eqvAll]
  | cons x a => simp [PyData.eqvAll]
/-- x != [] -/
theorem ev_neNil {a : List Int} (ha : EvD K ta σ H (.list (dI a))) : Ev (tOp (rNeD K) ta (tLst tNil)) σ H (.bl (!a.isEmpty)) := fun H1 e Q q =>
  ha H1 e _ fun x H2 e2 hx => EvN.toD (en_lst eda_nil (by simp)) H2 (e.trans e2) _ fun y H3 e3 hy => ⟨_, _, dp_ex e3 _ _ hx, hy, shaped_dI a, shaped_dI [], by
    rw [eqv_nil]
    exact q H3 (e2.trans e3)⟩
end
section
variable {P : Program} {w : World} {K : PySem.W.Frag} {mg : Str → Option Value} {base : Heap}

def spDraw (K : PySem.W.Frag) : Sp := fun vs H Q _ => ∃ (st lg cl : Addr) (n : Nat) (size : Int), vs = [.ref st, .int size] ∧ 1 ≤ size ∧ size ≤ 1000 ∧ n ≤ 10000 ∧ StK st lg cl n H ∧
  ∀ r H', 0 ≤ r → r < size → Xp [st, lg] H H' → StK st lg cl (n + 1) H' → Q (.int r) H'
abbrev s__law_draw : Stmt := topS 52
abbrev N__law_draw : List Str := ["state", "size_here", "found", "turn", "cell", "mixed"]
theorem sc__law_draw : FnScope N__law_draw ["state", "size_here"] (defScope s__law_draw) := ⟨rfl, rfl, rfl, by decide +kernel, rfl, by decide +kernel, by decide +kernel⟩
theorem ok__law_draw {f : Addr} {fd : FuncData} (F : Fun K "_law_draw" "_law_draw" s__law_draw f fd) (T : Txt mg)
     :
    FnOk P w K mg base CX0 1 f fd ["state", "size_here"] (spDraw K) := by
  refine F.ok sc__law_draw (fun vs H Q E h => by obtain ⟨_, _, _, _, _, rfl, _⟩ := h; rfl) (fun cdv A outer s H vs Q E hr h => ?_)
  obtain ⟨st, lg, cl, n, size, rfl, h1, h2, h3, hst, k⟩ := h
  refine ⟨_, (pss_cons (ps_while PassesOwn.never (PW.pt (pw_and (pt_cmpR op_eq (pe_dget (hu_of hr) (pv 0) pe_str (fun _ _ => rfl)) pe_int (nomark _)) (pw_and1 (pt_cmpR (op_neD (hu64 hr)) (pe_dget (hu_of hr) (pv 0) pe_str (fun _ _ => rfl)) (pe_lst pa_nil) (nomark _))))) (pss_one (ps_dput (hu_of hr) (pv 0) pe_str (pe_bm PySem.F.plainAttrs_list PySem.F.slot_list_pop PySem.F.type_list_pop mt_popAt (pe_dget (hu_of hr) (pv 0) pe_str (fun _ _ => rfl)) (pa_cons pe_int pa_nil)) rfl)))
      (pss_cons (ps_if (pt_cmpR op_gt (pe_dget (hu_of hr) (pv 0) pe_str (fun _ _ => rfl)) pe_int (nomark _)) (pss_cons (ps_set (i := 2) sc__law_draw.nd rfl (.inl rfl) (pe_op op_mod (pe_callTy call_int1 (by rfl) T.b_int (by decide +kernel) (pa_cons (pe_dget (hu_of hr) (pv 0) pe_str (fun _ _ => rfl)) pa_nil)) (pv 1)))
      (pss_cons (ps_dput (hu_of hr) (pv 0) pe_str (pe_op op_fdiv (pe_dget (hu_of hr) (pv 0) pe_str (fun _ _ => rfl)) (pv 1)) rfl)
      (pss_one (ps_ret (pv 2))))) pss_nil)
      (pss_cons (ps_set (i := 3) sc__law_draw.nd rfl (.inl rfl) (pe_op op_add (pe_dget (hu_of hr) (pv 0) pe_str (fun _ _ => rfl)) pe_int))
      (pss_cons (ps_dput (hu_of hr) (pv 0) pe_str (pv 3) rfl)
      (pss_cons (ps_set (i := 4) sc__law_draw.nd rfl (.inl rfl) (pe_ifExp (pt_cmpR (op_neD (hu64 hr)) (pe_dget (hu_of hr) (pv 0) pe_str (fun _ _ => rfl)) (pe_lst pa_nil) (nomark _)) (pe_ix ix_list (pe_dget (hu_of hr) (pv 0) pe_str (fun _ _ => rfl)) (pe_op op_mod (pe_callTy call_int1 (by rfl) T.b_int (by decide +kernel) (pa_cons (pv 3) pa_nil)) (pe_callB call_len_seq (by rfl) T.b_len PySem.boot_len (pa_cons (pe_dget (hu_of hr) (pv 0) pe_str (fun _ _ => rfl)) pa_nil))) (fun _ _ => rfl)) pe_int))
      (pss_cons (ps_set (i := 5) sc__law_draw.nd rfl (.inl rfl) (pe_op op_mod (pe_callTy call_int1 (by rfl) T.b_int (by decide +kernel) (pa_cons (pe_op op_pow (pe_op op_add (pe_op op_add (pe_op op_mod (pe_callTy call_int1 (by rfl) T.b_int (by decide +kernel) (pa_cons (pv 4) pa_nil)) pe_int) (pe_op op_mul pe_int (pv 3))) pe_int) pe_int) pa_nil)) pe_int))
      (pss_one (ps_ret (pe_op op_mod (pe_callTy call_int1 (by rfl) T.b_int (by decide +kernel) (pa_cons (pe_op op_fdiv (pe_op op_mod (pe_callTy call_int1 (by rfl) T.b_int (by decide +kernel) (pa_cons (pe_op op_pow (pe_op op_add (pv 5) (pe_op op_mul pe_int (pv 3))) pe_int) pa_nil)) pe_int) pe_int) pa_nil)) (pv 1)))))))))), ?_⟩
  obtain ⟨l0, t0, xs0, cs, a1, a2, a3, a4, a5, a6⟩ := hst
  have cst : cl ≠ st := fun z => by rw [z, a1] at a3; cases a3
  have lst : lg ≠ st := fun z => by rw [z, a1] at a2; cases a2
  have kF' : V.str "left" = kV kF := rfl
  refine ⟨fun m σ' Ha => ∃ (l : Int) (xs : List Int), m = xs.length ∧ Xp [st, lg] H Ha ∧ Ha st = some (.dK (dk lg cl l t0)) ∧ Ha lg = some (.lst (xs.map V.int)) ∧ σ' = [some (.ref st), some (.int size), none, none, none, none], ⟨_, l0, xs0, rfl, Xp.refl _ _, a1, a2, rfl⟩, ?_⟩
  rintro m σ' Ha ⟨l, xs, rfl, xp, b1, b2, rfl⟩
  have b3 : Ha cl = some (.lst (cs.map V.int)) := xp _ _ a3 (by simp [cst, a4])
  refine et_and (a := decide (V.int l = V.int 0)) (b := !xs.isEmpty) (et_test (ev_op (ev_dget (k := kF) rfl b1 dk_F) ev_c (rv_eq rfl))) (fun _ => et_test (ev_neNil (K := K) (ed_is (d := .list (dI xs)) (ev_d (ev_dget (k := kL) rfl b1 dk_L) (.lst (sq_of b2) (ints_dpa xs))) rfl))) Ha (Ex.refl _) _ fun Hb eb => ?_
  have b1 := eb _ _ b1
  have b2 := eb _ _ b2
  have b3 := eb _ _ b3
  have xp := xp.then eb
  by_cases hx : (decide (V.int l = V.int 0) && !xs.isEmpty) = true
  · rw [if_pos hx]
    cases xs with
    | nil => simp at hx
    | cons x xs =>
      refine ⟨fun σ2 H2 => ∃ (l : Int), Xp [st, lg] H H2 ∧ H2 st = some (.dK (dk lg cl l t0)) ∧ H2 lg = some (.lst (xs.map V.int)) ∧ σ2 = [some (.ref st), some (.int size), none, none, none, none], fun σ2 H2 ⟨l, z⟩ => ⟨xs.length, by simp, l, xs, rfl, z⟩, ?_⟩
      refine ⟨.ref st, rfl, st, .ref lg, rfl, (dk_L (lg := lg) (cl := cl) (l := l) (t := t0)) ▸ DGet.k (k := kL) b1, Or.inl ⟨rfl, _, sq_of b2⟩, lg, _, 0, 0, .int x, rfl, rfl, b2, by decide, by decide, by simp [seqIndex?], rfl, .ref st, rfl, st, _, rfl, DPut.k (k := kF) (by rw [upd_ne (Ne.symm lst)]; exact b1) (by show 4 < sizeLine; decide), ?_⟩
      rw [put_F]
      exact ⟨x, Xp.upd (Xp.upd xp (by simp)) (by simp), upd_same, by rw [upd_ne lst, upd_same]; simp, rfl⟩
  rw [if_neg hx]
  show tSeq _ _ _ [some (.ref st), some (.int size), none, none, none, none] Hb
  refine q_when (b := decide ((0 : Int) < l)) (et_test (ev_op (ev_dget (k := kF) rfl b1 dk_F) ev_c rv_I0)) (fun hb Hc ec => ?_) fun hb Hc ec => ?_
  · have b1 := ec _ _ b1
    refine qi_asg (ev_op (ev_int1 (ev_dget (k := kF) rfl b1 dk_F)) (ev_var rfl) (rv_I (by omega))) fun Hd ed => ?_
    have b1 := ed _ _ b1
    refine q_dput (k := kF) rfl b1 (by simp [dk]) (ev_op (ev_dget (k := kF) rfl b1 dk_F) (ev_var rfl) (rv_I ⟨by omega, by omega⟩)) fun He ee => ?_
    rw [put_F]
    refine ⟨_, rfl, k (l % size) _ (Int.emod_nonneg _ (by omega)) (Int.emod_lt_of_pos _ (by omega)) (Xp.upd (xp.then ((ec.trans ed).trans ee)) (by simp)) ⟨l / size, t0, xs, cs, upd_same, ?_, ?_, a4, a5, by omega⟩⟩
    · rw [upd_ne lst]
      exact ee _ _ (ed _ _ (ec _ _ b2))
    · rw [upd_ne cst]
      exact ee _ _ (ed _ _ (ec _ _ b3))
  have b1 := ec _ _ b1
  refine qi_asg (ev_op (ev_dget (k := kT) rfl b1 dk_T) ev_c rv_I0) fun Hd ed => ?_
  have b1 := ed _ _ b1
  refine q_dput (k := kT) rfl b1 (by simp [dk]) (ev_var rfl) fun He ee => ?_
  rw [put_T]
  have c1 : upd He st (.dK (dk lg cl l (t0 + 1))) st = some (.dK (dk lg cl l (t0 + 1))) := upd_same
  have c2 : upd He st (.dK (dk lg cl l (t0 + 1))) lg = some (.lst (xs.map V.int)) := by
    rw [upd_ne lst]
    exact ee _ _ (ed _ _ (ec _ _ b2))
  have c3 : upd He st (.dK (dk lg cl l (t0 + 1))) cl = some (.lst (cs.map V.int)) := by
    rw [upd_ne cst]
    exact ee _ _ (ed _ _ (ec _ _ b3))
  have xp2 : Xp [st, lg] H (upd He st (.dK (dk lg cl l (t0 + 1)))) := Xp.upd (xp.then ((ec.trans ed).trans ee)) (by simp)
  generalize upd He st (.dK (dk lg cl l (t0 + 1))) = Hf at *
  obtain ⟨c, hc⟩ : ∃ c : Int, Ev (tIf (tTest (tOp (rNeD K) (tDGet (tVar 0) (tC (.str "cells"))) (tLst tNil)))
      (tOp (rIxL K) (tDGet (tVar 0) (tC (.str "cells"))) (tOp (rI (fun _ j => 0 < j) fun i j => .int (i % j)) (tCB (fun xs H Q => (∃ i, xs = [.int i] ∧ Q (.int i) H) ∨ ∃ k, xs = [.bl k] ∧ Q (.int (if k then 1 else 0)) H) (tCons (tVar 3) tNil)) (tCB (fun xs H Q => ∃ p ys, xs = [.ref p] ∧ (SqL K H p ys ∨ SqT K H p ys) ∧ Q (.int ys.length) H) (tCons (tDGet (tVar 0) (tC (.str "cells"))) tNil))))
      (tC (.int 0))) [some (.ref st), some (.int size), none, some (.int (t0 + 1)), none, none] Hf (.int c) := by
    have dc : EvD K (tDGet (tVar 0) (tC (.str "cells"))) [some (.ref st), some (.int size), none, some (.int (t0 + 1)), none, none] Hf (.list (dI cs)) := ev_d (ev_dget (k := kC) rfl c1 dk_C) (.lst (sq_of c3) (ints_dpa cs))
    refine ⟨if (!cs.isEmpty) = true then cs.getD ((t0 + 1) % (cs.length : Int)).toNat 0 else 0, ev_if (b := !cs.isEmpty) (et_test (ev_neNil dc)) (fun h => ?_) fun h => ?_⟩
    · rw [if_pos h]
      have hl : 0 < cs.length := by cases cs with | nil => simp at h | cons _ _ => simp
      have m1 := Int.emod_nonneg (t0 + 1) (show ((cs.length : Int)) ≠ 0 by omega)
      have m2 := Int.emod_lt_of_pos (t0 + 1) (show (0 : Int) < (cs.length : Int) by omega)
      refine ev_op (ev_dget (k := kC) rfl c1 dk_C) (ev_op (ev_int1 (ev_var rfl)) (ev_is (ev_lenL dc) (by rw [dI, List.length_map])) (rv_I (by omega))) (rv_ixL (K := K) (sq_of c3) ?_)
      obtain ⟨j, hj⟩ := Int.eq_ofNat_of_zero_le m1
      rw [hj] at m2 ⊢
      refine atI_nat ?_
      rw [Int.toNat_natCast, List.getElem?_map, List.getElem?_eq_getElem (by omega), List.getD_eq_getElem?_getD, List.getElem?_eq_getElem (by omega)]
      rfl
    · rw [h]
      exact ev_c
  refine qi_asg hc fun Hg eg => ?_
  have u1 := Int.emod_nonneg c (show (2147483563 : Int) ≠ 0 by decide)
  have u2 := Int.emod_lt_of_pos c (show (0 : Int) < 2147483563 by decide)
  refine qi_asg (v := .int (((c % 2147483563 + 40692 * (t0 + 1) + 24681) ^ (3 : Int).toNat) % 2147483629)) (ev_op (ev_int1 (ev_op (ev_op (ev_op (ev_op (ev_int1 (ev_var rfl)) ev_c (rv_I (by decide))) (ev_op ev_c (ev_var rfl) (rv_I (.inl ⟨by decide, by decide⟩))) rv_I0) ev_c rv_I0) ev_c (rv_I ⟨by decide, by decide, by omega⟩))) ev_c (rv_I (by decide))) fun Hh eh => ?_
  have w1 := Int.emod_nonneg ((c % 2147483563 + 40692 * (t0 + 1) + 24681) ^ (3 : Int).toNat) (show (2147483629 : Int) ≠ 0 by decide)
  have w2 := Int.emod_lt_of_pos ((c % 2147483563 + 40692 * (t0 + 1) + 24681) ^ (3 : Int).toNat) (show (0 : Int) < 2147483629 by decide)
  generalize ((c % 2147483563 + 40692 * (t0 + 1) + 24681) ^ (3 : Int).toNat) % 2147483629 = M at *
  refine s_ret (ev_op (ev_int1 (ev_op (ev_op (ev_int1 (ev_op (ev_op (ev_var rfl) (ev_op ev_c (ev_var rfl) (rv_I (.inl ⟨by decide, by decide⟩))) rv_I0) ev_c (rv_I ⟨by decide, by decide, by omega⟩))) ev_c (rv_I (by decide))) ev_c (rv_I ⟨by decide, by decide⟩))) (ev_var rfl) (rv_I (by omega))) fun Hi ei => ?_
  exact k _ _ (Int.emod_nonneg _ (by omega)) (Int.emod_lt_of_pos _ (by omega)) (xp2.then ((eg.trans eh).trans ei)) (stk_ex ((eg.trans eh).trans ei) ⟨l, t0 + 1, xs, cs, c1, c2, c3, a4, by omega, by omega⟩)

end
end K20
set_option Elab.async false
set_option linter.all false
set_option maxRecDepth 100000
set_option maxHeartbeats 4000000
namespace K20
open PySem PySem.Spec PyProof.Rows L2 Evl DL
local macro_rules | `(tactic| walk_at "dl") => `(tactic| first
  | exact ev_c | exact ev_var rfl | exact eda_nil
  | exact ed_var rfl (by assumption)
  | exact ed_int ev_c | exact ed_int (ev_var rfl)
  | (refine eda_cons ?_ ?_ <;> walk_at "dl")
  | (refine ed_int ?_; walk_at "dl")
  | (refine ev_op ?_ ?_ rv_I0 <;> walk_at "dl"))

section
variable {P : Program} {w : World} {K : PySem.W.Frag} {mg : Str → Option Value} {base : Heap}

def spPick (K : PySem.W.Frag) : Sp := fun vs H Q _ => ∃ (st lg cl : Addr) (n : Nat) (a : Addr) (ns : List Int), vs = [.ref st, .ref a] ∧ H a = some (.lst (ns.map V.int)) ∧ a ≠ lg ∧ 1 ≤ ns.length ∧ ns.length ≤ 1000 ∧ n ≤ 10000 ∧ StK st lg cl n H ∧
  ∀ r H', r ∈ ns → Xp [st, lg] H H' → StK st lg cl (n + 1) H' → Q (.int r) H'
def lpr (s : Int) : List PyData := (List.range s.toNat).flatMap fun (i : Nat) => (List.range (s - ((i : Int) + 1)).toNat).map fun (j : Nat) => PyData.tuple [.int (i : Int), .int ((i : Int) + 1 + (j : Int))]
def R_law_pairs (ds : List PyData) (r : List PyData) : Prop := ∃ s : Int, ds = [.int s] ∧ 2 ≤ s ∧ s ≤ 4 ∧ r = lpr s
theorem lpr_imm (s : Int) : immAll (lpr s) = true := immAll_flat (fun i => immAll_map (fun j => by simp [imm, immAll]) _) _
theorem lpr_len {s : Int} (h1 : 2 ≤ s) (h2 : s ≤ 4) : (lpr s).length = np s ∧ np s ≤ 6 := by
  have hs' : s = 2 ∨ s = 3 ∨ s = 4 := by omega
  rcases hs' with rfl | rfl | rfl <;> decide
abbrev s__law_pick : Stmt := topS 53
abbrev N__law_pick : List Str := ["state", "several"]
theorem sc__law_pick : FnScope N__law_pick ["state", "several"] (defScope s__law_pick) := ⟨rfl, rfl, rfl, by decide +kernel, rfl, by decide +kernel, by decide +kernel⟩
theorem ok__law_pick {f : Addr} {fd : FuncData} (F : Fun K "_law_pick" "_law_pick" s__law_pick f fd) (T : Txt mg)
    (D__law_draw : DF P w K mg base "_law_draw" 1 ["state", "size_here"] (spDraw K)) :
    FnOk P w K mg base CX0 2 f fd ["state", "several"] (spPick K) := by
  refine F.ok sc__law_pick (fun vs H Q E h => by obtain ⟨_, _, _, _, _, _, rfl, _⟩ := h; rfl) (fun cdv A outer s H vs Q E hr h => ?_)
  obtain ⟨st, lg, cl, n, a, ns, rfl, ha, hal, h1, h2, h3, hst, k⟩ := h
  refine ⟨_, (pss_one (ps_ret (pe_ix ix_list (pv 1) (pe_D D__law_draw (hr.mono (by decide)) (by rfl) (pa_cons (pv 0) (pa_cons (pe_callB call_len_seq (by rfl) T.b_len PySem.boot_len (pa_cons (pv 1) pa_nil)) pa_nil))) (fun _ _ => rfl)))), ?_⟩
  have hast : a ≠ st := fun z => by
    obtain ⟨_, _, _, _, q, _⟩ := hst
    rw [← z, ha] at q
    cases q
  refine ⟨.ref a, rfl, .ref st, rfl, .ref a, rfl, a, ns.map V.int, rfl, .inl (sq_of ha), st, lg, cl, n, ((ns.map V.int).length : Int), rfl, by rw [List.length_map]; omega, by rw [List.length_map]; omega, h3, hst, fun r H' r0 r1 x s => ?_⟩
  rw [List.length_map] at r1
  obtain ⟨j, rfl⟩ := Int.eq_ofNat_of_zero_le r0
  have hj : j < ns.length := by omega
  refine ⟨a, ns.map V.int, (j : Int), .int ns[j], rfl, rfl, sq_of (x _ _ ha (by simp [hast, hal])), atI_nat (by rw [List.getElem?_map, List.getElem?_eq_getElem hj]; rfl), k _ H' (List.getElem_mem hj) x s⟩

abbrev s__law_pairs : Stmt := topS 54
abbrev N__law_pairs : List Str := ["sides_here", "found", "one", "other"]
theorem sc__law_pairs : FnScope N__law_pairs ["sides_here"] (defScope s__law_pairs) := ⟨rfl, rfl, rfl, by decide +kernel, rfl, by decide +kernel, by decide +kernel⟩
theorem ok__law_pairs {f : Addr} {fd : FuncData} (F : Fun K "_law_pairs" "_law_pairs" s__law_pairs f fd) (T : Txt mg)
     :
    FnOk P w K mg base CX0 1 f fd ["sides_here"] (spN K 1 R_law_pairs) := by
  refine F.ok sc__law_pairs (fun vs H Q E h => spN_len h) (fun cdv A outer s H vs Q E hr h => ?_)
  obtain ⟨ds, r, hd, _, ⟨x, rfl, h1, h2, rfl⟩, k⟩ := h
  obtain ⟨v0, rfl, d0⟩ := dpa_one hd
  cases dp_int d0
  refine ⟨_, (pss_cons (ps_set (i := 1) sc__law_pairs.nd rfl (.inl rfl) (pe_lst pa_nil))
      (pss_cons (ps_for PassesOwn.never rfl (pi_range1 (by rfl) T.b_range (pa_cons (pv 0) pa_nil)) (pg_name (i := 2) sc__law_pairs.nd rfl (Or.inr rfl)) (pss_one (ps_set (i := 1) sc__law_pairs.nd rfl (.inl rfl) (pe_op op_cat (pv 1) (pe_lc (own := [("other", 3)]) (g := (gName 3)) (tt := tYes) rfl sc__law_pairs.nd (pi_range2 (by rfl) T.b_range (pa_cons (pe_op op_add (pv 2) pe_int) (pa_cons (pv 0) pa_nil))) (blkOk_by (N := N__law_pairs) (sc := defScope s__law_pairs) (by decide +kernel)) (fun _ _ _ _ _ => (pg_name (i := 3) sc__law_pairs.nd rfl (Or.inl rfl))) (fun _ _ _ _ _ => pts_nil) (fun _ _ _ _ _ => (pe_tup (pa_cons (pv 2) (pa_cons (pv 3) pa_nil)))))))))
      (pss_one (ps_ret (pv 1))))), ?_⟩
  refine qn_asg (K := K) (en_lst eda_nil (by simp)) fun p vs H1 hp e1 h1' hd1 => ?_
  cases hd1
  refine e_for (S := []) (ei_rng1 (K := K) (n := x) (eda_cons (ed_int (ev_var rfl)) eda_nil) ⟨by omega, by omega⟩) (fun H2 i σ' Ha => Ex H2 Ha ∧ ∃ p ws a b, H p = none ∧ Ha p = some (.lst ws) ∧ DpAll K Ha ws ((List.range i).flatMap fun (i : Nat) => (List.range (x - ((i : Int) + 1)).toNat).map fun (j : Nat) => PyData.tuple [.int (i : Int), .int ((i : Int) + 1 + (j : Int))]) ∧ σ' = [some (.int x), some (.ref p), a, b])
    (fun H2 e2 => ⟨Ex.refl _, p, [], none, none, hp, e2 _ _ h1', .nil, rfl⟩) (fun H2 i σ' Ha _ z => Xp.of_ex z.1) ?_ ?_
  · rintro H2 i d y σ' Ha Hb e2 hdi ⟨p1, p, ws, a, b, hp, hpa, dws, rfl⟩ eb hy
    have hi : i < x.toNat := by simpa using (List.getElem?_eq_some_iff.mp hdi).1
    rw [rng_get hi] at hdi
    cases hdi
    cases dp_int hy
    have hpb := eb _ _ hpa
    have dwb := dpa_ex eb _ _ dws
    have small : ∀ i : Nat, ((List.range i).flatMap fun (i : Nat) => (List.range (x - ((i : Int) + 1)).toNat).map fun (j : Nat) => PyData.tuple [.int (i : Int), .int ((i : Int) + 1 + (j : Int))]).length ≤ 4 * i := fun i => by
      induction i with
      | zero => simp
      | succ i ih =>
        rw [List.range_succ, List.flatMap_append, List.length_append, List.flatMap_cons, List.flatMap_nil, List.append_nil, List.length_map, List.length_range]
        omega
    have sm := small i
    show tAsg _ (gName 1) _ [some (.int x), some (.ref p), some (.int (i : Int)), b] Hb
    refine n_asg (K := K) (en_cat (eq_var rfl hpb dwb) (EvN.toQ (en_lc (K := K) (ei_rng2 (S := []) (K := K) (m := (i : Int) + 1) (n := x) (eda_cons (ed_int (ev_op (ev_var rfl) ev_c rv_I0)) (eda_cons (ed_int (ev_var rfl)) eda_nil)) ⟨⟨by omega, by omega⟩, by omega, by omega⟩) (by rw [List.length_map, List.length_range]; omega)
      (fun j => PyData.tuple [.int (i : Int), .int ((i : Int) + 1 + (j : Int))]) (fun j _ => by simp [imm, immAll]) ?_)) ?_) fun p2 ws2 Hc hp2 ec h2' hd2 => ?_
    · intro H3 j d y Hd Q e3 hdj ed hy kk
      have hj : j < (x - ((i : Int) + 1)).toNat := by simpa using (List.getElem?_eq_some_iff.mp hdj).1
      rw [rng_get hj] at hdj
      cases hdj
      cases dp_int hy
      exact kk _ Hd (Ex.refl _) rfl (ed_tup (eda_cons (ed_int (ev_var rfl)) (eda_cons (ed_int (ev_var rfl)) eda_nil)) (by simp))
    · simp only [List.length_map, List.length_range]
      omega
    · refine ⟨(p1.trans eb).trans ec, p2, ws2, _, _, fresh_back (((e1.trans e2).trans p1).trans eb) hp2, h2', ?_, rfl⟩
      rw [List.range_succ, List.flatMap_append, List.flatMap_cons, List.flatMap_nil, List.append_nil]
      simpa using hd2
  · rintro H2 σ' Ha e2 ⟨p1, p, ws, a, b, hp, hpa, dws, rfl⟩
    refine ⟨.ref p, rfl, k p ws Ha hp ((e1.trans e2).trans p1) hpa ?_⟩
    rw [List.length_map, List.length_range] at dws
    exact dws

end
end K20
set_option Elab.async false
set_option linter.all false
set_option maxRecDepth 100000
set_option maxHeartbeats 4000000
namespace K20
open PySem PySem.Spec PyProof.Rows L2 Evl DL
local macro_rules | `(tactic| walk_at "dl") => `(tactic| first
  | exact ev_c | exact ev_var rfl | exact eda_nil
  | exact ed_var rfl (by assumption)
  | exact ed_int ev_c | exact ed_int (ev_var rfl)
  | (refine eda_cons ?_ ?_ <;> walk_at "dl")
  | (refine ed_int ?_; walk_at "dl")
  | (refine ev_op ?_ ?_ rv_I0 <;> walk_at "dl"))

section
variable {P : Program} {w : World} {K : PySem.W.Frag} {mg : Str → Option Value} {base : Heap}

def spDrawn (K : PySem.W.Frag) : Sp := fun vs H Q _ => ∃ (st lg cl : Addr) (n : Nat) (s : Int), vs = [.ref st, .int s] ∧ 2 ≤ s ∧ s ≤ 4 ∧ n ≤ 9000 ∧ StK st lg cl n H ∧
  ∀ l v H', Ld s l → Xp [st, lg] H H' → StK st lg cl (n + 13) H' → Dp K H' v (tI l) → Q v H'
def spBegun (K : PySem.W.Frag) : Sp := fun vs H Q _ => ∃ (a : Addr) (ns : List Int), vs = [.ref a] ∧ SqL K H a (ns.map V.int) ∧ ns.length ≤ 63 ∧
  ∀ st lg cl H', H st = none → H lg = none → Ex H H' → StK st lg cl 0 H' → Q (.ref st) H'
theorem stk_ne {st lg cl D : Addr} {n : Nat} {H : Hp} (h : StK st lg cl n H) (hD : H D = none) : D ≠ st ∧ D ≠ lg ∧ D ≠ cl := by
  obtain ⟨l, t, xs, cs, h1, h2, h3, _⟩ := h
  refine ⟨fun z => ?_, fun z => ?_, fun z => ?_⟩
  · rw [z, h1] at hD; cases hD
  · rw [z, h2] at hD; cases hD
  · rw [z, h3] at hD; cases hD
theorem stk_upd {st lg cl D : Addr} {n : Nat} {H : Hp} {u : HO} (h : StK st lg cl n H) (hD : D ≠ st ∧ D ≠ lg ∧ D ≠ cl) : StK st lg cl n (L2.upd H D u) := by
  obtain ⟨l, t, xs, cs, h1, h2, h3, h4⟩ := h
  exact ⟨l, t, xs, cs, by rw [upd_ne (Ne.symm hD.1)]; exact h1, by rw [upd_ne (Ne.symm hD.2.1)]; exact h2, by rw [upd_ne (Ne.symm hD.2.2)]; exact h3, h4⟩
abbrev s__law_drawn : Stmt := topS 55
abbrev N__law_drawn : List Str := ["state", "sides_here", "most", "pair"]
theorem sc__law_drawn : FnScope N__law_drawn ["state", "sides_here"] (defScope s__law_drawn) := ⟨rfl, rfl, rfl, by decide +kernel, rfl, by decide +kernel, by decide +kernel⟩
theorem ok__law_drawn {f : Addr} {fd : FuncData} (F : Fun K "_law_drawn" "_law_drawn" s__law_drawn f fd) (T : Txt mg)
    (D__law_draw : DF P w K mg base "_law_draw" 1 ["state", "size_here"] (spDraw K)) (D__law_pairs : DF P w K mg base "_law_pairs" 1 ["sides_here"] (spN K 1 R_law_pairs)) (D__law_pick : DF P w K mg base "_law_pick" 2 ["state", "several"] (spPick K)) :
    FnOk P w K mg base CX0 3 f fd ["state", "sides_here"] (spDrawn K) := by
  refine F.ok sc__law_drawn (fun vs H Q E h => by obtain ⟨_, _, _, _, _, rfl, _⟩ := h; rfl) (fun cdv A outer s H vs Q E hr h => ?_)
  obtain ⟨st, lg, cl, n, x, rfl, h1, h2, h3, hst, k⟩ := h
  refine ⟨_, (pss_cons (ps_set (i := 2) sc__law_drawn.nd rfl (.inr rfl) (pe_D D__law_pick (hr.mono (by decide)) (by rfl) (pa_cons (pv 0) (pa_cons (pe_lst (pa_cons pe_int (pa_cons pe_int (pa_cons pe_int (pa_cons pe_int (pa_cons pe_int (pa_cons pe_int pa_nil))))))) pa_nil))))
      (pss_one (ps_ret (pe_callTy call_tuple_of (by rfl) T.b_tuple (by decide +kernel) (pa_cons (pe_lc (own := [("pair", 3)]) (g := (gName 3)) (tt := tYes) rfl sc__law_drawn.nd (pi_list (pe_D D__law_pairs (hr.mono (by decide)) (by rfl) (pa_cons (pv 1) pa_nil))) (blkOk_by (N := N__law_drawn) (sc := defScope s__law_drawn) (by decide +kernel)) (fun _ _ _ _ _ => (pg_name (i := 3) sc__law_drawn.nd rfl (Or.inl rfl))) (fun _ _ _ _ _ => pts_nil) (fun _ _ _ _ _ => (pe_ifExp (pt_cmpR op_gt (pe_D D__law_draw (hr.mono (by decide)) (by rfl) (pa_cons (pv 0) (pa_cons pe_int pa_nil))) pe_int (nomark _)) (pe_D D__law_draw (hr.mono (by decide)) (by rfl) (pa_cons (pv 0) (pa_cons (pe_op op_add (pv 2) pe_int) pa_nil))) pe_int))) pa_nil))))), ?_⟩
  refine ⟨.ref st, rfl, by show 6 ≤ sizeLine; decide, fun a ha => ?_⟩
  have ne0 := stk_ne hst ha
  refine ⟨st, lg, cl, n, a, [1, 2, 3, 6, 30, 99], rfl, upd_same, ne0.2.1, by decide, by decide, by omega, stk_ex (Ex.new ha) hst, fun most H1 hmo x1 s1 => ?_⟩
  have hmost : 1 ≤ most ∧ most ≤ 99 := by
    simp only [List.mem_cons, List.not_mem_nil, or_false] at hmo
    omega
  have x1 : Xp [st, lg] H H1 := fun b o hb hn => x1 b o (Ex.new ha _ _ hb) hn
  dsimp only [gName]
  show tRet (tCB _ _) _ [some (.ref st), some (.int x), some (.int most), none] H1
  refine en_call (K := K) (σ := wipe [some (.ref st), some (.int x), some (.int most), none] []) (R := R_law_pairs) (ds := [.int x]) (by walk_at "dl") rfl ⟨x, rfl, h1, h2, rfl⟩ H1 (Ex.refl _) _ fun p vs H2 hp e2 h2' hd2 => ?_
  refine ⟨p, rfl, ⟨vs, sq_of h2'⟩, fun Dl hD => ?_⟩
  have s2 := stk_ex e2 s1
  have neD := stk_ne s2 hD
  have neP := stk_ne s1 hp
  have npD : p ≠ Dl := fun z => by rw [z, hD] at h2'; cases h2'
  have lv : vs.length = np x ∧ np x ≤ 6 := by
    have := lpr_len h1 h2
    exact ⟨(dpa_len hd2).trans this.1, this.2⟩
  refine lc_it (walk_list (K := K) (xs := vs)) (fun i Ha => Xp [st, lg, Dl] H2 Ha ∧ ∃ ns : List Int, Ha Dl = some (.lst (ns.map V.int)) ∧ ns.length = i ∧ (∀ z ∈ ns, 0 ≤ z ∧ z ≤ 99) ∧ StK st lg cl (n + 1 + 2 * i) Ha) ?_ ?_ ?_ ?_
  · exact ⟨Xp.upd (Xp.refl _ _) (by simp), [], upd_same, rfl, fun z hz => by simp at hz, stk_upd s2 neD⟩
  · rintro i Ha _ ⟨x3, _⟩
    exact sq_of (x3 _ _ h2' (by simp [neP.1, neP.2.1, npD]))
  · rintro i y Ha Hb hi ⟨x3, ns, hds, hln, hns, s3⟩ ⟨rfl, hy⟩
    refine ⟨rfl, ?_⟩
    dsimp only [tYes]
    rw [if_pos rfl]
    show tIf (tTest _) (tCall _ _ _ _) _ [some (.ref st), some (.int x), some (.int most), some y] Hb _
    have fin : ∀ r H', 0 ≤ r → r ≤ 99 → Xp [st, lg] Hb H' → StK st lg cl (n + 1 + 2 * (i + 1)) H' → ∃ acc, H' Dl = some (.lst acc) ∧ acc.length < sizeLine ∧ (Xp [st, lg, Dl] H2 (upd H' Dl (.lst (acc ++ [.int r]))) ∧ ∃ ns : List Int, upd H' Dl (.lst (acc ++ [.int r])) Dl = some (.lst (ns.map V.int)) ∧ ns.length = i + 1 ∧ (∀ z ∈ ns, 0 ≤ z ∧ z ≤ 99) ∧ StK st lg cl (n + 1 + 2 * (i + 1)) (upd H' Dl (.lst (acc ++ [.int r])))) := fun r H' r0 r1 x4 s4 => by
      refine ⟨ns.map V.int, x4 _ _ hds (by simp [neD.1, neD.2.1]), sz_lt (by rw [List.length_map]; omega), Xp.upd (x3.trans fun a o ho hn => x4 a o ho fun hm => hn (by simp at hm ⊢; rcases hm with h | h <;> simp [h])) (by simp), ns ++ [r], by rw [upd_same, List.map_append]; rfl, by simp [hln], fun z hz => ?_, stk_upd s4 neD⟩
      rcases List.mem_append.mp hz with hz | hz
      · exact hns z hz
      · have : z = r := by simpa using hz
        omega
    refine ⟨.ref st, rfl, st, lg, cl, _, 4, rfl, by decide, by decide, by omega, s3, fun r H4 r0 r1 x4 s4 => ⟨r, 0, rfl, rfl, _, rfl, ?_⟩⟩
    by_cases hr0 : decide ((0 : Int) < r) = true
    · dsimp only
      rw [if_pos hr0]
      refine ⟨.ref st, rfl, .int most, rfl, most, 1, rfl, rfl, st, lg, cl, _, most + 1, rfl, by omega, by omega, by omega, s4, fun r2 H5 r3 r4 x5 s5 => ?_⟩
      exact fin r2 H5 r3 (by omega) (x4.trans x5) s5
    · dsimp only
      rw [if_neg hr0]
      exact fin 0 H4 (by decide) (by decide) x4 (stk_mono (by omega) s4)
  · rintro Ha ⟨x3, ns, hds, hln, hns, s3⟩
    have x3' : Xp [st, lg] H2 Ha := fun a o ho hn => x3 a o ho fun hm => by
      rcases (by simpa using hm : a = st ∨ a = lg ∨ a = Dl) with h | h | h
      · exact hn (by simp [h])
      · exact hn (by simp [h])
      · rw [h, hD] at ho
        cases ho
    refine ⟨Dl, ns.map V.int, rfl, .inl ⟨sq_of hds, fun q hq => ?_⟩⟩
    refine k ns _ _ ⟨by rw [hln]; exact lv.1, hns⟩ ((x1.then e2).trans (x3'.then (Ex.new hq))) (stk_ex (Ex.new hq) (stk_mono (by omega) s3)) (tI_dp (st_of upd_same))


theorem merge_dk {lg cl : Addr} : mergeK [] (dk lg cl 0 0) = dk lg cl 0 0 := by
  obtain ⟨a, b, c, d, e, f⟩ := k_ne
  simp [mergeK, putK, dk, a, b, c, d, e, f]
theorem ev_absI {K : PySem.W.Frag} {σ : L2.St} {H : Hp} {ta : TE} {i : Int} (h : Ev ta σ H (.int i)) : Ev (tCB (fun xs H Q => ∃ i, xs = [.int i] ∧ Q (.int (if i < 0 then -i else i)) H) (tCons ta tNil)) σ H (.int (if i < 0 then -i else i)) := fun H1 e Q q =>
  h H1 e _ fun H2 e2 => ⟨i, rfl, q H2 e2⟩
theorem given_ints (n : Nat) (f : Nat → Bool) (g : Nat → Int) : given n f (fun i => V.int (g i)) = (((List.range n).filter f).map g).map V.int := by
  rw [given, List.map_map]
  rfl
abbrev s__law_begun : Stmt := topS 51
abbrev N__law_begun : List Str := ["script", "cells_here", "large", "cell"]
theorem sc__law_begun : FnScope N__law_begun ["script"] (defScope s__law_begun) := ⟨rfl, rfl, rfl, by decide +kernel, rfl, by decide +kernel, by decide +kernel⟩
theorem ok__law_begun {f : Addr} {fd : FuncData} (F : Fun K "_law_begun" "_law_begun" s__law_begun f fd) (T : Txt mg)
     :
    FnOk P w K mg base CX0 1 f fd ["script"] (spBegun K) := by
  refine F.ok sc__law_begun (fun vs H Q E h => by obtain ⟨_, _, rfl, _⟩ := h; rfl) (fun cdv A outer s H vs Q E hr h => ?_)
  obtain ⟨a, ns, rfl, hs, hl, k⟩ := h
  refine ⟨_, (pss_cons (ps_setLc (i := 1) (own := [("cell", 3)]) (g := (gName 3)) (tt := tYes) rfl sc__law_begun.nd rfl rfl (sw_true rfl rfl rfl (by decide +kernel)) (pi_list (pv 0)) (blkOk_by (N := N__law_begun) (sc := defScope s__law_begun) (by decide +kernel)) (fun _ _ _ _ _ => (pg_name (i := 3) sc__law_begun.nd rfl (Or.inl rfl))) (fun _ _ _ _ _ => pts_nil) (fun _ _ _ _ _ => (pe_callB call_abs (by rfl) T.b_abs (by decide +kernel) (pa_cons (pv 3) pa_nil))))
      (pss_cons (ps_setLc (i := 2) (own := [("cell", 3)]) (g := (gName 3)) (tt := _) rfl sc__law_begun.nd rfl rfl (sw_true rfl rfl rfl (by decide +kernel)) (pi_list (pv 1)) (blkOk_by (N := N__law_begun) (sc := defScope s__law_begun) (by decide +kernel)) (fun _ _ _ _ _ => (pg_name (i := 3) sc__law_begun.nd rfl (Or.inl rfl))) (fun _ _ _ _ _ => (pts_one (pt_cmpR op_ge (pv 3) (pe_op op_pow pe_int pe_int) (nomark _)))) (fun _ _ _ _ _ => (pe_op op_sub (pv 3) (pe_op op_pow pe_int pe_int))))
      (pss_one (ps_ret (pe_disp (pps_cons pe_str (pv 2) (pps_cons pe_str (pv 1) (pps_cons pe_str pe_int (pps_cons pe_str pe_int pps_nil)))) (by rfl) (by rfl) (fun z => by cases z) (by decide)))))), ?_⟩
  have c2 : ∀ (i : Nat) (x : V), (ns.map V.int)[i]? = some x → x = .int (ns.getD i 0) := fun i x h => by
    rw [List.getElem?_map] at h
    cases g : ns[i]? with
    | none => rw [g] at h; simp at h
    | some z => rw [g] at h; simp at h; rw [← h, List.getD_eq_getElem?_getD, g]; rfl
  refine q_asgL (xs := given (ns.map V.int).length (fun _ => true) fun i => V.int (if ns.getD i 0 < 0 then -(ns.getD i 0) else ns.getD i 0)) (el_lcL (K := K) (a := a) (xs := ns.map V.int) _ _ (ev_var rfl) hs (by rw [List.length_map]; omega) (fun x => rfl) (fun i x H1 e1 hx H2 e2 Q q => q H2 (Ex.refl _)) fun i x H1 e1 hx _ => ?_) fun cl H1 hcl e1 h1 => ?_
  · rw [c2 i x hx]
    exact ev_absI (K := K) (ev_var rfl)
  rw [given_ints] at h1
  generalize hcs : ((List.range (ns.map V.int).length).filter fun _ => true).map (fun i => if ns.getD i 0 < 0 then -(ns.getD i 0) else ns.getD i 0) = cs at h1
  have lcs : cs.length ≤ 63 := by
    rw [← hcs, List.length_map]
    refine Nat.le_trans (List.length_filter_le _ _) ?_
    rw [List.length_range, List.length_map]
    exact hl
  have c3 : ∀ (i : Nat) (x : V), (cs.map V.int)[i]? = some x → x = .int (cs.getD i 0) := fun i x h => by
    rw [List.getElem?_map] at h
    cases g : cs[i]? with
    | none => rw [g] at h; simp at h
    | some z => rw [g] at h; simp at h; rw [← h, List.getD_eq_getElem?_getD, g]; rfl
  refine q_asgL (xs := given (cs.map V.int).length (fun i => decide ((10 : Int) ^ (18 : Int).toNat ≤ cs.getD i 0)) fun i => V.int (cs.getD i 0 - (10 : Int) ^ (18 : Int).toNat)) (el_lcL (K := K) (a := cl) (xs := cs.map V.int) _ _ (ev_var rfl) (sq_of h1) (by rw [List.length_map]; omega) (fun x => rfl) (fun i x H2 e2 hx => ?_) fun i x H2 e2 hx _ => ?_) fun lg H2 hlg e2 h2 => ?_
  · rw [c3 i x hx]
    exact et_test (ev_op (ev_var rfl) (ev_op ev_c ev_c (rv_I ⟨by decide, by decide, by decide⟩)) rv_I0)
  · rw [c3 i x hx]
    exact ev_op (ev_var rfl) (ev_op ev_c ev_c (rv_I ⟨by decide, by decide, by decide⟩)) rv_I0
  rw [given_ints] at h2
  generalize hxs : ((List.range (cs.map V.int).length).filter fun i => decide ((10 : Int) ^ (18 : Int).toNat ≤ cs.getD i 0)).map (fun i => cs.getD i 0 - (10 : Int) ^ (18 : Int).toNat) = xs at h2
  show tRet (tDisp _) _ [some (.ref a), some (.ref cl), some (.ref lg), none] H2
  refine fun st hst => ⟨.ref lg, rfl, .ref cl, rfl, upd_same, dk lg cl 0 0, rfl, by show 4 ≤ 15; decide, ?_⟩
  rw [merge_dk]
  have e2' := Ex.new (o := .dK []) hst
  have ncl : cl ≠ lg := fun z => by rw [z] at h1; rw [hlg] at h1; cases h1
  have nst1 : lg ≠ st := fun z => by rw [← z] at hst; rw [hst] at h2; cases h2
  have nst2 : cl ≠ st := fun z => by
    have := e2 _ _ h1
    rw [z, hst] at this
    cases this
  refine k st lg cl _ (fresh_back (e1.trans e2) hst) (fresh_back e1 hlg) (Ex.mut ((e1.trans e2).trans e2') (fresh_back (e1.trans e2) hst)) ⟨0, 0, xs, cs, upd_same, ?_, ?_, ncl, by decide, by decide⟩
  · rw [upd_ne nst1, upd_ne nst1]
    exact h2
  · rw [upd_ne nst2, upd_ne nst2]
    exact e2 _ _ h1

end
end K20
set_option Elab.async false
set_option linter.all false
set_option maxRecDepth 100000
set_option maxHeartbeats 4000000
namespace K20
open PySem PySem.Spec PyProof.Rows L2 Evl DL
theorem getD_zw {i : Nat} : ∀ {a b : List Int}, a.length = b.length → (zw (· + ·) a b).getD i 0 = a.getD i 0 + b.getD i 0
  | [], [], _ => by simp [zw]
  | x :: a, y :: b, h => by
    cases i with
    | zero => rfl
    | succ i =>
      have := getD_zw (i := i) (a := a) (b := b) (by simpa using h)
      simpa [zw] using this
theorem fold_get : ∀ (vs : List (List Int)) (acc : List Int), (∀ v ∈ vs, v.length = acc.length) → (vs.foldl (zw (· + ·)) acc).length = acc.length ∧ ∀ i, (vs.foldl (zw (· + ·)) acc).getD i 0 = acc.getD i 0 + (vs.map (·.getD i 0)).sum
  | [], acc, _ => ⟨rfl, fun i => by simp⟩
  | v :: vs, acc, h => by
    have hv := h v List.mem_cons_self
    have l1 : (zw (· + ·) acc v).length = acc.length := zw_len hv.symm
    obtain ⟨a, b⟩ := fold_get vs (zw (· + ·) acc v) (fun u hu => by rw [l1]; exact h u (List.mem_cons_of_mem _ hu))
    refine ⟨by rw [List.foldl_cons, a, l1], fun i => ?_⟩
    rw [List.foldl_cons, b i, getD_zw hv.symm, List.map_cons, List.sum_cons]
    omega
theorem sum_app (a b : List Int) : (a ++ b).sum = a.sum + b.sum := List.sum_append
theorem sum_if {x : Int} (hx : 0 ≤ x) : ∀ n : Nat, ((List.range n).map fun (k : Nat) => if (k : Int) < x then (1 : Int) else 0).sum = min (n : Int) x
  | 0 => by simp; omega
  | n + 1 => by
    rw [List.range_succ, List.map_append, sum_app, sum_if hx n, List.map_singleton, List.sum_singleton]
    split <;> omega
theorem sum_0 : ∀ n : Nat, ((List.range n).map fun (_ : Nat) => (0 : Int)).sum = 0
  | 0 => rfl
  | n + 1 => by
    rw [List.range_succ, List.map_append, sum_app, sum_0 n]
    rfl
theorem mx2 (a b : Int) : mxl [a, b] = max a b := rfl
theorem mx1 (a : Int) : mxl [a] = a := rfl
abbrev ind (k x : Int) : Int := if k < x then 1 else 0
theorem trk2_0 (x k : Int) : trk 2 [(0, 1)] [x] k = [ind k x] := by
  show tst 2 k (zer 2) (((0, 1) : Int × Int), x) = _
  unfold tst ind
  by_cases h1 : k < x <;> simp only [h1, if_true, if_false] <;> rfl
theorem tks2_0 (a : Int) : tks 2 [a] [(0, 1)] = (List.range (a).toNat).map fun (k : Nat) => [ind (k : Int) a] := by
  have eqn : lfs 2 [a] [(0, 1)] = [a] := rfl
  rw [tks, eqn, mx1]
  exact List.map_congr_left fun k _ => trk2_0 a (k : Int)
theorem needl2 (a : Int) : need 2 [a] = mxl [0 + a, 0 + a] := rfl
theorem need2 (a : Int) : (0 + a ≤ need 2 [a] ∧ 0 + a ≤ need 2 [a]) ∧ (need 2 [a] = 0 + a ∨ need 2 [a] = 0 + a) := by
  rw [needl2]
  refine ⟨⟨mxl_ge (by simp), mxl_ge (by simp)⟩, ?_⟩
  have h := mxl_mem (l := [0 + a, 0 + a]) (by simp)
  simp only [List.mem_cons, List.not_mem_nil, or_false] at h
  exact h
theorem smsm2 (a : Int) : (0 + a ≤ mxl (sms 2 [a]) ∧ 0 + a ≤ mxl (sms 2 [a])) ∧ (mxl (sms 2 [a]) = 0 + a ∨ mxl (sms 2 [a]) = 0 + a) := by
  have eqn : sms 2 [a] = [0 + a, 0 + a] := rfl
  rw [eqn]
  refine ⟨⟨mxl_ge (by simp), mxl_ge (by simp)⟩, ?_⟩
  have h := mxl_mem (l := [0 + a, 0 + a]) (by simp)
  simp only [List.mem_cons, List.not_mem_nil, or_false] at h
  exact h
theorem fa2 (a : Int) (hn : 0 ≤ a) : mxl (sms 2 [a]) ≤ need 2 [a] ∧ 0 ≤ mxl (sms 2 [a]) ∧ 2 * need 2 [a] ≤ 3 * mxl (sms 2 [a]) := by
  have h1 := need2 a
  have h2 := smsm2 a
  generalize need 2 [a] = A at *
  generalize mxl (sms 2 [a]) = B at *
  refine ⟨?_, ?_, ?_⟩
  · obtain ⟨h1, _⟩ := h1
    obtain ⟨_, h2⟩ := h2
    rcases h2 with h2 | h2 <;> omega
  · omega
  · obtain ⟨_, h1⟩ := h1
    obtain ⟨h2, _⟩ := h2
    rcases h1 with h1 | h1 <;> omega
theorem fb2 (a : Int) (hn : a ≤ 33) : need 2 [a] ≤ 99 := by
  have h1 := (need2 a).2
  rcases h1 with h1 | h1 <;> omega
theorem nl2 (a : Int) (hn : 0 ≤ a) : need 2 [a] = a := by
  have h1 := need2 a
  generalize need 2 [a] = A at *
  obtain ⟨h1, h2⟩ := h1
  rcases h2 with h2 | h2 <;> omega
theorem ns2 (a a' : Int) (hn : 0 ≤ a') : need 2 [a + a'] ≤ need 2 [a] + need 2 [a'] ∧ need 2 [a] ≤ need 2 [a + a'] := by
  have h1 := need2 a
  have h2 := need2 a'
  have h3 := need2 (a + a')
  generalize need 2 [a] = A at *
  generalize need 2 [a'] = B at *
  generalize need 2 [a + a'] = C at *
  refine ⟨?_, ?_⟩
  · obtain ⟨h1, _⟩ := h1
    obtain ⟨h2, _⟩ := h2
    obtain ⟨_, h3⟩ := h3
    rcases h3 with h3 | h3 <;> omega
  · obtain ⟨_, h1⟩ := h1
    obtain ⟨h3, _⟩ := h3
    rcases h1 with h1 | h1 <;> omega
theorem psl2 (a : Int) : psl 2 [a] = (List.range (a).toNat).map (fun (k : Nat) => [ind (k : Int) a]) := by
  show tks 2 [a] [(0, 1)] ++ [] = _
  rw [tks2_0]
  simp only [List.append_nil, List.append_assoc]
theorem fc2 (a : Int) (hn : 0 ≤ a) : Adds 2 [a] (List.replicate (need 2 [a]).toNat 1) (psl 2 [a]) := by
  have mem : ∀ p ∈ psl 2 [a], Ld 2 p ∧ mxl (sms 2 p) ≤ 1 := by
    intro p hp
    rw [psl2] at hp
    simp only [List.mem_append, List.mem_map] at hp
    have two : ∀ k x : Int, ind k x = 0 ∨ ind k x = 1 := fun k x => by unfold ind; split <;> simp
    have ldd : ∀ l : List Int, (decide (l.length = np 2) && l.all (fun x => decide (0 ≤ x) && decide (x ≤ 99)) && decide (mxl (sms 2 l) ≤ 1)) = true → Ld 2 l ∧ mxl (sms 2 l) ≤ 1 := fun l h => by
      simp only [Bool.and_eq_true, decide_eq_true_eq, List.all_eq_true] at h
      exact ⟨⟨h.1.1, h.1.2⟩, h.2⟩
    obtain ⟨k, _, rfl⟩ := hp
    rcases two k a with h | h <;> (rw [h]; exact ldd _ (by decide))
  have len : (psl 2 [a]).length = (need 2 [a]).toNat := by
    rw [psl2, nl2 a hn]
    simp only [List.length_append, List.length_map, List.length_range] <;> omega
  refine ⟨by rw [len, List.length_replicate], fun p hp => (mem p hp).1, fun i p r h1 h2 => ?_, ?_⟩
  · have : r = 1 := by
      rw [List.getElem?_replicate] at h2
      split at h2
      · exact (Option.some.inj h2).symm
      · cases h2
    rw [this]
    exact (mem p (List.mem_of_getElem? h1)).2
  · obtain ⟨f1, f2⟩ := fold_get (psl 2 [a]) (zer 2) (fun v hv => by rw [(mem v hv).1.1]; rfl)
    have f1 : (List.foldl (zw (· + ·)) (zer 2) (psl 2 [a])).length = 1 := f1
    have c0 := f2 0
    have z : ∀ i, (zer 2).getD i 0 = 0 := fun i => by
      rw [zer, List.getD_eq_getElem?_getD, List.getElem?_replicate]
      split <;> rfl
    have key : ∀ i x, x = 0 + ((psl 2 [a]).map (·.getD i 0)).sum → (List.foldl (zw (· + ·)) (zer 2) (psl 2 [a])).getD i 0 = x := fun i x h => by rw [f2 i, z i, h]
    have d0 := key 0 a (by
      rw [psl2]
      simp only [List.map_append, sum_app, List.map_map, Function.comp_def, List.getD_cons_zero, List.getD_cons_succ, ind]
      simp only [sum_if (show 0 ≤ a by omega), sum_0]
      omega)
    generalize List.foldl (zw (· + ·)) (zer 2) (psl 2 [a]) = R at *
    match R, f1 with
    | [r0], _ =>
      have e0 : r0 = a := d0
      rw [e0]
theorem sa2 (a a' : Int) : mxl (sms 2 [a + a']) ≤ mxl (sms 2 [a]) + mxl (sms 2 [a']) := by
  have h1 := (smsm2 a).1
  have h2 := (smsm2 a').1
  have h3 := (smsm2 (a + a')).2
  rcases h3 with h3 | h3 <;> omega
theorem trk3_0 (x k : Int) : trk 3 [(0, 1)] [x] k = [ind k x, 0, 0] := by
  show tst 3 k (zer 3) (((0, 1) : Int × Int), x) = _
  unfold tst ind
  by_cases h1 : k < x <;> simp only [h1, if_true, if_false] <;> rfl
theorem tks3_0 (a b c : Int) : tks 3 [a, b, c] [(0, 1)] = (List.range (a).toNat).map fun (k : Nat) => [ind (k : Int) a, 0, 0] := by
  have eqn : lfs 3 [a, b, c] [(0, 1)] = [a] := rfl
  rw [tks, eqn, mx1]
  exact List.map_congr_left fun k _ => trk3_0 a (k : Int)
theorem trk3_1 (x k : Int) : trk 3 [(0, 2)] [x] k = [0, ind k x, 0] := by
  show tst 3 k (zer 3) (((0, 2) : Int × Int), x) = _
  unfold tst ind
  by_cases h1 : k < x <;> simp only [h1, if_true, if_false] <;> rfl
theorem tks3_1 (a b c : Int) : tks 3 [a, b, c] [(0, 2)] = (List.range (b).toNat).map fun (k : Nat) => [0, ind (k : Int) b, 0] := by
  have eqn : lfs 3 [a, b, c] [(0, 2)] = [b] := rfl
  rw [tks, eqn, mx1]
  exact List.map_congr_left fun k _ => trk3_1 b (k : Int)
theorem trk3_2 (x k : Int) : trk 3 [(1, 2)] [x] k = [0, 0, ind k x] := by
  show tst 3 k (zer 3) (((1, 2) : Int × Int), x) = _
  unfold tst ind
  by_cases h1 : k < x <;> simp only [h1, if_true, if_false] <;> rfl
theorem tks3_2 (a b c : Int) : tks 3 [a, b, c] [(1, 2)] = (List.range (c).toNat).map fun (k : Nat) => [0, 0, ind (k : Int) c] := by
  have eqn : lfs 3 [a, b, c] [(1, 2)] = [c] := rfl
  rw [tks, eqn, mx1]
  exact List.map_congr_left fun k _ => trk3_2 c (k : Int)
theorem needl3 (a b c : Int) : need 3 [a, b, c] = mxl [0 + a + b, 0 + a + c, 0 + b + c, a + b + c] := rfl
theorem need3 (a b c : Int) : (0 + a + b ≤ need 3 [a, b, c] ∧ 0 + a + c ≤ need 3 [a, b, c] ∧ 0 + b + c ≤ need 3 [a, b, c] ∧ a + b + c ≤ need 3 [a, b, c]) ∧ (need 3 [a, b, c] = 0 + a + b ∨ need 3 [a, b, c] = 0 + a + c ∨ need 3 [a, b, c] = 0 + b + c ∨ need 3 [a, b, c] = a + b + c) := by
  rw [needl3]
  refine ⟨⟨mxl_ge (by simp), mxl_ge (by simp), mxl_ge (by simp), mxl_ge (by simp)⟩, ?_⟩
  have h := mxl_mem (l := [0 + a + b, 0 + a + c, 0 + b + c, a + b + c]) (by simp)
  simp only [List.mem_cons, List.not_mem_nil, or_false] at h
  exact h
theorem smsm3 (a b c : Int) : (0 + a + b ≤ mxl (sms 3 [a, b, c]) ∧ 0 + a + c ≤ mxl (sms 3 [a, b, c]) ∧ 0 + b + c ≤ mxl (sms 3 [a, b, c])) ∧ (mxl (sms 3 [a, b, c]) = 0 + a + b ∨ mxl (sms 3 [a, b, c]) = 0 + a + c ∨ mxl (sms 3 [a, b, c]) = 0 + b + c) := by
  have eqn : sms 3 [a, b, c] = [0 + a + b, 0 + a + c, 0 + b + c] := rfl
  rw [eqn]
  refine ⟨⟨mxl_ge (by simp), mxl_ge (by simp), mxl_ge (by simp)⟩, ?_⟩
  have h := mxl_mem (l := [0 + a + b, 0 + a + c, 0 + b + c]) (by simp)
  simp only [List.mem_cons, List.not_mem_nil, or_false] at h
  exact h
theorem fa3 (a b c : Int) (hn : 0 ≤ a ∧ 0 ≤ b ∧ 0 ≤ c) : mxl (sms 3 [a, b, c]) ≤ need 3 [a, b, c] ∧ 0 ≤ mxl (sms 3 [a, b, c]) ∧ 2 * need 3 [a, b, c] ≤ 3 * mxl (sms 3 [a, b, c]) := by
  have h1 := need3 a b c
  have h2 := smsm3 a b c
  generalize need 3 [a, b, c] = A at *
  generalize mxl (sms 3 [a, b, c]) = B at *
  refine ⟨?_, ?_, ?_⟩
  · obtain ⟨h1, _⟩ := h1
    obtain ⟨_, h2⟩ := h2
    rcases h2 with h2 | h2 | h2 <;> omega
  · omega
  · obtain ⟨_, h1⟩ := h1
    obtain ⟨h2, _⟩ := h2
    rcases h1 with h1 | h1 | h1 | h1 <;> omega
theorem fb3 (a b c : Int) (hn : a ≤ 33 ∧ b ≤ 33 ∧ c ≤ 33) : need 3 [a, b, c] ≤ 99 := by
  have h1 := (need3 a b c).2
  rcases h1 with h1 | h1 | h1 | h1 <;> omega
theorem nl3 (a b c : Int) (hn : 0 ≤ a ∧ 0 ≤ b ∧ 0 ≤ c) : need 3 [a, b, c] = a + b + c := by
  have h1 := need3 a b c
  generalize need 3 [a, b, c] = A at *
  obtain ⟨h1, h2⟩ := h1
  rcases h2 with h2 | h2 | h2 | h2 <;> omega
theorem ns3 (a b c a' b' c' : Int) (hn : 0 ≤ a' ∧ 0 ≤ b' ∧ 0 ≤ c') : need 3 [a + a', b + b', c + c'] ≤ need 3 [a, b, c] + need 3 [a', b', c'] ∧ need 3 [a, b, c] ≤ need 3 [a + a', b + b', c + c'] := by
  have h1 := need3 a b c
  have h2 := need3 a' b' c'
  have h3 := need3 (a + a') (b + b') (c + c')
  generalize need 3 [a, b, c] = A at *
  generalize need 3 [a', b', c'] = B at *
  generalize need 3 [a + a', b + b', c + c'] = C at *
  refine ⟨?_, ?_⟩
  · obtain ⟨h1, _⟩ := h1
    obtain ⟨h2, _⟩ := h2
    obtain ⟨_, h3⟩ := h3
    rcases h3 with h3 | h3 | h3 | h3 <;> omega
  · obtain ⟨_, h1⟩ := h1
    obtain ⟨h3, _⟩ := h3
    rcases h1 with h1 | h1 | h1 | h1 <;> omega
theorem psl3 (a b c : Int) : psl 3 [a, b, c] = (List.range (a).toNat).map (fun (k : Nat) => [ind (k : Int) a, 0, 0]) ++ (List.range (b).toNat).map (fun (k : Nat) => [0, ind (k : Int) b, 0]) ++ (List.range (c).toNat).map (fun (k : Nat) => [0, 0, ind (k : Int) c]) := by
  show tks 3 [a, b, c] [(0, 1)] ++ (tks 3 [a, b, c] [(0, 2)] ++ (tks 3 [a, b, c] [(1, 2)] ++ [])) = _
  rw [tks3_0, tks3_1, tks3_2]
  simp only [List.append_nil, List.append_assoc]
theorem fc3 (a b c : Int) (hn : 0 ≤ a ∧ 0 ≤ b ∧ 0 ≤ c) : Adds 3 [a, b, c] (List.replicate (need 3 [a, b, c]).toNat 1) (psl 3 [a, b, c]) := by
  have mem : ∀ p ∈ psl 3 [a, b, c], Ld 3 p ∧ mxl (sms 3 p) ≤ 1 := by
    intro p hp
    rw [psl3] at hp
    simp only [List.mem_append, List.mem_map] at hp
    have two : ∀ k x : Int, ind k x = 0 ∨ ind k x = 1 := fun k x => by unfold ind; split <;> simp
    have ldd : ∀ l : List Int, (decide (l.length = np 3) && l.all (fun x => decide (0 ≤ x) && decide (x ≤ 99)) && decide (mxl (sms 3 l) ≤ 1)) = true → Ld 3 l ∧ mxl (sms 3 l) ≤ 1 := fun l h => by
      simp only [Bool.and_eq_true, decide_eq_true_eq, List.all_eq_true] at h
      exact ⟨⟨h.1.1, h.1.2⟩, h.2⟩
    rcases hp with (⟨k, _, rfl⟩ | ⟨k, _, rfl⟩) | ⟨k, _, rfl⟩
    · rcases two k a with h | h <;> (rw [h]; exact ldd _ (by decide))
    · rcases two k b with h | h <;> (rw [h]; exact ldd _ (by decide))
    · rcases two k c with h | h <;> (rw [h]; exact ldd _ (by decide))
  have len : (psl 3 [a, b, c]).length = (need 3 [a, b, c]).toNat := by
    rw [psl3, nl3 a b c hn]
    simp only [List.length_append, List.length_map, List.length_range] <;> omega
  refine ⟨by rw [len, List.length_replicate], fun p hp => (mem p hp).1, fun i p r h1 h2 => ?_, ?_⟩
  · have : r = 1 := by
      rw [List.getElem?_replicate] at h2
      split at h2
      · exact (Option.some.inj h2).symm
      · cases h2
    rw [this]
    exact (mem p (List.mem_of_getElem? h1)).2
  · obtain ⟨f1, f2⟩ := fold_get (psl 3 [a, b, c]) (zer 3) (fun v hv => by rw [(mem v hv).1.1]; rfl)
    have f1 : (List.foldl (zw (· + ·)) (zer 3) (psl 3 [a, b, c])).length = 3 := f1
    have c0 := f2 0
    have c1 := f2 1
    have c2 := f2 2
    have z : ∀ i, (zer 3).getD i 0 = 0 := fun i => by
      rw [zer, List.getD_eq_getElem?_getD, List.getElem?_replicate]
      split <;> rfl
    have key : ∀ i x, x = 0 + ((psl 3 [a, b, c]).map (·.getD i 0)).sum → (List.foldl (zw (· + ·)) (zer 3) (psl 3 [a, b, c])).getD i 0 = x := fun i x h => by rw [f2 i, z i, h]
    have d0 := key 0 a (by
      rw [psl3]
      simp only [List.map_append, sum_app, List.map_map, Function.comp_def, List.getD_cons_zero, List.getD_cons_succ, ind]
      simp only [sum_if (show 0 ≤ a by omega), sum_0]
      omega)
    have d1 := key 1 b (by
      rw [psl3]
      simp only [List.map_append, sum_app, List.map_map, Function.comp_def, List.getD_cons_zero, List.getD_cons_succ, ind]
      simp only [sum_if (show 0 ≤ b by omega), sum_0]
      omega)
    have d2 := key 2 c (by
      rw [psl3]
      simp only [List.map_append, sum_app, List.map_map, Function.comp_def, List.getD_cons_zero, List.getD_cons_succ, ind]
      simp only [sum_if (show 0 ≤ c by omega), sum_0]
      omega)
    generalize List.foldl (zw (· + ·)) (zer 3) (psl 3 [a, b, c]) = R at *
    match R, f1 with
    | [r0, r1, r2], _ =>
      have e0 : r0 = a := d0
      have e1 : r1 = b := d1
      have e2 : r2 = c := d2
      rw [e0, e1, e2]
theorem sa3 (a b c a' b' c' : Int) : mxl (sms 3 [a + a', b + b', c + c']) ≤ mxl (sms 3 [a, b, c]) + mxl (sms 3 [a', b', c']) := by
  have h1 := (smsm3 a b c).1
  have h2 := (smsm3 a' b' c').1
  have h3 := (smsm3 (a + a') (b + b') (c + c')).2
  rcases h3 with h3 | h3 | h3 <;> omega
theorem trk4_0 (x y k : Int) : trk 4 [(0, 1), (2, 3)] [x, y] k = [ind k x, 0, 0, 0, 0, ind k y] := by
  show tst 4 k (tst 4 k (zer 4) (((0, 1) : Int × Int), x)) (((2, 3) : Int × Int), y) = _
  unfold tst ind
  by_cases h1 : k < x <;> by_cases h2 : k < y <;> simp only [h1, h2, if_true, if_false] <;> rfl
theorem tks4_0 (a b c d e f : Int) : tks 4 [a, b, c, d, e, f] [(0, 1), (2, 3)] = (List.range (max a f).toNat).map fun (k : Nat) => [ind (k : Int) a, 0, 0, 0, 0, ind (k : Int) f] := by
  have eqn : lfs 4 [a, b, c, d, e, f] [(0, 1), (2, 3)] = [a, f] := rfl
  rw [tks, eqn, mx2]
  exact List.map_congr_left fun k _ => trk4_0 a f (k : Int)
theorem trk4_1 (x y k : Int) : trk 4 [(0, 2), (1, 3)] [x, y] k = [0, ind k x, 0, 0, ind k y, 0] := by
  show tst 4 k (tst 4 k (zer 4) (((0, 2) : Int × Int), x)) (((1, 3) : Int × Int), y) = _
  unfold tst ind
  by_cases h1 : k < x <;> by_cases h2 : k < y <;> simp only [h1, h2, if_true, if_false] <;> rfl
theorem tks4_1 (a b c d e f : Int) : tks 4 [a, b, c, d, e, f] [(0, 2), (1, 3)] = (List.range (max b e).toNat).map fun (k : Nat) => [0, ind (k : Int) b, 0, 0, ind (k : Int) e, 0] := by
  have eqn : lfs 4 [a, b, c, d, e, f] [(0, 2), (1, 3)] = [b, e] := rfl
  rw [tks, eqn, mx2]
  exact List.map_congr_left fun k _ => trk4_1 b e (k : Int)
theorem trk4_2 (x y k : Int) : trk 4 [(0, 3), (1, 2)] [x, y] k = [0, 0, ind k x, ind k y, 0, 0] := by
  show tst 4 k (tst 4 k (zer 4) (((0, 3) : Int × Int), x)) (((1, 2) : Int × Int), y) = _
  unfold tst ind
  by_cases h1 : k < x <;> by_cases h2 : k < y <;> simp only [h1, h2, if_true, if_false] <;> rfl
theorem tks4_2 (a b c d e f : Int) : tks 4 [a, b, c, d, e, f] [(0, 3), (1, 2)] = (List.range (max c d).toNat).map fun (k : Nat) => [0, 0, ind (k : Int) c, ind (k : Int) d, 0, 0] := by
  have eqn : lfs 4 [a, b, c, d, e, f] [(0, 3), (1, 2)] = [c, d] := rfl
  rw [tks, eqn, mx2]
  exact List.map_congr_left fun k _ => trk4_2 c d (k : Int)
theorem needl4 (a b c d e f : Int) : need 4 [a, b, c, d, e, f] = mxl [0 + a + b + c, 0 + a + d + e, 0 + b + d + f, 0 + c + e + f, a + b + d, a + c + e, b + c + f, d + e + f] := rfl
theorem need4 (a b c d e f : Int) : (0 + a + b + c ≤ need 4 [a, b, c, d, e, f] ∧ 0 + a + d + e ≤ need 4 [a, b, c, d, e, f] ∧ 0 + b + d + f ≤ need 4 [a, b, c, d, e, f] ∧ 0 + c + e + f ≤ need 4 [a, b, c, d, e, f] ∧ a + b + d ≤ need 4 [a, b, c, d, e, f] ∧ a + c + e ≤ need 4 [a, b, c, d, e, f] ∧ b + c + f ≤ need 4 [a, b, c, d, e, f] ∧ d + e + f ≤ need 4 [a, b, c, d, e, f]) ∧ (need 4 [a, b, c, d, e, f] = 0 + a + b + c ∨ need 4 [a, b, c, d, e, f] = 0 + a + d + e ∨ need 4 [a, b, c, d, e, f] = 0 + b + d + f ∨ need 4 [a, b, c, d, e, f] = 0 + c + e + f ∨ need 4 [a, b, c, d, e, f] = a + b + d ∨ need 4 [a, b, c, d, e, f] = a + c + e ∨ need 4 [a, b, c, d, e, f] = b + c + f ∨ need 4 [a, b, c, d, e, f] = d + e + f) := by
  rw [needl4]
  refine ⟨⟨mxl_ge (by simp), mxl_ge (by simp), mxl_ge (by simp), mxl_ge (by simp), mxl_ge (by simp), mxl_ge (by simp), mxl_ge (by simp), mxl_ge (by simp)⟩, ?_⟩
  have h := mxl_mem (l := [0 + a + b + c, 0 + a + d + e, 0 + b + d + f, 0 + c + e + f, a + b + d, a + c + e, b + c + f, d + e + f]) (by simp)
  simp only [List.mem_cons, List.not_mem_nil, or_false] at h
  exact h
theorem smsm4 (a b c d e f : Int) : (0 + a + b + c ≤ mxl (sms 4 [a, b, c, d, e, f]) ∧ 0 + a + d + e ≤ mxl (sms 4 [a, b, c, d, e, f]) ∧ 0 + b + d + f ≤ mxl (sms 4 [a, b, c, d, e, f]) ∧ 0 + c + e + f ≤ mxl (sms 4 [a, b, c, d, e, f])) ∧ (mxl (sms 4 [a, b, c, d, e, f]) = 0 + a + b + c ∨ mxl (sms 4 [a, b, c, d, e, f]) = 0 + a + d + e ∨ mxl (sms 4 [a, b, c, d, e, f]) = 0 + b + d + f ∨ mxl (sms 4 [a, b, c, d, e, f]) = 0 + c + e + f) := by
  have eqn : sms 4 [a, b, c, d, e, f] = [0 + a + b + c, 0 + a + d + e, 0 + b + d + f, 0 + c + e + f] := rfl
  rw [eqn]
  refine ⟨⟨mxl_ge (by simp), mxl_ge (by simp), mxl_ge (by simp), mxl_ge (by simp)⟩, ?_⟩
  have h := mxl_mem (l := [0 + a + b + c, 0 + a + d + e, 0 + b + d + f, 0 + c + e + f]) (by simp)
  simp only [List.mem_cons, List.not_mem_nil, or_false] at h
  exact h
theorem fa4 (a b c d e f : Int) (hn : 0 ≤ a ∧ 0 ≤ b ∧ 0 ≤ c ∧ 0 ≤ d ∧ 0 ≤ e ∧ 0 ≤ f) : mxl (sms 4 [a, b, c, d, e, f]) ≤ need 4 [a, b, c, d, e, f] ∧ 0 ≤ mxl (sms 4 [a, b, c, d, e, f]) ∧ 2 * need 4 [a, b, c, d, e, f] ≤ 3 * mxl (sms 4 [a, b, c, d, e, f]) := by
  have h1 := need4 a b c d e f
  have h2 := smsm4 a b c d e f
  generalize need 4 [a, b, c, d, e, f] = A at *
  generalize mxl (sms 4 [a, b, c, d, e, f]) = B at *
  refine ⟨?_, ?_, ?_⟩
  · obtain ⟨h1, _⟩ := h1
    obtain ⟨_, h2⟩ := h2
    rcases h2 with h2 | h2 | h2 | h2 <;> omega
  · omega
  · obtain ⟨_, h1⟩ := h1
    obtain ⟨h2, _⟩ := h2
    rcases h1 with h1 | h1 | h1 | h1 | h1 | h1 | h1 | h1 <;> omega
theorem fb4 (a b c d e f : Int) (hn : a ≤ 33 ∧ b ≤ 33 ∧ c ≤ 33 ∧ d ≤ 33 ∧ e ≤ 33 ∧ f ≤ 33) : need 4 [a, b, c, d, e, f] ≤ 99 := by
  have h1 := (need4 a b c d e f).2
  rcases h1 with h1 | h1 | h1 | h1 | h1 | h1 | h1 | h1 <;> omega
theorem nl4 (a b c d e f : Int) (hn : 0 ≤ a ∧ 0 ≤ b ∧ 0 ≤ c ∧ 0 ≤ d ∧ 0 ≤ e ∧ 0 ≤ f) : need 4 [a, b, c, d, e, f] = max a f + max b e + max c d := by
  have h1 := need4 a b c d e f
  generalize need 4 [a, b, c, d, e, f] = A at *
  obtain ⟨h1, h2⟩ := h1
  rcases h2 with h2 | h2 | h2 | h2 | h2 | h2 | h2 | h2 <;> omega
theorem ns4 (a b c d e f a' b' c' d' e' f' : Int) (hn : 0 ≤ a' ∧ 0 ≤ b' ∧ 0 ≤ c' ∧ 0 ≤ d' ∧ 0 ≤ e' ∧ 0 ≤ f') : need 4 [a + a', b + b', c + c', d + d', e + e', f + f'] ≤ need 4 [a, b, c, d, e, f] + need 4 [a', b', c', d', e', f'] ∧ need 4 [a, b, c, d, e, f] ≤ need 4 [a + a', b + b', c + c', d + d', e + e', f + f'] := by
  have h1 := need4 a b c d e f
  have h2 := need4 a' b' c' d' e' f'
  have h3 := need4 (a + a') (b + b') (c + c') (d + d') (e + e') (f + f')
  generalize need 4 [a, b, c, d, e, f] = A at *
  generalize need 4 [a', b', c', d', e', f'] = B at *
  generalize need 4 [a + a', b + b', c + c', d + d', e + e', f + f'] = C at *
  refine ⟨?_, ?_⟩
  · obtain ⟨h1, _⟩ := h1
    obtain ⟨h2, _⟩ := h2
    obtain ⟨_, h3⟩ := h3
    rcases h3 with h3 | h3 | h3 | h3 | h3 | h3 | h3 | h3 <;> omega
  · obtain ⟨_, h1⟩ := h1
    obtain ⟨h3, _⟩ := h3
    rcases h1 with h1 | h1 | h1 | h1 | h1 | h1 | h1 | h1 <;> omega
theorem psl4 (a b c d e f : Int) : psl 4 [a, b, c, d, e, f] = (List.range (max a f).toNat).map (fun (k : Nat) => [ind (k : Int) a, 0, 0, 0, 0, ind (k : Int) f]) ++ (List.range (max b e).toNat).map (fun (k : Nat) => [0, ind (k : Int) b, 0, 0, ind (k : Int) e, 0]) ++ (List.range (max c d).toNat).map (fun (k : Nat) => [0, 0, ind (k : Int) c, ind (k : Int) d, 0, 0]) := by
  show tks 4 [a, b, c, d, e, f] [(0, 1), (2, 3)] ++ (tks 4 [a, b, c, d, e, f] [(0, 2), (1, 3)] ++ (tks 4 [a, b, c, d, e, f] [(0, 3), (1, 2)] ++ [])) = _
  rw [tks4_0, tks4_1, tks4_2]
  simp only [List.append_nil, List.append_assoc]
theorem fc4 (a b c d e f : Int) (hn : 0 ≤ a ∧ 0 ≤ b ∧ 0 ≤ c ∧ 0 ≤ d ∧ 0 ≤ e ∧ 0 ≤ f) : Adds 4 [a, b, c, d, e, f] (List.replicate (need 4 [a, b, c, d, e, f]).toNat 1) (psl 4 [a, b, c, d, e, f]) := by
  have mem : ∀ p ∈ psl 4 [a, b, c, d, e, f], Ld 4 p ∧ mxl (sms 4 p) ≤ 1 := by
    intro p hp
    rw [psl4] at hp
    simp only [List.mem_append, List.mem_map] at hp
    have two : ∀ k x : Int, ind k x = 0 ∨ ind k x = 1 := fun k x => by unfold ind; split <;> simp
    have ldd : ∀ l : List Int, (decide (l.length = np 4) && l.all (fun x => decide (0 ≤ x) && decide (x ≤ 99)) && decide (mxl (sms 4 l) ≤ 1)) = true → Ld 4 l ∧ mxl (sms 4 l) ≤ 1 := fun l h => by
      simp only [Bool.and_eq_true, decide_eq_true_eq, List.all_eq_true] at h
      exact ⟨⟨h.1.1, h.1.2⟩, h.2⟩
    rcases hp with (⟨k, _, rfl⟩ | ⟨k, _, rfl⟩) | ⟨k, _, rfl⟩
    · rcases two k a with h | h <;> rcases two k f with h2 | h2 <;> (rw [h, h2]; exact ldd _ (by decide))
    · rcases two k b with h | h <;> rcases two k e with h2 | h2 <;> (rw [h, h2]; exact ldd _ (by decide))
    · rcases two k c with h | h <;> rcases two k d with h2 | h2 <;> (rw [h, h2]; exact ldd _ (by decide))
  have len : (psl 4 [a, b, c, d, e, f]).length = (need 4 [a, b, c, d, e, f]).toNat := by
    rw [psl4, nl4 a b c d e f hn]
    simp only [List.length_append, List.length_map, List.length_range] <;> omega
  refine ⟨by rw [len, List.length_replicate], fun p hp => (mem p hp).1, fun i p r h1 h2 => ?_, ?_⟩
  · have : r = 1 := by
      rw [List.getElem?_replicate] at h2
      split at h2
      · exact (Option.some.inj h2).symm
      · cases h2
    rw [this]
    exact (mem p (List.mem_of_getElem? h1)).2
  · obtain ⟨f1, f2⟩ := fold_get (psl 4 [a, b, c, d, e, f]) (zer 4) (fun v hv => by rw [(mem v hv).1.1]; rfl)
    have f1 : (List.foldl (zw (· + ·)) (zer 4) (psl 4 [a, b, c, d, e, f])).length = 6 := f1
    have c0 := f2 0
    have c1 := f2 1
    have c2 := f2 2
    have c3 := f2 3
    have c4 := f2 4
    have c5 := f2 5
    have z : ∀ i, (zer 4).getD i 0 = 0 := fun i => by
      rw [zer, List.getD_eq_getElem?_getD, List.getElem?_replicate]
      split <;> rfl
    have key : ∀ i x, x = 0 + ((psl 4 [a, b, c, d, e, f]).map (·.getD i 0)).sum → (List.foldl (zw (· + ·)) (zer 4) (psl 4 [a, b, c, d, e, f])).getD i 0 = x := fun i x h => by rw [f2 i, z i, h]
    have d0 := key 0 a (by
      rw [psl4]
      simp only [List.map_append, sum_app, List.map_map, Function.comp_def, List.getD_cons_zero, List.getD_cons_succ, ind]
      simp only [sum_if (show 0 ≤ a by omega), sum_0]
      omega)
    have d1 := key 1 b (by
      rw [psl4]
      simp only [List.map_append, sum_app, List.map_map, Function.comp_def, List.getD_cons_zero, List.getD_cons_succ, ind]
      simp only [sum_if (show 0 ≤ b by omega), sum_0]
      omega)
    have d2 := key 2 c (by
      rw [psl4]
      simp only [List.map_append, sum_app, List.map_map, Function.comp_def, List.getD_cons_zero, List.getD_cons_succ, ind]
      simp only [sum_if (show 0 ≤ c by omega), sum_0]
      omega)
    have d3 := key 3 d (by
      rw [psl4]
      simp only [List.map_append, sum_app, List.map_map, Function.comp_def, List.getD_cons_zero, List.getD_cons_succ, ind]
      simp only [sum_if (show 0 ≤ d by omega), sum_0]
      omega)
    have d4 := key 4 e (by
      rw [psl4]
      simp only [List.map_append, sum_app, List.map_map, Function.comp_def, List.getD_cons_zero, List.getD_cons_succ, ind]
      simp only [sum_if (show 0 ≤ e by omega), sum_0]
      omega)
    have d5 := key 5 f (by
      rw [psl4]
      simp only [List.map_append, sum_app, List.map_map, Function.comp_def, List.getD_cons_zero, List.getD_cons_succ, ind]
      simp only [sum_if (show 0 ≤ f by omega), sum_0]
      omega)
    generalize List.foldl (zw (· + ·)) (zer 4) (psl 4 [a, b, c, d, e, f]) = R at *
    match R, f1 with
    | [r0, r1, r2, r3, r4, r5], _ =>
      have e0 : r0 = a := d0
      have e1 : r1 = b := d1
      have e2 : r2 = c := d2
      have e3 : r3 = d := d3
      have e4 : r4 = e := d4
      have e5 : r5 = f := d5
      rw [e0, e1, e2, e3, e4, e5]
theorem sa4 (a b c d e f a' b' c' d' e' f' : Int) : mxl (sms 4 [a + a', b + b', c + c', d + d', e + e', f + f']) ≤ mxl (sms 4 [a, b, c, d, e, f]) + mxl (sms 4 [a', b', c', d', e', f']) := by
  have h1 := (smsm4 a b c d e f).1
  have h2 := (smsm4 a' b' c' d' e' f').1
  have h3 := (smsm4 (a + a') (b + b') (c + c') (d + d') (e + e') (f + f')).2
  rcases h3 with h3 | h3 | h3 | h3 <;> omega
theorem facts {s : Int} {l : List Int} (h1 : 2 ≤ s) (h2 : s ≤ 4) (hl : Ld s l) : (mxl (sms s l) ≤ need s l ∧ 0 ≤ mxl (sms s l) ∧ 2 * need s l ≤ 3 * mxl (sms s l)) ∧ Adds s l (List.replicate (need s l).toNat 1) (psl s l) := by
  have hs' : s = 2 ∨ s = 3 ∨ s = 4 := by omega
  rcases hs' with rfl | rfl | rfl
  · obtain ⟨hlen, hb⟩ := hl
    match l, hlen with
    | [a], _ =>
      have na := hb a (by simp)
      exact ⟨fa2 a na.1, fc2 a na.1⟩
  · obtain ⟨hlen, hb⟩ := hl
    match l, hlen with
    | [a, b, c], _ =>
      have na := hb a (by simp)
      have nb := hb b (by simp)
      have nc := hb c (by simp)
      exact ⟨fa3 a b c ⟨na.1, nb.1, nc.1⟩, fc3 a b c ⟨na.1, nb.1, nc.1⟩⟩
  · obtain ⟨hlen, hb⟩ := hl
    match l, hlen with
    | [a, b, c, d, e, f], _ =>
      have na := hb a (by simp)
      have nb := hb b (by simp)
      have nc := hb c (by simp)
      have nd := hb d (by simp)
      have ne := hb e (by simp)
      have nf := hb f (by simp)
      exact ⟨fa4 a b c d e f ⟨na.1, nb.1, nc.1, nd.1, ne.1, nf.1⟩, fc4 a b c d e f ⟨na.1, nb.1, nc.1, nd.1, ne.1, nf.1⟩⟩
theorem need99 {s : Int} {l : List Int} (h1 : 2 ≤ s) (h2 : s ≤ 4) (hl : Ld s l) (h3 : ∀ x ∈ l, x ≤ 33) : need s l ≤ 99 := by
  have hs' : s = 2 ∨ s = 3 ∨ s = 4 := by omega
  rcases hs' with rfl | rfl | rfl
  · obtain ⟨hlen, hb⟩ := hl
    match l, hlen with
    | [a], _ =>
      have na := hb a (by simp)
      exact fb2 a (h3 a (by simp))
  · obtain ⟨hlen, hb⟩ := hl
    match l, hlen with
    | [a, b, c], _ =>
      have na := hb a (by simp)
      have nb := hb b (by simp)
      have nc := hb c (by simp)
      exact fb3 a b c ⟨(h3 a (by simp)), (h3 b (by simp)), (h3 c (by simp))⟩
  · obtain ⟨hlen, hb⟩ := hl
    match l, hlen with
    | [a, b, c, d, e, f], _ =>
      have na := hb a (by simp)
      have nb := hb b (by simp)
      have nc := hb c (by simp)
      have nd := hb d (by simp)
      have ne := hb e (by simp)
      have nf := hb f (by simp)
      exact fb4 a b c d e f ⟨(h3 a (by simp)), (h3 b (by simp)), (h3 c (by simp)), (h3 d (by simp)), (h3 e (by simp)), (h3 f (by simp))⟩
theorem need_sum {s : Int} {l m : List Int} (h1 : 2 ≤ s) (h2 : s ≤ 4) (hl : Ld s l) (hm : Ld s m) : need s (zw (· + ·) l m) ≤ need s l + need s m ∧ need s l ≤ need s (zw (· + ·) l m) := by
  have hs' : s = 2 ∨ s = 3 ∨ s = 4 := by omega
  rcases hs' with rfl | rfl | rfl
  · obtain ⟨hlen, hb⟩ := hl
    obtain ⟨hlen2, hb2⟩ := hm
    match l, hlen, m, hlen2 with
    | [a], _, [a'], _ =>
      have na := hb a (by simp)
      have na' := hb2 a' (by simp)
      exact ns2 a a' na'.1
  · obtain ⟨hlen, hb⟩ := hl
    obtain ⟨hlen2, hb2⟩ := hm
    match l, hlen, m, hlen2 with
    | [a, b, c], _, [a', b', c'], _ =>
      have na := hb a (by simp)
      have nb := hb b (by simp)
      have nc := hb c (by simp)
      have na' := hb2 a' (by simp)
      have nb' := hb2 b' (by simp)
      have nc' := hb2 c' (by simp)
      exact ns3 a b c a' b' c' ⟨na'.1, nb'.1, nc'.1⟩
  · obtain ⟨hlen, hb⟩ := hl
    obtain ⟨hlen2, hb2⟩ := hm
    match l, hlen, m, hlen2 with
    | [a, b, c, d, e, f], _, [a', b', c', d', e', f'], _ =>
      have na := hb a (by simp)
      have nb := hb b (by simp)
      have nc := hb c (by simp)
      have nd := hb d (by simp)
      have ne := hb e (by simp)
      have nf := hb f (by simp)
      have na' := hb2 a' (by simp)
      have nb' := hb2 b' (by simp)
      have nc' := hb2 c' (by simp)
      have nd' := hb2 d' (by simp)
      have ne' := hb2 e' (by simp)
      have nf' := hb2 f' (by simp)
      exact ns4 a b c d e f a' b' c' d' e' f' ⟨na'.1, nb'.1, nc'.1, nd'.1, ne'.1, nf'.1⟩
theorem sms_sum {s : Int} {l m : List Int} (h1 : 2 ≤ s) (h2 : s ≤ 4) (hl : Ld s l) (hm : Ld s m) : mxl (sms s (zw (· + ·) l m)) ≤ mxl (sms s l) + mxl (sms s m) := by
  have hs' : s = 2 ∨ s = 3 ∨ s = 4 := by omega
  rcases hs' with rfl | rfl | rfl
  · obtain ⟨hlen, hb⟩ := hl
    obtain ⟨hlen2, hb2⟩ := hm
    match l, hlen, m, hlen2 with
    | [a], _, [a'], _ =>
      have na := hb a (by simp)
      have na' := hb2 a' (by simp)
      exact sa2 a a'
  · obtain ⟨hlen, hb⟩ := hl
    obtain ⟨hlen2, hb2⟩ := hm
    match l, hlen, m, hlen2 with
    | [a, b, c], _, [a', b', c'], _ =>
      have na := hb a (by simp)
      have nb := hb b (by simp)
      have nc := hb c (by simp)
      have na' := hb2 a' (by simp)
      have nb' := hb2 b' (by simp)
      have nc' := hb2 c' (by simp)
      exact sa3 a b c a' b' c'
  · obtain ⟨hlen, hb⟩ := hl
    obtain ⟨hlen2, hb2⟩ := hm
    match l, hlen, m, hlen2 with
    | [a, b, c, d, e, f], _, [a', b', c', d', e', f'], _ =>
      have na := hb a (by simp)
      have nb := hb b (by simp)
      have nc := hb c (by simp)
      have nd := hb d (by simp)
      have ne := hb e (by simp)
      have nf := hb f (by simp)
      have na' := hb2 a' (by simp)
      have nb' := hb2 b' (by simp)
      have nc' := hb2 c' (by simp)
      have nd' := hb2 d' (by simp)
      have ne' := hb2 e' (by simp)
      have nf' := hb2 f' (by simp)
      exact sa4 a b c d e f a' b' c' d' e' f'
theorem zw_assoc : ∀ {a b c : List Int}, a.length = b.length → b.length = c.length → zw (· + ·) (zw (· + ·) a b) c = zw (· + ·) a (zw (· + ·) b c)
  | [], [], [], _, _ => rfl
  | x :: a, y :: b, z :: c, h1, h2 => by
    have ih := zw_assoc (a := a) (b := b) (c := c) (by simpa using h1) (by simpa using h2)
    show (x + y + z) :: zw (· + ·) (zw (· + ·) a b) c = (x + (y + z)) :: zw (· + ·) a (zw (· + ·) b c)
    rw [ih, Int.add_assoc]
def pr2 (ps : List (List Int)) (h : Nat) : List (List Int) := (List.range h).map fun (k : Nat) => zw (· + ·) (ps.getD (2 * k) []) (ps.getD (2 * k + 1) [])
theorem pr2_fold {s : Int} {ps : List (List Int)} (hp : ∀ p ∈ ps, Ld s p) {acc : List Int} (ha : acc.length = np s) : ∀ h, 2 * h ≤ ps.length → (pr2 ps h).foldl (zw (· + ·)) acc = (ps.take (2 * h)).foldl (zw (· + ·)) acc
  | 0, _ => rfl
  | h + 1, hh => by
    have ih := pr2_fold hp ha h (by omega)
    have l0 : 2 * h < ps.length := by omega
    have l1 : 2 * h + 1 < ps.length := by omega
    have t2 : ps.take (2 * (h + 1)) = ps.take (2 * h) ++ [ps[2 * h], ps[2 * h + 1]] := by
      rw [show 2 * (h + 1) = 2 * h + 1 + 1 by omega, List.take_add_one, List.take_add_one, List.getElem?_eq_getElem l0, List.getElem?_eq_getElem l1, List.append_assoc]
      rfl
    have g0 : ps.getD (2 * h) [] = ps[2 * h] := by rw [List.getD_eq_getElem?_getD, List.getElem?_eq_getElem l0]; rfl
    have g1 : ps.getD (2 * h + 1) [] = ps[2 * h + 1] := by rw [List.getD_eq_getElem?_getD, List.getElem?_eq_getElem l1]; rfl
    rw [pr2, List.range_succ, List.map_append, List.foldl_append, t2, List.foldl_append]
    rw [pr2] at ih
    rw [ih]
    show zw (· + ·) _ (zw (· + ·) (ps.getD (2 * h) []) (ps.getD (2 * h + 1) [])) = zw (· + ·) (zw (· + ·) _ ps[2 * h]) ps[2 * h + 1]
    have a0 := (hp _ (List.getElem_mem l0)).1
    have a1 := (hp _ (List.getElem_mem l1)).1
    rw [g0, g1, zw_assoc (by rw [adds_len _ _ (fun q hq => hp q (List.mem_of_mem_take hq)) ha, a0]) (by rw [a0, a1])]
theorem small {s : Int} {l : List Int} (h1 : 2 ≤ s) (h2 : s ≤ 4) (hl : Ld s l) (h : mxl (sms s l) ≤ 1) : ∀ x ∈ l, 0 ≤ x ∧ x ≤ 1 := by
  have hs' : s = 2 ∨ s = 3 ∨ s = 4 := by omega
  rcases hs' with rfl | rfl | rfl
  · obtain ⟨hlen, hb⟩ := hl
    match l, hlen with
    | [a], _ =>
      have na := hb a (by simp)
      have q := (smsm2 a).1
      intro x hx
      simp only [List.mem_cons, List.not_mem_nil, or_false] at hx
      omega
  · obtain ⟨hlen, hb⟩ := hl
    match l, hlen with
    | [a, b, c], _ =>
      have na := hb a (by simp)
      have nb := hb b (by simp)
      have nc := hb c (by simp)
      have q := (smsm3 a b c).1
      intro x hx
      simp only [List.mem_cons, List.not_mem_nil, or_false] at hx
      omega
  · obtain ⟨hlen, hb⟩ := hl
    match l, hlen with
    | [a, b, c, d, e, f], _ =>
      have na := hb a (by simp)
      have nb := hb b (by simp)
      have nc := hb c (by simp)
      have nd := hb d (by simp)
      have ne := hb e (by simp)
      have nf := hb f (by simp)
      have q := (smsm4 a b c d e f).1
      intro x hx
      simp only [List.mem_cons, List.not_mem_nil, or_false] at hx
      omega
theorem pairs_add {s : Int} {l : List Int} {n : Nat} {ps : List (List Int)} (h1 : 2 ≤ s) (h2 : s ≤ 4) (h : Adds s l (List.replicate n 1) ps) : Adds s l (mrm (n : Int)) (pr2 ps (n / 2) ++ ps.drop (2 * (n / 2))) := by
  have ln : ps.length = n := by rw [h.len, List.length_replicate]
  have fit : ∀ p ∈ ps, mxl (sms s p) ≤ 1 := fun p hp => by
    obtain ⟨i, hi, rfl⟩ := List.getElem_of_mem hp
    exact h.fit i _ 1 (List.getElem?_eq_getElem hi) (by rw [List.getElem?_replicate, if_pos (by omega)])
  have m1 : ((n : Int) / 2).toNat = n / 2 := by omega
  have m2 : ((n : Int) % 2).toNat = n % 2 := by omega
  have pr : ∀ i p, (pr2 ps (n / 2))[i]? = some p → Ld s p ∧ mxl (sms s p) ≤ 2 := fun i p hp => by
    rw [pr2, List.getElem?_map] at hp
    obtain ⟨k, hk, rfl⟩ := Option.map_eq_some_iff.mp hp
    have hk2 := List.mem_range.mp (List.mem_of_getElem? hk)
    have l0 : 2 * k < ps.length := by omega
    have l1 : 2 * k + 1 < ps.length := by omega
    have g0 : ps.getD (2 * k) [] = ps[2 * k] := by rw [List.getD_eq_getElem?_getD, List.getElem?_eq_getElem l0]; rfl
    have g1 : ps.getD (2 * k + 1) [] = ps[2 * k + 1] := by rw [List.getD_eq_getElem?_getD, List.getElem?_eq_getElem l1]; rfl
    rw [g0, g1]
    have d0 := h.ld _ (List.getElem_mem l0)
    have d1 := h.ld _ (List.getElem_mem l1)
    have f0 := fit _ (List.getElem_mem l0)
    have f1 := fit _ (List.getElem_mem l1)
    have q := sms_sum h1 h2 d0 d1
    refine ⟨⟨by rw [zw_len (by rw [d0.1, d1.1])]; exact d0.1, fun x hx => ?_⟩, by omega⟩
    obtain ⟨i, hi, rfl⟩ := List.getElem_of_mem hx
    rw [zw_len (by rw [d0.1, d1.1])] at hi
    have e := getD_zw (i := i) (a := ps[2 * k]) (b := ps[2 * k + 1]) (by rw [d0.1, d1.1])
    have hi2 : i < ps[2 * k + 1].length := by rw [d1.1, ← d0.1]; exact hi
    rw [List.getD_eq_getElem?_getD, List.getD_eq_getElem?_getD, List.getD_eq_getElem?_getD, List.getElem?_eq_getElem hi, List.getElem?_eq_getElem hi2, List.getElem?_eq_getElem (by rw [zw_len (by rw [d0.1, d1.1])]; exact hi)] at e
    have e : (zw (· + ·) ps[2 * k] ps[2 * k + 1])[i]'(by rw [zw_len (by rw [d0.1, d1.1])]; exact hi) = ps[2 * k][i] + ps[2 * k + 1][i] := e
    rw [e]
    have b0 := small h1 h2 d0 f0 _ (List.getElem_mem hi)
    have b1 := small h1 h2 d1 f1 _ (List.getElem_mem hi2)
    omega
  have lp : (pr2 ps (n / 2)).length = n / 2 := by rw [pr2, List.length_map, List.length_range]
  refine ⟨?_, fun p hp => ?_, fun i p r hp hr => ?_, ?_⟩
  · rw [mrm, List.length_append, List.length_append, List.length_replicate, List.length_replicate, m1, m2, lp, List.length_drop]
    omega
  · rcases List.mem_append.mp hp with hp | hp
    · obtain ⟨i, hi, rfl⟩ := List.getElem_of_mem hp
      exact (pr i _ (List.getElem?_eq_getElem hi)).1
    · exact h.ld p (List.mem_of_mem_drop hp)
  · rw [mrm, m1, m2] at hr
    by_cases hi : i < n / 2
    · rw [List.getElem?_append_left (by omega)] at hp
      rw [List.getElem?_append_left (by rw [List.length_replicate]; exact hi), List.getElem?_replicate, if_pos hi] at hr
      cases hr
      exact (pr i p hp).2
    · rw [List.getElem?_append_right (by omega)] at hp
      rw [List.getElem?_append_right (by rw [List.length_replicate]; omega), List.getElem?_replicate] at hr
      split at hr
      · cases hr
        exact fit p (List.mem_of_mem_drop (List.mem_of_getElem? hp))
      · cases hr
  · rw [List.foldl_append, pr2_fold h.ld (by simp [zer]) _ (by omega), ← List.foldl_append, List.take_append_drop]
    exact h.sum
end K20
set_option Elab.async false
set_option linter.all false
set_option maxRecDepth 100000
set_option maxHeartbeats 4000000
namespace K20
open PySem PySem.Spec PyProof.Rows L2 Evl DL
local macro_rules | `(tactic| walk_at "dl") => `(tactic| first
  | exact ev_c | exact ev_var rfl | exact eda_nil
  | exact ed_var rfl (by assumption)
  | exact ed_int ev_c | exact ed_int (ev_var rfl)
  | (refine eda_cons ?_ ?_ <;> walk_at "dl")
  | (refine ed_int ?_; walk_at "dl")
  | (refine ev_op ?_ ?_ rv_I0 <;> walk_at "dl"))

section
variable {K : PySem.W.Frag} {σ : L2.St} {H H' : Hp} {ta tb te : TE} {t u : TT} {d : PyData} {ds : List PyData} {a b : List Int} {D : Ends} {tz : TS}
theorem cut_drop {ds : List PyData} {k : Nat} (h : k ≤ ds.length) : cutD ds (some (k : Int)) none = ds.drop k := by
  have e : HT.sIx ds.length 0 (some (k : Int)) = k := by
    rw [HT.sIx_nat]
    omega
  have e0 : HT.sIx ds.length ds.length none = ds.length := rfl
  rw [DL.cutD, e, e0, List.take_of_length_le (by rw [List.length_drop]; exact Nat.le_refl _)]
/-- is not True -/
theorem ev_notB {x y : Bool} (ha : Ev ta σ H (.bl x)) (hb : Ev tb σ H (.bl y)) : Ev (tOp rNotB ta tb) σ H (.bl (x != y)) := fun H1 e Q q =>
  ha H1 e _ fun H2 e2 => hb H2 (e.trans e2) _ fun H3 e3 => ⟨x, y, rfl, rfl, q H3 (e2.trans e3)⟩
theorem ed_zipsum (hs : σ.length = 14) (ha : EvD K ta σ H (tI a)) (hb : EvD K tb σ H (tI b)) (hl : a.length ≤ 100) : EvD K (tCB (fun xs H Q => ∃ p ys, xs = [.ref p] ∧ ((SqL K H p ys ∧ ∀ l, H l = none → Q (.ref l) (upd H l (.tup ys))) ∨ (SqT K H p ys ∧ Q (.ref p) H)))
    (tCons (tLc (iZipM K true true (tCons ta (tCons tb tNil))) (gTup K 2 (gCons (gName 12) (gCons (gName 13) gNil))) tYes (tOp (rI0 fun i j => .int (i + j)) (tVar 12) (tVar 13)) [12, 13]) tNil)) σ H (tI (zw (· + ·) a b)) := by
  obtain ⟨s0, s1, s2, s3, s4, s5, s6, s7, s8, s9, s10, s11, s12, s13, rfl⟩ : ∃ s0 s1 s2 s3 s4 s5 s6 s7 s8 s9 s10 s11 s12 s13, σ = [s0, s1, s2, s3, s4, s5, s6, s7, s8, s9, s10, s11, s12, s13] := by
    match σ, hs with
    | [s0, s1, s2, s3, s4, s5, s6, s7, s8, s9, s10, s11, s12, s13], _ => exact ⟨_, _, _, _, _, _, _, _, _, _, _, _, _, _, rfl⟩
  refine ed_is (ed_tupleOf (EvN.toD (en_lc (ei_zipTT (Ls.nil _) ha hb) (by rw [List.length_zipWith]; omega) (fun i => .int (a.getD i 0 + b.getD i 0)) (fun _ _ => by simp [imm]) fun H2 i d y Hb Q' e2 hd1 e3 hd2 k2 => ?_))) ?_
  · obtain ⟨n, m, g1, g2, rfl⟩ := pairs_get hd1
    refine g_two hd2 fun w1 w2 u1 u2 => ?_
    cases u1
    cases u2
    refine k2 _ Hb (Ex.refl _) rfl (ed_int (ev_is (ev_op (ev_var rfl) (ev_var rfl) rv_I0) ?_))
    rw [List.getD_eq_getElem?_getD, List.getD_eq_getElem?_getD, g1, g2] <;> rfl
  · rw [List.length_zipWith, ← range_zip]
    show PyData.tuple _ = PyData.tuple (List.map PyData.int (List.map _ _))
    rw [List.map_map]
    rfl
theorem ed_minsum (hs : σ.length = 14) (ha : EvD K ta σ H (tI a)) (hl : a.length ≤ 100) : EvD K (tCB (fun xs H Q => ∃ p ys, xs = [.ref p] ∧ ((SqL K H p ys ∧ ∀ l, H l = none → Q (.ref l) (upd H l (.tup ys))) ∨ (SqT K H p ys ∧ Q (.ref p) H)))
    (tCons (tLc (iTup K ta) (gName 12) tYes (tCB (fun xs H Q => ∃ i j, xs = [.int i, .int j] ∧ Q (.int (if j < i then j else i)) H) (tCons (tC (.int 33)) (tCons (tVar 12) tNil))) [12]) tNil)) σ H (tI (a.map (min 33))) := by
  obtain ⟨s0, s1, s2, s3, s4, s5, s6, s7, s8, s9, s10, s11, s12, s13, rfl⟩ : ∃ s0 s1 s2 s3 s4 s5 s6 s7 s8 s9 s10 s11 s12 s13, σ = [s0, s1, s2, s3, s4, s5, s6, s7, s8, s9, s10, s11, s12, s13] := by
    match σ, hs with
    | [s0, s1, s2, s3, s4, s5, s6, s7, s8, s9, s10, s11, s12, s13], _ => exact ⟨_, _, _, _, _, _, _, _, _, _, _, _, _, _, rfl⟩
  refine ed_is (ed_tupleOf (EvN.toD (en_lc (K := K) (ei_tup (Ls.nil _) ha (immAll_dI _)) (by rw [dI, List.length_map]; omega) (fun i => .int (min 33 (a.getD i 0))) (fun _ _ => by simp [imm]) fun H2 i d y Hb Q' e2 hd1 e3 hd2 k2 => ?_))) ?_
  · rw [dI, List.getElem?_map] at hd1
    obtain ⟨n, hn, rfl⟩ := Option.map_eq_some_iff.mp hd1
    cases dp_int hd2
    refine k2 _ Hb (Ex.refl _) rfl (ed_int (ev_is (ev_min2 ev_c (ev_var rfl)) ?_))
    rw [List.getD_eq_getElem?_getD, hn]
    rfl
  · congr 1
    apply List.ext_getElem?
    intro i
    rw [List.getElem?_map, List.getElem?_map, List.getElem?_map]
    by_cases h : i < a.length
    · rw [List.getElem?_range (by rw [dI, List.length_map]; exact h), List.getElem?_eq_getElem h, Option.map_some, Option.map_some, Option.map_some, List.getD_eq_getElem?_getD, List.getElem?_eq_getElem h]
      rfl
    · rw [List.getElem?_eq_none (by rw [List.length_range, dI, List.length_map]; omega), List.getElem?_eq_none (by omega : a.length ≤ i)]
      rfl
/-- a call whose result is told by what holds of it, against None -/
theorem ev_callX {n : Nat} {Pre : List PyData → Prop} {Post : List PyData → PyData → Prop} {E : XK} {tt : TA} {b : Bool} (h : EvDA K tt σ H ds) (hl : ds.length = n) (hp : Pre ds) (hq : ∀ r, Post ds r → isNoneD r = b) : Ev (tIsN (tCall (spX K n Pre Post) [] E tt)) σ H (.bl b) := fun H1 e Q q =>
  h H1 e _ fun vs H2 e2 hv => ⟨ds, by rw [List.append_nil]; exact hv, hl, hp, fun r v H3 pr e3 hd => by
    have : decide (v = V.non) = b := by
      rw [← hq r pr]
      cases hd <;> simp [isNoneD]
    show Q (.bl (decide (v = V.non))) H3
    rw [this]
    exact q H3 (e2.trans e3)⟩
theorem ev_callXn {n : Nat} {Pre : List PyData → Prop} {Post : List PyData → PyData → Prop} {E : XK} {tt : TA} {b : Bool} (h : EvDA K tt σ H ds) (hl : ds.length = n) (hp : Pre ds) (hq : ∀ r, Post ds r → isNoneD r = b) : Ev (tNotN (tCall (spX K n Pre Post) [] E tt)) σ H (.bl (!b)) := fun H1 e Q q =>
  h H1 e _ fun vs H2 e2 hv => ⟨ds, by rw [List.append_nil]; exact hv, hl, hp, fun r v H3 pr e3 hd => by
    have : decide (v = V.non) = b := by
      rw [← hq r pr]
      cases hd <;> simp [isNoneD]
    show Q (.bl (!decide (v = V.non))) H3
    rw [this]
    exact q H3 (e2.trans e3)⟩
end
section
variable {P : Program} {w : World} {K : PySem.W.Frag} {mg : Str → Option Value} {base : Heap}

def spLaw (K : PySem.W.Frag) : Sp := fun vs H Q _ => ∃ (a : Addr) (ns : List Int), vs = [.ref a] ∧ SqL K H a (ns.map V.int) ∧ ns.length ≤ 63 ∧ ∀ H', Q (.bl true) H'
/-- is_crossed_split(s, l, m, crossed_split(s, l, m)) -/
theorem ev_cc {σ : L2.St} {H : Hp} {s : Int} {l : List Int} {m : Int} {i j k : Nat} {v : V} (hi : σ[i]? = some (some (.int s))) (hj : σ[j]? = some (some v)) (hk : σ[k]? = some (some (.int m))) (hv : Dp K H v (tI l)) (h1 : 2 ≤ s) (h2 : s ≤ 4) (hl : Ld s l) (h3 : 0 ≤ m) (h4 : m ≤ 99) (hm : mxl (sms s l) ≤ m) :
    Ev (tCall (spD K 4 R_is_crossed_split) [] E0 (tCons (tVar i) (tCons (tVar j) (tCons (tVar k) (tCons (tCall (spX K 3 P_crossed_split Q_crossed_split) [] E0 (tCons (tVar i) (tCons (tVar j) (tCons (tVar k) tNil)))) tNil))))) σ H (.bl true) := fun H1 e Q q => by
  refine ⟨_, hi, _, hj, _, hk, _, hi, _, hj, _, hk, [.int s, tI l, .int m], .cons (.int _) (.cons (dp_ex e _ _ hv) (.cons (.int _) .nil)), rfl, ⟨s, l, m, rfl, h1, h2, hl, h3, h4⟩, ?_⟩
  rintro r v2 H2 ⟨s', l', m', e', pr⟩ e2 hd
  have e1 : s = s' := by injection e' with a b; injection a
  have e3 : l = l' := by
    injection e' with a b
    injection b with b c
    injection b with b
    have := List.map_inj_right (f := PyData.int) (fun x y h => by injection h) |>.mp b
    exact this
  have e4 : m = m' := by injection e' with a b; injection b with b c; injection c with c d; injection c
  subst e1 e3 e4
  rw [if_pos hm] at pr
  obtain ⟨ps, rfl, ad⟩ := pr
  refine ⟨[.int s, tI l, .int m, .list (ps.map tI)], .bool true, .cons (.int _) (.cons (dp_ex (e.trans e2) _ _ hv) (.cons (.int _) (.cons hd .nil))), rfl, ⟨s, l, m, ps, rfl, h1, by omega, hl, h3, h4, ad, rfl⟩, fun v3 H3 e3 hd3 => ?_⟩
  cases dp_bool hd3
  exact q H3 (e2.trans e3)
end
end K20
set_option Elab.async false
set_option linter.all false
set_option maxRecDepth 100000
set_option maxHeartbeats 4000000
namespace K20
open PySem PySem.Spec PyProof.Rows L2 Evl DL
local macro_rules | `(tactic| walk_at "dl") => `(tactic| first
  | exact ev_c | exact ev_var rfl | exact eda_nil
  | exact ed_var rfl (by assumption)
  | exact ed_int ev_c | exact ed_int (ev_var rfl)
  | (refine eda_cons ?_ ?_ <;> walk_at "dl")
  | (refine ed_int ?_; walk_at "dl")
  | (refine ev_op ?_ ?_ rv_I0 <;> walk_at "dl"))

section
variable {P : Program} {w : World} {K : PySem.W.Frag} {mg : Str → Option Value} {base : Heap}

theorem min33 {l : List Int} {s : Int} (h : Ld s l) : Ld s (l.map (min 33)) ∧ ∀ x ∈ l.map (min 33), x ≤ 33 := by
  refine ⟨⟨by rw [List.length_map]; exact h.1, fun x hx => ?_⟩, fun x hx => ?_⟩
  · obtain ⟨y, hy, rfl⟩ := List.mem_map.mp hx
    have := h.2 y hy
    omega
  · obtain ⟨y, hy, rfl⟩ := List.mem_map.mp hx
    omega
theorem sum_ld {l m : List Int} {s : Int} (hl : Ld s l) (hm : Ld s m) (h1 : ∀ x ∈ l, x ≤ 33) (h2 : ∀ x ∈ m, x ≤ 33) : Ld s (zw (· + ·) l m) := by
  have e : l.length = m.length := by rw [hl.1, hm.1]
  refine ⟨by rw [zw_len e]; exact hl.1, fun x hx => ?_⟩
  obtain ⟨i, hi, rfl⟩ := List.getElem_of_mem hx
  have hi' := hi
  rw [zw_len e] at hi'
  have g : (zw (· + ·) l m)[i] = l[i] + m[i] := by simp [zw]
  rw [g]
  have a1 := hl.2 _ (List.getElem_mem hi')
  have a2 := hm.2 _ (List.getElem_mem (by omega : i < m.length))
  have a3 := h1 _ (List.getElem_mem hi')
  have a4 := h2 _ (List.getElem_mem (by omega : i < m.length))
  omega
theorem gN {i : Nat} {x : V} {σ : L2.St} {H : Hp} {Q : L2.St → Hp → Prop} (h : Q (σ.set i (some x)) H) : gName i x σ H Q := h
theorem q_par {σ : L2.St} {H : Hp} {ta : TA} {tz : TS} {D : Ends} {i j : Nat} {d1 d2 : PyData} (h : EvDA K ta σ H [d1, d2]) (q : ∀ v w H1, Ex H H1 → Dp K H1 v d1 → Dp K H1 w d2 → tz D ((σ.set i (some v)).set j (some w)) H1) : tSeq (tPar i j ta) tz D σ H :=
  h H (Ex.refl _) _ fun vs H1 e hv => by
    obtain ⟨v, w, rfl, a, b⟩ := dpa_two hv
    exact ⟨v, w, rfl, q v w H1 e a b⟩
theorem inj3 {s s' : Int} {l l' : List Int} {m m' : Int} (e' : [PyData.int s, tI l, .int m] = [PyData.int s', tI l', .int m']) : s = s' ∧ l = l' ∧ m = m' := by
  refine ⟨by injection e' with a b; injection a, ?_, by injection e' with a b; injection b with b c; injection c with c d; injection c⟩
  injection e' with a b
  injection b with b c
  injection b with b
  exact List.map_inj_right (f := PyData.int) (fun x y h => by injection h) |>.mp b
/-- a load drawn, its numbers cut at 33 -/
theorem q_drawn {σ : L2.St} {H : Hp} {tz : TS} {D : Ends} {k n : Nat} {s : Int} {st lg cl : Addr} (g1 : σ[1]? = some (some (.ref st))) (g3 : σ[3]? = some (some (.int s))) (hs : σ.length = 14) (h1 : 2 ≤ s) (h2 : s ≤ 4) (hn : n ≤ 9000) (hst : StK st lg cl n H)
    (q : ∀ l v H', Ld s l → (∀ x ∈ l, x ≤ 33) → Xp [st, lg] H H' → StK st lg cl (n + 13) H' → Dp K H' v (tI l) → tz D (σ.set k (some v)) H') :
    tSeq (tAsg (tCB (fun xs H Q => ∃ p ys, xs = [.ref p] ∧ ((SqL K H p ys ∧ ∀ l, H l = none → Q (.ref l) (upd H l (.tup ys))) ∨ (SqT K H p ys ∧ Q (.ref p) H)))
      (tCons (tLc (iTup K (tCall (spDrawn K) [] E0 (tCons (tVar 1) (tCons (tVar 3) tNil)))) (gName 12) tYes (tCB (fun xs H Q => ∃ i j, xs = [.int i, .int j] ∧ Q (.int (if j < i then j else i)) H) (tCons (tC (.int 33)) (tCons (tVar 12) tNil))) [12]) tNil)) (gName k)) tz D σ H := by
  refine ⟨.ref st, g1, .int s, g3, st, lg, cl, n, s, rfl, h1, h2, hn, hst, fun l0 v0 H4 hl0 x4 s4 d4 => ?_⟩
  have m := min33 hl0
  have np10 := np_le (s := s) h1 (by omega)
  exact qd_asg (K := K) (k := k) (D := D) (tz := tz) (σ := σ) (H := H4) (ed_minsum (ta := tC v0) hs (ev_d ev_c d4) (by rw [hl0.1]; omega)) fun v4 H5 e5 d5 => q _ v4 H5 m.1 m.2 (x4.then e5) (stk_ex e5 s4) d5
/-- the loop's word at the i-th turn -/
def TW (K : PySem.W.Frag) (a st lg cl : Addr) (H2 : Hp) (i : Nat) (σ : L2.St) (Ha : Hp) : Prop :=
  Xp [st, lg] H2 Ha ∧ StK st lg cl (27 * i) Ha ∧ ∃ c2 c3 c4 c5 c6 c7 c8 c9 c10 c11 c12 c13, σ = [some (.ref a), some (.ref st), c2, c3, c4, c5, c6, c7, c8, c9, c10, c11, c12, c13]
abbrev s_law : Stmt := topS 56
abbrev N_law : List Str := ["script", "state", "turn", "sides_here", "load", "more", "total", "let_here", "need_here", "parts", "pairs_here", "spot", "number", "extra"]
theorem sc_law : FnScope N_law ["script"] (defScope s_law) := ⟨rfl, rfl, rfl, by decide +kernel, rfl, by decide +kernel, by decide +kernel⟩
theorem ok_law {f : Addr} {fd : FuncData} (F : Fun K "law" "law" s_law f fd) (T : Txt mg)
    (D__law_begun : DF P w K mg base "_law_begun" 1 ["script"] (spBegun K)) (D__law_draw : DF P w K mg base "_law_draw" 1 ["state", "size_here"] (spDraw K)) (D__law_drawn : DF P w K mg base "_law_drawn" 3 ["state", "sides_here"] (spDrawn K)) (D_crossed_split : DF P w K mg base "crossed_split" 6 ["sides", "load", "room"] (spX K 3 P_crossed_split Q_crossed_split)) (D_is_crossed_split : DF P w K mg base "is_crossed_split" 6 ["sides", "load", "room", "thing"] (spD K 4 R_is_crossed_split)) (D_is_plain_split : DF P w K mg base "is_plain_split" 7 ["sides", "load", "room", "thing"] (spD K 4 R_is_plain_split)) (D_plain_bar : DF P w K mg base "plain_bar" 7 ["sides", "load", "room"] (spX K 3 P_plain_bar Q_plain_bar)) (D_plain_need : DF P w K mg base "plain_need" 7 ["sides", "load"] (spD K 2 R_plain_need)) (D_plain_split : DF P w K mg base "plain_split" 7 ["sides", "load", "room"] (spD K 3 R_plain_split)) (D_side_sums : DF P w K mg base "side_sums" 7 ["sides", "load"] (spD K 2 R_side_sums)) :
    FnOk P w K mg base CX0 8 f fd ["script"] (spLaw K) := by
  refine F.ok sc_law (fun vs H Q E h => by obtain ⟨_, _, rfl, _⟩ := h; rfl) (fun cdv A outer s H vs Q E hr h => ?_)
  obtain ⟨a, ns, rfl, hs, hl, k⟩ := h
  refine ⟨_, (pss_cons (ps_set (i := 1) sc_law.nd rfl (.inl rfl) (pe_D D__law_begun (hr.mono (by decide)) (by rfl) (pa_cons (pv 0) pa_nil)))
      (pss_cons (ps_for PassesOwn.never rfl (pi_range1 (by rfl) T.b_range (pa_cons (pe_op op_add pe_int (pe_callB (call_min2 rfl) (by rfl) T.b_min (by decide +kernel) (pa_cons (pe_callB call_len_seq (by rfl) T.b_len PySem.boot_len (pa_cons (pv 0) pa_nil)) (pa_cons pe_int pa_nil)))) pa_nil)) (pg_name (i := 2) sc_law.nd rfl (Or.inl rfl)) (pss_cons (ps_set (i := 3) sc_law.nd rfl (.inl rfl) (pe_op op_add pe_int (pe_D D__law_draw (hr.mono (by decide)) (by rfl) (pa_cons (pv 1) (pa_cons pe_int pa_nil)))))
      (pss_cons (ps_set (i := 4) sc_law.nd rfl (.inl rfl) (pe_callTy call_tuple_of (by rfl) T.b_tuple (by decide +kernel) (pa_cons (pe_lc (own := [("number", 12)]) (g := (gName 12)) (tt := tYes) rfl sc_law.nd (pi_tup (pe_D D__law_drawn (hr.mono (by decide)) (by rfl) (pa_cons (pv 1) (pa_cons (pv 3) pa_nil)))) (blkOk_by (N := N_law) (sc := defScope s_law) (by decide +kernel)) (fun _ _ _ _ _ => (pg_name (i := 12) sc_law.nd rfl (Or.inl rfl))) (fun _ _ _ _ _ => pts_nil) (fun _ _ _ _ _ => (pe_callB (call_min2 rfl) (by rfl) T.b_min (by decide +kernel) (pa_cons pe_int (pa_cons (pv 12) pa_nil))))) pa_nil)))
      (pss_cons (ps_set (i := 5) sc_law.nd rfl (.inl rfl) (pe_callTy call_tuple_of (by rfl) T.b_tuple (by decide +kernel) (pa_cons (pe_lc (own := [("number", 12)]) (g := (gName 12)) (tt := tYes) rfl sc_law.nd (pi_tup (pe_D D__law_drawn (hr.mono (by decide)) (by rfl) (pa_cons (pv 1) (pa_cons (pv 3) pa_nil)))) (blkOk_by (N := N_law) (sc := defScope s_law) (by decide +kernel)) (fun _ _ _ _ _ => (pg_name (i := 12) sc_law.nd rfl (Or.inl rfl))) (fun _ _ _ _ _ => pts_nil) (fun _ _ _ _ _ => (pe_callB (call_min2 rfl) (by rfl) T.b_min (by decide +kernel) (pa_cons pe_int (pa_cons (pv 12) pa_nil))))) pa_nil)))
      (pss_cons (ps_set (i := 6) sc_law.nd rfl (.inl rfl) (pe_callTy call_tuple_of (by rfl) T.b_tuple (by decide +kernel) (pa_cons (pe_lc (own := [("number", 12), ("extra", 13)]) (g := (gTup K 2 (gCons (gName 12) (gCons (gName 13) gNil)))) (tt := tYes) rfl sc_law.nd (pi_zipM true true (by rfl) T.b_zip (pa_cons (pv 4) (pa_cons (pv 5) pa_nil))) (blkOk_by (N := N_law) (sc := defScope s_law) (by decide +kernel)) (fun _ _ _ _ _ => (pg_tup rfl (pgs_cons (pg_name (i := 12) sc_law.nd rfl (Or.inl rfl)) (pgs_cons (pg_name (i := 13) sc_law.nd rfl (Or.inl rfl)) pgs_nil)))) (fun _ _ _ _ _ => pts_nil) (fun _ _ _ _ _ => (pe_op op_add (pv 12) (pv 13)))) pa_nil)))
      (pss_cons (ps_par (i := 7) (j := 8) (by rfl) sc_law.nd rfl rfl (by decide) rfl rfl (pa_cons (pe_callB (cr_maxT rfl) (by rfl) T.b_max (by decide +kernel) (pa_cons (pe_D D_side_sums (hr.mono (by decide)) (by rfl) (pa_cons (pv 3) (pa_cons (pv 4) pa_nil))) pa_nil)) (pa_cons (pe_D D_plain_need (hr.mono (by decide)) (by rfl) (pa_cons (pv 3) (pa_cons (pv 4) pa_nil))) pa_nil)) (by rfl))
      (pss_cons (ps_if (PW.pt (pw_or (pt_cmpR op_gt (pv 7) (pv 8) (nomark _)) (pw_or (pt_cmpR op_gt (pe_op op_mul pe_int (pv 8)) (pe_op op_mul pe_int (pv 7)) (nomark _)) (pw_or1 (pt_cmpR op_gt (pv 8) pe_int (nomark _)))))) (pss_one (ps_ret pe_bl)) pss_nil)
      (pss_cons (ps_if (pt_cmpR op_notBl (pe_D D_is_crossed_split (hr.mono (by decide)) (by rfl) (pa_cons (pv 3) (pa_cons (pv 4) (pa_cons (pv 7) (pa_cons (pe_D D_crossed_split (hr.mono (by decide)) (by rfl) (pa_cons (pv 3) (pa_cons (pv 4) (pa_cons (pv 7) pa_nil)))) pa_nil))))) pe_bl (nomark _)) (pss_one (ps_ret pe_bl)) pss_nil)
      (pss_cons (ps_set (i := 9) sc_law.nd rfl (.inl rfl) (pe_D D_plain_split (hr.mono (by decide)) (by rfl) (pa_cons (pv 3) (pa_cons (pv 4) (pa_cons (pv 8) pa_nil)))))
      (pss_cons (ps_if (pt_cmpR op_notBl (pe_D D_is_plain_split (hr.mono (by decide)) (by rfl) (pa_cons (pv 3) (pa_cons (pv 4) (pa_cons (pv 8) (pa_cons (pv 9) pa_nil))))) pe_bl (nomark _)) (pss_one (ps_ret pe_bl)) pss_nil)
      (pss_cons (ps_if (pt_cmp (pc_notN (pe_D D_plain_bar (hr.mono (by decide)) (by rfl) (pa_cons (pv 3) (pa_cons (pv 4) (pa_cons (pv 8) pa_nil)))))) (pss_one (ps_ret pe_bl)) pss_nil)
      (pss_cons (ps_if (PW.pt (pw_and (pt_cmpR op_gt (pv 7) pe_int (nomark _)) (pw_and1 (pt_cmp (pc_notN (pe_D D_crossed_split (hr.mono (by decide)) (by rfl) (pa_cons (pv 3) (pa_cons (pv 4) (pa_cons (pe_op op_sub (pv 7) pe_int) pa_nil))))))))) (pss_one (ps_ret pe_bl)) pss_nil)
      (pss_cons (ps_if (PW.pt (pw_and (pt_cmpR op_gt (pv 8) pe_int (nomark _)) (pw_and1 (pt_cmp (pc_notN (pe_D D_plain_split (hr.mono (by decide)) (by rfl) (pa_cons (pv 3) (pa_cons (pv 4) (pa_cons (pe_op op_sub (pv 8) pe_int) pa_nil))))))))) (pss_one (ps_ret pe_bl)) pss_nil)
      (pss_cons (ps_if (PW.pt (pw_and (pt_cmpR op_gt (pv 8) pe_int (nomark _)) (pw_and1 (pt_cmp (pc_isN (pe_D D_plain_bar (hr.mono (by decide)) (by rfl) (pa_cons (pv 3) (pa_cons (pv 4) (pa_cons (pe_op op_sub (pv 8) pe_int) pa_nil))))))))) (pss_one (ps_ret pe_bl)) pss_nil)
      (pss_cons (ps_if (pt_cmpR op_gt (pe_D D_plain_need (hr.mono (by decide)) (by rfl) (pa_cons (pv 3) (pa_cons (pv 6) pa_nil))) (pe_op op_add (pv 8) (pe_D D_plain_need (hr.mono (by decide)) (by rfl) (pa_cons (pv 3) (pa_cons (pv 5) pa_nil)))) (nomark _)) (pss_one (ps_ret pe_bl)) pss_nil)
      (pss_cons (ps_if (pt_cmpR op_lt (pe_D D_plain_need (hr.mono (by decide)) (by rfl) (pa_cons (pv 3) (pa_cons (pv 6) pa_nil))) (pv 8) (nomark _)) (pss_one (ps_ret pe_bl)) pss_nil)
      (pss_cons (ps_set (i := 10) sc_law.nd rfl (.inl rfl) (pe_lst pa_nil))
      (pss_cons (ps_for PassesOwn.never rfl (pi_range1 (by rfl) T.b_range (pa_cons (pe_op op_fdiv (pv 8) pe_int) pa_nil)) (pg_name (i := 11) sc_law.nd rfl (Or.inl rfl)) (pss_one (ps_expr (pe_bm PySem.F.plainAttrs_list PySem.F.slot_list_append PySem.F.type_list_append mt_append (pv 10) (pa_cons (pe_callTy call_tuple_of (by rfl) T.b_tuple (by decide +kernel) (pa_cons (pe_lc (own := [("number", 12), ("extra", 13)]) (g := (gTup K 2 (gCons (gName 12) (gCons (gName 13) gNil)))) (tt := tYes) rfl sc_law.nd (pi_zipM true true (by rfl) T.b_zip (pa_cons (pe_ix ix_list (pv 9) (pe_op op_mul pe_int (pv 11)) (fun _ _ => rfl)) (pa_cons (pe_ix ix_list (pv 9) (pe_op op_add (pe_op op_mul pe_int (pv 11)) pe_int) (fun _ _ => rfl)) pa_nil))) (blkOk_by (N := N_law) (sc := defScope s_law) (by decide +kernel)) (fun _ _ _ _ _ => (pg_tup rfl (pgs_cons (pg_name (i := 12) sc_law.nd rfl (Or.inl rfl)) (pgs_cons (pg_name (i := 13) sc_law.nd rfl (Or.inl rfl)) pgs_nil)))) (fun _ _ _ _ _ => pts_nil) (fun _ _ _ _ _ => (pe_op op_add (pv 12) (pv 13)))) pa_nil)) pa_nil)))))
      (pss_cons (ps_set (i := 10) sc_law.nd rfl (.inl rfl) (pe_op op_cat (pv 10) (pe_slice sl_list (pv 9) (po_some (pe_op op_mul pe_int (pe_op op_fdiv (pv 8) pe_int))) po_none)))
      (pss_one (ps_if (pt_cmpR op_notBl (pe_D D_is_crossed_split (hr.mono (by decide)) (by rfl) (pa_cons (pv 3) (pa_cons (pv 4) (pa_cons (pv 8) (pa_cons (pv 10) pa_nil))))) pe_bl (nomark _)) (pss_one (ps_ret pe_bl)) pss_nil)))))))))))))))))))))
      (pss_one (ps_ret pe_bl)))), ?_⟩
  refine ⟨.ref a, rfl, a, ns, rfl, hs, hl, fun st lg cl H1 hst hlg e1 s1 => ?_⟩
  have sA : SqL K H1 a (ns.map V.int) := ex_l e1 hs
  refine e_for (S := [st, lg]) (ei_rng1 (K := K) (n := 3 + min (ns.length : Int) 6) (eda_cons (ed_int (ev_op ev_c (ev_min2 (ev_is (ev_len (K := K) (ev_var rfl) sA) (by rw [List.length_map])) ev_c) rv_I0)) eda_nil) ⟨by omega, by omega⟩) (fun H2 i σ' Ha => TW K a st lg cl H2 i σ' Ha)
    (fun H2 e2 => ⟨Xp.refl _ _, stk_ex e2 s1, none, none, none, none, none, none, none, none, none, none, none, none, rfl⟩) (fun H2 i σ' Ha _ z => z.1) ?_ ?_
  · rintro H2 i d y σ' Ha Hb e2 hdi ⟨xp, s2, c2, c3, c4, c5, c6, c7, c8, c9, c10, c11, c12, c13, rfl⟩ eb hy
    have hi : i < (3 + min (ns.length : Int) 6).toNat := by simpa using (List.getElem?_eq_some_iff.mp hdi).1
    have xp := xp.then eb
    have s2 := stk_ex eb s2
    refine ⟨.ref st, rfl, st, lg, cl, _, 3, rfl, by decide, by decide, by omega, s2, fun r3 H3 r0 r1 x3 s3 => ⟨2, r3, rfl, rfl, ?_⟩⟩
    have xp := xp.trans x3
    obtain ⟨s, hs2⟩ : ∃ s, s = 2 + r3 := ⟨_, rfl⟩
    have h1 : 2 ≤ s := by omega
    have h2 : s ≤ 4 := by omega
    clear hdi hy
    refine gN (i := 3) ?_
    dsimp only [List.set_cons_succ, List.set_cons_zero]
    rw [← hs2]
    show tSeq _ _ _ [some (.ref a), some (.ref st), some y, some (.int s), c4, c5, c6, c7, c8, c9, c10, c11, c12, c13] H3
    refine q_drawn (K := K) rfl rfl rfl h1 h2 (by omega) s3 fun l v4 H4 hld l33 x4 s4 d4 => ?_
    have xp := xp.trans x4
    refine q_drawn (K := K) rfl rfl rfl h1 h2 (by omega) s4 fun m v5 H5 hmd m33 x5 s5 d5 => ?_
    have d4 := dp_tx (stk_tx s4 x5) _ _ (imm_tI _) d4
    have xp := xp.trans x5
    clear s2 s3 s4 x3 x4 x5
    have np10 := np_le (s := s) h1 (by omega)
    have hsd := sum_ld hld hmd l33 m33
    obtain ⟨⟨f1, f2, f3⟩, f4⟩ := facts h1 h2 hld
    have f5 := need99 h1 h2 hld l33
    obtain ⟨f6, f7⟩ := need_sum h1 h2 hld hmd
    have sl : 0 < (sms s l).length := by rw [sms_len]; omega
    refine qd_asg (K := K) (ed_zipsum (a := l) (b := m) rfl (ed_var rfl d4) (ed_var rfl d5) (by rw [hld.1]; omega)) fun v6 H6 e6 d6 => ?_
    have d4 := dp_ex e6 _ _ d4
    have d5 := dp_ex e6 _ _ d5
    refine q_par (K := K) (d1 := .int (mxl (sms s l))) (d2 := .int (need s l)) (eda_cons (ed_int (ev_maxT (K := K) (ns := sms s l) (ed_call (R := R_side_sums) (ds := [.int s, tI l]) (by walk_at "dl") rfl ⟨s, l, rfl, h1, h2, hld, rfl⟩) sl (mxl_mem sl) fun y hy => mxl_ge hy)) (eda_cons (ed_call (R := R_plain_need) (ds := [.int s, tI l]) (by walk_at "dl") rfl ⟨s, l, rfl, h1, h2, hld, rfl⟩) eda_nil)) fun w7 w8 H7 e7 d7 d8 => ?_
    cases dp_int d7
    cases dp_int d8
    have d4 := dp_ex e7 _ _ d4
    have d5 := dp_ex e7 _ _ d5
    have d6 := dp_ex e7 _ _ d6
    have e57 := e6.trans e7
    have psn : ((psl s l).length : Int) = need s l := by
      have := f4.len
      rw [List.length_replicate] at this
      omega
    generalize hN : need s l = N at *
    generalize hL : mxl (sms s l) = L at *
    show tSeq _ _ _ [some (.ref a), some (.ref st), some y, some (.int s), some v4, some v5, some v6, some (.int L), some (.int N), c9, c10, c11, c12, c13] H7
    -- 1
    refine q_when (b := false) (et_is (et_or (a := decide (N < L)) (b := decide (3 * L < 2 * N) || decide (99 < N)) (et_test (ev_op (ev_var rfl) (ev_var rfl) rv_I0)) fun _ => et_or (et_test (ev_op (ev_op ev_c (ev_var rfl) (rv_I (.inl ⟨by decide, by decide⟩))) (ev_op ev_c (ev_var rfl) (rv_I (.inl ⟨by decide, by decide⟩))) rv_I0)) fun _ => et_test (ev_op (ev_var rfl) ev_c rv_I0)) ?_) (fun h => nomatch h) fun _ H8 e8 => ?_
    · simp only [Bool.or_eq_false_iff, decide_eq_false_iff_not]
      omega
    have d4 := dp_ex e8 _ _ d4
    have d5 := dp_ex e8 _ _ d5
    have d6 := dp_ex e8 _ _ d6
    -- 2
    refine q_when (b := false) (et_test (ev_is (ev_notB (ev_cc (K := K) rfl rfl rfl d4 h1 h2 hld (by omega) (by omega) (by omega)) ev_c) rfl)) (fun h => nomatch h) fun _ H9 e9 => ?_
    have d4 := dp_ex e9 _ _ d4
    have d5 := dp_ex e9 _ _ d5
    have d6 := dp_ex e9 _ _ d6
    -- parts
    refine qd_asg (K := K) (d := .list ((psl s l).map tI)) (ed_is (ed_call (R := R_plain_split) (ds := [.int s, tI l, .int N]) (by walk_at "dl") rfl ⟨s, l, N, rfl, h1, h2, hld, by omega, by omega, rfl⟩) ?_) fun v9 H10 e10 d9 => ?_
    · rw [if_pos (by omega), show (N - ((psl s l).length : Int)).toNat = 0 by omega, List.replicate_zero, List.append_nil]
    have d4 := dp_ex e10 _ _ d4
    have d5 := dp_ex e10 _ _ d5
    have d6 := dp_ex e10 _ _ d6
    have e5a := ((e57.trans e8).trans e9).trans e10
    -- 3
    refine q_when (b := false) (et_test (ev_is (ev_notB (EvD.bool (ed_call (R := R_is_plain_split) (ds := [.int s, tI l, .int N, .list ((psl s l).map tI)]) (by walk_at "dl") rfl ⟨s, l, N, psl s l, rfl, h1, h2, hld, by omega, by omega, f4, rfl⟩)) ev_c) rfl)) (fun h => nomatch h) fun _ H11 e11 => ?_
    have d4 := dp_ex e11 _ _ d4
    have d5 := dp_ex e11 _ _ d5
    have d6 := dp_ex e11 _ _ d6
    have d9 := dp_ex e11 _ _ d9
    -- 4
    refine q_when (b := false) (et_B (ev_callXn (K := K) (ds := [.int s, tI l, .int N]) (b := true) (by walk_at "dl") rfl ⟨s, l, N, rfl, h1, h2, hld, by omega, by omega⟩ fun r ⟨s', l', m', e', hr⟩ => ?_)) (fun h => nomatch h) fun _ H12 e12 => ?_
    · obtain ⟨rfl, rfl, rfl⟩ := inj3 e'
      rw [hr]
      exact decide_eq_true (by omega)
    have d4 := dp_ex e12 _ _ d4
    have d5 := dp_ex e12 _ _ d5
    have d6 := dp_ex e12 _ _ d6
    have d9 := dp_ex e12 _ _ d9
    -- 5
    refine q_when (b := false) (et_is (et_and (a := decide (0 < L)) (b := false) (et_test (ev_op (ev_var rfl) ev_c rv_I0)) fun hp => et_B (ev_callXn (K := K) (ds := [.int s, tI l, .int (L - 1)]) (b := true) (by walk_at "dl") rfl ⟨s, l, L - 1, rfl, h1, h2, hld, ?_, by omega⟩ fun r ⟨s', l', m', e', hr⟩ => ?_)) (Bool.and_false _)) (fun h => nomatch h) fun _ H13 e13 => ?_
    · have := of_decide_eq_true hp
      omega
    · obtain ⟨rfl, rfl, rfl⟩ := inj3 e'
      rw [if_neg (by omega)] at hr
      rw [hr]
      rfl
    have d4 := dp_ex e13 _ _ d4
    have d5 := dp_ex e13 _ _ d5
    have d6 := dp_ex e13 _ _ d6
    have d9 := dp_ex e13 _ _ d9
    -- 6
    refine q_when (b := false) (et_is (et_and (a := decide (0 < N)) (b := false) (et_test (ev_op (ev_var rfl) ev_c rv_I0)) fun hp => et_B (ev_notN (K := K) (d := .none) (ed_is (ed_call (R := R_plain_split) (ds := [.int s, tI l, .int (N - 1)]) (by walk_at "dl") rfl ⟨s, l, N - 1, rfl, h1, h2, hld, ?_, by omega, rfl⟩) ?_) rfl)) (Bool.and_false _)) (fun h => nomatch h) fun _ H14 e14 => ?_
    · have := of_decide_eq_true hp
      omega
    · rw [if_neg (by omega)]
    have d4 := dp_ex e14 _ _ d4
    have d5 := dp_ex e14 _ _ d5
    have d6 := dp_ex e14 _ _ d6
    have d9 := dp_ex e14 _ _ d9
    -- 7
    refine q_when (b := false) (et_is (et_and (a := decide (0 < N)) (b := false) (et_test (ev_op (ev_var rfl) ev_c rv_I0)) fun hp => et_B (ev_callX (K := K) (ds := [.int s, tI l, .int (N - 1)]) (b := false) (by walk_at "dl") rfl ⟨s, l, N - 1, rfl, h1, h2, hld, ?_, by omega⟩ fun r ⟨s', l', m', e', hr⟩ => ?_)) (Bool.and_false _)) (fun h => nomatch h) fun _ H15 e15 => ?_
    · have := of_decide_eq_true hp
      omega
    · obtain ⟨rfl, rfl, rfl⟩ := inj3 e'
      rw [hr]
      exact decide_eq_false (by omega)
    have d4 := dp_ex e15 _ _ d4
    have d5 := dp_ex e15 _ _ d5
    have d6 := dp_ex e15 _ _ d6
    have d9 := dp_ex e15 _ _ d9
    -- 8
    refine q_when (b := false) (et_test (ev_is (ev_op (EvD.int (ed_call (R := R_plain_need) (ds := [.int s, tI (zw (· + ·) l m)]) (by walk_at "dl") rfl ⟨s, _, rfl, h1, h2, hsd, rfl⟩)) (ev_op (ev_var rfl) (EvD.int (ed_call (R := R_plain_need) (ds := [.int s, tI m]) (by walk_at "dl") rfl ⟨s, _, rfl, h1, h2, hmd, rfl⟩)) rv_I0) rv_I0) (congrArg V.bl (decide_eq_false (by omega))))) (fun h => nomatch h) fun _ H16 e16 => ?_
    have d4 := dp_ex e16 _ _ d4
    have d6 := dp_ex e16 _ _ d6
    have d9 := dp_ex e16 _ _ d9
    -- 9
    refine q_when (b := false) (et_test (ev_is (ev_op (EvD.int (ed_call (R := R_plain_need) (ds := [.int s, tI (zw (· + ·) l m)]) (by walk_at "dl") rfl ⟨s, _, rfl, h1, h2, hsd, rfl⟩)) (ev_var rfl) rv_I0) (congrArg V.bl (decide_eq_false (by omega))))) (fun h => nomatch h) fun _ H17 e17 => ?_
    have d4 := dp_ex e17 _ _ d4
    have d9 := dp_ex e17 _ _ d9
    have e5b := ((((((e5a.trans e11).trans e12).trans e13).trans e14).trans e15).trans e16).trans e17
    -- two by two
    refine qn_asg (K := K) (en_lst eda_nil (by simp)) fun p ws H18 hp e18 h18 hd18 => ?_
    cases hd18
    have d4 := dp_ex e18 _ _ d4
    cases d9 with
    | @lst q9 w9 _ sq9 da9 =>
    obtain ⟨n, hn⟩ := Int.eq_ofNat_of_zero_le (show 0 ≤ N by omega)
    subst hn
    have psl_n : (psl s l).length = n := by omega
    have f4 : Adds s l (List.replicate n 1) (psl s l) := f4
    have lpr2 : ∀ i, (pr2 (psl s l) i).length = i := fun i => by rw [pr2, List.length_map, List.length_range]
    have pr2s : ∀ i, pr2 (psl s l) (i + 1) = pr2 (psl s l) i ++ [zw (· + ·) ((psl s l).getD (2 * i) []) ((psl s l).getD (2 * i + 1) [])] := fun i => by
      rw [pr2, List.range_succ, List.map_append]
      rfl
    have nh : ((n : Int) / 2).toNat = n / 2 := by omega
    show tSeq (tFor _ _ _) _ _ [some (.ref a), some (.ref st), some y, some (.int s), some v4, some v5, some v6, some (.int L), some (.int (n : Int)), some (.ref q9), some (.ref p), c11, c12, c13] H18
    refine e_for (S := [p]) (ei_rng1 (K := K) (n := (n : Int) / 2) (eda_cons (ed_int (ev_op (ev_var rfl) ev_c (rv_I ⟨by decide, by decide⟩))) eda_nil) ⟨by omega, by omega⟩) (fun H2 i σ' Ha => Xp [p] H2 Ha ∧ ∃ ws c11, Ha p = some (.lst ws) ∧ DpAll K Ha ws ((pr2 (psl s l) i).map tI) ∧ σ' = [some (.ref a), some (.ref st), some y, some (.int s), some v4, some v5, some v6, some (.int L), some (.int (n : Int)), some (.ref q9), some (.ref p), c11, c12, c13])
      (fun H2 e2 => ⟨Xp.refl _ _, [], c11, e2 _ _ h18, .nil, rfl⟩) (fun H2 i σ' Ha _ z => z.1) ?_ ?_
    · rintro H19 j d z σ' Hc Hd e19 hdj ⟨xq, ws, c11, hpc, dws, rfl⟩ ed hz
      have hj : j < n / 2 := by
        have : j < ((n : Int) / 2).toNat := by simpa using (List.getElem?_eq_some_iff.mp hdj).1
        omega
      rw [rng_get (by omega)] at hdj
      cases hdj
      cases dp_int hz
      have l0 : 2 * j < (psl s l).length := by omega
      have l1 : 2 * j + 1 < (psl s l).length := by omega
      have g0 : ((psl s l).map tI)[2 * j]? = some (tI ((psl s l).getD (2 * j) [])) := by rw [List.getElem?_map, List.getElem?_eq_getElem l0, List.getD_eq_getElem?_getD, List.getElem?_eq_getElem l0]; rfl
      have g1 : ((psl s l).map tI)[2 * j + 1]? = some (tI ((psl s l).getD (2 * j + 1) [])) := by rw [List.getElem?_map, List.getElem?_eq_getElem l1, List.getD_eq_getElem?_getD, List.getElem?_eq_getElem l1]; rfl
      have tx : Tx H17 Hd := ((Tx.of_ex (e18.trans e19)).trans (xq.tx (Ls.one (e19 _ _ h18)))).trans (Tx.of_ex ed)
      have d9 : Dp K Hd (.ref q9) (.list ((psl s l).map tI)) := .lst (ex_l ed (sqL_xp sq9 hp (e18.trans e19) xq)) (dpa_tx tx _ _ (immAll_tI _) da9)
      have hpd := ed _ _ hpc
      have lws := dpa_len dws
      rw [List.length_map, lpr2] at lws
      have lg0 : ((psl s l).getD (2 * j) []).length = np s := by
        rw [List.getD_eq_getElem?_getD, List.getElem?_eq_getElem l0]
        exact (f4.ld _ (List.getElem_mem l0)).1
      refine gN (i := 11) ?_
      refine d_app (K := K) (d := tI (zw (· + ·) ((psl s l).getD (2 * j) []) ((psl s l).getD (2 * j + 1) []))) hpd (ev_var rfl) (ed_zipsum rfl (ed_ixL (K := K) (k := 2 * j) (ed_var rfl d9) (ev_is (ev_op ev_c (ev_var (v := .int (j : Int)) rfl) (rv_I (.inl ⟨by decide, by decide⟩))) (congrArg V.int (by omega))) g0)
        (ed_ixL (K := K) (k := 2 * j + 1) (ed_var rfl d9) (ev_is (ev_op (ev_op ev_c (ev_var (v := .int (j : Int)) rfl) (rv_I (.inl ⟨by decide, by decide⟩))) ev_c rv_I0) (congrArg V.int (by omega))) g1) (by rw [lg0]; omega)) (by omega) fun v He ee hv => ?_
      have hpe := ee _ _ hpd
      refine ⟨Xp.upd (xq.then (ed.trans ee)) (by simp), _, _, upd_same, ?_, rfl⟩
      rw [pr2s, List.map_append]
      exact dpa_app (dpa_tx (Tx.lst hpe) _ _ (immAll_tI _) (dpa_ex (ed.trans ee) _ _ dws)) (.cons (dp_tx (Tx.lst hpe) _ _ (imm_tI _) hv) .nil)
    · rintro H19 σ' Hc e19 ⟨xq, ws, c11, hpc, dws, rfl⟩
      rw [List.length_map, List.length_range, nh] at dws
      have tx : Tx H17 Hc := (Tx.of_ex (e18.trans e19)).trans (xq.tx (Ls.one (e19 _ _ h18)))
      have d9 : Dp K Hc (.ref q9) (.list ((psl s l).map tI)) := .lst (sqL_xp sq9 hp (e18.trans e19) xq) (dpa_tx tx _ _ (immAll_tI _) da9)
      have d4 := dp_tx ((Tx.of_ex e19).trans (xq.tx (Ls.one (e19 _ _ h18)))) _ _ (imm_tI _) d4
      have ex17 : Ex H17 Hc := xp_fresh (e18.trans e19) xq hp
      refine qn_asg (K := K) (ds := (pr2 (psl s l) (n / 2) ++ (psl s l).drop (2 * (n / 2))).map tI) (en_is (en_cat (eq_var rfl hpc dws) (EvN.toQ (en_sl (K := K) (lo := some ((2 * (n / 2) : Nat) : Int)) (ed_var rfl d9) (eo_some (ev_is (ev_op ev_c (ev_op (ev_var rfl) ev_c (rv_I ⟨by decide, by decide⟩)) (rv_I (.inl ⟨by decide, by decide⟩))) (congrArg V.int (by omega)))) eo_none)) ?_) ?_) fun p2 w2 He hp2 ee h2' dw2 => ?_
      · rw [cut_drop (by rw [List.length_map]; omega), List.length_map, lpr2, List.length_drop, List.length_map]
        omega
      · rw [cut_drop (by rw [List.length_map]; omega), List.map_append, List.map_drop]
      have d4 := dp_ex ee _ _ d4
      have dl2 : Dp K He (.ref p2) (.list ((pr2 (psl s l) (n / 2) ++ (psl s l).drop (2 * (n / 2))).map tI)) := .lst (sq_of h2') dw2
      have lp2 : (pr2 (psl s l) (n / 2) ++ (psl s l).drop (2 * (n / 2))).length ≤ 1000 := by
        rw [List.length_append, lpr2, List.length_drop]
        omega
      refine s_when (b := false) (et_test (ev_is (ev_notB (EvD.bool (ed_call (R := R_is_crossed_split) (ds := [.int s, tI l, .int (n : Int), .list ((pr2 (psl s l) (n / 2) ++ (psl s l).drop (2 * (n / 2))).map tI)]) (by walk_at "dl") rfl ⟨s, l, (n : Int), _, rfl, h1, by omega, hld, by omega, by omega, pairs_add h1 h2 f4, rfl⟩)) ev_c) rfl)) (fun h => nomatch h) fun _ Hf ef => ?_
      have eend := ((e5b.trans ex17).trans ee).trans ef
      exact ⟨xp.then eend, stk_mono (by omega) (stk_ex eend s5), _, _, _, _, _, _, _, _, _, _, _, _, rfl⟩
  · rintro H2 σ' Ha e2 ⟨xp, s2, c2, c3, c4, c5, c6, c7, c8, c9, c10, c11, c12, c13, rfl⟩
    exact k _

end
end K20
set_option Elab.async false
set_option linter.all false
set_option maxRecDepth 100000
set_option maxHeartbeats 4000000
namespace K20
open PySem PySem.Spec PyProof.Rows L2 Evl DL
theorem all_mk {l : PySem.W.OpenLaw} {w : World} {K : PySem.W.Frag} {h : Heap} {mg : Str → Option Value} {fa : Addr} (X : K.In h) (G : h.Ns mainGlobals mg) (hfa : mg "law" = some (.ref fa))
    {f0 f1 f2 f3 f4 f5 f6 f7 f8 f9 f10 f11 f12 f13 f14 f15 f16 f17 f18 f19 f20 f21 f22 f23 f24 f25 f26 f27 f28 f29 f30 f31 f32 f33 f34 f35 f36 f37 f38 f39 f40 : Addr} {od0 an0 od1 an1 od2 an2 od3 an3 od4 an4 od5 an5 od6 an6 od7 an7 od8 an8 od9 an9 od10 an10 od11 an11 od12 an12 od13 an13 od14 an14 od15 an15 od16 an16 od17 an17 od18 an18 od19 an19 od20 an20 od21 an21 od22 an22 od23 an23 od24 an24 od25 an25 od26 an26 od27 an27 od28 an28 od29 an29 od30 an30 od31 an31 od32 an32 od33 an33 od34 an34 od35 an35 od36 an36 od37 an37 od38 an38 od39 an39 od40 an40 : Option Addr} {sl0 sl1 sl2 sl3 sl4 sl5 sl6 sl7 sl8 sl9 sl10 sl11 sl12 sl13 sl14 sl15 sl16 sl17 sl18 sl19 sl20 sl21 sl22 sl23 sl24 sl25 sl26 sl27 sl28 sl29 sl30 sl31 sl32 sl33 sl34 sl35 sl36 sl37 sl38 sl39 sl40 : Array (Option Value)}
    {oc0 kV0 dc0 pm0 cd0 ct0 oc1 kV1 dc1 pm1 cd1 ct1 oc2 kV2 dc2 pm2 cd2 ct2 oc3 kV3 dc3 pm3 cd3 ct3 oc4 kV4 dc4 pm4 cd4 ct4 oc5 kV5 dc5 pm5 cd5 ct5 oc6 kV6 dc6 pm6 cd6 ct6 oc7 kV7 dc7 pm7 cd7 ct7 oc8 kV8 dc8 pm8 cd8 ct8 oc9 kV9 dc9 pm9 cd9 ct9 oc10 kV10 dc10 pm10 cd10 ct10 oc11 kV11 dc11 pm11 cd11 ct11 oc12 kV12 dc12 pm12 cd12 ct12 oc13 kV13 dc13 pm13 cd13 ct13 oc14 kV14 dc14 pm14 cd14 ct14 oc15 kV15 dc15 pm15 cd15 ct15 oc16 kV16 dc16 pm16 cd16 ct16 oc17 kV17 dc17 pm17 cd17 ct17 oc18 kV18 dc18 pm18 cd18 ct18 oc19 kV19 dc19 pm19 cd19 ct19 oc20 kV20 dc20 pm20 cd20 ct20 oc21 kV21 dc21 pm21 cd21 ct21 oc22 kV22 dc22 pm22 cd22 ct22 oc23 kV23 dc23 pm23 cd23 ct23 oc24 kV24 dc24 pm24 cd24 ct24 oc25 kV25 dc25 pm25 cd25 ct25 oc26 kV26 dc26 pm26 cd26 ct26 oc27 kV27 dc27 pm27 cd27 ct27 oc28 kV28 dc28 pm28 cd28 ct28 oc29 kV29 dc29 pm29 cd29 ct29 oc30 kV30 dc30 pm30 cd30 ct30 oc31 kV31 dc31 pm31 cd31 ct31 oc32 kV32 dc32 pm32 cd32 ct32 oc33 kV33 dc33 pm33 cd33 ct33 oc34 kV34 dc34 pm34 cd34 ct34 oc35 kV35 dc35 pm35 cd35 ct35 oc36 kV36 dc36 pm36 cd36 ct36 oc37 kV37 dc37 pm37 cd37 ct37 oc38 kV38 dc38 pm38 cd38 ct38 oc39 kV39 dc39 pm39 cd39 ct39 oc40 kV40 dc40 pm40 cd40 ct40 : Value} {t0 t1 t2 t3 t4 : Tok}
    (a0 : PySem.W.nsIn K mainGlobals "_law_begun" = some (some (.ref f0))) (l0 : K.lookup f0 = some ⟨oc0, od0, .func (PySem.W.fnOf "_law_begun" "_law_begun" (defArgs s__law_begun) (defBody s__law_begun) (defScope s__law_begun) .none kV0 dc0 pm0 an0 cd0 ct0), sl0⟩) (c0 : PySem.W.codeIn K cd0 "_law_begun" = true) (k0 : PySem.W.keepIn K (.ref f0) = true)
    (a1 : PySem.W.nsIn K mainGlobals "_law_draw" = some (some (.ref f1))) (l1 : K.lookup f1 = some ⟨oc1, od1, .func (PySem.W.fnOf "_law_draw" "_law_draw" (defArgs s__law_draw) (defBody s__law_draw) (defScope s__law_draw) .none kV1 dc1 pm1 an1 cd1 ct1), sl1⟩) (c1 : PySem.W.codeIn K cd1 "_law_draw" = true) (k1 : PySem.W.keepIn K (.ref f1) = true)
    (a2 : PySem.W.nsIn K mainGlobals "_law_pairs" = some (some (.ref f2))) (l2 : K.lookup f2 = some ⟨oc2, od2, .func (PySem.W.fnOf "_law_pairs" "_law_pairs" (defArgs s__law_pairs) (defBody s__law_pairs) (defScope s__law_pairs) .none kV2 dc2 pm2 an2 cd2 ct2), sl2⟩) (c2 : PySem.W.codeIn K cd2 "_law_pairs" = true) (k2 : PySem.W.keepIn K (.ref f2) = true)
    (a3 : PySem.W.nsIn K mainGlobals "_law_pick" = some (some (.ref f3))) (l3 : K.lookup f3 = some ⟨oc3, od3, .func (PySem.W.fnOf "_law_pick" "_law_pick" (defArgs s__law_pick) (defBody s__law_pick) (defScope s__law_pick) .none kV3 dc3 pm3 an3 cd3 ct3), sl3⟩) (c3 : PySem.W.codeIn K cd3 "_law_pick" = true) (k3 : PySem.W.keepIn K (.ref f3) = true)
    (a4 : PySem.W.nsIn K mainGlobals "_law_drawn" = some (some (.ref f4))) (l4 : K.lookup f4 = some ⟨oc4, od4, .func (PySem.W.fnOf "_law_drawn" "_law_drawn" (defArgs s__law_drawn) (defBody s__law_drawn) (defScope s__law_drawn) .none kV4 dc4 pm4 an4 cd4 ct4), sl4⟩) (c4 : PySem.W.codeIn K cd4 "_law_drawn" = true) (k4 : PySem.W.keepIn K (.ref f4) = true)
    (a5 : PySem.W.nsIn K mainGlobals "is_tuple_of" = some (some (.ref f5))) (l5 : K.lookup f5 = some ⟨oc5, od5, .func (PySem.W.fnOf "is_tuple_of" "is_tuple_of" (defArgs s_is_tuple_of) (defBody s_is_tuple_of) (defScope s_is_tuple_of) .none kV5 dc5 pm5 an5 cd5 ct5), sl5⟩) (c5 : PySem.W.codeIn K cd5 "is_tuple_of" = true) (k5 : PySem.W.keepIn K (.ref f5) = true)
    (a6 : PySem.W.nsIn K mainGlobals "is_number" = some (some (.ref f6))) (l6 : K.lookup f6 = some ⟨oc6, od6, .func (PySem.W.fnOf "is_number" "is_number" (defArgs s_is_number) (defBody s_is_number) (defScope s_is_number) .none kV6 dc6 pm6 an6 cd6 ct6), sl6⟩) (c6 : PySem.W.codeIn K cd6 "is_number" = true) (k6 : PySem.W.keepIn K (.ref f6) = true)
    (a7 : PySem.W.nsIn K mainGlobals "is_within" = some (some (.ref f7))) (l7 : K.lookup f7 = some ⟨oc7, od7, .func (PySem.W.fnOf "is_within" "is_within" (defArgs s_is_within) (defBody s_is_within) (defScope s_is_within) .none kV7 dc7 pm7 an7 cd7 ct7), sl7⟩) (c7 : PySem.W.codeIn K cd7 "is_within" = true) (k7 : PySem.W.keepIn K (.ref f7) = true)
    (a8 : PySem.W.nsIn K mainGlobals "side_pairs" = some (some (.ref f8))) (l8 : K.lookup f8 = some ⟨oc8, od8, .func (PySem.W.fnOf "side_pairs" "side_pairs" (defArgs s_side_pairs) (defBody s_side_pairs) (defScope s_side_pairs) .none kV8 dc8 pm8 an8 cd8 ct8), sl8⟩) (c8 : PySem.W.codeIn K cd8 "side_pairs" = true) (k8 : PySem.W.keepIn K (.ref f8) = true)
    (a9 : PySem.W.nsIn K mainGlobals "is_load_up_to" = some (some (.ref f9))) (l9 : K.lookup f9 = some ⟨oc9, od9, .func (PySem.W.fnOf "is_load_up_to" "is_load_up_to" (defArgs s_is_load_up_to) (defBody s_is_load_up_to) (defScope s_is_load_up_to) .none kV9 dc9 pm9 an9 cd9 ct9), sl9⟩) (c9 : PySem.W.codeIn K cd9 "is_load_up_to" = true) (k9 : PySem.W.keepIn K (.ref f9) = true)
    (a10 : PySem.W.nsIn K mainGlobals "is_load_of" = some (some (.ref f10))) (l10 : K.lookup f10 = some ⟨oc10, od10, .func (PySem.W.fnOf "is_load_of" "is_load_of" (defArgs s_is_load_of) (defBody s_is_load_of) (defScope s_is_load_of) .none kV10 dc10 pm10 an10 cd10 ct10), sl10⟩) (c10 : PySem.W.codeIn K cd10 "is_load_of" = true) (k10 : PySem.W.keepIn K (.ref f10) = true)
    (a11 : PySem.W.nsIn K mainGlobals "check_load" = some (some (.ref f11))) (l11 : K.lookup f11 = some ⟨oc11, od11, .func (PySem.W.fnOf "check_load" "check_load" (defArgs s_check_load) (defBody s_check_load) (defScope s_check_load) .none kV11 dc11 pm11 an11 cd11 ct11), sl11⟩) (c11 : PySem.W.codeIn K cd11 "check_load" = true) (k11 : PySem.W.keepIn K (.ref f11) = true)
    (a12 : PySem.W.nsIn K mainGlobals "check_room" = some (some (.ref f12))) (l12 : K.lookup f12 = some ⟨oc12, od12, .func (PySem.W.fnOf "check_room" "check_room" (defArgs s_check_room) (defBody s_check_room) (defScope s_check_room) .none kV12 dc12 pm12 an12 cd12 ct12), sl12⟩) (c12 : PySem.W.codeIn K cd12 "check_room" = true) (k12 : PySem.W.keepIn K (.ref f12) = true)
    (a13 : PySem.W.nsIn K mainGlobals "check_sides" = some (some (.ref f13))) (l13 : K.lookup f13 = some ⟨oc13, od13, .func (PySem.W.fnOf "check_sides" "check_sides" (defArgs s_check_sides) (defBody s_check_sides) (defScope s_check_sides) .none kV13 dc13 pm13 an13 cd13 ct13), sl13⟩) (c13 : PySem.W.codeIn K cd13 "check_sides" = true) (k13 : PySem.W.keepIn K (.ref f13) = true)
    (a14 : PySem.W.nsIn K mainGlobals "sums_at_sides" = some (some (.ref f14))) (l14 : K.lookup f14 = some ⟨oc14, od14, .func (PySem.W.fnOf "sums_at_sides" "sums_at_sides" (defArgs s_sums_at_sides) (defBody s_sums_at_sides) (defScope s_sums_at_sides) .none kV14 dc14 pm14 an14 cd14 ct14), sl14⟩) (c14 : PySem.W.codeIn K cd14 "sums_at_sides" = true) (k14 : PySem.W.keepIn K (.ref f14) = true)
    (a15 : PySem.W.nsIn K mainGlobals "is_let" = some (some (.ref f15))) (l15 : K.lookup f15 = some ⟨oc15, od15, .func (PySem.W.fnOf "is_let" "is_let" (defArgs s_is_let) (defBody s_is_let) (defScope s_is_let) .none kV15 dc15 pm15 an15 cd15 ct15), sl15⟩) (c15 : PySem.W.codeIn K cd15 "is_let" = true) (k15 : PySem.W.keepIn K (.ref f15) = true)
    (a16 : PySem.W.nsIn K mainGlobals "mates_rooms" = some (some (.ref f16))) (l16 : K.lookup f16 = some ⟨oc16, od16, .func (PySem.W.fnOf "mates_rooms" "mates_rooms" (defArgs s_mates_rooms) (defBody s_mates_rooms) (defScope s_mates_rooms) .none kV16 dc16 pm16 an16 cd16 ct16), sl16⟩) (c16 : PySem.W.codeIn K cd16 "mates_rooms" = true) (k16 : PySem.W.keepIn K (.ref f16) = true)
    (a17 : PySem.W.nsIn K mainGlobals "is_below" = some (some (.ref f17))) (l17 : K.lookup f17 = some ⟨oc17, od17, .func (PySem.W.fnOf "is_below" "is_below" (defArgs s_is_below) (defBody s_is_below) (defScope s_is_below) .none kV17 dc17 pm17 an17 cd17 ct17), sl17⟩) (c17 : PySem.W.codeIn K cd17 "is_below" = true) (k17 : PySem.W.keepIn K (.ref f17) = true)
    (a18 : PySem.W.nsIn K mainGlobals "let_loads" = some (some (.ref f18))) (l18 : K.lookup f18 = some ⟨oc18, od18, .func (PySem.W.fnOf "let_loads" "let_loads" (defArgs s_let_loads) (defBody s_let_loads) (defScope s_let_loads) .none kV18 dc18 pm18 an18 cd18 ct18), sl18⟩) (c18 : PySem.W.codeIn K cd18 "let_loads" = true) (k18 : PySem.W.keepIn K (.ref f18) = true)
    (a19 : PySem.W.nsIn K mainGlobals "reduced" = some (some (.ref f19))) (l19 : K.lookup f19 = some ⟨oc19, od19, .func (PySem.W.fnOf "reduced" "reduced" (defArgs s_reduced) (defBody s_reduced) (defScope s_reduced) .none kV19 dc19 pm19 an19 cd19 ct19), sl19⟩) (c19 : PySem.W.codeIn K cd19 "reduced" = true) (k19 : PySem.W.keepIn K (.ref f19) = true)
    (a20 : PySem.W.nsIn K mainGlobals "part_off" = some (some (.ref f20))) (l20 : K.lookup f20 = some ⟨oc20, od20, .func (PySem.W.fnOf "part_off" "part_off" (defArgs s_part_off) (defBody s_part_off) (defScope s_part_off) .none kV20 dc20 pm20 an20 cd20 ct20), sl20⟩) (c20 : PySem.W.codeIn K cd20 "part_off" = true) (k20 : PySem.W.keepIn K (.ref f20) = true)
    (a21 : PySem.W.nsIn K mainGlobals "crossed_split" = some (some (.ref f21))) (l21 : K.lookup f21 = some ⟨oc21, od21, .func (PySem.W.fnOf "crossed_split" "crossed_split" (defArgs s_crossed_split) (defBody s_crossed_split) (defScope s_crossed_split) .none kV21 dc21 pm21 an21 cd21 ct21), sl21⟩) (c21 : PySem.W.codeIn K cd21 "crossed_split" = true) (k21 : PySem.W.keepIn K (.ref f21) = true)
    (a22 : PySem.W.nsIn K mainGlobals "is_row" = some (some (.ref f22))) (l22 : K.lookup f22 = some ⟨oc22, od22, .func (PySem.W.fnOf "is_row" "is_row" (defArgs s_is_row) (defBody s_is_row) (defScope s_is_row) .none kV22 dc22 pm22 an22 cd22 ct22), sl22⟩) (c22 : PySem.W.codeIn K cd22 "is_row" = true) (k22 : PySem.W.keepIn K (.ref f22) = true)
    (a23 : PySem.W.nsIn K mainGlobals "no_wires" = some (some (.ref f23))) (l23 : K.lookup f23 = some ⟨oc23, od23, .func (PySem.W.fnOf "no_wires" "no_wires" (defArgs s_no_wires) (defBody s_no_wires) (defScope s_no_wires) .none kV23 dc23 pm23 an23 cd23 ct23), sl23⟩) (c23 : PySem.W.codeIn K cd23 "no_wires" = true) (k23 : PySem.W.keepIn K (.ref f23) = true)
    (a24 : PySem.W.nsIn K mainGlobals "summed" = some (some (.ref f24))) (l24 : K.lookup f24 = some ⟨oc24, od24, .func (PySem.W.fnOf "summed" "summed" (defArgs s_summed) (defBody s_summed) (defScope s_summed) .none kV24 dc24 pm24 an24 cd24 ct24), sl24⟩) (c24 : PySem.W.codeIn K cd24 "summed" = true) (k24 : PySem.W.keepIn K (.ref f24) = true)
    (a25 : PySem.W.nsIn K mainGlobals "adds_up" = some (some (.ref f25))) (l25 : K.lookup f25 = some ⟨oc25, od25, .func (PySem.W.fnOf "adds_up" "adds_up" (defArgs s_adds_up) (defBody s_adds_up) (defScope s_adds_up) .none kV25 dc25 pm25 an25 cd25 ct25), sl25⟩) (c25 : PySem.W.codeIn K cd25 "adds_up" = true) (k25 : PySem.W.keepIn K (.ref f25) = true)
    (a26 : PySem.W.nsIn K mainGlobals "is_crossed_split" = some (some (.ref f26))) (l26 : K.lookup f26 = some ⟨oc26, od26, .func (PySem.W.fnOf "is_crossed_split" "is_crossed_split" (defArgs s_is_crossed_split) (defBody s_is_crossed_split) (defScope s_is_crossed_split) .none kV26 dc26 pm26 an26 cd26 ct26), sl26⟩) (c26 : PySem.W.codeIn K cd26 "is_crossed_split" = true) (k26 : PySem.W.keepIn K (.ref f26) = true)
    (a27 : PySem.W.nsIn K mainGlobals "check_plain_load" = some (some (.ref f27))) (l27 : K.lookup f27 = some ⟨oc27, od27, .func (PySem.W.fnOf "check_plain_load" "check_plain_load" (defArgs s_check_plain_load) (defBody s_check_plain_load) (defScope s_check_plain_load) .none kV27 dc27 pm27 an27 cd27 ct27), sl27⟩) (c27 : PySem.W.codeIn K cd27 "check_plain_load" = true) (k27 : PySem.W.keepIn K (.ref f27) = true)
    (a28 : PySem.W.nsIn K mainGlobals "is_plain_split" = some (some (.ref f28))) (l28 : K.lookup f28 = some ⟨oc28, od28, .func (PySem.W.fnOf "is_plain_split" "is_plain_split" (defArgs s_is_plain_split) (defBody s_is_plain_split) (defScope s_is_plain_split) .none kV28 dc28 pm28 an28 cd28 ct28), sl28⟩) (c28 : PySem.W.codeIn K cd28 "is_plain_split" = true) (k28 : PySem.W.keepIn K (.ref f28) = true)
    (a29 : PySem.W.nsIn K mainGlobals "pair_place" = some (some (.ref f29))) (l29 : K.lookup f29 = some ⟨oc29, od29, .func (PySem.W.fnOf "pair_place" "pair_place" (defArgs s_pair_place) (defBody s_pair_place) (defScope s_pair_place) .none kV29 dc29 pm29 an29 cd29 ct29), sl29⟩) (c29 : PySem.W.codeIn K cd29 "pair_place" = true) (k29 : PySem.W.keepIn K (.ref f29) = true)
    (a30 : PySem.W.nsIn K mainGlobals "sum_in_triangle" = some (some (.ref f30))) (l30 : K.lookup f30 = some ⟨oc30, od30, .func (PySem.W.fnOf "sum_in_triangle" "sum_in_triangle" (defArgs s_sum_in_triangle) (defBody s_sum_in_triangle) (defScope s_sum_in_triangle) .none kV30 dc30 pm30 an30 cd30 ct30), sl30⟩) (c30 : PySem.W.codeIn K cd30 "sum_in_triangle" = true) (k30 : PySem.W.keepIn K (.ref f30) = true)
    (a31 : PySem.W.nsIn K mainGlobals "triangles" = some (some (.ref f31))) (l31 : K.lookup f31 = some ⟨oc31, od31, .func (PySem.W.fnOf "triangles" "triangles" (defArgs s_triangles) (defBody s_triangles) (defScope s_triangles) .none kV31 dc31 pm31 an31 cd31 ct31), sl31⟩) (c31 : PySem.W.codeIn K cd31 "triangles" = true) (k31 : PySem.W.keepIn K (.ref f31) = true)
    (a32 : PySem.W.nsIn K mainGlobals "plain_bar" = some (some (.ref f32))) (l32 : K.lookup f32 = some ⟨oc32, od32, .func (PySem.W.fnOf "plain_bar" "plain_bar" (defArgs s_plain_bar) (defBody s_plain_bar) (defScope s_plain_bar) .none kV32 dc32 pm32 an32 cd32 ct32), sl32⟩) (c32 : PySem.W.codeIn K cd32 "plain_bar" = true) (k32 : PySem.W.keepIn K (.ref f32) = true)
    (a33 : PySem.W.nsIn K mainGlobals "need_of" = some (some (.ref f33))) (l33 : K.lookup f33 = some ⟨oc33, od33, .func (PySem.W.fnOf "need_of" "need_of" (defArgs s_need_of) (defBody s_need_of) (defScope s_need_of) .none kV33 dc33 pm33 an33 cd33 ct33), sl33⟩) (c33 : PySem.W.codeIn K cd33 "need_of" = true) (k33 : PySem.W.keepIn K (.ref f33) = true)
    (a34 : PySem.W.nsIn K mainGlobals "plain_need" = some (some (.ref f34))) (l34 : K.lookup f34 = some ⟨oc34, od34, .func (PySem.W.fnOf "plain_need" "plain_need" (defArgs s_plain_need) (defBody s_plain_need) (defScope s_plain_need) .none kV34 dc34 pm34 an34 cd34 ct34), sl34⟩) (c34 : PySem.W.codeIn K cd34 "plain_need" = true) (k34 : PySem.W.keepIn K (.ref f34) = true)
    (a35 : PySem.W.nsIn K mainGlobals "pairings" = some (some (.ref f35))) (l35 : K.lookup f35 = some ⟨oc35, od35, .func (PySem.W.fnOf "pairings" "pairings" (defArgs s_pairings) (defBody s_pairings) (defScope s_pairings) .none kV35 dc35 pm35 an35 cd35 ct35), sl35⟩) (c35 : PySem.W.codeIn K cd35 "pairings" = true) (k35 : PySem.W.keepIn K (.ref f35) = true)
    (a36 : PySem.W.nsIn K mainGlobals "raised" = some (some (.ref f36))) (l36 : K.lookup f36 = some ⟨oc36, od36, .func (PySem.W.fnOf "raised" "raised" (defArgs s_raised) (defBody s_raised) (defScope s_raised) .none kV36 dc36 pm36 an36 cd36 ct36), sl36⟩) (c36 : PySem.W.codeIn K cd36 "raised" = true) (k36 : PySem.W.keepIn K (.ref f36) = true)
    (a37 : PySem.W.nsIn K mainGlobals "tracks_of" = some (some (.ref f37))) (l37 : K.lookup f37 = some ⟨oc37, od37, .func (PySem.W.fnOf "tracks_of" "tracks_of" (defArgs s_tracks_of) (defBody s_tracks_of) (defScope s_tracks_of) .none kV37 dc37 pm37 an37 cd37 ct37), sl37⟩) (c37 : PySem.W.codeIn K cd37 "tracks_of" = true) (k37 : PySem.W.keepIn K (.ref f37) = true)
    (a38 : PySem.W.nsIn K mainGlobals "plain_split" = some (some (.ref f38))) (l38 : K.lookup f38 = some ⟨oc38, od38, .func (PySem.W.fnOf "plain_split" "plain_split" (defArgs s_plain_split) (defBody s_plain_split) (defScope s_plain_split) .none kV38 dc38 pm38 an38 cd38 ct38), sl38⟩) (c38 : PySem.W.codeIn K cd38 "plain_split" = true) (k38 : PySem.W.keepIn K (.ref f38) = true)
    (a39 : PySem.W.nsIn K mainGlobals "side_sums" = some (some (.ref f39))) (l39 : K.lookup f39 = some ⟨oc39, od39, .func (PySem.W.fnOf "side_sums" "side_sums" (defArgs s_side_sums) (defBody s_side_sums) (defScope s_side_sums) .none kV39 dc39 pm39 an39 cd39 ct39), sl39⟩) (c39 : PySem.W.codeIn K cd39 "side_sums" = true) (k39 : PySem.W.keepIn K (.ref f39) = true)
    (a40 : PySem.W.nsIn K mainGlobals "law" = some (some (.ref f40))) (l40 : K.lookup f40 = some ⟨oc40, od40, .func (PySem.W.fnOf "law" "law" (defArgs s_law) (defBody s_law) (defScope s_law) .none kV40 dc40 pm40 an40 cd40 ct40), sl40⟩) (c40 : PySem.W.codeIn K cd40 "law" = true) (k40 : PySem.W.keepIn K (.ref f40) = true)
    (b0 : PySem.W.nsIn K mainGlobals "isinstance" = some none)
    (b1 : PySem.W.nsIn K mainGlobals "int" = some none)
    (b2 : PySem.W.nsIn K mainGlobals "bool" = some none)
    (b3 : PySem.W.nsIn K mainGlobals "tuple" = some none)
    (b4 : PySem.W.nsIn K mainGlobals "list" = some none)
    (b5 : PySem.W.nsIn K mainGlobals "len" = some none)
    (b6 : PySem.W.nsIn K mainGlobals "range" = some none)
    (b7 : PySem.W.nsIn K mainGlobals "zip" = some none)
    (b8 : PySem.W.nsIn K mainGlobals "max" = some none)
    (b9 : PySem.W.nsIn K mainGlobals "min" = some none)
    (b10 : PySem.W.nsIn K mainGlobals "sum" = some none)
    (b11 : PySem.W.nsIn K mainGlobals "abs" = some none)
    (n0 : PySem.W.nsIn K mainGlobals "MOST_SIDES" = some (some (.int 5 t0)))
    (n1 : PySem.W.nsIn K mainGlobals "MOST_NUMBER" = some (some (.int 99 t1)))
    (n2 : PySem.W.nsIn K mainGlobals "MOST_PLAIN_SIDES" = some (some (.int 4 t2)))
    (n3 : PySem.W.nsIn K mainGlobals "MOST_ROOM" = some (some (.int 99 t3)))
    (n4 : PySem.W.nsIn K mainGlobals "MOST_LET" = some (some (.int 20000 t4)))
    : ∃ fd : FuncData, (∀ (s : Shared) (v : Value), BindsTo s fd ⟨[v], []⟩ [("script", v)]) ∧ ∀ base : Heap, K.In base → base.Ns mainGlobals mg → FnOk l.prog w K mg base CX0 8 fa fd ["script"] (spLaw K) := by
  have e := hfa.symm.trans (PySem.W.mg_of X G a40)
  cases e
  have T : Txt mg := ⟨PySem.W.mg_none_of X G b0, PySem.W.mg_none_of X G b1, PySem.W.mg_none_of X G b2, PySem.W.mg_none_of X G b3, PySem.W.mg_none_of X G b4, PySem.W.mg_none_of X G b5, PySem.W.mg_none_of X G b6, PySem.W.mg_none_of X G b7, PySem.W.mg_none_of X G b8, PySem.W.mg_none_of X G b9, PySem.W.mg_none_of X G b10, PySem.W.mg_none_of X G b11, ⟨_, PySem.W.mg_of X G n0⟩, ⟨_, PySem.W.mg_of X G n1⟩, ⟨_, PySem.W.mg_of X G n2⟩, ⟨_, PySem.W.mg_of X G n3⟩, ⟨_, PySem.W.mg_of X G n4⟩⟩
  have F0 := fun_mk (st := s__law_begun) l0 c0 k0
  have F1 := fun_mk (st := s__law_draw) l1 c1 k1
  have F2 := fun_mk (st := s__law_pairs) l2 c2 k2
  have F3 := fun_mk (st := s__law_pick) l3 c3 k3
  have F4 := fun_mk (st := s__law_drawn) l4 c4 k4
  have F5 := fun_mk (st := s_is_tuple_of) l5 c5 k5
  have F6 := fun_mk (st := s_is_number) l6 c6 k6
  have F7 := fun_mk (st := s_is_within) l7 c7 k7
  have F8 := fun_mk (st := s_side_pairs) l8 c8 k8
  have F9 := fun_mk (st := s_is_load_up_to) l9 c9 k9
  have F10 := fun_mk (st := s_is_load_of) l10 c10 k10
  have F11 := fun_mk (st := s_check_load) l11 c11 k11
  have F12 := fun_mk (st := s_check_room) l12 c12 k12
  have F13 := fun_mk (st := s_check_sides) l13 c13 k13
  have F14 := fun_mk (st := s_sums_at_sides) l14 c14 k14
  have F15 := fun_mk (st := s_is_let) l15 c15 k15
  have F16 := fun_mk (st := s_mates_rooms) l16 c16 k16
  have F17 := fun_mk (st := s_is_below) l17 c17 k17
  have F18 := fun_mk (st := s_let_loads) l18 c18 k18
  have F19 := fun_mk (st := s_reduced) l19 c19 k19
  have F20 := fun_mk (st := s_part_off) l20 c20 k20
  have F21 := fun_mk (st := s_crossed_split) l21 c21 k21
  have F22 := fun_mk (st := s_is_row) l22 c22 k22
  have F23 := fun_mk (st := s_no_wires) l23 c23 k23
  have F24 := fun_mk (st := s_summed) l24 c24 k24
  have F25 := fun_mk (st := s_adds_up) l25 c25 k25
  have F26 := fun_mk (st := s_is_crossed_split) l26 c26 k26
  have F27 := fun_mk (st := s_check_plain_load) l27 c27 k27
  have F28 := fun_mk (st := s_is_plain_split) l28 c28 k28
  have F29 := fun_mk (st := s_pair_place) l29 c29 k29
  have F30 := fun_mk (st := s_sum_in_triangle) l30 c30 k30
  have F31 := fun_mk (st := s_triangles) l31 c31 k31
  have F32 := fun_mk (st := s_plain_bar) l32 c32 k32
  have F33 := fun_mk (st := s_need_of) l33 c33 k33
  have F34 := fun_mk (st := s_plain_need) l34 c34 k34
  have F35 := fun_mk (st := s_pairings) l35 c35 k35
  have F36 := fun_mk (st := s_raised) l36 c36 k36
  have F37 := fun_mk (st := s_tracks_of) l37 c37 k37
  have F38 := fun_mk (st := s_plain_split) l38 c38 k38
  have F39 := fun_mk (st := s_side_sums) l39 c39 k39
  have F40 := fun_mk (st := s_law) l40 c40 k40
  refine ⟨PySem.W.fnOf "law" "law" (defArgs s_law) (defBody s_law) (defScope s_law) .none kV40 dc40 pm40 an40 cd40 ct40, fun s v => .of_eq rfl, fun base _ _ => ?_⟩
  have D0 : DF l.prog w K mg base "_law_begun" 1 ["script"] (spBegun K) := ⟨⟨f0, _, ok__law_begun F0 T, PySem.W.mg_of X G a0, k0, F0.binds (ps := ["script"]) fun _ _ _ _ _ _ us hl => match us, hl with | [_], _ => rfl⟩⟩
  have D1 : DF l.prog w K mg base "_law_draw" 1 ["state", "size_here"] (spDraw K) := ⟨⟨f1, _, ok__law_draw F1 T, PySem.W.mg_of X G a1, k1, F1.binds (ps := ["state", "size_here"]) fun _ _ _ _ _ _ us hl => match us, hl with | [_, _], _ => rfl⟩⟩
  have D2 : DF l.prog w K mg base "_law_pairs" 1 ["sides_here"] (spN K 1 R_law_pairs) := ⟨⟨f2, _, ok__law_pairs F2 T, PySem.W.mg_of X G a2, k2, F2.binds (ps := ["sides_here"]) fun _ _ _ _ _ _ us hl => match us, hl with | [_], _ => rfl⟩⟩
  have D3 : DF l.prog w K mg base "_law_pick" 2 ["state", "several"] (spPick K) := ⟨⟨f3, _, ok__law_pick F3 T D1, PySem.W.mg_of X G a3, k3, F3.binds (ps := ["state", "several"]) fun _ _ _ _ _ _ us hl => match us, hl with | [_, _], _ => rfl⟩⟩
  have D4 : DF l.prog w K mg base "_law_drawn" 3 ["state", "sides_here"] (spDrawn K) := ⟨⟨f4, _, ok__law_drawn F4 T D1 D2 D3, PySem.W.mg_of X G a4, k4, F4.binds (ps := ["state", "sides_here"]) fun _ _ _ _ _ _ us hl => match us, hl with | [_, _], _ => rfl⟩⟩
  have D5 : DF l.prog w K mg base "is_tuple_of" 1 ["thing", "many"] (spD K 2 R_is_tuple_of) := ⟨⟨f5, _, ok_is_tuple_of F5 T, PySem.W.mg_of X G a5, k5, F5.binds (ps := ["thing", "many"]) fun _ _ _ _ _ _ us hl => match us, hl with | [_, _], _ => rfl⟩⟩
  have D6 : DF l.prog w K mg base "is_number" 1 ["thing"] (spD K 1 R_is_number) := ⟨⟨f6, _, ok_is_number F6 T, PySem.W.mg_of X G a6, k6, F6.binds (ps := ["thing"]) fun _ _ _ _ _ _ us hl => match us, hl with | [_], _ => rfl⟩⟩
  have D7 : DF l.prog w K mg base "is_within" 2 ["thing", "low", "high"] (spD K 3 R_is_within) := ⟨⟨f7, _, ok_is_within F7 T D6, PySem.W.mg_of X G a7, k7, F7.binds (ps := ["thing", "low", "high"]) fun _ _ _ _ _ _ us hl => match us, hl with | [_, _, _], _ => rfl⟩⟩
  have D8 : DF l.prog w K mg base "side_pairs" 1 ["sides"] (spN K 1 R_side_pairs) := ⟨⟨f8, _, ok_side_pairs F8 T, PySem.W.mg_of X G a8, k8, F8.binds (ps := ["sides"]) fun _ _ _ _ _ _ us hl => match us, hl with | [_], _ => rfl⟩⟩
  have D9 : DF l.prog w K mg base "is_load_up_to" 3 ["sides", "thing", "most"] (spD K 3 R_is_load_up_to) := ⟨⟨f9, _, ok_is_load_up_to F9 T D5 D7 D8, PySem.W.mg_of X G a9, k9, F9.binds (ps := ["sides", "thing", "most"]) fun _ _ _ _ _ _ us hl => match us, hl with | [_, _, _], _ => rfl⟩⟩
  have D10 : DF l.prog w K mg base "is_load_of" 4 ["sides", "thing"] (spD K 2 R_is_load_of) := ⟨⟨f10, _, ok_is_load_of F10 T D9, PySem.W.mg_of X G a10, k10, F10.binds (ps := ["sides", "thing"]) fun _ _ _ _ _ _ us hl => match us, hl with | [_, _], _ => rfl⟩⟩
  have D11 : DF l.prog w K mg base "check_load" 5 ["sides", "load"] (spD K 2 R_check_load) := ⟨⟨f11, _, ok_check_load F11 T D10, PySem.W.mg_of X G a11, k11, F11.binds (ps := ["sides", "load"]) fun _ _ _ _ _ _ us hl => match us, hl with | [_, _], _ => rfl⟩⟩
  have D12 : DF l.prog w K mg base "check_room" 3 ["room"] (spD K 1 R_check_room) := ⟨⟨f12, _, ok_check_room F12 T D7, PySem.W.mg_of X G a12, k12, F12.binds (ps := ["room"]) fun _ _ _ _ _ _ us hl => match us, hl with | [_], _ => rfl⟩⟩
  have D13 : DF l.prog w K mg base "check_sides" 3 ["sides", "most"] (spD K 2 R_check_sides) := ⟨⟨f13, _, ok_check_sides F13 T D7, PySem.W.mg_of X G a13, k13, F13.binds (ps := ["sides", "most"]) fun _ _ _ _ _ _ us hl => match us, hl with | [_, _], _ => rfl⟩⟩
  have D14 : DF l.prog w K mg base "sums_at_sides" 2 ["sides", "load"] (spN K 2 R_sums_at_sides) := ⟨⟨f14, _, ok_sums_at_sides F14 T D8, PySem.W.mg_of X G a14, k14, F14.binds (ps := ["sides", "load"]) fun _ _ _ _ _ _ us hl => match us, hl with | [_, _], _ => rfl⟩⟩
  have D15 : DF l.prog w K mg base "is_let" 3 ["sides", "load", "room"] (spD K 3 R_is_let) := ⟨⟨f15, _, ok_is_let F15 T D14, PySem.W.mg_of X G a15, k15, F15.binds (ps := ["sides", "load", "room"]) fun _ _ _ _ _ _ us hl => match us, hl with | [_, _, _], _ => rfl⟩⟩
  have D16 : DF l.prog w K mg base "mates_rooms" 1 ["room"] (spN K 1 R_mates_rooms) := ⟨⟨f16, _, ok_mates_rooms F16 T, PySem.W.mg_of X G a16, k16, F16.binds (ps := ["room"]) fun _ _ _ _ _ _ us hl => match us, hl with | [_], _ => rfl⟩⟩
  have D17 : DF l.prog w K mg base "is_below" 1 ["one", "other"] (spD K 2 R_is_below) := ⟨⟨f17, _, ok_is_below F17 T, PySem.W.mg_of X G a17, k17, F17.binds (ps := ["one", "other"]) fun _ _ _ _ _ _ us hl => match us, hl with | [_, _], _ => rfl⟩⟩
  have D18 : DF l.prog w K mg base "let_loads" 2 ["sides", "tracks", "most"] (spN K 3 R_let_loads) := ⟨⟨f18, _, ok_let_loads F18 T D8, PySem.W.mg_of X G a18, k18, F18.binds (ps := ["sides", "tracks", "most"]) fun _ _ _ _ _ _ us hl => match us, hl with | [_, _, _], _ => rfl⟩⟩
  have D19 : DF l.prog w K mg base "reduced" 1 ["load", "part"] (spD K 2 R_reduced) := ⟨⟨f19, _, ok_reduced F19 T, PySem.W.mg_of X G a19, k19, F19.binds (ps := ["load", "part"]) fun _ _ _ _ _ _ us hl => match us, hl with | [_, _], _ => rfl⟩⟩
  have D20 : DF l.prog w K mg base "part_off" 4 ["sides", "load", "own", "room"] (spD K 4 R_part_off) := ⟨⟨f20, _, ok_part_off F20 T D17 D15 D18 D19, PySem.W.mg_of X G a20, k20, F20.binds (ps := ["sides", "load", "own", "room"]) fun _ _ _ _ _ _ us hl => match us, hl with | [_, _, _, _], _ => rfl⟩⟩
  have D21 : DF l.prog w K mg base "crossed_split" 6 ["sides", "load", "room"] (spX K 3 P_crossed_split Q_crossed_split) := ⟨⟨f21, _, ok_crossed_split F21 T D11 D12 D13 D15 D16 D20 D19, PySem.W.mg_of X G a21, k21, F21.binds (ps := ["sides", "load", "room"]) fun _ _ _ _ _ _ us hl => match us, hl with | [_, _, _], _ => rfl⟩⟩
  have D22 : DF l.prog w K mg base "is_row" 1 ["thing"] (spD K 1 R_is_row) := ⟨⟨f22, _, ok_is_row F22 T, PySem.W.mg_of X G a22, k22, F22.binds (ps := ["thing"]) fun _ _ _ _ _ _ us hl => match us, hl with | [_], _ => rfl⟩⟩
  have D23 : DF l.prog w K mg base "no_wires" 2 ["sides"] (spD K 1 R_no_wires) := ⟨⟨f23, _, ok_no_wires F23 T D8, PySem.W.mg_of X G a23, k23, F23.binds (ps := ["sides"]) fun _ _ _ _ _ _ us hl => match us, hl with | [_], _ => rfl⟩⟩
  have D24 : DF l.prog w K mg base "summed" 1 ["one", "other"] (spD K 2 R_summed) := ⟨⟨f24, _, ok_summed F24 T, PySem.W.mg_of X G a24, k24, F24.binds (ps := ["one", "other"]) fun _ _ _ _ _ _ us hl => match us, hl with | [_, _], _ => rfl⟩⟩
  have D25 : DF l.prog w K mg base "adds_up" 5 ["sides", "load", "rooms", "thing"] (spD K 4 R_adds_up) := ⟨⟨f25, _, ok_adds_up F25 T D15 D10 D22 D23 D24, PySem.W.mg_of X G a25, k25, F25.binds (ps := ["sides", "load", "rooms", "thing"]) fun _ _ _ _ _ _ us hl => match us, hl with | [_, _, _, _], _ => rfl⟩⟩
  have D26 : DF l.prog w K mg base "is_crossed_split" 6 ["sides", "load", "room", "thing"] (spD K 4 R_is_crossed_split) := ⟨⟨f26, _, ok_is_crossed_split F26 T D25 D11 D12 D13 D16, PySem.W.mg_of X G a26, k26, F26.binds (ps := ["sides", "load", "room", "thing"]) fun _ _ _ _ _ _ us hl => match us, hl with | [_, _, _, _], _ => rfl⟩⟩
  have D27 : DF l.prog w K mg base "check_plain_load" 6 ["sides", "load"] (spD K 2 R_check_plain_load) := ⟨⟨f27, _, ok_check_plain_load F27 T D11 D13, PySem.W.mg_of X G a27, k27, F27.binds (ps := ["sides", "load"]) fun _ _ _ _ _ _ us hl => match us, hl with | [_, _], _ => rfl⟩⟩
  have D28 : DF l.prog w K mg base "is_plain_split" 7 ["sides", "load", "room", "thing"] (spD K 4 R_is_plain_split) := ⟨⟨f28, _, ok_is_plain_split F28 T D25 D27 D12, PySem.W.mg_of X G a28, k28, F28.binds (ps := ["sides", "load", "room", "thing"]) fun _ _ _ _ _ _ us hl => match us, hl with | [_, _, _, _], _ => rfl⟩⟩
  have D29 : DF l.prog w K mg base "pair_place" 1 ["sides", "side", "far"] (spD K 3 R_pair_place) := ⟨⟨f29, _, ok_pair_place F29 T, PySem.W.mg_of X G a29, k29, F29.binds (ps := ["sides", "side", "far"]) fun _ _ _ _ _ _ us hl => match us, hl with | [_, _, _], _ => rfl⟩⟩
  have D30 : DF l.prog w K mg base "sum_in_triangle" 2 ["sides", "load", "three"] (spD K 3 R_sum_in_triangle) := ⟨⟨f30, _, ok_sum_in_triangle F30 T D29, PySem.W.mg_of X G a30, k30, F30.binds (ps := ["sides", "load", "three"]) fun _ _ _ _ _ _ us hl => match us, hl with | [_, _, _], _ => rfl⟩⟩
  have D31 : DF l.prog w K mg base "triangles" 1 ["sides"] (spN K 1 R_triangles) := ⟨⟨f31, _, ok_triangles F31 T, PySem.W.mg_of X G a31, k31, F31.binds (ps := ["sides"]) fun _ _ _ _ _ _ us hl => match us, hl with | [_], _ => rfl⟩⟩
  have D32 : DF l.prog w K mg base "plain_bar" 7 ["sides", "load", "room"] (spX K 3 P_plain_bar Q_plain_bar) := ⟨⟨f32, _, ok_plain_bar F32 T D27 D12 D30 D14 D31, PySem.W.mg_of X G a32, k32, F32.binds (ps := ["sides", "load", "room"]) fun _ _ _ _ _ _ us hl => match us, hl with | [_, _, _], _ => rfl⟩⟩
  have D33 : DF l.prog w K mg base "need_of" 3 ["sides", "load"] (spD K 2 R_need_of) := ⟨⟨f33, _, ok_need_of F33 T D30 D14 D31, PySem.W.mg_of X G a33, k33, F33.binds (ps := ["sides", "load"]) fun _ _ _ _ _ _ us hl => match us, hl with | [_, _], _ => rfl⟩⟩
  have D34 : DF l.prog w K mg base "plain_need" 7 ["sides", "load"] (spD K 2 R_plain_need) := ⟨⟨f34, _, ok_plain_need F34 T D27 D33, PySem.W.mg_of X G a34, k34, F34.binds (ps := ["sides", "load"]) fun _ _ _ _ _ _ us hl => match us, hl with | [_, _], _ => rfl⟩⟩
  have D35 : DF l.prog w K mg base "pairings" 1 ["sides"] (spPg K) := ⟨⟨f35, _, ok_pairings F35 T, PySem.W.mg_of X G a35, k35, F35.binds (ps := ["sides"]) fun _ _ _ _ _ _ us hl => match us, hl with | [_], _ => rfl⟩⟩
  have D36 : DF l.prog w K mg base "raised" 1 ["load", "place", "by"] (spD K 3 R_raised) := ⟨⟨f36, _, ok_raised F36 T, PySem.W.mg_of X G a36, k36, F36.binds (ps := ["load", "place", "by"]) fun _ _ _ _ _ _ us hl => match us, hl with | [_, _, _], _ => rfl⟩⟩
  have D37 : DF l.prog w K mg base "tracks_of" 3 ["sides", "load", "pairs"] (spN K 3 R_tracks_of) := ⟨⟨f37, _, ok_tracks_of F37 T D23 D29 D36, PySem.W.mg_of X G a37, k37, F37.binds (ps := ["sides", "load", "pairs"]) fun _ _ _ _ _ _ us hl => match us, hl with | [_, _, _], _ => rfl⟩⟩
  have D38 : DF l.prog w K mg base "plain_split" 7 ["sides", "load", "room"] (spD K 3 R_plain_split) := ⟨⟨f38, _, ok_plain_split F38 T D27 D12 D23 D35 D37, PySem.W.mg_of X G a38, k38, F38.binds (ps := ["sides", "load", "room"]) fun _ _ _ _ _ _ us hl => match us, hl with | [_, _, _], _ => rfl⟩⟩
  have D39 : DF l.prog w K mg base "side_sums" 7 ["sides", "load"] (spD K 2 R_side_sums) := ⟨⟨f39, _, ok_side_sums F39 T D27 D14, PySem.W.mg_of X G a39, k39, F39.binds (ps := ["sides", "load"]) fun _ _ _ _ _ _ us hl => match us, hl with | [_, _], _ => rfl⟩⟩
  exact ok_law F40 T D0 D1 D4 D21 D26 D28 D32 D34 D38 D39
theorem walk {l : PySem.W.OpenLaw} {q : Program} {loose : List Str} {XP : (Str → Option Value) → Heap → Prop} {YP : World → Heap → Prop} {d : DefRec} {K : Params → PySem.W.Frag} (hn : l.most = some 63) (hdf : d.params.defaults = [])
    (hY : ∀ (w : World) (h : Heap), YP w h → (K w.params).In h)
    (F : ∀ (w : World) (mg : Str → Option Value) (fa : Addr) (h : Heap), (K w.params).In h → h.Ns mainGlobals mg → mg d.name = some (.ref fa) →
      ∃ fd : FuncData, (∀ (s : Shared) (u : Value), BindsTo s fd ⟨[u], []⟩ [("script", u)]) ∧ ∀ base : Heap, (K w.params).In base → base.Ns mainGlobals mg → FnOk l.prog w (K w.params) mg base CX0 8 fa fd ["script"] (spLaw (K w.params))) :
    PySem.W.WalkO q loose XP YP l.row.toRowW d [] (fun f vs => PySem.call f vs) :=
  L2.walk_of (n := 63) (k := 8) (x := "script") (CX := fun _ => CX0) (sp := fun w => spLaw (K w.params)) hn (by decide) hdf ⟨rfl, by decide, by decide⟩ hY F (fun _ _ a ns hl _ hS => ⟨a, ns, rfl, hS, hl, fun _ => rfl⟩) fun _ _ _ _ _ z => z
end K20
set_option Elab.async false
set_option maxRecDepth 100000
open PySem PySem.W PyProof.Rows in
set_option maxRecDepth 100000 in
set_option maxHeartbeats 0 in
theorem PySem.Challenge.cw_allcalls_k20_whole_tracks_that_are_neede_holds : PySem.Challenge.rw_allcalls_k20_whole_tracks_that_are_neede.Holds := by
  w_on; o_law; k_head; (case hw => w_witness2)
  k_fill
  refine K20.walk (l := PySem.Challenge.rw_allcalls_k20_whole_tracks_that_are_neede) rfl rfl (fun w h Y => PySem.W.kIn_of Y) ?F
  case F =>
    intro w mg fa h KX G hmg
    refine' K20.all_mk KX G hmg ?a0 ?l0 ?c0 ?k0 ?a1 ?l1 ?c1 ?k1 ?a2 ?l2 ?c2 ?k2 ?a3 ?l3 ?c3 ?k3 ?a4 ?l4 ?c4 ?k4 ?a5 ?l5 ?c5 ?k5 ?a6 ?l6 ?c6 ?k6 ?a7 ?l7 ?c7 ?k7 ?a8 ?l8 ?c8 ?k8 ?a9 ?l9 ?c9 ?k9 ?a10 ?l10 ?c10 ?k10 ?a11 ?l11 ?c11 ?k11 ?a12 ?l12 ?c12 ?k12 ?a13 ?l13 ?c13 ?k13 ?a14 ?l14 ?c14 ?k14 ?a15 ?l15 ?c15 ?k15 ?a16 ?l16 ?c16 ?k16 ?a17 ?l17 ?c17 ?k17 ?a18 ?l18 ?c18 ?k18 ?a19 ?l19 ?c19 ?k19 ?a20 ?l20 ?c20 ?k20 ?a21 ?l21 ?c21 ?k21 ?a22 ?l22 ?c22 ?k22 ?a23 ?l23 ?c23 ?k23 ?a24 ?l24 ?c24 ?k24 ?a25 ?l25 ?c25 ?k25 ?a26 ?l26 ?c26 ?k26 ?a27 ?l27 ?c27 ?k27 ?a28 ?l28 ?c28 ?k28 ?a29 ?l29 ?c29 ?k29 ?a30 ?l30 ?c30 ?k30 ?a31 ?l31 ?c31 ?k31 ?a32 ?l32 ?c32 ?k32 ?a33 ?l33 ?c33 ?k33 ?a34 ?l34 ?c34 ?k34 ?a35 ?l35 ?c35 ?k35 ?a36 ?l36 ?c36 ?k36 ?a37 ?l37 ?c37 ?k37 ?a38 ?l38 ?c38 ?k38 ?a39 ?l39 ?c39 ?k39 ?a40 ?l40 ?c40 ?k40 ?b0 ?b1 ?b2 ?b3 ?b4 ?b5 ?b6 ?b7 ?b8 ?b9 ?b10 ?b11 ?n0 ?n1 ?n2 ?n3 ?n4
    (case a0 => k_is)
    (case l0 => k_is)
    (case c0 => k_is)
    (case k0 => k_is)
    (case a1 => k_is)
    (case l1 => k_is)
    (case c1 => k_is)
    (case k1 => k_is)
    (case a2 => k_is)
    (case l2 => k_is)
    (case c2 => k_is)
    (case k2 => k_is)
    (case a3 => k_is)
    (case l3 => k_is)
    (case c3 => k_is)
    (case k3 => k_is)
    (case a4 => k_is)
    (case l4 => k_is)
    (case c4 => k_is)
    (case k4 => k_is)
    (case a5 => k_is)
    (case l5 => k_is)
    (case c5 => k_is)
    (case k5 => k_is)
    (case a6 => k_is)
    (case l6 => k_is)
    (case c6 => k_is)
    (case k6 => k_is)
    (case a7 => k_is)
    (case l7 => k_is)
    (case c7 => k_is)
    (case k7 => k_is)
    (case a8 => k_is)
    (case l8 => k_is)
    (case c8 => k_is)
    (case k8 => k_is)
    (case a9 => k_is)
    (case l9 => k_is)
    (case c9 => k_is)
    (case k9 => k_is)
    (case a10 => k_is)
    (case l10 => k_is)
    (case c10 => k_is)
    (case k10 => k_is)
    (case a11 => k_is)
    (case l11 => k_is)
    (case c11 => k_is)
    (case k11 => k_is)
    (case a12 => k_is)
    (case l12 => k_is)
    (case c12 => k_is)
    (case k12 => k_is)
    (case a13 => k_is)
    (case l13 => k_is)
    (case c13 => k_is)
    (case k13 => k_is)
    (case a14 => k_is)
    (case l14 => k_is)
    (case c14 => k_is)
    (case k14 => k_is)
    (case a15 => k_is)
    (case l15 => k_is)
    (case c15 => k_is)
    (case k15 => k_is)
    (case a16 => k_is)
    (case l16 => k_is)
    (case c16 => k_is)
    (case k16 => k_is)
    (case a17 => k_is)
    (case l17 => k_is)
    (case c17 => k_is)
    (case k17 => k_is)
    (case a18 => k_is)
    (case l18 => k_is)
    (case c18 => k_is)
    (case k18 => k_is)
    (case a19 => k_is)
    (case l19 => k_is)
    (case c19 => k_is)
    (case k19 => k_is)
    (case a20 => k_is)
    (case l20 => k_is)
    (case c20 => k_is)
    (case k20 => k_is)
    (case a21 => k_is)
    (case l21 => k_is)
    (case c21 => k_is)
    (case k21 => k_is)
    (case a22 => k_is)
    (case l22 => k_is)
    (case c22 => k_is)
    (case k22 => k_is)
    (case a23 => k_is)
    (case l23 => k_is)
    (case c23 => k_is)
    (case k23 => k_is)
    (case a24 => k_is)
    (case l24 => k_is)
    (case c24 => k_is)
    (case k24 => k_is)
    (case a25 => k_is)
    (case l25 => k_is)
    (case c25 => k_is)
    (case k25 => k_is)
    (case a26 => k_is)
    (case l26 => k_is)
    (case c26 => k_is)
    (case k26 => k_is)
    (case a27 => k_is)
    (case l27 => k_is)
    (case c27 => k_is)
    (case k27 => k_is)
    (case a28 => k_is)
    (case l28 => k_is)
    (case c28 => k_is)
    (case k28 => k_is)
    (case a29 => k_is)
    (case l29 => k_is)
    (case c29 => k_is)
    (case k29 => k_is)
    (case a30 => k_is)
    (case l30 => k_is)
    (case c30 => k_is)
    (case k30 => k_is)
    (case a31 => k_is)
    (case l31 => k_is)
    (case c31 => k_is)
    (case k31 => k_is)
    (case a32 => k_is)
    (case l32 => k_is)
    (case c32 => k_is)
    (case k32 => k_is)
    (case a33 => k_is)
    (case l33 => k_is)
    (case c33 => k_is)
    (case k33 => k_is)
    (case a34 => k_is)
    (case l34 => k_is)
    (case c34 => k_is)
    (case k34 => k_is)
    (case a35 => k_is)
    (case l35 => k_is)
    (case c35 => k_is)
    (case k35 => k_is)
    (case a36 => k_is)
    (case l36 => k_is)
    (case c36 => k_is)
    (case k36 => k_is)
    (case a37 => k_is)
    (case l37 => k_is)
    (case c37 => k_is)
    (case k37 => k_is)
    (case a38 => k_is)
    (case l38 => k_is)
    (case c38 => k_is)
    (case k38 => k_is)
    (case a39 => k_is)
    (case l39 => k_is)
    (case c39 => k_is)
    (case k39 => k_is)
    (case a40 => k_is)
    (case l40 => k_is)
    (case c40 => k_is)
    (case k40 => k_is)
    (case b0 => k_is)
    (case b1 => k_is)
    (case b2 => k_is)
    (case b3 => k_is)
    (case b4 => k_is)
    (case b5 => k_is)
    (case b6 => k_is)
    (case b7 => k_is)
    (case b8 => k_is)
    (case b9 => k_is)
    (case b10 => k_is)
    (case b11 => k_is)
    (case n0 => k_is)
    (case n1 => k_is)
    (case n2 => k_is)
    (case n3 => k_is)
    (case n4 => k_is)
#print axioms PySem.Challenge.cw_allcalls_k20_whole_tracks_that_are_neede_holds
