import PyProof.Rows.All
import Wide.All
import OpenK.AllK
import Wide.FinOn
import HandS.ForMost
import HandS.Walk
import HandS.Deep
import HandS.Flow
import HandS.SortInts
import HandS.Zip
import HandS.Conv
import HandS.Wide
import HandS.RaiseMore
import HandS.TupAny
import HandS.Style
import KE.GoesNew
import PySem.Challenge.RW_nextstands_k03_lists_of_calls
set_option Elab.async false
set_option linter.all false
set_option maxRecDepth 100000
set_option maxHeartbeats 4000000
namespace Nx
open PySem PySem.Spec PyProof.Rows L2

/-! ### weakest readings -/
def WE (X : Cx) (e : Expr) : TE := fun σ H Q => ∀ pins s, Inv X pins σ H s → wpAny (model X.prog X.w) X.A (eval e X.env) (EP X pins σ Q) X.xe s
def WT (X : Cx) (e : Expr) : TT := fun σ H Q => ∀ pins s, Inv X pins σ H s → wpAny (model X.prog X.w) X.A (isTrue e X.env (eval e X.env)) (TP X pins σ Q) X.xe s
def WA (X : Cx) (es : List Expr) : TA := fun σ H Q => ∀ pos pins s, Inv X pins σ H s → wpAny (model X.prog X.w) X.A (spliced (backTo pos (starEach es X.env))) (AP X pins σ Q) X.xe s
def WK (X : Cx) (ks : List Keyword) : TA := fun σ H Q => ∀ pos pins s, Inv X pins σ H s → wpAny (model X.prog X.w) X.A (evalAll ((backToKw pos (keywordEach ks X.env)).map (·.2))) (AP X pins σ Q) X.xe s
def WS (X : Cx) (st : Stmt) : TS := fun D σ H => ∀ pins s, Inv X pins σ H s → wpAny (model X.prog X.w) X.A (exec st X.env) (SP X pins D) X.xe s
def WSs (X : Cx) (st : List Stmt) : TS := fun D σ H => ∀ pins s, Inv X pins σ H s → wpAny (model X.prog X.w) X.A (execs st X.env) (SP X pins D) X.xe s
section
variable {X : Cx} {e : Expr} {es : List Expr} {ks : List Keyword} {st : Stmt} {ss : List Stmt}
theorem pwe : PE X e (WE X e) := ⟨fun pins s _ _ _ I h => h pins s I⟩
theorem pwt : PT X e (WT X e) := ⟨fun pins s _ _ _ I h => h pins s I⟩
theorem pwa : PA X es (WA X es) := ⟨fun pos pins s _ _ _ I h => h pos pins s I⟩
theorem pwk : PK X ks (WK X ks) := ⟨fun pos pins s _ _ _ I h => h pos pins s I⟩
theorem pws : PS X st (WS X st) := ⟨fun pins s _ _ _ I h => h pins s I⟩
theorem pwss : PSs X ss (WSs X ss) := ⟨fun pins s _ _ _ I h => h pins s I⟩
variable {σ : L2.St} {H : Hp}
theorem WE.of {t : TE} {Q : VK} (h : PE X e t) (q : t σ H Q) : WE X e σ H Q := fun pins s I => h.run pins s σ H Q I q
theorem WT.of {t : TT} {Q : Bool → Hp → Prop} (h : PT X e t) (q : t σ H Q) : WT X e σ H Q := fun pins s I => h.run pins s σ H Q I q
theorem WA.of {t : TA} {Q : List V → Hp → Prop} (h : PA X es t) (q : t σ H Q) : WA X es σ H Q := fun pos pins s I => h.run pos pins s σ H Q I q
theorem WK.of {t : TA} {Q : List V → Hp → Prop} (h : PK X ks t) (q : t σ H Q) : WK X ks σ H Q := fun pos pins s I => h.run pos pins s σ H Q I q
theorem WS.of {t : TS} {D : Ends} (h : PS X st t) (q : t D σ H) : WS X st D σ H := fun pins s I => h.run pins s σ H D I q
theorem WSs.of {t : TS} {D : Ends} (h : PSs X ss t) (q : t D σ H) : WSs X ss D σ H := fun pins s I => h.run pins s σ H D I q
end

/-! ### data and its place in a heap -/
def Ex (H H' : Hp) : Prop := ∀ a o, H a = some o → H' a = some o
theorem Ex.refl (H : Hp) : Ex H H := fun _ _ h => h
theorem Ex.trans {H H1 H2 : Hp} (a : Ex H H1) (b : Ex H1 H2) : Ex H H2 := fun x o h => b x o (a x o h)
theorem Ex.new {H : Hp} {p : Addr} {o : HO} (h : H p = none) : Ex H (upd H p o) := fun a u e => by
  rw [upd_ne (ne_of_none e h)]
  exact e
theorem Ex.free {H H' : Hp} {p : Addr} (e : Ex H H') (h : H' p = none) : H p = none := by
  cases h1 : H p with
  | none => rfl
  | some o =>
    rw [e p o h1] at h
    cases h
mutual
inductive Dv (H : Hp) : V → PyData → Prop
  | non : Dv H .non .none
  | bl (b : Bool) : Dv H (.bl b) (.bool b)
  | int (i : Int) : Dv H (.int i) (.int i)
  | str (x : Str) : Dv H (.str x) (.str x)
  | lst {a : Addr} {xs : List V} {ds : List PyData} : H a = some (.lst xs) → DvA H xs ds → Dv H (.ref a) (.list ds)
  | tup {a : Addr} {xs : List V} {ds : List PyData} : H a = some (.tup xs) → DvA H xs ds → Dv H (.ref a) (.tuple ds)
inductive DvA (H : Hp) : List V → List PyData → Prop
  | nil : DvA H [] []
  | cons {v : V} {vs : List V} {d : PyData} {ds : List PyData} : Dv H v d → DvA H vs ds → DvA H (v :: vs) (d :: ds)
end
section
variable {H H' : Hp}
mutual
theorem Dv.mono (e : Ex H H') : ∀ {v : V} {d : PyData}, Dv H v d → Dv H' v d
  | _, _, .non => .non
  | _, _, .bl b => .bl b
  | _, _, .int i => .int i
  | _, _, .str x => .str x
  | _, _, .lst h hs => .lst (e _ _ h) (DvA.mono e hs)
  | _, _, .tup h hs => .tup (e _ _ h) (DvA.mono e hs)
theorem DvA.mono (e : Ex H H') : ∀ {vs : List V} {ds : List PyData}, DvA H vs ds → DvA H' vs ds
  | _, _, .nil => .nil
  | _, _, .cons h hs => .cons (Dv.mono e h) (DvA.mono e hs)
end
mutual
theorem Dv.dp {K : PySem.W.Frag} : ∀ {v : V} {d : PyData}, Dv H v d → Dp K H v d
  | _, _, .non => .non
  | _, _, .bl b => .bl b
  | _, _, .int i => .int i
  | _, _, .str x => .str x
  | _, _, .lst h hs => .lst (.inl (.inl h)) (DvA.dp hs)
  | _, _, .tup h hs => .tup (.inl (.inl h)) (DvA.dp hs)
theorem DvA.dp {K : PySem.W.Frag} : ∀ {vs : List V} {ds : List PyData}, DvA H vs ds → DpAll K H vs ds
  | _, _, .nil => .nil
  | _, _, .cons h hs => .cons (Dv.dp h) (DvA.dp hs)
end
theorem DvA.length : ∀ {vs : List V} {ds : List PyData}, DvA H vs ds → vs.length = ds.length
  | _, _, .nil => rfl
  | _, _, .cons _ hs => by rw [List.length_cons, List.length_cons, DvA.length hs]
theorem DvA.get : ∀ {vs : List V} {ds : List PyData} {i : Nat} {d : PyData}, DvA H vs ds → ds[i]? = some d → ∃ v, vs[i]? = some v ∧ Dv H v d
  | _, _, _, _, .nil, e => by simp at e
  | _, _, 0, _, .cons h _, e => by
    simp at e
    subst e
    exact ⟨_, rfl, h⟩
  | _, _, i + 1, d, .cons _ hs, e => by
    obtain ⟨v, h1, h2⟩ := DvA.get (i := i) hs (by simpa using e)
    exact ⟨v, by simpa using h1, h2⟩
theorem DvA.getV : ∀ {vs : List V} {ds : List PyData} {i : Nat} {v : V}, DvA H vs ds → vs[i]? = some v → ∃ d, ds[i]? = some d ∧ Dv H v d
  | _, _, _, _, .nil, e => by simp at e
  | _, _, 0, _, .cons h _, e => by
    simp at e
    subst e
    exact ⟨_, rfl, h⟩
  | _, _, i + 1, d, .cons _ hs, e => by
    obtain ⟨v, h1, h2⟩ := DvA.getV (i := i) hs (by simpa using e)
    exact ⟨v, by simpa using h1, h2⟩
theorem DvA.append : ∀ {vs ws : List V} {ds es : List PyData}, DvA H vs ds → DvA H ws es → DvA H (vs ++ ws) (ds ++ es)
  | _, _, _, _, .nil, s => s
  | _, _, _, _, .cons h t, s => .cons h (DvA.append t s)
theorem DvA.take : ∀ {vs : List V} {ds : List PyData} (n : Nat), DvA H vs ds → DvA H (vs.take n) (ds.take n)
  | _, _, 0, _ => .nil
  | _, _, _ + 1, .nil => .nil
  | _, _, n + 1, .cons r t => .cons r (DvA.take n t)
theorem DvA.drop : ∀ {vs : List V} {ds : List PyData} (n : Nat), DvA H vs ds → DvA H (vs.drop n) (ds.drop n)
  | _, _, 0, r => r
  | _, _, _ + 1, .nil => .nil
  | _, _, n + 1, .cons _ t => DvA.drop n t
theorem DvA.ints : ∀ (ns : List Int) {vs : List V}, DvA H vs (ns.map PyData.int) → vs = ns.map V.int
  | [], _, .nil => rfl
  | n :: ns, _, .cons (.int _) t => by rw [DvA.ints ns t]; rfl
theorem DvA.of_ints : ∀ (ns : List Int), DvA H (ns.map V.int) (ns.map PyData.int)
  | [] => .nil
  | n :: ns => .cons (.int n) (DvA.of_ints ns)
end

/-! ### values of the data level: data that stays, or a list of one's own -/
inductive OV where
  | im (d : PyData) | own (a : Addr) | scr (K : PySem.W.Frag) (ns : List Int)
def RO (G : Hp) (v : V) : OV → Prop
  | .im d => Dv G v d
  | .own a => v = .ref a
  | .scr K ns => ∃ a, v = .ref a ∧ SqL K G a (ns.map V.int)
abbrev ROs (G : Hp) : List V → List OV → Prop := Paired (RO G)
theorem sql_mono {K : PySem.W.Frag} {G G' : Hp} (e : Ex G G') {a : Addr} {xs : List V} (h : SqL K G a xs) : SqL K G' a xs := by
  rcases h with (h | ⟨o, h⟩) | h
  · exact .inl (.inl (e _ _ h))
  · exact .inl (.inr ⟨o, e _ _ h⟩)
  · exact .inr h
theorem RO.mono {G G' : Hp} (e : Ex G G') {v : V} : ∀ {o : OV}, RO G v o → RO G' v o
  | .im _, h => Dv.mono e h
  | .own _, h => h
  | .scr _ _, ⟨a, h1, h2⟩ => ⟨a, h1, sql_mono e h2⟩
theorem ROs.mono {G G' : Hp} (e : Ex G G') : ∀ {vs : List V} {os : List OV}, ROs G vs os → ROs G' vs os
  | _, _, .nil => .nil
  | _, _, .cons h t => .cons (h.mono e) (ROs.mono e t)
theorem ROs.length {G : Hp} {vs : List V} {os : List OV} (h : ROs G vs os) : vs.length = os.length := Paired.length h
theorem ROs.ims {G : Hp} : ∀ {vs : List V} {ds : List PyData}, ROs G vs (ds.map .im) → DvA G vs ds
  | _, [], .nil => .nil
  | _, _ :: _, .cons h t => .cons h (ROs.ims t)
theorem ROs.of_ims {G : Hp} : ∀ {vs : List V} {ds : List PyData}, DvA G vs ds → ROs G vs (ds.map .im)
  | _, _, .nil => .nil
  | _, _, .cons h t => .cons h (ROs.of_ims t)
theorem ROs.append {G : Hp} : ∀ {vs ws : List V} {os ps : List OV}, ROs G vs os → ROs G ws ps → ROs G (vs ++ ws) (os ++ ps)
  | _, _, _, _, .nil, s => s
  | _, _, _, _, .cons h t, s => .cons h (ROs.append t s)
theorem ROs.get {G : Hp} : ∀ {vs : List V} {os : List OV} {i : Nat} {o : OV}, ROs G vs os → os[i]? = some o → ∃ v, vs[i]? = some v ∧ RO G v o
  | _, _, _, _, .nil, e => by simp at e
  | _, _, 0, _, .cons h _, e => by
    simp at e
    subst e
    exact ⟨_, rfl, h⟩
  | _, _, i + 1, d, .cons _ hs, e => by
    obtain ⟨v, h1, h2⟩ := ROs.get (i := i) hs (by simpa using e)
    exact ⟨v, by simpa using h1, h2⟩
theorem ROs.getV {G : Hp} : ∀ {vs : List V} {os : List OV} {i : Nat} {v : V}, ROs G vs os → vs[i]? = some v → ∃ o, os[i]? = some o ∧ RO G v o
  | _, _, _, _, .nil, e => by simp at e
  | _, _, 0, _, .cons h _, e => by
    simp at e
    subst e
    exact ⟨_, rfl, h⟩
  | _, _, i + 1, d, .cons _ hs, e => by
    obtain ⟨v, h1, h2⟩ := ROs.getV (i := i) hs (by simpa using e)
    exact ⟨v, by simpa using h1, h2⟩
theorem ROs.set {G : Hp} {v : V} {o : OV} (r : RO G v o) : ∀ {vs : List V} {os : List OV} (i : Nat), ROs G vs os → ROs G (vs.set i v) (os.set i o)
  | _, _, _, .nil => .nil
  | _, _, 0, .cons _ t => .cons r t
  | _, _, i + 1, .cons q t => .cons q (ROs.set r i t)
theorem ROs.erase {G : Hp} : ∀ {vs : List V} {os : List OV} (i : Nat), ROs G vs os → ROs G (vs.eraseIdx i) (os.eraseIdx i)
  | _, _, _, .nil => .nil
  | _, _, 0, .cons _ t => t
  | _, _, i + 1, .cons q t => .cons q (ROs.erase i t)
theorem ROs.take {G : Hp} : ∀ {vs : List V} {ds : List OV} (n : Nat), ROs G vs ds → ROs G (vs.take n) (ds.take n)
  | _, _, 0, _ => .nil
  | _, _, _ + 1, .nil => .nil
  | _, _, n + 1, .cons r t => .cons r (ROs.take n t)
theorem ROs.drop {G : Hp} : ∀ {vs : List V} {ds : List OV} (n : Nat), ROs G vs ds → ROs G (vs.drop n) (ds.drop n)
  | _, _, 0, r => r
  | _, _, _ + 1, .nil => .nil
  | _, _, n + 1, .cons _ t => ROs.drop n t
theorem ROs.snoc {G : Hp} {vs : List V} {os : List OV} {v : V} {o : OV} (h : ROs G vs os) (r : RO G v o) : ROs G (vs ++ [v]) (os ++ [o]) := h.append (.cons r .nil)
theorem ROs.reverse {G : Hp} : ∀ {vs : List V} {os : List OV}, ROs G vs os → ROs G vs.reverse os.reverse
  | _, _, .nil => .nil
  | _, _, .cons h t => by
    rw [List.reverse_cons, List.reverse_cons]
    exact (ROs.reverse t).snoc h

/-- the lists of one's own, by address -/
abbrev Mu := Addr → Option (List OV)
def Mu.put (μ : Mu) (a : Addr) (l : List OV) : Mu := fun b => if b = a then some l else μ b
def Mu.del (μ : Mu) (a : Addr) : Mu := fun b => if b = a then none else μ b
theorem put_same {μ : Mu} {a : Addr} {l : List OV} : μ.put a l a = some l := if_pos rfl
theorem put_ne {μ : Mu} {a b : Addr} {l : List OV} (h : b ≠ a) : μ.put a l b = μ b := if_neg h
theorem put_put {μ : Mu} {a : Addr} {l m : List OV} : (μ.put a l).put a m = μ.put a m := by
  funext b
  unfold Mu.put
  split <;> rfl
structure RM (G H : Hp) (μ : Mu) : Prop where
  ex : Ex G H
  own : ∀ a l, μ a = some l → G a = none ∧ ∃ vs, H a = some (.lst vs) ∧ ROs G vs l
abbrev Rho := List (Option OV)
structure RV (G : Hp) (ρ : Rho) (σ : L2.St) : Prop where
  len : σ.length = ρ.length
  get : ∀ (i : Nat) o, ρ[i]? = some (some o) → ∃ v, σ[i]? = some (some v) ∧ RO G v o
section
variable {G G' H H' : Hp} {μ : Mu} {ρ : Rho} {σ : L2.St}
theorem RV.mono (h : RV G ρ σ) (e : Ex G G') : RV G' ρ σ := ⟨h.len, fun i o q => let ⟨v, a, b⟩ := h.get i o q; ⟨v, a, b.mono e⟩⟩
theorem RV.set (h : RV G ρ σ) {i : Nat} {v : V} {o : OV} (r : RO G v o) : RV G (ρ.set i (some o)) (σ.set i (some v)) := by
  refine ⟨by rw [List.length_set, List.length_set, h.len], fun j p q => ?_⟩
  by_cases e : i = j
  · subst e
    by_cases hl : i < ρ.length
    · rw [List.getElem?_set_self hl] at q
      cases q
      exact ⟨v, List.getElem?_set_self (by rw [h.len]; exact hl), r⟩
    · rw [List.getElem?_eq_none (by rw [List.length_set]; omega)] at q
      cases q
  · rw [List.getElem?_set_ne e] at q ⊢
    exact h.get j p q
theorem RV.wipe (h : RV G ρ σ) : ∀ (vs : List Nat), RV G (vs.foldr (fun v r => r.set v none) ρ) (L2.wipe σ vs)
  | [] => h
  | v :: vs => by
    have ih := RV.wipe h vs
    refine ⟨by show ((L2.wipe σ vs).set v none).length = _; rw [List.length_set, ih.len, List.foldr_cons, List.length_set], fun j p q => ?_⟩
    rw [List.foldr_cons] at q
    by_cases e : v = j
    · subst e
      by_cases hl : v < (vs.foldr (fun v r => r.set v none) ρ).length
      · rw [List.getElem?_set_self hl] at q
        cases q
      · rw [List.getElem?_eq_none (by rw [List.length_set]; omega)] at q
        cases q
    · rw [List.getElem?_set_ne e] at q
      obtain ⟨v', a, b⟩ := ih.get j p q
      refine ⟨v', ?_, b⟩
      show ((L2.wipe σ vs).set v none)[j]? = _
      rw [List.getElem?_set_ne e]
      exact a
theorem RM.fresh (r : RM G H μ) {p : Addr} (h : H p = none) : μ p = none := by
  cases q : μ p with
  | none => rfl
  | some l =>
    obtain ⟨_, vs, e, _⟩ := r.own p l q
    rw [h] at e
    cases e
/-- a new thing that stays -/
theorem RM.lay (r : RM G H μ) {p : Addr} {o : HO} (h : H p = none) : RM (upd G p o) (upd H p o) μ := by
  refine ⟨fun a u e => ?_, fun a l q => ?_⟩
  · by_cases ha : a = p
    · subst ha
      rw [upd_same] at e ⊢
      exact e
    · rw [upd_ne ha] at e ⊢
      exact r.ex a u e
  · obtain ⟨g, vs, e, w⟩ := r.own a l q
    have ha : a ≠ p := ne_of_none e h
    refine ⟨by rw [upd_ne ha]; exact g, vs, by rw [upd_ne ha]; exact e, w.mono (Ex.new (r.ex.free h))⟩
/-- a new list of one's own -/
theorem RM.new (r : RM G H μ) {p : Addr} {vs : List V} {l : List OV} (h : H p = none) (w : ROs G vs l) : RM G (upd H p (.lst vs)) (μ.put p l) := by
  refine ⟨r.ex.trans (Ex.new h), fun a m q => ?_⟩
  by_cases ha : a = p
  · subst ha
    rw [put_same] at q
    cases q
    exact ⟨r.ex.free h, vs, upd_same, w⟩
  · rw [put_ne ha] at q
    obtain ⟨g, us, e, w⟩ := r.own a m q
    exact ⟨g, us, by rw [upd_ne ha]; exact e, w⟩
/-- a list of one's own changed -/
theorem RM.chg (r : RM G H μ) {p : Addr} {vs : List V} {l m : List OV} (h : μ p = some m) (w : ROs G vs l) : RM G (upd H p (.lst vs)) (μ.put p l) := by
  obtain ⟨g0, us0, e0, _⟩ := r.own p m h
  refine ⟨fun a u e => ?_, fun a m q => ?_⟩
  · rw [upd_ne (ne_of_none e g0)]
    exact r.ex a u e
  · by_cases ha : a = p
    · subst ha
      rw [put_same] at q
      cases q
      exact ⟨g0, vs, upd_same, w⟩
    · rw [put_ne ha] at q
      obtain ⟨g, us, e, w⟩ := r.own a m q
      exact ⟨g, us, by rw [upd_ne ha]; exact e, w⟩
/-- a list of one's own stays from now on -/
theorem RM.frz (r : RM G H μ) {p : Addr} {ds : List PyData} (h : μ p = some (ds.map .im)) : ∃ vs, H p = some (.lst vs) ∧ G p = none ∧ DvA G vs ds ∧ RM (upd G p (.lst vs)) H (μ.del p) := by
  obtain ⟨g0, vs, e0, w⟩ := r.own p _ h
  refine ⟨vs, e0, g0, ROs.ims w, fun a u e => ?_, fun a m q => ?_⟩
  · by_cases ha : a = p
    · subst ha
      rw [upd_same] at e
      cases e
      exact e0
    · rw [upd_ne ha] at e
      exact r.ex a u e
  · by_cases ha : a = p
    · subst ha
      rw [show μ.del a a = none from if_pos rfl] at q
      cases q
    · rw [show μ.del p a = μ a from if_neg ha] at q
      obtain ⟨g, us, e, w⟩ := r.own a m q
      exact ⟨by rw [upd_ne ha]; exact g, us, e, w.mono (Ex.new g0)⟩
theorem RM.drop (r : RM G H μ) {μ' : Mu} (h : ∀ a l, μ' a = some l → μ a = some l) : RM G H μ' := ⟨r.ex, fun a l q => r.own a l (h a l q)⟩
end
end Nx
namespace Nx
open PySem PySem.Spec PyProof.Rows L2

/-- what is wanted of a value at the level of data, brought down -/
def Fin (G : Hp) (Φ : OV → Mu → Prop) (Q : VK) : Prop := ∀ v o μ' G' H', Φ o μ' → Ex G G' → RM G' H' μ' → RO G' v o → Q v H'
theorem Fin.later {G G' : Hp} {Φ : OV → Mu → Prop} {Q : VK} (f : Fin G Φ Q) (e : Ex G G') : Fin G' Φ Q := fun v o μ' G2 H' h e2 => f v o μ' G2 H' h (e.trans e2)
def DE (X : Cx) (e : Expr) (ρ : Rho) (μ : Mu) (Φ : OV → Mu → Prop) : Prop := ∀ G H σ, RM G H μ → RV G ρ σ → ∀ Q : VK, Fin G Φ Q → WE X e σ H Q
def DT (X : Cx) (e : Expr) (ρ : Rho) (μ : Mu) (Φ : Bool → Mu → Prop) : Prop := ∀ G H σ, RM G H μ → RV G ρ σ → ∀ Q : Bool → Hp → Prop, (∀ b μ' G' H', Φ b μ' → Ex G G' → RM G' H' μ' → Q b H') → WT X e σ H Q
def DA (X : Cx) (es : List Expr) (ρ : Rho) (μ : Mu) (Φ : List OV → Mu → Prop) : Prop := ∀ G H σ, RM G H μ → RV G ρ σ → ∀ Q : List V → Hp → Prop, (∀ vs os μ' G' H', Φ os μ' → Ex G G' → RM G' H' μ' → ROs G' vs os → Q vs H') → WA X es σ H Q
def DK (X : Cx) (ks : List Keyword) (ρ : Rho) (μ : Mu) (Φ : List OV → Mu → Prop) : Prop := ∀ G H σ, RM G H μ → RV G ρ σ → ∀ Q : List V → Hp → Prop, (∀ vs os μ' G' H', Φ os μ' → Ex G G' → RM G' H' μ' → ROs G' vs os → Q vs H') → WK X ks σ H Q
structure DEnds where
  nx : Rho → Mu → Prop
  rt : OV → Mu → Prop
  bk : Rho → Mu → Prop := fun _ _ => False
  ct : Rho → Mu → Prop := fun _ _ => False
def FinS (G : Hp) (P : Rho → Mu → Prop) (Q : L2.St → Hp → Prop) : Prop := ∀ ρ' μ' G' H' σ', P ρ' μ' → Ex G G' → RM G' H' μ' → RV G' ρ' σ' → Q σ' H'
theorem FinS.later {G G' : Hp} {P : Rho → Mu → Prop} {Q : L2.St → Hp → Prop} (f : FinS G P Q) (e : Ex G G') : FinS G' P Q := fun ρ' μ' G2 H' σ' h e2 => f ρ' μ' G2 H' σ' h (e.trans e2)
structure FinE (G : Hp) (D : DEnds) (E : Ends) : Prop where
  nx : FinS G D.nx E.nx
  rt : Fin G D.rt E.rt
  bk : FinS G D.bk E.bk
  ct : FinS G D.ct E.ct
theorem FinE.later {G G' : Hp} {D : DEnds} {E : Ends} (f : FinE G D E) (e : Ex G G') : FinE G' D E := ⟨f.nx.later e, f.rt.later e, f.bk.later e, f.ct.later e⟩
def DS (X : Cx) (st : Stmt) (ρ : Rho) (μ : Mu) (D : DEnds) : Prop := ∀ G H σ, RM G H μ → RV G ρ σ → ∀ E : Ends, FinE G D E → WS X st E σ H
def DSs (X : Cx) (ss : List Stmt) (ρ : Rho) (μ : Mu) (D : DEnds) : Prop := ∀ G H σ, RM G H μ → RV G ρ σ → ∀ E : Ends, FinE G D E → WSs X ss E σ H

section
variable {X : Cx} {a b c e : Expr} {es : List Expr} {ρ : Rho} {μ : Mu} {Φ : OV → Mu → Prop} {pos : Pos}
theorem DE.imp {Ψ : OV → Mu → Prop} (h : DE X e ρ μ Φ) (k : ∀ o μ', Φ o μ' → Ψ o μ') : DE X e ρ μ Ψ := fun G H σ r v Q f => h G H σ r v Q fun v o μ' G' H' q => f v o μ' G' H' (k o μ' q)
theorem DT.imp {Φ Ψ : Bool → Mu → Prop} (h : DT X e ρ μ Φ) (k : ∀ o μ', Φ o μ' → Ψ o μ') : DT X e ρ μ Ψ := fun G H σ r v Q f => h G H σ r v Q fun o μ' G' H' q => f o μ' G' H' (k o μ' q)
theorem DA.imp {Φ Ψ : List OV → Mu → Prop} (h : DA X es ρ μ Φ) (k : ∀ o μ', Φ o μ' → Ψ o μ') : DA X es ρ μ Ψ := fun G H σ r v Q f => h G H σ r v Q fun v o μ' G' H' q => f v o μ' G' H' (k o μ' q)
theorem DSs.imp {ss : List Stmt} {D D' : DEnds} (h : DSs X ss ρ μ D) (k1 : ∀ r m, D.nx r m → D'.nx r m) (k2 : ∀ o m, D.rt o m → D'.rt o m) (k3 : ∀ r m, D.bk r m → D'.bk r m) (k4 : ∀ r m, D.ct r m → D'.ct r m) : DSs X ss ρ μ D' :=
  fun G H σ r v E f => h G H σ r v E ⟨fun ρ' μ' G' H' σ' q => f.nx ρ' μ' G' H' σ' (k1 _ _ q), fun v o μ' G' H' q => f.rt v o μ' G' H' (k2 _ _ q), fun ρ' μ' G' H' σ' q => f.bk ρ' μ' G' H' σ' (k3 _ _ q), fun ρ' μ' G' H' σ' q => f.ct ρ' μ' G' H' σ' (k4 _ _ q)⟩
theorem DS.imp {ss : Stmt} {D D' : DEnds} (h : DS X ss ρ μ D) (k1 : ∀ r m, D.nx r m → D'.nx r m) (k2 : ∀ o m, D.rt o m → D'.rt o m) (k3 : ∀ r m, D.bk r m → D'.bk r m) (k4 : ∀ r m, D.ct r m → D'.ct r m) : DS X ss ρ μ D' :=
  fun G H σ r v E f => h G H σ r v E ⟨fun ρ' μ' G' H' σ' q => f.nx ρ' μ' G' H' σ' (k1 _ _ q), fun v o μ' G' H' q => f.rt v o μ' G' H' (k2 _ _ q), fun ρ' μ' G' H' σ' q => f.bk ρ' μ' G' H' σ' (k3 _ _ q), fun ρ' μ' G' H' σ' q => f.ct ρ' μ' G' H' σ' (k4 _ _ q)⟩
/-- a list of one's own that stays from here on -/
theorem de_frz {ds : List PyData} {p : Addr} (h : DE X e ρ μ fun o μ' => ∃ p ds, o = .own p ∧ μ' p = some (ds.map .im) ∧ Φ (.im (.list ds)) (μ'.del p)) : DE X e ρ μ Φ := fun G H σ r v Q f =>
  h G H σ r v Q fun v o μ' G' H' q e m ro => by
    obtain ⟨p, ds, rfl, hp, q⟩ := q
    obtain ⟨vs, e0, g0, w, m'⟩ := m.frz hp
    have ro : v = .ref p := ro
    subst ro
    exact f _ _ _ _ _ q (e.trans (Ex.new g0)) m' (Dv.lst upd_same (w.mono (Ex.new g0)))

/-! ### names, constants -/
theorem de_var (i : Nat) {x : Str} {o : OV} (hN : X.N[i]? = some x) (hv : Vis X.env.scope x) (hρ : ρ[i]? = some (some o)) (h : Φ o μ) (hd : (x == ("__debug__" : Str)) = false := by decide) (hcd : (x == ("__classdict__" : Str)) = false := by decide) : DE X (.Name x pos) ρ μ Φ := fun G H σ r v Q f => by
  obtain ⟨u, h1, h2⟩ := v.get i o hρ
  exact WE.of (pe_var hN hv hd hcd) ⟨u, h1, f u o μ G H h (Ex.refl G) r h2⟩
theorem de_v (i : Nat) {x : Str} {o : OV} (hρ : ρ[i]? = some (some o)) (h : Φ o μ) (hN : X.N[i]? = some x := by rfl) (hv : Vis X.env.scope x := by first | exact Or.inl rfl | exact Or.inr (Or.inl rfl) | exact Or.inr (Or.inr rfl))
    (hd : (x == ("__debug__" : Str)) = false := by decide) (hcd : (x == ("__classdict__" : Str)) = false := by decide) : DE X (.Name x pos) ρ μ Φ := de_var i hN hv hρ h hd hcd
theorem de_int {i : Int} {j : Nat} (h : Φ (.im (.int i)) μ) : DE X (.Constant (.int i) j pos) ρ μ Φ := fun G H σ r v Q f => WE.of pe_int (f _ _ _ _ _ h (Ex.refl G) r (Dv.int i))
theorem de_bl {i : Bool} {j : Nat} (h : Φ (.im (.bool i)) μ) : DE X (.Constant (.bool i) j pos) ρ μ Φ := fun G H σ r v Q f => WE.of pe_bl (f _ _ _ _ _ h (Ex.refl G) r (Dv.bl i))
theorem de_non {j : Nat} (h : Φ (.im .none) μ) : DE X (.Constant .none j pos) ρ μ Φ := fun G H σ r v Q f => WE.of pe_non (f _ _ _ _ _ h (Ex.refl G) r Dv.non)
theorem de_str {i : Str} {j : Nat} (h : Φ (.im (.str i)) μ) : DE X (.Constant (.str i) j pos) ρ μ Φ := fun G H σ r v Q f => WE.of pe_str (f _ _ _ _ _ h (Ex.refl G) r (Dv.str i))

/-! ### operators -/
/-- an operation on values, at the level of data -/
def OpD (r : R2) (x y : OV) (μ : Mu) (Φ : OV → Mu → Prop) : Prop := ∀ G H vx vy, RM G H μ → RO G vx x → RO G vy y → ∀ Q : VK, Fin G Φ Q → r vx vy H Q
theorem de_op {op : Operator} {r : R2} (ho : OpR X (binaryOp op) r) (h : DE X a ρ μ fun x μ1 => DE X b ρ μ1 fun y μ2 => OpD r x y μ2 Φ) : DE X (.BinOp a op b pos) ρ μ Φ := fun G H σ m v Q f =>
  WE.of (pe_op ho pwe pwe) (h G H σ m v _ fun vx x μ1 G1 H1 q1 e1 m1 r1 => q1 G1 H1 σ m1 (v.mono e1) _ fun vy y μ2 G2 H2 q2 e2 m2 r2 => q2 G2 H2 vx vy m2 (r1.mono e2) r2 Q (f.later (e1.trans e2)))
theorem de_cmp {op : CmpOp} {r : R2} (ho : OpR X (compareOp op) r) (hm : behindInMarks op b = false) (h : DE X a ρ μ fun x μ1 => DE X b ρ μ1 fun y μ2 => OpD r x y μ2 Φ) : DE X (.Compare a [op] [b] pos) ρ μ Φ := fun G H σ m v Q f =>
  WE.of (pe_cmpR ho pwe pwe hm) (h G H σ m v _ fun vx x μ1 G1 H1 q1 e1 m1 r1 => q1 G1 H1 σ m1 (v.mono e1) _ fun vy y μ2 G2 H2 q2 e2 m2 r2 => q2 G2 H2 vx vy m2 (r1.mono e2) r2 Q (f.later (e1.trans e2)))
theorem dt_cmp {Φ : Bool → Mu → Prop} {op : CmpOp} {r : R2} (ho : OpR X (compareOp op) r) (hm : behindInMarks op b = false) (h : DE X a ρ μ fun x μ1 => DE X b ρ μ1 fun y μ2 => OpD r x y μ2 fun z μ3 => ∃ k, z = .im (.bool k) ∧ Φ k μ3) : DT X (.Compare a [op] [b] pos) ρ μ Φ := fun G H σ m v Q f =>
  WT.of (pt_cmpR ho pwe pwe hm) (h G H σ m v _ fun vx x μ1 G1 H1 q1 e1 m1 r1 => q1 G1 H1 σ m1 (v.mono e1) _ fun vy y μ2 G2 H2 q2 e2 m2 r2 => q2 G2 H2 vx vy m2 (r1.mono e2) r2 _ fun vz z μ3 G3 H3 q3 e3 m3 r3 => by
    obtain ⟨k, rfl, q⟩ := q3
    cases r3
    exact ⟨k, rfl, f k μ3 G3 H3 q ((e1.trans e2).trans e3) m3⟩)
theorem od_I0 {g : Int → Int → Int} {i j : Int} (h : Φ (.im (.int (g i j))) μ) : OpD (rI0 fun i j => .int (g i j)) (.im (.int i)) (.im (.int j)) μ Φ := fun G H vx vy m rx ry Q f => by
  cases rx
  cases ry
  exact ⟨i, j, rfl, rfl, f _ _ μ G H h (Ex.refl G) m (Dv.int _)⟩
theorem od_B0 {g : Int → Int → Bool} {i j : Int} (h : Φ (.im (.bool (g i j))) μ) : OpD (rI0 fun i j => .bl (g i j)) (.im (.int i)) (.im (.int j)) μ Φ := fun G H vx vy m rx ry Q f => by
  cases rx
  cases ry
  exact ⟨i, j, rfl, rfl, f _ _ μ G H h (Ex.refl G) m (Dv.bl _)⟩
theorem od_I {C : Int → Int → Prop} {g : Int → Int → Int} {i j : Int} (hc : C i j) (h : Φ (.im (.int (g i j))) μ) : OpD (rI C fun i j => .int (g i j)) (.im (.int i)) (.im (.int j)) μ Φ := fun G H vx vy m rx ry Q f => by
  cases rx
  cases ry
  exact ⟨i, j, rfl, rfl, hc, f _ _ μ G H h (Ex.refl G) m (Dv.int _)⟩
theorem OpD.or {r r' : R2} {x y : OV} (h : OpD r x y μ Φ ∨ OpD r' x y μ Φ) : OpD (fun x y H Q => r x y H Q ∨ r' x y H Q) x y μ Φ := fun G H vx vy m rx ry Q f => by
  rcases h with h | h
  · exact .inl (h G H vx vy m rx ry Q f)
  · exact .inr (h G H vx vy m rx ry Q f)

def AddD (x y : OV) (μ : Mu) (Φ : OV → Mu → Prop) : Prop :=
  (∃ i j, x = .im (.int i) ∧ y = .im (.int j) ∧ Φ (.im (.int (i + j))) μ) ∨
  (∃ xs ys, x = .im (.list xs) ∧ y = .im (.list ys) ∧ xs.length + ys.length ≤ 100000 ∧ Φ (.im (.list (xs ++ ys))) μ) ∨
  (∃ x' y', x = .im (.str x') ∧ y = .im (.str y') ∧ x'.length + y'.length ≤ 100000 ∧ Φ (.im (.str (x' ++ y'))) μ)
theorem od_cat {xs ys : List PyData} (hz : xs.length + ys.length ≤ 100000) (h : Φ (.im (.list (xs ++ ys))) μ) : OpD rCat (.im (.list xs)) (.im (.list ys)) μ Φ := fun G H vx vy m rx ry Q f => by
  cases rx with
  | lst h1 w1 =>
    cases ry with
    | lst h2 w2 =>
      refine ⟨_, _, _, _, rfl, rfl, m.ex _ _ h1, m.ex _ _ h2, by rw [w1.length, w2.length]; exact Nat.le_trans hz (by decide), fun p hp => ?_⟩
      have n := m.ex.free hp
      exact f _ _ μ _ _ h (Ex.new n) (m.lay hp) (Dv.lst upd_same ((w1.append w2).mono (Ex.new n)))
theorem de_add (h : DE X a ρ μ fun x μ1 => DE X b ρ μ1 fun y μ2 => AddD x y μ2 Φ) : DE X (.BinOp a .Add b pos) ρ μ Φ := by
  refine de_op ((op_add.or op_cat).or op_add_str) (h.imp fun x μ1 h1 => h1.imp fun y μ2 h2 => ?_)
  rcases h2 with ⟨i, j, rfl, rfl, q⟩ | ⟨xs, ys, rfl, rfl, hz, q⟩ | ⟨xs, ys, rfl, rfl, hz, q⟩
  · exact .or (.inl (.or (.inl (od_I0 q))))
  · exact .or (.inl (.or (.inr (od_cat hz q))))
  · refine .or (.inr fun G H vx vy m rx ry Q f => ?_)
    cases rx
    cases ry
    exact ⟨_, _, rfl, rfl, Nat.le_trans hz (by decide), f _ _ _ _ _ q (Ex.refl G) m (Dv.str _)⟩
theorem de_sub (h : DE X a ρ μ fun x μ1 => DE X b ρ μ1 fun y μ2 => ∃ i j, x = .im (.int i) ∧ y = .im (.int j) ∧ Φ (.im (.int (i - j))) μ2) : DE X (.BinOp a .Sub b pos) ρ μ Φ := by
  refine de_op op_sub (h.imp fun x μ1 h1 => h1.imp fun y μ2 h2 => ?_)
  obtain ⟨i, j, rfl, rfl, q⟩ := h2
  exact od_I0 q
theorem de_mod (h : DE X a ρ μ fun x μ1 => DE X b ρ μ1 fun y μ2 => ∃ i j, x = .im (.int i) ∧ y = .im (.int j) ∧ 0 < j ∧ Φ (.im (.int (i % j))) μ2) : DE X (.BinOp a .Mod b pos) ρ μ Φ := by
  refine de_op op_mod (h.imp fun x μ1 h1 => h1.imp fun y μ2 h2 => ?_)
  obtain ⟨i, j, rfl, rfl, hj, q⟩ := h2
  exact od_I hj q
theorem de_fdiv (h : DE X a ρ μ fun x μ1 => DE X b ρ μ1 fun y μ2 => ∃ i j, x = .im (.int i) ∧ y = .im (.int j) ∧ CDiv i j ∧ Φ (.im (.int (i / j))) μ2) : DE X (.BinOp a .FloorDiv b pos) ρ μ Φ := by
  refine de_op op_fdiv (h.imp fun x μ1 h1 => h1.imp fun y μ2 h2 => ?_)
  obtain ⟨i, j, rfl, rfl, hj, q⟩ := h2
  exact od_I hj q
/-- * of ints, one of them small -/
theorem de_mul (h : DE X a ρ μ fun x μ1 => DE X b ρ μ1 fun y μ2 => ∃ i j, x = .im (.int i) ∧ y = .im (.int j) ∧ CMul i j ∧ Φ (.im (.int (i * j))) μ2) : DE X (.BinOp a .Mult b pos) ρ μ Φ := by
  refine de_op op_mul (h.imp fun x μ1 h1 => h1.imp fun y μ2 h2 => ?_)
  obtain ⟨i, j, rfl, rfl, hj, q⟩ := h2
  exact od_I hj q
theorem de_mulL (h : DE X a ρ μ fun x μ1 => DE X b ρ μ1 fun y μ2 => ∃ ds k, x = .im (.list ds) ∧ y = .im (.int k) ∧ -100000 ≤ k ∧ k ≤ 100000 ∧ ds.length * k.toNat ≤ 100000 ∧ Φ (.im (.list (List.replicate k.toNat ds).flatten)) μ2) : DE X (.BinOp a .Mult b pos) ρ μ Φ := by
  refine de_op op_rep (h.imp fun x μ1 h1 => h1.imp fun y μ2 h2 => ?_)
  obtain ⟨ds, k, rfl, rfl, k1, k2, hz, q⟩ := h2
  intro G H vx vy m rx ry Q f
  cases ry
  cases rx with
  | lst h1 w1 =>
    have rep : ∀ (n : Nat) {xs : List V}, DvA G xs ds → DvA G (List.replicate n xs).flatten (List.replicate n ds).flatten := by
      intro n xs w
      induction n with
      | zero => exact .nil
      | succ n ih =>
        rw [List.replicate_succ, List.replicate_succ, List.flatten_cons, List.flatten_cons]
        exact w.append ih
    refine ⟨_, _, _, rfl, rfl, m.ex _ _ h1, by omega, by omega, by rw [w1.length]; exact Nat.le_trans hz (by decide), fun p hp => ?_⟩
    have n := m.ex.free hp
    exact f _ _ _ _ _ q (Ex.new n) (m.lay hp) (Dv.lst upd_same ((rep _ w1).mono (Ex.new n)))
theorem de_pow (h : DE X a ρ μ fun x μ1 => DE X b ρ μ1 fun y μ2 => ∃ i j, x = .im (.int i) ∧ y = .im (.int j) ∧ CPow i j ∧ Φ (.im (.int (i ^ j.toNat))) μ2) : DE X (.BinOp a .Pow b pos) ρ μ Φ := by
  refine de_op op_pow (h.imp fun x μ1 h1 => h1.imp fun y μ2 h2 => ?_)
  obtain ⟨i, j, rfl, rfl, hj, q⟩ := h2
  exact od_I hj q
theorem de_neg (h : DE X a ρ μ fun x μ1 => ∃ i, x = .im (.int i) ∧ Φ (.im (.int (-i))) μ1) : DE X (.UnaryOp .USub a pos) ρ μ Φ := fun G H σ m v Q f =>
  WE.of (pe_un un_neg pwe) (h G H σ m v _ fun vx x μ1 G1 H1 q1 e1 m1 r1 => by
    obtain ⟨i, rfl, q⟩ := q1
    cases r1
    exact ⟨i, rfl, f _ _ _ _ _ q e1 m1 (Dv.int _)⟩)

/-! ### comparisons -/
/-- of data: both are read where they stand -/
inductive RdD (μ : Mu) : OV → PyData → Prop
  | im (d : PyData) : RdD μ (.im d) d
  | own {a : Addr} {ds : List PyData} : μ a = some (ds.map .im) → RdD μ (.own a) (.list ds)
theorem RdD.at {G H : Hp} {μ : Mu} (m : RM G H μ) {v : V} {o : OV} {d : PyData} (h : RdD μ o d) (r : RO G v o) : Dv H v d := by
  cases h with
  | im d => exact Dv.mono m.ex r
  | own h =>
    have r : v = _ := r
    subst r
    obtain ⟨_, vs, e, w⟩ := m.own _ _ h
    exact .lst e ((ROs.ims w).mono m.ex)
def CmpI (p : Int → Int → Bool) (Φ : OV → Mu → Prop) (x y : OV) (μ : Mu) : Prop := ∃ i j, x = .im (.int i) ∧ y = .im (.int j) ∧ Φ (.im (.bool (p i j))) μ
theorem de_lt (h : DE X a ρ μ fun x μ1 => DE X b ρ μ1 fun y μ2 => CmpI (fun i j => decide (i < j)) Φ x y μ2) : DE X (.Compare a [.Lt] [b] pos) ρ μ Φ :=
  de_cmp op_lt (nomark _) (h.imp fun x μ1 h1 => h1.imp fun y μ2 ⟨i, j, e1, e2, q⟩ => by subst e1 e2; exact od_B0 q)
theorem de_le (h : DE X a ρ μ fun x μ1 => DE X b ρ μ1 fun y μ2 => CmpI (fun i j => decide (i ≤ j)) Φ x y μ2) : DE X (.Compare a [.LtE] [b] pos) ρ μ Φ :=
  de_cmp op_le (nomark _) (h.imp fun x μ1 h1 => h1.imp fun y μ2 ⟨i, j, e1, e2, q⟩ => by subst e1 e2; exact od_B0 q)
theorem de_gt (h : DE X a ρ μ fun x μ1 => DE X b ρ μ1 fun y μ2 => CmpI (fun i j => decide (j < i)) Φ x y μ2) : DE X (.Compare a [.Gt] [b] pos) ρ μ Φ :=
  de_cmp op_gt (nomark _) (h.imp fun x μ1 h1 => h1.imp fun y μ2 ⟨i, j, e1, e2, q⟩ => by subst e1 e2; exact od_B0 q)
theorem de_ge (h : DE X a ρ μ fun x μ1 => DE X b ρ μ1 fun y μ2 => CmpI (fun i j => decide (j ≤ i)) Φ x y μ2) : DE X (.Compare a [.GtE] [b] pos) ρ μ Φ :=
  de_cmp op_ge (nomark _) (h.imp fun x μ1 h1 => h1.imp fun y μ2 ⟨i, j, e1, e2, q⟩ => by subst e1 e2; exact od_B0 q)
def CmpB (Φ : Bool → Mu → Prop) : OV → Mu → Prop := fun z μ3 => ∃ k, z = .im (.bool k) ∧ Φ k μ3
theorem dt_lt {Φ : Bool → Mu → Prop} (h : DE X a ρ μ fun x μ1 => DE X b ρ μ1 fun y μ2 => ∃ i j, x = .im (.int i) ∧ y = .im (.int j) ∧ Φ (decide (i < j)) μ2) : DT X (.Compare a [.Lt] [b] pos) ρ μ Φ :=
  dt_cmp op_lt (nomark _) (h.imp fun x μ1 h1 => h1.imp fun y μ2 ⟨i, j, e1, e2, q⟩ => by subst e1 e2; exact od_B0 ⟨_, rfl, q⟩)
theorem dt_le {Φ : Bool → Mu → Prop} (h : DE X a ρ μ fun x μ1 => DE X b ρ μ1 fun y μ2 => ∃ i j, x = .im (.int i) ∧ y = .im (.int j) ∧ Φ (decide (i ≤ j)) μ2) : DT X (.Compare a [.LtE] [b] pos) ρ μ Φ :=
  dt_cmp op_le (nomark _) (h.imp fun x μ1 h1 => h1.imp fun y μ2 ⟨i, j, e1, e2, q⟩ => by subst e1 e2; exact od_B0 ⟨_, rfl, q⟩)
theorem dt_gt {Φ : Bool → Mu → Prop} (h : DE X a ρ μ fun x μ1 => DE X b ρ μ1 fun y μ2 => ∃ i j, x = .im (.int i) ∧ y = .im (.int j) ∧ Φ (decide (j < i)) μ2) : DT X (.Compare a [.Gt] [b] pos) ρ μ Φ :=
  dt_cmp op_gt (nomark _) (h.imp fun x μ1 h1 => h1.imp fun y μ2 ⟨i, j, e1, e2, q⟩ => by subst e1 e2; exact od_B0 ⟨_, rfl, q⟩)
theorem dt_ge {Φ : Bool → Mu → Prop} (h : DE X a ρ μ fun x μ1 => DE X b ρ μ1 fun y μ2 => ∃ i j, x = .im (.int i) ∧ y = .im (.int j) ∧ Φ (decide (j ≤ i)) μ2) : DT X (.Compare a [.GtE] [b] pos) ρ μ Φ :=
  dt_cmp op_ge (nomark _) (h.imp fun x μ1 h1 => h1.imp fun y μ2 ⟨i, j, e1, e2, q⟩ => by subst e1 e2; exact od_B0 ⟨_, rfl, q⟩)
/-- a == b of any data -/
theorem od_eq {x y : OV} {d e : PyData} (hx : RdD μ x d) (hy : RdD μ y e) (sd : SeqAt.shaped d = true) (se : SeqAt.shaped e = true) (h : Φ (.im (.bool (PyData.eqv d e))) μ) : OpD (rEqD X.K) x y μ Φ := fun G H vx vy m rx ry Q f =>
  ⟨d, e, (hx.at m rx).dp, (hy.at m ry).dp, sd, se, f _ _ _ _ _ h (Ex.refl G) m (Dv.bl _)⟩
theorem od_ne {x y : OV} {d e : PyData} (hx : RdD μ x d) (hy : RdD μ y e) (sd : SeqAt.shaped d = true) (se : SeqAt.shaped e = true) (h : Φ (.im (.bool (!PyData.eqv d e))) μ) : OpD (rNeD X.K) x y μ Φ := fun G H vx vy m rx ry Q f =>
  ⟨d, e, (hx.at m rx).dp, (hy.at m ry).dp, sd, se, f _ _ _ _ _ h (Ex.refl G) m (Dv.bl _)⟩
end
end Nx
namespace Nx
open PySem PySem.Spec PyProof.Rows L2
section
variable {X : Cx} {a b c e : Expr} {es rest : List Expr} {ρ : Rho} {μ : Mu} {Φ : OV → Mu → Prop} {pos : Pos}
/-! ### equality, in, is None -/
theorem op_eqI : OpR X (compareOp .Eq) (rI0 fun i j => .bl (decide (i = j))) := opB0 fun i j t u s Q E q => eq_int (by rw [Bool.beq_eq_decide_eq]; exact q)
theorem op_neI : OpR X (compareOp .NotEq) (rI0 fun i j => .bl (!decide (i = j))) := opB0 fun i j t u s Q E q => ne_int (by rw [bne, Bool.beq_eq_decide_eq]; exact q)
def EqD (x y : OV) (μ : Mu) (f : Bool → Bool) (Φ : OV → Mu → Prop) : Prop :=
  (∃ i j, x = .im (.int i) ∧ y = .im (.int j) ∧ Φ (.im (.bool (f (decide (i = j))))) μ) ∨
  (∃ d e, RdD μ x d ∧ RdD μ y e ∧ SeqAt.shaped d = true ∧ SeqAt.shaped e = true ∧ Φ (.im (.bool (f (PyData.eqv d e)))) μ) ∨
  (∃ a b, x = .im (.str a) ∧ y = .im (.str b) ∧ Φ (.im (.bool (f (decide (a = b))))) μ)
theorem dec_strD {a b : Str} : decide (V.str a = V.str b) = decide (a = b) := by
  by_cases h : a = b
  · subst h
    simp
  · have h' : ¬ V.str a = V.str b := fun e => h (V.str.inj e)
    simp [h]
theorem od_eqS {a b : Str} (h : Φ (.im (.bool (decide (a = b)))) μ) : OpD rEq (.im (.str a)) (.im (.str b)) μ Φ := fun G H vx vy m rx ry Q f => by
  cases rx
  cases ry
  refine ⟨rfl, ?_⟩
  rw [dec_strD]
  exact f _ _ _ _ _ h (Ex.refl G) m (Dv.bl _)
theorem od_neS {a b : Str} (h : Φ (.im (.bool (!decide (a = b)))) μ) : OpD rNe (.im (.str a)) (.im (.str b)) μ Φ := fun G H vx vy m rx ry Q f => by
  cases rx
  cases ry
  refine ⟨rfl, ?_⟩
  rw [dec_strD]
  exact f _ _ _ _ _ h (Ex.refl G) m (Dv.bl _)
theorem de_eq {k : Nat} (hr : Room k X.A) (h : DE X a ρ μ fun x μ1 => DE X b ρ μ1 fun y μ2 => EqD x y μ2 id Φ) : DE X (.Compare a [.Eq] [b] pos) ρ μ Φ := by
  refine de_cmp ((op_eqI.or (op_eqD hr.units)).or op_eq) (nomark _) (h.imp fun x μ1 h1 => h1.imp fun y μ2 h2 => ?_)
  rcases h2 with ⟨i, j, rfl, rfl, q⟩ | ⟨d, e, h1, h2, s1, s2, q⟩ | ⟨a, b, rfl, rfl, q⟩
  · exact .or (.inl (.or (.inl (od_B0 q))))
  · exact .or (.inl (.or (.inr (od_eq h1 h2 s1 s2 q))))
  · exact .or (.inr (od_eqS q))
theorem de_ne {k : Nat} (hr : Room k X.A) (h : DE X a ρ μ fun x μ1 => DE X b ρ μ1 fun y μ2 => EqD x y μ2 (!·) Φ) : DE X (.Compare a [.NotEq] [b] pos) ρ μ Φ := by
  refine de_cmp ((op_neI.or (op_neD hr.units)).or op_ne) (nomark _) (h.imp fun x μ1 h1 => h1.imp fun y μ2 h2 => ?_)
  rcases h2 with ⟨i, j, rfl, rfl, q⟩ | ⟨d, e, h1, h2, s1, s2, q⟩ | ⟨a, b, rfl, rfl, q⟩
  · exact .or (.inl (.or (.inl (od_B0 q))))
  · exact .or (.inl (.or (.inr (od_ne h1 h2 s1 s2 q))))
  · exact .or (.inr (od_neS q))
theorem dt_eq {k : Nat} {Φ : Bool → Mu → Prop} (hr : Room k X.A) (h : DE X a ρ μ fun x μ1 => DE X b ρ μ1 fun y μ2 => EqD x y μ2 id (CmpB Φ)) : DT X (.Compare a [.Eq] [b] pos) ρ μ Φ := by
  refine dt_cmp ((op_eqI.or (op_eqD hr.units)).or op_eq) (nomark _) (h.imp fun x μ1 h1 => h1.imp fun y μ2 h2 => ?_)
  rcases h2 with ⟨i, j, rfl, rfl, q⟩ | ⟨d, e, h1, h2, s1, s2, q⟩ | ⟨a, b, rfl, rfl, q⟩
  · exact .or (.inl (.or (.inl (od_B0 q))))
  · exact .or (.inl (.or (.inr (od_eq h1 h2 s1 s2 q))))
  · exact .or (.inr (od_eqS q))
theorem dt_ne {k : Nat} {Φ : Bool → Mu → Prop} (hr : Room k X.A) (h : DE X a ρ μ fun x μ1 => DE X b ρ μ1 fun y μ2 => EqD x y μ2 (!·) (CmpB Φ)) : DT X (.Compare a [.NotEq] [b] pos) ρ μ Φ := by
  refine dt_cmp ((op_neI.or (op_neD hr.units)).or op_ne) (nomark _) (h.imp fun x μ1 h1 => h1.imp fun y μ2 h2 => ?_)
  rcases h2 with ⟨i, j, rfl, rfl, q⟩ | ⟨d, e, h1, h2, s1, s2, q⟩ | ⟨a, b, rfl, rfl, q⟩
  · exact .or (.inl (.or (.inl (od_B0 q))))
  · exact .or (.inl (.or (.inr (od_ne h1 h2 s1 s2 q))))
  · exact .or (.inr (od_neS q))
/-- n in a list or tuple of ints -/
def InD (x y : OV) (μ : Mu) (f : Bool → Bool) (Φ : OV → Mu → Prop) : Prop :=
  ∃ (n : Int) (ns : List Int), x = .im (.int n) ∧ (RdD μ y (.list (ns.map .int)) ∨ RdD μ y (.tuple (ns.map .int))) ∧ Φ (.im (.bool (f (decide (n ∈ ns))))) μ
theorem inV_ints (n : Int) : ∀ ns : List Int, inV (.int n) (ns.map V.int) = decide (n ∈ ns)
  | [] => rfl
  | m :: ns => by
    have ih := inV_ints n ns
    unfold inV at ih ⊢
    rw [List.map_cons, List.any_cons, ih]
    show ((m == n) || decide (n ∈ ns)) = decide (n ∈ m :: ns)
    by_cases h : n = m
    · subst h
      simp
    · have h' : ¬ m = n := fun e => h e.symm
      simp [h, h']
theorem flat_ints : ∀ ns : List Int, (ns.map V.int).all flatV = true
  | [] => rfl
  | _ :: ns => by
    rw [List.map_cons, List.all_cons, flat_ints ns]
    rfl
theorem od_in {neg : Bool} {x y : OV} (h : InD x y μ (fun k => if neg then !k else k) Φ) : OpD (rIn X.K neg) x y μ Φ := fun G H vx vy m rx ry Q f => by
  obtain ⟨n, ns, rfl, hy, q⟩ := h
  cases rx
  have fin : Q (.bl (if neg then !inV (.int n) (ns.map V.int) else inV (.int n) (ns.map V.int))) H := by
    rw [inV_ints]
    exact f _ _ _ _ _ q (Ex.refl G) m (Dv.bl _)
  rcases hy with hy | hy
  · have d := hy.at m ry
    generalize hd : PyData.list (ns.map .int) = dd at d
    cases d with
    | lst h1 w => cases hd; exact ⟨_, _, rfl, .inl (.inl (.inl h1)), rfl, by rw [w.ints]; exact flat_ints ns, by rw [w.ints]; exact fin⟩
    | _ => cases hd
  · have d := hy.at m ry
    generalize hd : PyData.tuple (ns.map .int) = dd at d
    cases d with
    | tup h1 w => cases hd; exact ⟨_, _, rfl, .inr (.inl (.inl h1)), rfl, by rw [w.ints]; exact flat_ints ns, by rw [w.ints]; exact fin⟩
    | _ => cases hd
theorem de_in (hm : behindInMarks .In b = false) (h : DE X a ρ μ fun x μ1 => DE X b ρ μ1 fun y μ2 => InD x y μ2 id Φ) : DE X (.Compare a [.In] [b] pos) ρ μ Φ :=
  de_cmp op_in_seq hm (h.imp fun x μ1 h1 => h1.imp fun y μ2 h2 => od_in (neg := false) h2)
theorem de_notin (hm : behindInMarks .NotIn b = false) (h : DE X a ρ μ fun x μ1 => DE X b ρ μ1 fun y μ2 => InD x y μ2 (!·) Φ) : DE X (.Compare a [.NotIn] [b] pos) ρ μ Φ :=
  de_cmp op_notIn_seq hm (h.imp fun x μ1 h1 => h1.imp fun y μ2 h2 => od_in (neg := true) h2)
theorem dt_in {Φ : Bool → Mu → Prop} (hm : behindInMarks .In b = false) (h : DE X a ρ μ fun x μ1 => DE X b ρ μ1 fun y μ2 => InD x y μ2 id (CmpB Φ)) : DT X (.Compare a [.In] [b] pos) ρ μ Φ :=
  dt_cmp op_in_seq hm (h.imp fun x μ1 h1 => h1.imp fun y μ2 h2 => od_in (neg := false) h2)
theorem dt_notin {Φ : Bool → Mu → Prop} (hm : behindInMarks .NotIn b = false) (h : DE X a ρ μ fun x μ1 => DE X b ρ μ1 fun y μ2 => InD x y μ2 (!·) (CmpB Φ)) : DT X (.Compare a [.NotIn] [b] pos) ρ μ Φ :=
  dt_cmp op_notIn_seq hm (h.imp fun x μ1 h1 => h1.imp fun y μ2 h2 => od_in (neg := true) h2)
def isNon : OV → Bool
  | .im .none => true
  | _ => false
theorem isNon_at {G : Hp} {v : V} : ∀ {o : OV}, RO G v o → decide (v = .non) = isNon o
  | .own a, h => by
    have h : v = .ref a := h
    subst h
    rfl
  | .scr K ns, h => by
    obtain ⟨a, rfl, _⟩ := h
    rfl
  | .im d, h => by
    have h : Dv G v d := h
    cases h <;> rfl
theorem od_isN {x y : OV} (hy : y = .im .none) (h : Φ (.im (.bool (isNon x))) μ) : OpD (fun x y H Q => y = .non ∧ Q (.bl (decide (x = .non))) H) x y μ Φ := fun G H vx vy m rx ry Q f => by
  subst hy
  cases ry
  refine ⟨rfl, ?_⟩
  rw [isNon_at rx]
  exact f _ _ _ _ _ h (Ex.refl G) m (Dv.bl _)
theorem od_notN {x y : OV} (hy : y = .im .none) (h : Φ (.im (.bool (!isNon x))) μ) : OpD (fun x y H Q => y = .non ∧ Q (.bl (!decide (x = .non))) H) x y μ Φ := fun G H vx vy m rx ry Q f => by
  subst hy
  cases ry
  refine ⟨rfl, ?_⟩
  rw [isNon_at rx]
  exact f _ _ _ _ _ h (Ex.refl G) m (Dv.bl _)
theorem de_isN {j : Nat} {p' : Pos} (h : DE X a ρ μ fun x μ1 => Φ (.im (.bool (isNon x))) μ1) : DE X (.Compare a [.Is] [.Constant .none j p'] pos) ρ μ Φ :=
  de_cmp op_isN (nomark _) (h.imp fun x μ1 h1 => de_non (od_isN rfl h1))
theorem de_notN {j : Nat} {p' : Pos} (h : DE X a ρ μ fun x μ1 => Φ (.im (.bool (!isNon x))) μ1) : DE X (.Compare a [.IsNot] [.Constant .none j p'] pos) ρ μ Φ :=
  de_cmp op_notN (nomark _) (h.imp fun x μ1 h1 => de_non (od_notN rfl h1))
theorem dt_isN {j : Nat} {p' : Pos} {Φ : Bool → Mu → Prop} (h : DE X a ρ μ fun x μ1 => Φ (isNon x) μ1) : DT X (.Compare a [.Is] [.Constant .none j p'] pos) ρ μ Φ :=
  dt_cmp op_isN (nomark _) (h.imp fun x μ1 h1 => de_non (od_isN rfl ⟨_, rfl, h1⟩))
theorem dt_notN {j : Nat} {p' : Pos} {Φ : Bool → Mu → Prop} (h : DE X a ρ μ fun x μ1 => Φ (!isNon x) μ1) : DT X (.Compare a [.IsNot] [.Constant .none j p'] pos) ρ μ Φ :=
  dt_cmp op_notN (nomark _) (h.imp fun x μ1 h1 => de_non (od_notN rfl ⟨_, rfl, h1⟩))
/-- i op j op k of ints -/
theorem de_chain {op op' : CmpOp} {p p' : Int → Int → Bool} (ho : OpR X (compareOp op) (rI0 fun i j => .bl (p i j))) (ho' : OpR X (compareOp op') (rI0 fun i j => .bl (p' i j)))
    (h : DE X a ρ μ fun x μ1 => DE X b ρ μ1 fun y μ2 => ∃ i j, x = .im (.int i) ∧ y = .im (.int j) ∧ if p i j = true then DE X c ρ μ2 fun z μ3 => ∃ k, z = .im (.int k) ∧ Φ (.im (.bool (p' j k))) μ3 else Φ (.im (.bool false)) μ2)
    (hm : lastMarks [op, op'] [b, c] = false := by with_unfolding_all rfl) : DE X (.Compare a [op, op'] [b, c] pos) ρ μ Φ := fun G H σ m v Q f =>
  WE.of (pe_chain ho ho' pwe pwe pwe hm) (h G H σ m v _ fun vx x μ1 G1 H1 q1 e1 m1 r1 => q1 G1 H1 σ m1 (v.mono e1) _ fun vy y μ2 G2 H2 q2 e2 m2 r2 => by
    obtain ⟨i, j, rfl, rfl, q⟩ := q2
    cases r1
    cases r2
    refine ⟨i, j, rfl, rfl, _, rfl, ?_⟩
    split at q
    · rename_i hp
      rw [if_pos hp]
      refine q G2 H2 σ m2 (v.mono (e1.trans e2)) _ fun vz z μ3 G3 H3 q3 e3 m3 r3 => ?_
      obtain ⟨k, rfl, q⟩ := q3
      cases r3
      exact ⟨j, k, rfl, rfl, f _ _ _ _ _ q ((e1.trans e2).trans e3) m3 (Dv.bl _)⟩
    · rename_i hp
      rw [if_neg hp]
      exact f _ _ _ _ _ q (e1.trans e2) m2 (Dv.bl _))

/-! ### tests -/
def WW (X : Cx) (e : Expr) : TT := fun σ H Q => ∀ whole pins s, Inv X pins σ H s → wpAny (model X.prog X.w) X.A (isTrue e X.env whole) (TP X pins σ Q) X.xe s
theorem pww : PW X e (WW X e) := ⟨fun whole pins s _ _ _ I h => h whole pins s I⟩
theorem WW.of {t : TT} {σ : L2.St} {H : Hp} {Q : Bool → Hp → Prop} (h : PW X e t) (q : t σ H Q) : WW X e σ H Q := fun whole pins s I => h.run whole pins s σ H Q I q
def DW (X : Cx) (e : Expr) (ρ : Rho) (μ : Mu) (Φ : Bool → Mu → Prop) : Prop := ∀ G H σ, RM G H μ → RV G ρ σ → ∀ Q : Bool → Hp → Prop, (∀ b μ' G' H', Φ b μ' → Ex G G' → RM G' H' μ' → Q b H') → WW X e σ H Q
variable {Ψ : Bool → Mu → Prop}
theorem dt_val (h : DE X e ρ μ (CmpB Ψ)) (he : ∀ whole, isTrue e X.env whole = (do let v ← whole; standAt e.pos; holding [v] (truthy v)) := by intro _; rfl) : DT X e ρ μ Ψ := fun G H σ m v Q f =>
  WT.of (pt_val pwe he) (h G H σ m v _ fun vx x μ1 G1 H1 q1 e1 m1 r1 => by
    obtain ⟨k, rfl, q⟩ := q1
    cases r1
    exact ⟨k, rfl, f _ _ _ _ q e1 m1⟩)
theorem dt_not (h : DT X a ρ μ fun k μ1 => Ψ (!k) μ1) : DT X (.UnaryOp .Not a pos) ρ μ Ψ := fun G H σ m v Q f =>
  WT.of (pt_not pwt) (h G H σ m v _ fun k μ1 G1 H1 q1 e1 m1 => f _ _ _ _ q1 e1 m1)
theorem DW.dt (h : DW X e ρ μ Ψ) : DT X e ρ μ Ψ := fun G H σ m v Q f pins s I => h G H σ m v Q f _ pins s I
theorem dw_and1 (h : DT X a ρ μ Ψ) : DW X (.BoolOp .And [a] pos) ρ μ Ψ := fun G H σ m v Q f => WW.of (pw_and1 pwt) (h G H σ m v Q f)
theorem dw_or1 (h : DT X a ρ μ Ψ) : DW X (.BoolOp .Or [a] pos) ρ μ Ψ := fun G H σ m v Q f => WW.of (pw_or1 pwt) (h G H σ m v Q f)
theorem dw_and (h : DT X a ρ μ fun k μ1 => if k = true then DW X (.BoolOp .And (b :: rest) pos) ρ μ1 Ψ else Ψ false μ1) : DW X (.BoolOp .And (a :: b :: rest) pos) ρ μ Ψ := fun G H σ m v Q f =>
  WW.of (pw_and pwt pww) (h G H σ m v _ fun k μ1 G1 H1 q1 e1 m1 => by
    dsimp only at q1
    split at q1
    · rename_i hk
      subst hk
      rw [if_pos rfl]
      exact q1 G1 H1 σ m1 (v.mono e1) Q fun k μ2 G2 H2 q2 e2 m2 => f _ _ _ _ q2 (e1.trans e2) m2
    · rename_i hk
      rw [if_neg hk]
      exact f _ _ _ _ q1 e1 m1)
theorem dw_or (h : DT X a ρ μ fun k μ1 => if k = true then Ψ true μ1 else DW X (.BoolOp .Or (b :: rest) pos) ρ μ1 Ψ) : DW X (.BoolOp .Or (a :: b :: rest) pos) ρ μ Ψ := fun G H σ m v Q f =>
  WW.of (pw_or pwt pww) (h G H σ m v _ fun k μ1 G1 H1 q1 e1 m1 => by
    dsimp only at q1
    split at q1
    · rename_i hk
      subst hk
      rw [if_pos rfl]
      exact f _ _ _ _ q1 e1 m1
    · rename_i hk
      rw [if_neg hk]
      exact q1 G1 H1 σ m1 (v.mono e1) Q fun k μ2 G2 H2 q2 e2 m2 => f _ _ _ _ q2 (e1.trans e2) m2)
/-- and, or, not of truth values -/
theorem de_one {op} (h : DE X a ρ μ Φ) : DE X (.BoolOp op [a] pos) ρ μ Φ := fun G H σ m v Q f => WE.of (pe_one pwe) (h G H σ m v Q f)
theorem de_and (h : DE X a ρ μ fun x μ1 => ∃ k, x = .im (.bool k) ∧ if k = true then DE X (.BoolOp .And (b :: rest) pos) ρ μ1 Φ else Φ (.im (.bool false)) μ1) : DE X (.BoolOp .And (a :: b :: rest) pos) ρ μ Φ := fun G H σ m v Q f =>
  WE.of (pe_and pwe pwe) (h G H σ m v _ fun vx x μ1 G1 H1 q1 e1 m1 r1 => by
    obtain ⟨k, rfl, q⟩ := q1
    cases r1
    refine ⟨k, rfl, ?_⟩
    split at q
    · rename_i hk
      rw [if_pos hk]
      exact q G1 H1 σ m1 (v.mono e1) Q (f.later e1)
    · rename_i hk
      rw [if_neg hk]
      exact f _ _ _ _ _ q e1 m1 (Dv.bl _))
theorem de_or (h : DE X a ρ μ fun x μ1 => ∃ k, x = .im (.bool k) ∧ if k = true then Φ (.im (.bool true)) μ1 else DE X (.BoolOp .Or (b :: rest) pos) ρ μ1 Φ) : DE X (.BoolOp .Or (a :: b :: rest) pos) ρ μ Φ := fun G H σ m v Q f =>
  WE.of (pe_or pwe pwe) (h G H σ m v _ fun vx x μ1 G1 H1 q1 e1 m1 r1 => by
    obtain ⟨k, rfl, q⟩ := q1
    cases r1
    refine ⟨k, rfl, ?_⟩
    split at q
    · rename_i hk
      rw [if_pos hk]
      exact f _ _ _ _ _ q e1 m1 (Dv.bl _)
    · rename_i hk
      rw [if_neg hk]
      exact q G1 H1 σ m1 (v.mono e1) Q (f.later e1))
theorem de_not (h : DE X a ρ μ fun x μ1 => ∃ k, x = .im (.bool k) ∧ Φ (.im (.bool (!k))) μ1) : DE X (.UnaryOp .Not a pos) ρ μ Φ := fun G H σ m v Q f =>
  WE.of (pe_not pwe) (h G H σ m v _ fun vx x μ1 G1 H1 q1 e1 m1 r1 => by
    obtain ⟨k, rfl, q⟩ := q1
    cases r1
    exact ⟨k, rfl, f _ _ _ _ _ q e1 m1 (Dv.bl _)⟩)
theorem de_ifExp (h : DT X c ρ μ fun k μ1 => if k = true then DE X a ρ μ1 Φ else DE X b ρ μ1 Φ) : DE X (.IfExp c a b pos) ρ μ Φ := fun G H σ m v Q f =>
  WE.of (pe_ifExp pwt pwe pwe) (h G H σ m v _ fun k μ1 G1 H1 q1 e1 m1 => by
    dsimp only at q1
    split at q1
    · rename_i hk
      rw [if_pos hk]
      exact q1 G1 H1 σ m1 (v.mono e1) Q (f.later e1)
    · rename_i hk
      rw [if_neg hk]
      exact q1 G1 H1 σ m1 (v.mono e1) Q (f.later e1))
/-- xs or ys, xs a list -/
theorem de_orL (h : DE X a ρ μ fun x μ1 => ∃ ds, RdD μ1 x (.list ds) ∧ if ds ≠ [] then Φ x μ1 else DE X (.BoolOp .Or (b :: rest) pos) ρ μ1 Φ) : DE X (.BoolOp .Or (a :: b :: rest) pos) ρ μ Φ := fun G H σ m v Q f =>
  WE.of (pe_orT pwe pwe) (h G H σ m v _ fun vx x μ1 G1 H1 q1 e1 m1 r1 => by
    obtain ⟨ds, hd, q⟩ := q1
    have d := hd.at m1 r1
    generalize hdd : PyData.list ds = dd at d
    cases d with
    | lst h1 w =>
      cases hdd
      refine ⟨_, .inl ⟨_, .inl (.inl h1), rfl⟩, ?_⟩
      by_cases hn : ds = []
      · rw [if_neg (by simp [hn])] at q
        subst hn
        cases w
        rw [if_neg (by simp)]
        exact q G1 H1 σ m1 (v.mono e1) Q (f.later e1)
      · rw [if_pos hn] at q
        rw [if_pos (by
          cases w with
          | nil => exact absurd rfl hn
          | cons _ _ => rfl)]
        exact f _ _ _ _ _ q e1 m1 r1
    | _ => cases hdd)
end
end Nx
namespace Nx
open PySem PySem.Spec PyProof.Rows L2
/-! ### argument lists, displays -/
section
variable {X : Cx} {a b c e : Expr} {es rest : List Expr} {ρ : Rho} {μ : Mu} {Φ : OV → Mu → Prop} {Λ : List OV → Mu → Prop} {pos : Pos}
theorem da_nil (h : Λ [] μ) : DA X [] ρ μ Λ := fun G H σ m v Q f => WA.of pa_nil (f [] [] μ G H h (Ex.refl G) m .nil)
theorem da_cons (h : DE X e ρ μ fun x μ1 => DA X es ρ μ1 fun xs μ2 => Λ (x :: xs) μ2) (hs : starEach (e :: es) X.env = (false, eval e X.env) :: starEach es X.env := by rfl) : DA X (e :: es) ρ μ Λ := fun G H σ m v Q f =>
  WA.of (pa_cons pwe pwa hs) (h G H σ m v _ fun vx x μ1 G1 H1 q1 e1 m1 r1 => q1 G1 H1 σ m1 (v.mono e1) _ fun vs xs μ2 G2 H2 q2 e2 m2 r2 => f _ _ _ _ _ q2 (e1.trans e2) m2 (.cons (r1.mono e2) r2))
theorem dk_nil (h : Λ [] μ) : DK X [] ρ μ Λ := fun G H σ m v Q f => WK.of pk_nil (f [] [] μ G H h (Ex.refl G) m .nil)
theorem dk_cons {nm : Option Str} {kpos : Pos} {ks : List Keyword} (h : DE X e ρ μ fun x μ1 => DK X ks ρ μ1 fun xs μ2 => Λ (x :: xs) μ2) : DK X (⟨nm, e, kpos⟩ :: ks) ρ μ Λ := fun G H σ m v Q f =>
  WK.of (pk_cons pwe pwk) (h G H σ m v _ fun vx x μ1 G1 H1 q1 e1 m1 r1 => q1 G1 H1 σ m1 (v.mono e1) _ fun vs xs μ2 G2 H2 q2 e2 m2 r2 => f _ _ _ _ _ q2 (e1.trans e2) m2 (.cons (r1.mono e2) r2))
theorem sz {n : Nat} (h : n ≤ 100000) : n ≤ sizeLine := Nat.le_trans h (by decide)
/-- [..] that stays -/
theorem de_lst (h : DA X es ρ μ fun os μ1 => ∃ ds, os = ds.map .im ∧ ds.length ≤ 100000 ∧ Φ (.im (.list ds)) μ1) : DE X (.List es pos) ρ μ Φ := fun G H σ m v Q f =>
  WE.of (pe_lst pwa) (h G H σ m v _ fun vs os μ1 G1 H1 q1 e1 m1 r1 => by
    obtain ⟨ds, rfl, hz, q⟩ := q1
    refine ⟨by rw [r1.length, List.length_map]; exact sz hz, fun p hp => ?_⟩
    have n := m1.ex.free hp
    exact f _ _ _ _ _ q (e1.trans (Ex.new n)) (m1.lay hp) (Dv.lst upd_same (r1.ims.mono (Ex.new n))))
/-- [..] of one's own -/
theorem de_lstO (h : DA X es ρ μ fun os μ1 => os.length ≤ 100000 ∧ ∀ p, μ1 p = none → Φ (.own p) (μ1.put p os)) : DE X (.List es pos) ρ μ Φ := fun G H σ m v Q f =>
  WE.of (pe_lst pwa) (h G H σ m v _ fun vs os μ1 G1 H1 q1 e1 m1 r1 => by
    obtain ⟨hz, q⟩ := q1
    refine ⟨by rw [r1.length]; exact sz hz, fun p hp => ?_⟩
    exact f _ _ _ _ _ (q p (m1.fresh hp)) e1 (m1.new hp r1) rfl)
theorem de_tup {x1} (h : DA X es ρ μ fun os μ1 => ∃ ds, os = ds.map .im ∧ ds.length ≤ 100000 ∧ Φ (.im (.tuple ds)) μ1) : DE X (.Tuple es x1 pos) ρ μ Φ := fun G H σ m v Q f =>
  WE.of (pe_tup pwa) (h G H σ m v _ fun vs os μ1 G1 H1 q1 e1 m1 r1 => by
    obtain ⟨ds, rfl, hz, q⟩ := q1
    refine ⟨by rw [r1.length, List.length_map]; exact sz hz, fun p hp => ?_⟩
    have n := m1.ex.free hp
    exact f _ _ _ _ _ q (e1.trans (Ex.new n)) (m1.lay hp) (Dv.tup upd_same (r1.ims.mono (Ex.new n))))

/-! ### what is read off a sequence -/
/-- a list or a tuple, with its items -/
inductive SqD (μ : Mu) : OV → List OV → Prop
  | lst (ds : List PyData) : SqD μ (.im (.list ds)) (ds.map .im)
  | tup (ds : List PyData) : SqD μ (.im (.tuple ds)) (ds.map .im)
  | own {a : Addr} {l : List OV} : μ a = some l → SqD μ (.own a) l
theorem SqD.at {G H : Hp} (m : RM G H μ) {v : V} {o : OV} {l : List OV} (h : SqD μ o l) (r : RO G v o) : ∃ a xs, v = .ref a ∧ (H a = some (.lst xs) ∨ H a = some (.tup xs)) ∧ ROs G xs l := by
  cases h with
  | lst ds =>
    have r : Dv G v (.list ds) := r
    cases r with
    | lst h w => exact ⟨_, _, rfl, .inl (m.ex _ _ h), ROs.of_ims w⟩
  | tup ds =>
    have r : Dv G v (.tuple ds) := r
    cases r with
    | tup h w => exact ⟨_, _, rfl, .inr (m.ex _ _ h), ROs.of_ims w⟩
  | own h =>
    have r : v = _ := r
    subst r
    obtain ⟨_, vs, e, w⟩ := m.own _ _ h
    exact ⟨_, vs, rfl, .inl e, w⟩
theorem sq_or {K : PySem.W.Frag} {H : Hp} {a : Addr} {xs : List V} (h : H a = some (.lst xs) ∨ H a = some (.tup xs)) : SqL K H a xs ∨ SqT K H a xs := by
  rcases h with h | h
  · exact .inl (.inl (.inl h))
  · exact .inr (.inl (.inl h))
theorem ROs.at {G : Hp} {xs : List V} {l : List OV} {i : Int} {o : OV} (w : ROs G xs l) (h : atI l i = some o) : ∃ v, atI xs i = some v ∧ RO G v o := by
  unfold atI at h ⊢
  rw [w.length]
  cases q : ixN l.length i with
  | none =>
    rw [q] at h
    cases h
  | some j =>
    rw [q] at h
    obtain ⟨v, h1, h2⟩ := ROs.get w (show l[j]? = some o from h)
    exact ⟨v, h1, h2⟩
/-- xs[i] -/
theorem de_ix (hs : PlainIx b) (h : DE X a ρ μ fun x μ1 => DE X b ρ μ1 fun y μ2 => ∃ l i o, SqD μ2 x l ∧ y = .im (.int i) ∧ atI l i = some o ∧ Φ o μ2) : DE X (.Subscript a b pos) ρ μ Φ := fun G H σ m v Q f =>
  WE.of (pe_ix (ix_list.or ix_tup) pwe pwe hs) (h G H σ m v _ fun vx x μ1 G1 H1 q1 e1 m1 r1 => q1 G1 H1 σ m1 (v.mono e1) _ fun vy y μ2 G2 H2 q2 e2 m2 r2 => by
    obtain ⟨l, i, o, hx, rfl, ho, q⟩ := q2
    cases r2
    obtain ⟨p, xs, rfl, hp, w⟩ := hx.at m2 (r1.mono e2)
    obtain ⟨u, h1, h2⟩ := w.at ho
    have fin := f u o μ2 G2 H2 q (e1.trans e2) m2 h2
    rcases hp with hp | hp
    · exact .inl ⟨p, xs, i, u, rfl, rfl, .inl (.inl hp), h1, fin⟩
    · exact .inr ⟨p, xs, i, u, rfl, rfl, .inl (.inl hp), h1, fin⟩)
/-- the same of a sequence of data -/
theorem atI_im {ds : List PyData} {i : Int} {d : PyData} (h : atI ds i = some d) : atI (ds.map OV.im) i = some (.im d) := by
  unfold atI at h ⊢
  rw [List.length_map]
  cases q : ixN ds.length i with
  | none =>
    rw [q] at h
    cases h
  | some j =>
    rw [q] at h
    have h : ds[j]? = some d := h
    show (ds.map OV.im)[j]? = _
    rw [List.getElem?_map, h]
    rfl
def DO (X : Cx) (e : Option Expr) (ρ : Rho) (μ : Mu) (Φ : Option Int → Mu → Prop) : Prop :=
  match e with
  | none => Φ none μ
  | some e => DE X e ρ μ fun x μ1 => ∃ i, x = .im (.int i) ∧ Φ (some i) μ1
def cutO (xs : List OV) (lo hi : Option Int) : List OV := (xs.drop (HT.sIx xs.length 0 lo)).take (HT.sIx xs.length xs.length hi - HT.sIx xs.length 0 lo)
def cutD (xs : List PyData) (lo hi : Option Int) : List PyData := (xs.drop (HT.sIx xs.length 0 lo)).take (HT.sIx xs.length xs.length hi - HT.sIx xs.length 0 lo)
theorem ROs.cut {G : Hp} {xs : List V} {l : List OV} (w : ROs G xs l) (lo hi : Option Int) : ROs G (cutV xs lo hi) (cutO l lo hi) := by
  unfold cutV cutO
  rw [w.length]
  exact (w.drop _).take _
theorem cutO_im (ds : List PyData) (lo hi : Option Int) : cutO (ds.map .im) lo hi = (cutD ds lo hi).map .im := by
  unfold cutO cutD
  rw [List.length_map, List.map_take, List.map_drop]
theorem wo_of {lo : Option Expr} {Ψ : Option Int → Mu → Prop} {G H : Hp} {σ : L2.St} {R : Option Int → Hp → Prop} (h : DO X lo ρ μ Ψ) (m : RM G H μ) (v : RV G ρ σ) (k : ∀ o μ1 G1 H1, Ψ o μ1 → Ex G G1 → RM G1 H1 μ1 → R o H1) :
    ∃ t : TO, PO X lo t ∧ t σ H R := by
  cases lo with
  | none => exact ⟨_, po_none, k _ _ _ _ h (Ex.refl G) m⟩
  | some e =>
    refine ⟨_, po_some pwe, h G H σ m v _ fun vx x μ1 G1 H1 q1 e1 m1 r1 => ?_⟩
    obtain ⟨i, rfl, q⟩ := q1
    cases r1
    exact ⟨i, rfl, k _ _ _ _ q e1 m1⟩
/-- the parts of a slice as a reading -/
def WO (X : Cx) (lo : Option Expr) : TO := fun σ H R => match lo with
  | none => R none H
  | some e => WE X e σ H fun x H1 => ∃ i, x = .int i ∧ R (some i) H1
theorem pwo {lo : Option Expr} : PO X lo (WO X lo) := by
  cases lo with
  | none => exact po_none
  | some e => exact po_some pwe
theorem DO.run {lo : Option Expr} {Ψ : Option Int → Mu → Prop} {G H : Hp} {σ : L2.St} {R : Option Int → Hp → Prop} (h : DO X lo ρ μ Ψ) (m : RM G H μ) (v : RV G ρ σ) (k : ∀ o μ1 G1 H1, Ψ o μ1 → Ex G G1 → RM G1 H1 μ1 → R o H1) : WO X lo σ H R := by
  cases lo with
  | none => exact k _ _ _ _ h (Ex.refl G) m
  | some e =>
    refine h G H σ m v _ fun vx x μ1 G1 H1 q1 e1 m1 r1 => ?_
    obtain ⟨i, rfl, q⟩ := q1
    cases r1
    exact ⟨i, rfl, k _ _ _ _ q e1 m1⟩
/-- xs[lo:hi] of a list: a new list that stays -/
theorem de_slL {lo hi : Option Expr} {p2 : Pos} (h : DE X e ρ μ fun x μ1 => DO X lo ρ μ1 fun l μ2 => DO X hi ρ μ2 fun u μ3 => ∃ ds, RdD μ3 x (.list ds) ∧ Φ (.im (.list (cutD ds l u))) μ3) : DE X (.Subscript e (.Slice lo hi none p2) pos) ρ μ Φ := fun G H σ m v Q f =>
  WE.of (pe_slice sl_list pwe pwo pwo) (h G H σ m v _ fun vx x μ1 G1 H1 q1 e1 m1 r1 => q1.run m1 (v.mono e1) fun l μ2 G2 H2 q2 e2 m2 => q2.run m2 (v.mono (e1.trans e2)) fun u μ3 G3 H3 q3 e3 m3 => by
    obtain ⟨ds, hd, q⟩ := q3
    have d := hd.at m3 (r1.mono (e2.trans e3))
    have hsq : SqD μ3 x (ds.map .im) := by
      cases hd with
      | im _ => exact .lst ds
      | own h => exact .own h
    obtain ⟨p0, xs, rfl, hp0, w⟩ := hsq.at m3 (r1.mono (e2.trans e3))
    cases d with
    | lst h1 w1 =>
      refine ⟨_, _, rfl, .inl (.inl h1), fun p hp => ?_⟩
      have n := m3.ex.free hp
      rename_i xs1
      have e12 : xs1 = xs := by
        rcases hp0 with z | z
        · rw [h1] at z; cases z; rfl
        · rw [h1] at z; cases z
      subst e12
      have w2 := w.cut l u
      rw [cutO_im] at w2
      exact f _ _ _ _ _ q (((e1.trans e2).trans e3).trans (Ex.new n)) (m3.lay hp) (Dv.lst upd_same (w2.ims.mono (Ex.new n))))
/-- of the script -/
def cutI (ns : List Int) (lo hi : Option Int) : List Int := (ns.drop (HT.sIx ns.length 0 lo)).take (HT.sIx ns.length ns.length hi - HT.sIx ns.length 0 lo)
theorem cutI_V (ns : List Int) (lo hi : Option Int) : cutV (ns.map V.int) lo hi = (cutI ns lo hi).map V.int := by
  unfold cutV cutI
  rw [List.length_map, List.map_take, List.map_drop]
theorem de_slS {lo hi : Option Expr} {p2 : Pos} (h : DE X e ρ μ fun x μ1 => DO X lo ρ μ1 fun l μ2 => DO X hi ρ μ2 fun u μ3 => ∃ ns, x = .scr X.K ns ∧ Φ (.im (.list ((cutI ns l u).map .int))) μ3) : DE X (.Subscript e (.Slice lo hi none p2) pos) ρ μ Φ := fun G H σ m v Q f =>
  WE.of (pe_slice sl_list pwe pwo pwo) (h G H σ m v _ fun vx x μ1 G1 H1 q1 e1 m1 r1 => q1.run m1 (v.mono e1) fun l μ2 G2 H2 q2 e2 m2 => q2.run m2 (v.mono (e1.trans e2)) fun u μ3 G3 H3 q3 e3 m3 => by
    obtain ⟨ns, rfl, q⟩ := q3
    obtain ⟨a, rfl, ha⟩ := r1
    refine ⟨_, _, rfl, sql_mono (e2.trans (e3.trans m3.ex)) ha, fun p hp => ?_⟩
    have n := m3.ex.free hp
    rw [cutI_V]
    exact f _ _ _ _ _ q (((e1.trans e2).trans e3).trans (Ex.new n)) (m3.lay hp) (Dv.lst upd_same (DvA.of_ints _)))
/-- xs[::-1] of a list -/
theorem de_rev {k : Nat} {p1 p2 p3 : Pos} (h : DE X e ρ μ fun x μ1 => ∃ ds, x = .im (.list ds) ∧ Φ (.im (.list ds.reverse)) μ1) : DE X (.Subscript e (.Slice none none (some (.UnaryOp .USub (.Constant (.int 1) k p1) p2)) p3) pos) ρ μ Φ := fun G H σ m v Q f =>
  WE.of (pe_revL pwe) (h G H σ m v _ fun vx x μ1 G1 H1 q1 e1 m1 r1 => by
    obtain ⟨ds, rfl, q⟩ := q1
    cases r1 with
    | lst h1 w1 =>
      refine ⟨_, _, rfl, .inl (.inl (m1.ex _ _ h1)), fun p hp => ?_⟩
      have n := m1.ex.free hp
      have w2 := (ROs.of_ims w1).reverse
      rw [← List.map_reverse] at w2
      exact f _ _ _ _ _ q (e1.trans (Ex.new n)) (m1.lay hp) (Dv.lst upd_same (w2.ims.mono (Ex.new n))))
end
end Nx
namespace Nx
open PySem PySem.Spec PyProof.Rows L2

/-! ### defs, with the guards of repr known -/
structure Rm (k : Nat) (A : Around) : Prop where
  room : Room k A
  gds : A.guards = some []
theorem Rm.mono {j k : Nat} {A : Around} (r : Rm k A) (h : j ≤ k) : Rm j A := ⟨r.room.mono h, r.gds⟩
structure FnG (P : Program) (w : World) (K : PySem.W.Frag) (mg : Str → Option Value) (base : Heap) (CX : CXT) (k : Nat) (f : Addr) (fd : FuncData) (ps : List Str) (sp : Sp) : Prop where
  len : ∀ vs H Q E, sp vs H Q E → vs.length = ps.length
  run : ∀ A outer s H args us vs Q E, Rm k A → Env0 P w K mg base A outer s H → BindsTo s fd args (ps.zip us) → Vals vs us → sp vs H Q E → codeAny (model P w) A (.call (.ref f) args) (CR CX outer P w H s Q E) s
theorem FnG.mono {P : Program} {w : World} {K : PySem.W.Frag} {mg : Str → Option Value} {base : Heap} {CX : CXT} {j k : Nat} {f : Addr} {fd : FuncData} {ps : List Str} {sp : Sp} (F : FnG P w K mg base CX j f fd ps sp) (h : j ≤ k) : FnG P w K mg base CX k f fd ps sp :=
  ⟨F.len, fun A outer s H args us vs Q E r => F.run A outer s H args us vs Q E (r.mono h)⟩

section
variable {P : Program} {w : World} {K : PySem.W.Frag} {mg : Str → Option Value} {base : Heap} {CX : CXT}
theorem fng_of {k : Nat} {f : Addr} {x q : Str} {st : Stmt} {fd : FuncData} {N ps : List Str} {sp : Sp} (F : Fun K x q st f fd) (S : FnScope N ps (defScope st)) (len : ∀ vs H Q E, sp vs H Q E → vs.length = ps.length)
    (body : ∀ (cdv : Value) A outer s H vs Q E, Rm k (A.deeper (envOfC q (defScope st) s.heap.objs.size f cdv)) → sp vs H Q E →
      WSs (cxOf CX P w K mg base N q (defScope st) f cdv A outer s H E) (defBody st) { nx := fun _ H' => Q .non H', rt := Q } (start N vs) H) : FnG P w K mg base CX (k + 1) f fd ps sp := by
  obtain ⟨oc, od, kV, doc, pm, an, cdv, ct, osl, rfl, lk, hcd⟩ := F.ex
  constructor
  · exact len
  intro A outer s H args us vs Q E hr e0 hb r hsp
  have inH : ∀ b o, base.get? b = some o → s.heap.get? b = some o := fun b o e => (e0.bs b o e).1
  have KX : K.In s.heap := e0.mod.kin.keeps inH
  have nolim : s.heap.NoLimit := e0.mod.nolimit.keeps inH
  have kinds : ∀ y ∈ ps.zip us, (defScope st).names.lookup y.1 = some .local ∨
      ((defScope st).names.lookup y.1 = some .cell ∧ ((cellsFrom (s.heap.objs.size + 1) (defScope st).names []).lookup y.1).isSome = true) := by
    rintro ⟨n, v⟩ hy
    rcases S.par n (List.of_mem_zip hy).1 with z | z
    · exact Or.inl z
    · exact Or.inr ⟨z, PySem.W.cellsFrom_some _ _ _ (Or.inl z)⟩
  apply codeAny_call_function hr.room.depth (KX _ _ lk) rfl S.co S.gen rfl (PySem.W.codeRec_of KX hcd)
  apply hb _ _ _ _
  apply wpAny_newFunctionEnv_cells S.kind kinds
  intro env he s1 y
  subst he
  refine ⟨nolim.keeps y.toInCall.keep, codeAny_func ?_⟩
  have go := body cdv A outer s H vs Q E ⟨hr.room.deeper _, hr.gds⟩ hsp
  have I : Inv (cxOf CX P w K mg base N q (defScope st) f cdv A outer s H E) [] (start N vs) H s1 := inv_start S hr.room.hd e0 (len _ _ _ _ hsp) r y
  refine wpAny_mono (go [] s1 I) (fun fl s' hs => ?_) (fun _ _ z => z)
  cases fl with
  | ret u =>
    obtain ⟨v, σ', H', J, rv, z⟩ := hs
    exact ⟨v, H', J.os, J.bare, J.base, J.hok, rv, z⟩
  | next =>
    obtain ⟨σ', H', J, z⟩ := hs
    exact ⟨V.non, H', J.os, J.bare, J.base, J.hok, rfl, z⟩
  | brk =>
    obtain ⟨_, _, _, z⟩ := hs
    exact z.elim
  | cont =>
    obtain ⟨_, _, _, z⟩ := hs
    exact z.elim
end

section
variable {X : Cx} {CX : CXT} {k : Nat} {f : Addr} {fd : FuncData} {ps : List Str} {sp : Sp} {E : XK}
theorem run_g {pins : List (Addr × Obj)} {σ : L2.St} {H : Hp} {s : Shared} {Q : VK} {args : Args} {us : List Value} {vs : List V} (F : FnG X.prog X.w X.K X.mg X.base CX k f fd ps sp) (hr : Rm k X.A) (hx : Passes CX X E)
    (I : Inv X pins σ H s) (hb : BindsTo s fd args (ps.zip us)) (r : Vals vs us) (h : sp vs H Q E) : wpAny (model X.prog X.w) X.A (call (.ref f) args.pos args.kw) (EP X pins σ Q) X.xe s := by
  refine wpAny_call (codeAny_mono (F.run X.A X.stack s H args us vs Q E hr I.env0 hb r h) fun z s' hq => ?_)
  match z, hq with
  | .error e, hq => exact hx pins σ H s e s' I hq
  | .ok (.ret u), hq => exact I.after hq
end

/-! ### contracts at the level of data -/
abbrev Ct := List OV → Mu → (OV → Mu → Prop) → Prop
def spOf (C : Ct) : Sp := fun vs H Q _ => ∃ os μ G Φ, RM G H μ ∧ ROs G vs os ∧ C os μ Φ ∧ Fin G Φ Q
/-- a def of the text, with its contract -/
structure Fc (P : Program) (w : World) (K : PySem.W.Frag) (mg : Str → Option Value) (base : Heap) (x : Str) (st : Stmt) (ps : List Str) (k : Nat) (C : Ct) : Prop where
  ex : ∃ f fd, Fun K x x st f fd ∧ mg x = some (.ref f) ∧ FnG P w K mg base CX0 k f fd ps (spOf C)
section
variable {P : Program} {w : World} {K : PySem.W.Frag} {mg : Str → Option Value} {base : Heap}
theorem rv_start {G : Hp} {N : List Str} {vs : List V} {os : List OV} (r : ROs G vs os) : RV G (os.map some ++ List.replicate (N.length - os.length) none) (start N vs) := by
  unfold L2.start
  refine ⟨by simp only [List.length_append, List.length_map, List.length_replicate, r.length], fun i o h => ?_⟩
  by_cases hi : i < os.length
  · rw [List.getElem?_append_left (by simpa using hi), List.getElem?_map] at h
    have h : os[i]? = some o := by
      cases q : os[i]? with
      | none =>
        rw [q] at h
        cases h
      | some z =>
        rw [q] at h
        cases h
        rfl
    obtain ⟨v, h1, h2⟩ := ROs.get r h
    refine ⟨v, ?_, h2⟩
    rw [List.getElem?_append_left (by rw [List.length_map, r.length]; exact hi), List.getElem?_map, h1]
    rfl
  · rw [List.getElem?_append_right (by simpa using hi), List.getElem?_replicate] at h
    split at h <;> cases h
theorem fc_of {k : Nat} {f : Addr} {x : Str} {st : Stmt} {fd : FuncData} {N ps : List Str} {C : Ct} (F : Fun K x x st f fd) (hm : mg x = some (.ref f)) (S : FnScope N ps (defScope st)) (len : ∀ os μ Φ, C os μ Φ → os.length = ps.length)
    (body : ∀ (cdv : Value) A outer s H E os μ Φ, Rm k (A.deeper (envOfC x (defScope st) s.heap.objs.size f cdv)) → C os μ Φ →
      DSs (cxOf CX0 P w K mg base N x (defScope st) f cdv A outer s H E).nox (defBody st) (os.map some ++ List.replicate (N.length - os.length) none) μ { nx := fun _ μ' => Φ (.im .none) μ', rt := Φ }) : Fc P w K mg base x st ps (k + 1) C := by
  refine ⟨⟨f, fd, F, hm, fng_of F S (fun vs H Q E h => ?_) fun cdv A outer s H vs Q E hr h => ?_⟩⟩
  · obtain ⟨os, μ, G, Φ, _, r, c, _⟩ := h
    rw [r.length]
    exact len _ _ _ c
  · obtain ⟨os, μ, G, Φ, m, r, c, fin⟩ := h
    refine WSs.of (PSs.nox pwss) (body cdv A outer s H E os μ Φ hr c G H _ m (rv_start r) _ ⟨fun ρ' μ' G' H' σ' q e m' _ => fin _ _ _ _ _ q e m' Dv.non, fin, fun _ _ _ _ _ q => q.elim, fun _ _ _ _ _ q => q.elim⟩)
theorem Fc.mono {j k : Nat} {x : Str} {st : Stmt} {ps : List Str} {C : Ct} (F : Fc P w K mg base x st ps j C) (h : j ≤ k) : Fc P w K mg base x st ps k C := by
  obtain ⟨f, fd, a, b, c⟩ := F.ex
  exact ⟨⟨f, fd, a, b, c.mono h⟩⟩
end
section
variable {X : Cx} {a b c e : Expr} {es rest : List Expr} {ρ : Rho} {μ : Mu} {Φ : OV → Mu → Prop} {pos p : Pos} {x : Str} {st : Stmt} {ps : List Str} {k : Nat} {C : Ct}
theorem passE {X : Cx} : Passes CX0 X fun _ _ _ => False := fun _ _ _ _ _ _ _ h => h.elim
/-- f(e, ..) -/
theorem de_call (F : Fc X.prog X.w X.K X.mg X.base x st ps k C) (hr : Rm k X.A) (hg : Gl X x)
    (hb : ∀ (kV doc pm : Value) (an : Option Addr) (cdv ct : Value) (us : List Value), us.length = ps.length → bindArgs (PySem.W.fnOf x x (defArgs st) (defBody st) (defScope st) .none kV doc pm an cdv ct) ⟨us, []⟩ = pure (ps.zip us))
    (h : DA X (e :: es) ρ μ fun os μ1 => C os μ1 Φ) (hdb : (x == ("__debug__" : Str)) = false := by decide) (he : starEach (e :: es) X.env = (false, eval e X.env) :: starEach es X.env := by rfl) (hpl : (backTo pos (starEach es X.env)).any (·.1) = false := by rfl) :
    DE X (.Call (.Name x p) (e :: es) [] pos) ρ μ Φ := fun G H σ m v Q f pins s I => by
  obtain ⟨fa, fd, FF, hm, FG⟩ := F.ex
  refine wpAny_Call_Name_kw (ld_glob I hg hm ?_ hdb)
  have hargs : WA X (e :: es) σ H fun vs H1 => spOf C vs H1 Q fun _ _ _ => False := h G H σ m v _ fun vs os μ1 G1 H1 q1 e1 m1 r1 => ⟨os, μ1, G1, Φ, m1, r1, q1, f.later e1⟩
  refine PySem.W.callWith_K (h₀ := X.base) I.ok.mod.kin FF.kp (thn (hargs pos pins s I) fun us s1 ⟨vs, H1, I1, r, q⟩ => ⟨I1.kIn, ?_⟩) he hpl
  refine run_g (args := ⟨us, []⟩) FG hr passE I1 ?_ r q
  obtain ⟨oc, od, kV, doc, pm, an, cdv, ct, osl, rfl, lk, hcd⟩ := FF.ex
  exact .of_eq (hb kV doc pm an cdv ct us (by rw [← r.length]; exact FG.len _ _ _ _ q))
/-- the items at some places -/
def pick {α : Type} (ix : List Nat) (l : List α) : List α := ix.filterMap fun i => l[i]?
theorem pick_rel {α β : Type} {R : α → β → Prop} {l : List α} {m : List β} (h : Paired R l m) : ∀ ix : List Nat, Paired R (pick ix l) (pick ix m) := by
  have get : ∀ {l : List α} {m : List β}, Paired R l m → ∀ i : Nat, (∃ a b, l[i]? = some a ∧ m[i]? = some b ∧ R a b) ∨ (l[i]? = none ∧ m[i]? = none) := by
    intro l m h
    induction h with
    | nil => intro i; exact .inr ⟨rfl, rfl⟩
    | cons r _ ih =>
      intro i
      cases i with
      | zero => exact .inl ⟨_, _, rfl, rfl, r⟩
      | succ i => exact ih i
  intro ix
  induction ix with
  | nil => exact .nil
  | cons i ix ih =>
    unfold pick at ih ⊢
    rcases get h i with ⟨a, b, h1, h2, r⟩ | ⟨h1, h2⟩
    · rw [List.filterMap_cons_some h1, List.filterMap_cons_some h2]
      exact .cons r ih
    · rw [List.filterMap_cons_none h1, List.filterMap_cons_none h2]
      exact ih
/-- f(k = v, ..) -/
theorem de_callK {kws : List Keyword} (ks : List Str) (ix : List Nat) (F : Fc X.prog X.w X.K X.mg X.base x st ps k C) (hr : Rm k X.A) (hg : Gl X x)
    (hb : ∀ (kV doc pm : Value) (an : Option Addr) (cdv ct : Value) (us : List Value), us.length = ks.length → bindArgs (PySem.W.fnOf x x (defArgs st) (defBody st) (defScope st) .none kV doc pm an cdv ct) ⟨[], ks.zip us⟩ = pure (ps.zip (pick ix us)))
    (h : DK X kws ρ μ fun os μ1 => os.length = ks.length ∧ C (pick ix os) μ1 Φ) (hall : (backToKw pos (keywordEach kws X.env)).all (·.1.isSome) = true := by rfl) (hks : (backToKw pos (keywordEach kws X.env)).filterMap (·.1) = ks := by rfl)
    (hpl : ((backTo pos (starEach [] X.env)).any (·.1) || (backToKw pos (keywordEach kws X.env)).any (·.1.isNone)) = false := by rfl) (hdb : (x == ("__debug__" : Str)) = false := by decide) :
    DE X (.Call (.Name x p) [] kws pos) ρ μ Φ := fun G H σ m v Q f pins s I => by
  obtain ⟨fa, fd, FF, hm, FG⟩ := F.ex
  refine wpAny_Call_Name_kw (ld_glob I hg hm ?_ hdb)
  have hargs : WK X kws σ H fun vs H1 => vs.length = ks.length ∧ spOf C (pick ix vs) H1 Q fun _ _ _ => False := h G H σ m v _ fun vs os μ1 G1 H1 q1 e1 m1 r1 => ⟨by rw [r1.length]; exact q1.1, pick ix os, μ1, G1, Φ, m1, pick_rel r1 ix, q1.2, f.later e1⟩
  refine PySem.W.callWith_KW0 (h₀ := X.base) I.ok.mod.kin FF.kp hall (thn (hargs pos pins s I) fun us s1 ⟨vs, H1, I1, r, hl, q⟩ => ⟨I1.kIn, ?_⟩) hpl
  rw [hks]
  refine run_g (args := ⟨[], ks.zip us⟩) FG hr passE I1 ?_ (pick_rel r ix) q
  obtain ⟨oc, od, kV, doc, pm, an, cdv, ct, osl, rfl, lk, hcd⟩ := FF.ex
  exact .of_eq (hb kV doc pm an cdv ct us (by rw [← r.length]; exact hl))
end
end Nx
namespace Nx
open PySem PySem.Spec PyProof.Rows L2
/-! ### deep reading -/
mutual
inductive DR (μ : Mu) : OV → PyData → Prop
  | im (d : PyData) : DR μ (.im d) d
  | own {a : Addr} {l : List OV} {ds : List PyData} : μ a = some l → DRs μ l ds → DR μ (.own a) (.list ds)
inductive DRs (μ : Mu) : List OV → List PyData → Prop
  | nil : DRs μ [] []
  | cons {o : OV} {os : List OV} {d : PyData} {ds : List PyData} : DR μ o d → DRs μ os ds → DRs μ (o :: os) (d :: ds)
end
theorem DRs.ims {μ : Mu} : ∀ ds : List PyData, DRs μ (ds.map .im) ds
  | [] => .nil
  | d :: ds => .cons (.im d) (DRs.ims ds)
mutual
theorem DR.at {G H : Hp} {μ : Mu} (m : RM G H μ) : ∀ {v : V} {o : OV} {d : PyData}, DR μ o d → RO G v o → Dv H v d
  | _, _, _, .im d, r => Dv.mono m.ex r
  | v, _, _, .own (a := a) h hs, r => by
    have r : v = .ref a := r
    subst r
    obtain ⟨_, vs, e, w⟩ := m.own _ _ h
    exact .lst e (DRs.at m hs w)
theorem DRs.at {G H : Hp} {μ : Mu} (m : RM G H μ) : ∀ {vs : List V} {os : List OV} {ds : List PyData}, DRs μ os ds → ROs G vs os → DvA H vs ds
  | _, _, _, .nil, .nil => .nil
  | _, _, _, .cons h hs, .cons r rs => .cons (DR.at m h r) (DRs.at m hs rs)
end
/-- none of the built-in names is a name of the text -/
structure Bt (mg : Str → Option Value) : Prop where
  len : mg "len" = none
  range : mg "range" = none
  list : mg "list" = none
  tuple : mg "tuple" = none
  sorted : mg "sorted" = none
  abs : mg "abs" = none
  int : mg "int" = none
  str : mg "str" = none
  repr : mg "repr" = none
  all : mg "all" = none
  any : mg "any" = none
  max : mg "max" = none
  min : mg "min" = none
  sum : mg "sum" = none
  enumerate : mg "enumerate" = none
  zip : mg "zip" = none
  isinstance : mg "isinstance" = none
  bool : mg "bool" = none
/-! ### built-ins -/
section
variable {X : Cx} {a b c e : Expr} {es rest : List Expr} {ρ : Rho} {μ : Mu} {Φ : OV → Mu → Prop} {pos p : Pos} {x : Str}
abbrev CR1 := List V → Hp → VK → Prop
def CallD (r : CR1) (os : List OV) (μ : Mu) (Φ : OV → Mu → Prop) : Prop := ∀ G H vs, RM G H μ → ROs G vs os → ∀ Q : VK, Fin G Φ Q → r vs H Q
theorem de_callB {id : String} {r : CR1} (hc : CallR X (.builtin id) r) (hg : Gl X x) (hm : X.mg x = none) (hv : bootBuiltins x = some (.builtin id)) (h : DA X (e :: es) ρ μ fun os μ1 => CallD r os μ1 Φ) (hn : x ≠ "__name__" := by decide) (hdb : (x == ("__debug__" : Str)) = false := by decide)
    (he : starEach (e :: es) X.env = (false, eval e X.env) :: starEach es X.env := by rfl) (hpl : (backTo pos (starEach es X.env)).any (·.1) = false := by rfl) : DE X (.Call (.Name x p) (e :: es) [] pos) ρ μ Φ := fun G H σ m v Q f =>
  WE.of (pe_callB hc hg hm hv pwa hn hdb he hpl) (h G H σ m v _ fun vs os μ1 G1 H1 q1 e1 m1 r1 => q1 G1 H1 vs m1 r1 Q (f.later e1))
theorem de_callT {T : String} {r : CR1} (hc : CallR X (.type T) r) (hg : Gl X x) (hm : X.mg x = none) (hv : bootBuiltins x = some (.type T)) (h : DA X (e :: es) ρ μ fun os μ1 => CallD r os μ1 Φ) (hn : x ≠ "__name__" := by decide) (hdb : (x == ("__debug__" : Str)) = false := by decide)
    (he : starEach (e :: es) X.env = (false, eval e X.env) :: starEach es X.env := by rfl) (hpl : (backTo pos (starEach es X.env)).any (·.1) = false := by rfl) : DE X (.Call (.Name x p) (e :: es) [] pos) ρ μ Φ := fun G H σ m v Q f =>
  WE.of (pe_callTy hc hg hm hv pwa hn hdb he hpl) (h G H σ m v _ fun vs os μ1 G1 H1 q1 e1 m1 r1 => q1 G1 H1 vs m1 r1 Q (f.later e1))
theorem ro1 {G : Hp} {vs : List V} {o : OV} (r : ROs G vs [o]) : ∃ v, vs = [v] ∧ RO G v o := by
  cases r with
  | cons r t =>
    cases t
    exact ⟨_, rfl, r⟩
theorem de_len (B : Bt X.mg) (hg : Gl X "len") (h : DE X e ρ μ fun o μ1 => ∃ l, SqD μ1 o l ∧ Φ (.im (.int (l.length : Nat))) μ1) (he : starEach [e] X.env = (false, eval e X.env) :: starEach [] X.env := by rfl) (hpl : (backTo pos (starEach [] X.env)).any (·.1) = false := by rfl) : DE X (.Call (.Name "len" p) [e] [] pos) ρ μ Φ :=
  de_callB call_len_seq hg B.len PySem.boot_len (he := he) (hpl := hpl) (da_cons (hs := he) (h.imp fun o μ1 ⟨l, hl, q⟩ => da_nil fun G H vs m r Q f => by
    obtain ⟨v, rfl, r1⟩ := ro1 r
    obtain ⟨a, xs, rfl, hx, w⟩ := hl.at m r1
    refine ⟨a, xs, rfl, sq_or hx, ?_⟩
    rw [w.length]
    exact f _ _ _ _ _ q (Ex.refl G) m (Dv.int _)))
theorem de_abs (B : Bt X.mg) (hg : Gl X "abs") (h : DE X e ρ μ fun o μ1 => ∃ i, o = .im (.int i) ∧ Φ (.im (.int (if i < 0 then -i else i))) μ1) (he : starEach [e] X.env = (false, eval e X.env) :: starEach [] X.env := by rfl) (hpl : (backTo pos (starEach [] X.env)).any (·.1) = false := by rfl) : DE X (.Call (.Name "abs" p) [e] [] pos) ρ μ Φ :=
  de_callB call_abs hg B.abs PyProof.Rows.boot_abs (he := he) (hpl := hpl) (da_cons (hs := he) (h.imp fun o μ1 ⟨i, ho, q⟩ => da_nil fun G H vs m r Q f => by
    obtain ⟨v, rfl, r1⟩ := ro1 r
    subst ho
    cases r1
    exact ⟨i, rfl, f _ _ _ _ _ q (Ex.refl G) m (Dv.int _)⟩))
theorem de_int1 (B : Bt X.mg) (hg : Gl X "int") (h : DE X e ρ μ fun o μ1 => (∃ i, o = .im (.int i) ∧ Φ (.im (.int i)) μ1) ∨ ∃ k, o = .im (.bool k) ∧ Φ (.im (.int (if k then 1 else 0))) μ1) (he : starEach [e] X.env = (false, eval e X.env) :: starEach [] X.env := by rfl) (hpl : (backTo pos (starEach [] X.env)).any (·.1) = false := by rfl) : DE X (.Call (.Name "int" p) [e] [] pos) ρ μ Φ :=
  de_callT call_int1 hg B.int PyProof.Rows.boot_int (he := he) (hpl := hpl) (da_cons (hs := he) (h.imp fun o μ1 hq => da_nil fun G H vs m r Q f => by
    obtain ⟨v, rfl, r1⟩ := ro1 r
    rcases hq with ⟨i, rfl, q⟩ | ⟨k, rfl, q⟩
    · cases r1
      exact .inl ⟨i, rfl, f _ _ _ _ _ q (Ex.refl G) m (Dv.int _)⟩
    · cases r1
      exact .inr ⟨k, rfl, f _ _ _ _ _ q (Ex.refl G) m (Dv.int _)⟩))
theorem de_str1 (B : Bt X.mg) (hg : Gl X "str") (h : DE X e ρ μ fun o μ1 => ∃ i : Int, o = .im (.int i) ∧ i.natAbs.log2 < 1920 ∧ Φ (.im (.str (toString i))) μ1) (he : starEach [e] X.env = (false, eval e X.env) :: starEach [] X.env := by rfl) (hpl : (backTo pos (starEach [] X.env)).any (·.1) = false := by rfl) : DE X (.Call (.Name "str" p) [e] [] pos) ρ μ Φ :=
  de_callT call_str_int hg B.str PyProof.Rows.boot_str (he := he) (hpl := hpl) (da_cons (hs := he) (h.imp fun o μ1 ⟨i, ho, hz, q⟩ => da_nil fun G H vs m r Q f => by
    obtain ⟨v, rfl, r1⟩ := ro1 r
    subst ho
    cases r1
    exact ⟨i, rfl, hz, f _ _ _ _ _ q (Ex.refl G) m (Dv.str _)⟩))
/-- list(xs), a list that stays -/
theorem de_list (B : Bt X.mg) (hg : Gl X "list") (h : DE X e ρ μ fun o μ1 => ∃ ds, SqD μ1 o (ds.map .im) ∧ Φ (.im (.list ds)) μ1) (he : starEach [e] X.env = (false, eval e X.env) :: starEach [] X.env := by rfl) (hpl : (backTo pos (starEach [] X.env)).any (·.1) = false := by rfl) : DE X (.Call (.Name "list" p) [e] [] pos) ρ μ Φ :=
  de_callT call_list_of hg B.list PyProof.Rows.boot_list (he := he) (hpl := hpl) (da_cons (hs := he) (h.imp fun o μ1 ⟨ds, hl, q⟩ => da_nil fun G H vs m r Q f => by
    obtain ⟨v, rfl, r1⟩ := ro1 r
    obtain ⟨a, xs, rfl, hx, w⟩ := hl.at m r1
    refine ⟨a, xs, rfl, sq_or hx, fun l hl => ?_⟩
    have n := m.ex.free hl
    exact f _ _ _ _ _ q (Ex.new n) (m.lay hl) (Dv.lst upd_same (w.ims.mono (Ex.new n)))))
/-- list(xs), of one's own -/
theorem de_listO (B : Bt X.mg) (hg : Gl X "list") (h : DE X e ρ μ fun o μ1 => ∃ l, SqD μ1 o l ∧ ∀ p, μ1 p = none → Φ (.own p) (μ1.put p l)) (he : starEach [e] X.env = (false, eval e X.env) :: starEach [] X.env := by rfl) (hpl : (backTo pos (starEach [] X.env)).any (·.1) = false := by rfl) : DE X (.Call (.Name "list" p) [e] [] pos) ρ μ Φ :=
  de_callT call_list_of hg B.list PyProof.Rows.boot_list (he := he) (hpl := hpl) (da_cons (hs := he) (h.imp fun o μ1 ⟨ds, hl, q⟩ => da_nil fun G H vs m r Q f => by
    obtain ⟨v, rfl, r1⟩ := ro1 r
    obtain ⟨a, xs, rfl, hx, w⟩ := hl.at m r1
    refine ⟨a, xs, rfl, sq_or hx, fun l hl => ?_⟩
    exact f _ _ _ _ _ (q l (m.fresh hl)) (Ex.refl G) (m.new hl w) rfl))
/-- tuple(xs) of a list (a new tuple) or a tuple -/
theorem de_tuple (B : Bt X.mg) (hg : Gl X "tuple") (h : DE X e ρ μ fun o μ1 => ∃ ds, SqD μ1 o (ds.map .im) ∧ Φ (.im (.tuple ds)) μ1) (he : starEach [e] X.env = (false, eval e X.env) :: starEach [] X.env := by rfl) (hpl : (backTo pos (starEach [] X.env)).any (·.1) = false := by rfl) : DE X (.Call (.Name "tuple" p) [e] [] pos) ρ μ Φ :=
  de_callT call_tuple_of hg B.tuple PyProof.Rows.boot_tuple (he := he) (hpl := hpl) (da_cons (hs := he) (h.imp fun o μ1 ⟨ds, hl, q⟩ => da_nil fun G H vs m r Q f => by
    obtain ⟨v, rfl, r1⟩ := ro1 r
    generalize hll : ds.map OV.im = ll at hl
    cases hl with
    | tup ds' =>
      have e12 : ds = ds' := by
        have := congrArg (List.map fun o => match o with | OV.im d => d | _ => PyData.none) hll
        simpa [List.map_map, Function.comp_def] using this
      subst e12
      have rr : Dv G v (.tuple ds) := r1
      cases rr with
      | tup h1 w1 => exact ⟨_, _, rfl, .inr ⟨.inl (.inl (m.ex _ _ h1)), f _ _ _ _ _ q (Ex.refl G) m (Dv.tup h1 w1)⟩⟩
    | lst ds' =>
      have hsq : SqD μ1 (.im (.list ds')) (ds.map .im) := by rw [hll]; exact .lst ds'
      obtain ⟨a, xs, rfl, hx, w⟩ := hsq.at m r1
      have hx : H a = some (.lst xs) := by
        rcases hx with z | z
        · exact z
        · have rr : Dv G (.ref a) (.list ds') := r1
          cases rr with
          | lst h1 _ =>
            have := m.ex _ _ h1
            rw [z] at this
            cases this
      refine ⟨a, xs, rfl, .inl ⟨.inl (.inl hx), fun l hl => ?_⟩⟩
      have n := m.ex.free hl
      exact f _ _ _ _ _ q (Ex.new n) (m.lay hl) (Dv.tup upd_same (w.ims.mono (Ex.new n)))
    | own ho =>
      obtain ⟨_, xs, hx, w⟩ := m.own _ _ ho
      have rr : v = .ref _ := r1
      subst rr
      rw [← hll] at w
      refine ⟨_, xs, rfl, .inl ⟨.inl (.inl hx), fun l hl => ?_⟩⟩
      have n := m.ex.free hl
      exact f _ _ _ _ _ q (Ex.new n) (m.lay hl) (Dv.tup upd_same (w.ims.mono (Ex.new n)))))
/-- the ints in order -/
def srt (ns : List Int) : List Int := ns.mergeSort (fun a b => decide (a ≤ b))
theorem srt_perm (ns : List Int) : (srt ns).Perm ns := List.mergeSort_perm ns _
theorem srt_pw (ns : List Int) : (srt ns).Pairwise (· ≤ ·) := by
  have h := List.pairwise_mergeSort (le := fun a b : Int => decide (a ≤ b)) (fun a b c h1 h2 => by
    simp only [decide_eq_true_eq] at *
    omega) (fun a b => by
    simp only [Bool.or_eq_true, decide_eq_true_eq]
    omega) ns
  exact h.imp fun {a b} h => by simpa using h
theorem srt_eq {ns ms : List Int} (hp : ms.Perm ns) (hw : ms.Pairwise (· ≤ ·)) : ms = srt ns :=
  (hp.trans (srt_perm ns).symm).eq_of_pairwise (fun x y _ _ h1 h2 => Int.le_antisymm h1 h2) hw (srt_pw ns)
/-- sorted(xs), xs a list of ints -/
theorem de_sorted (B : Bt X.mg) (hg : Gl X "sorted") (h : DE X e ρ μ fun o μ1 => ∃ ns : List Int, RdD μ1 o (.list (ns.map .int)) ∧ Φ (.im (.list ((srt ns).map .int))) μ1) (he : starEach [e] X.env = (false, eval e X.env) :: starEach [] X.env := by rfl) (hpl : (backTo pos (starEach [] X.env)).any (·.1) = false := by rfl) : DE X (.Call (.Name "sorted" p) [e] [] pos) ρ μ Φ :=
  de_callB cr_sortedI hg B.sorted PyProof.Rows.boot_sorted (he := he) (hpl := hpl) (da_cons (hs := he) (h.imp fun o μ1 ⟨ns, hd, q⟩ => da_nil fun G H vs m r Q f => by
    obtain ⟨v, rfl, r1⟩ := ro1 r
    have d := hd.at m r1
    generalize hdd : PyData.list (ns.map .int) = dd at d
    cases d with
    | lst h1 w =>
      cases hdd
      have e1 := w.ints
      subst e1
      refine ⟨_, ns, rfl, .inl (.inl h1), fun ns' p hp hw hn => ?_⟩
      rw [srt_eq hp hw]
      have n := m.ex.free hn
      exact f _ _ _ _ _ q (Ex.new n) (m.lay hn) (Dv.lst upd_same ((DvA.of_ints _).mono (Ex.new n)))
    | _ => cases hdd))
/-- repr of a list or a tuple -/
def Shw (d : PyData) : Prop := d.showable = true ∧ d.hasDict = false ∧ isDisplay d = true ∧ d.depth ≤ 60 ∧ d.shown.length ≤ sizeLine
theorem call_reprD (hr : Room 0 X.A) (hgd : X.A.guards = some []) : CallR X (.builtin "repr") (fun xs H Q => ∃ v d, xs = [v] ∧ Dp X.K H v d ∧ Shw d ∧ Q (.str d.shown) H) := by
  intro pins s σ H xs us Q I r h
  obtain ⟨v, d, rfl, hd, ⟨h1, h2, h3, h4, h5⟩, q⟩ := h
  obtain ⟨u, rfl, ru⟩ := vals1 r
  obtain ⟨as, rd⟩ := Dp.reads I d v u hd ru
  obtain ⟨a, rfl⟩ := isRef_of_reads rd h3
  refine repr_of_reads' rd h1 (PyData.noDict_hsm h2) hgd (by have := hr.units; omega) (fun _ _ e => e) (fun h' u' tk hk => ?_) h5
  exact ⟨.str d.shown, H, I.kept hk, ⟨_, rfl⟩, q⟩
theorem de_repr {k : Nat} (B : Bt X.mg) (hr : Rm k X.A) (hg : Gl X "repr") (h : DE X e ρ μ fun o μ1 => ∃ d, DR μ1 o d ∧ Shw d ∧ Φ (.im (.str d.shown)) μ1) (he : starEach [e] X.env = (false, eval e X.env) :: starEach [] X.env := by rfl) (hpl : (backTo pos (starEach [] X.env)).any (·.1) = false := by rfl) : DE X (.Call (.Name "repr" p) [e] [] pos) ρ μ Φ :=
  de_callB (call_reprD (hr.room.mono (Nat.zero_le _)) hr.gds) hg B.repr PyProof.Rows.boot_repr (he := he) (hpl := hpl) (da_cons (hs := he) (h.imp fun o μ1 ⟨d, hd, hs, q⟩ => da_nil fun G H vs m r Q f => by
    obtain ⟨v, rfl, r1⟩ := ro1 r
    exact ⟨v, d, rfl, (hd.at m r1).dp, hs, f _ _ _ _ _ q (Ex.refl G) m (Dv.str _)⟩))
end
end Nx
namespace Nx
open PySem PySem.Spec PyProof.Rows L2
/-! ### what is walked, at the level of data -/
structure Itd where
  its : List OV
  ok : Mu → Prop
/-- a walk J gives the items of D -/
def Gives (J : It) (D : Itd) (G1 : Hp) : Prop := ∃ Gd Y, Walk J D.its.length Gd Y ∧ (∀ G' H' μ', Ex G1 G' → RM G' H' μ' → D.ok μ' → Gd H') ∧
  ∀ i H' x H2 G' μ', Ex G1 G' → RM G' H' μ' → D.ok μ' → Y i H' x H2 → i < D.its.length → ∃ G2 o, Ex G' G2 ∧ RM G2 H2 μ' ∧ D.its[i]? = some o ∧ RO G2 x o
def DI (X : Cx) (tg iter : Expr) (ρ : Rho) (μ : Mu) (Ψ : Itd → Mu → Prop) : Prop := ∃ wi, PI X tg iter wi ∧ ∀ G H σ, RM G H μ → RV G ρ σ → ∀ R : It → Hp → Prop, (∀ J D μ1 G1 H1, Ψ D μ1 → Ex G G1 → RM G1 H1 μ1 → Gives J D G1 → R J H1) → wi σ H R
section
variable {X : Cx} {tg e e2 : Expr} {ρ : Rho} {μ : Mu} {Ψ : Itd → Mu → Prop} {p pos : Pos}
theorem DI.imp {iter : Expr} {Ψ' : Itd → Mu → Prop} (h : DI X tg iter ρ μ Ψ) (k : ∀ D μ', Ψ D μ' → Ψ' D μ') : DI X tg iter ρ μ Ψ' := by
  obtain ⟨wi, a, b⟩ := h
  exact ⟨wi, a, fun G H σ m v R f => b G H σ m v R fun J D μ1 G1 H1 q => f J D μ1 G1 H1 (k _ _ q)⟩
theorem gives_list {K : PySem.W.Frag} {a : Addr} {xs : List V} {ds : List PyData} {G : Hp} (h : G a = some (.lst xs)) (w : DvA G xs ds) : Gives (Itl K a) ⟨ds.map .im, fun _ => True⟩ G := by
  refine ⟨fun H => SqL K H a xs, YAt xs, ?_, fun G' H' μ' e m _ => .inl (.inl (m.ex _ _ (e _ _ h))), fun i H' x H2 G' μ' e m _ y _ => ?_⟩
  · show Walk _ (ds.map OV.im).length _ _
    rw [List.length_map, ← w.length]
    exact walk_list
  · obtain ⟨rfl, hx⟩ := y
    obtain ⟨d, h1, h2⟩ := w.getV hx
    exact ⟨G', .im d, Ex.refl _, m, by rw [List.getElem?_map, h1]; rfl, h2.mono e⟩
theorem gives_tup {K : PySem.W.Frag} {a : Addr} {xs : List V} {ds : List PyData} {G : Hp} (h : G a = some (.tup xs)) (w : DvA G xs ds) : Gives (Itt K a) ⟨ds.map .im, fun _ => True⟩ G := by
  refine ⟨fun H => SqT K H a xs, YAt xs, ?_, fun G' H' μ' e m _ => .inl (.inl (m.ex _ _ (e _ _ h))), fun i H' x H2 G' μ' e m _ y _ => ?_⟩
  · show Walk _ (ds.map OV.im).length _ _
    rw [List.length_map, ← w.length]
    exact walk_tup
  · obtain ⟨rfl, hx⟩ := y
    obtain ⟨d, h1, h2⟩ := w.getV hx
    exact ⟨G', .im d, Ex.refl _, m, by rw [List.getElem?_map, h1]; rfl, h2.mono e⟩
/-- for .. in xs, a list that stays -/
theorem di_list (h : DE X e ρ μ fun o μ1 => ∃ ds, o = .im (.list ds) ∧ Ψ ⟨ds.map .im, fun _ => True⟩ μ1) : DI X tg e ρ μ Ψ :=
  ⟨_, pi_list pwe, fun G H σ m v R f => h G H σ m v _ fun vx x μ1 G1 H1 q1 e1 m1 r1 => by
    obtain ⟨ds, rfl, q⟩ := q1
    cases r1 with
    | lst h1 w => exact ⟨_, rfl, ⟨_, .inl (.inl (m1.ex _ _ h1))⟩, f _ _ _ _ _ q e1 m1 (gives_list h1 w)⟩⟩
theorem di_tup (h : DE X e ρ μ fun o μ1 => ∃ ds, o = .im (.tuple ds) ∧ Ψ ⟨ds.map .im, fun _ => True⟩ μ1) : DI X tg e ρ μ Ψ :=
  ⟨_, pi_tup pwe, fun G H σ m v R f => h G H σ m v _ fun vx x μ1 G1 H1 q1 e1 m1 r1 => by
    obtain ⟨ds, rfl, q⟩ := q1
    cases r1 with
    | tup h1 w => exact ⟨_, rfl, ⟨_, .inl (.inl (m1.ex _ _ h1))⟩, f _ _ _ _ _ q e1 m1 (gives_tup h1 w)⟩⟩
/-- a list of one's own, its length and items as they are at each turn -/
theorem walk_own {K : PySem.W.Frag} {a : Addr} {n : Nat} : Walk (Itl K a) n (fun H => ∃ xs, SqL K H a xs ∧ xs.length = n) (fun i H x H' => H' = H ∧ ∀ xs, SqL K H a xs → xs[i]? = some x) :=
  ⟨fun i H hi ⟨xs, h, hl⟩ => ⟨xs, xs[i]'(by omega), h, by simp [show i < xs.length by omega]⟩, fun H ⟨xs, h, hl⟩ => ⟨xs, h, by omega⟩, fun i H x H' _ _ y => y⟩
theorem di_own (h : DE X e ρ μ fun o μ1 => ∃ a l, o = .own a ∧ μ1 a = some l ∧ Ψ ⟨l, fun μ' => μ' a = some l⟩ μ1) : DI X tg e ρ μ Ψ :=
  ⟨_, pi_list pwe, fun G H σ m v R f => h G H σ m v _ fun vx x μ1 G1 H1 q1 e1 m1 r1 => by
    obtain ⟨a, l, rfl, hl, q⟩ := q1
    have r1 : vx = .ref a := r1
    subst r1
    obtain ⟨g, vs, hv, w⟩ := m1.own _ _ hl
    refine ⟨_, rfl, ⟨_, .inl (.inl hv)⟩, f _ _ _ _ _ q e1 m1 ⟨_, _, walk_own, fun G' H' μ' e m' ok => ?_, fun i H' x H2 G' μ' e m' ok y hi => ?_⟩⟩
    · obtain ⟨_, us, hu, wu⟩ := m'.own _ _ ok
      exact ⟨us, .inl (.inl hu), wu.length⟩
    · obtain ⟨rfl, hy⟩ := y
      obtain ⟨_, us, hu, wu⟩ := m'.own _ _ ok
      obtain ⟨o, h1, h2⟩ := ROs.getV wu (hy us (.inl (.inl hu)))
      exact ⟨G', o, Ex.refl _, m', h1, h2⟩⟩
theorem gives_range {lo : Int} {n : Nat} {G : Hp} : Gives (Itr lo n) ⟨(List.range n).map fun (k : Nat) => .im (.int (lo + (k : Int))), fun _ => True⟩ G := by
  refine ⟨fun _ => True, YFn fun i => .int (lo + i), ?_, fun _ _ _ _ _ _ => trivial, fun i H' x H2 G' μ' e m _ y hi => ?_⟩
  · show Walk _ ((List.range n).map _).length _ _
    rw [List.length_map, List.length_range]
    exact walk_range
  · obtain ⟨rfl, rfl⟩ := y
    have hi : i < n := by simpa using hi
    exact ⟨G', .im (.int (lo + (i : Int))), Ex.refl _, m, by rw [List.getElem?_map, List.getElem?_range hi]; rfl, Dv.int _⟩
/-- range(n) -/
theorem di_range1 (B : Bt X.mg) (hg : Gl X "range") (h : DE X e ρ μ fun o μ1 => ∃ j : Int, o = .im (.int j) ∧ -100000 ≤ j ∧ j ≤ 100000 ∧ Ψ ⟨(List.range j.toNat).map fun (k : Nat) => .im (.int (k : Int)), fun _ => True⟩ μ1)
    (he : starEach [e] X.env = (false, eval e X.env) :: starEach [] X.env := by rfl) : DI X tg (.Call (.Name "range" p) [e] [] pos) ρ μ Ψ :=
  ⟨_, pi_range1 hg B.range pwa (hs := by rw [he]; rfl), fun G H σ m v R f => (da_cons (Λ := fun os μ1 => ∃ j : Int, os = [.im (.int j)] ∧ -100000 ≤ j ∧ j ≤ 100000 ∧ Ψ ⟨(List.range j.toNat).map fun (k : Nat) => .im (.int (k : Int)), fun _ => True⟩ μ1)
      (h.imp fun o μ1 ⟨j, ho, h1, h2, q⟩ => da_nil ⟨j, by rw [ho], h1, h2, q⟩) he) G H σ m v _ fun vs os μ1 G1 H1 q1 e1 m1 r1 => by
    obtain ⟨j, rfl, h1, h2, q⟩ := q1
    obtain ⟨u, rfl, ru⟩ := ro1 r1
    cases ru
    exact ⟨j, rfl, by omega, by omega, f _ _ _ _ _ q e1 m1 (by have := gives_range (lo := 0) (n := j.toNat) (G := G1); simpa only [Int.zero_add] using this)⟩⟩
/-- range(a, b) -/
theorem di_range2 (B : Bt X.mg) (hg : Gl X "range") (h : DE X e ρ μ fun x μ0 => DE X e2 ρ μ0 fun o μ1 => ∃ i j : Int, x = .im (.int i) ∧ o = .im (.int j) ∧ -100000 ≤ i ∧ i ≤ 100000 ∧ -100000 ≤ j ∧ j ≤ 100000 ∧ Ψ ⟨(List.range (j - i).toNat).map fun (k : Nat) => .im (.int (i + (k : Int))), fun _ => True⟩ μ1)
    (he : starEach [e, e2] X.env = (false, eval e X.env) :: starEach [e2] X.env := by rfl) (he2 : starEach [e2] X.env = (false, eval e2 X.env) :: starEach [] X.env := by rfl) : DI X tg (.Call (.Name "range" p) [e, e2] [] pos) ρ μ Ψ :=
  ⟨_, pi_range2 hg B.range pwa (hs := by rw [he, he2]; rfl) (hs2 := by rw [he2]; rfl), fun G H σ m v R f => (da_cons (Λ := fun os μ1 => ∃ i j : Int, os = [.im (.int i), .im (.int j)] ∧ -100000 ≤ i ∧ i ≤ 100000 ∧ -100000 ≤ j ∧ j ≤ 100000 ∧ Ψ ⟨(List.range (j - i).toNat).map fun (k : Nat) => .im (.int (i + (k : Int))), fun _ => True⟩ μ1)
      (h.imp fun x μ0 h0 => da_cons (h0.imp fun o μ1 ⟨i, j, hx, ho, h1, h2, h3, h4, q⟩ => da_nil ⟨i, j, by rw [hx, ho], h1, h2, h3, h4, q⟩) he2) he) G H σ m v _ fun vs os μ1 G1 H1 q1 e1 m1 r1 => by
    obtain ⟨i, j, rfl, h1, h2, h3, h4, q⟩ := q1
    cases r1 with
    | cons r1 t =>
      obtain ⟨u, rfl, ru⟩ := ro1 t
      cases r1
      cases ru
      exact ⟨i, j, rfl, ⟨by omega, by omega, by omega, by omega⟩, f _ _ _ _ _ q e1 m1 gives_range⟩⟩
/-- the pairs of two lists of data -/
def prs (xs ys : List PyData) : List PyData := (xs.zip ys).map fun q => .tuple [q.1, q.2]
theorem prs_get {xs ys : List PyData} {i : Nat} {x y : PyData} (h1 : xs[i]? = some x) (h2 : ys[i]? = some y) : (prs xs ys)[i]? = some (.tuple [x, y]) := by
  unfold prs
  rw [List.getElem?_map, List.getElem?_zip_eq_some (z := (x, y)) |>.mpr ⟨h1, h2⟩]
  rfl
def nums (n : Nat) : List PyData := (List.range n).map fun (k : Nat) => PyData.int (k : Int)
theorem nums_get {n i : Nat} (h : i < n) : (nums n)[i]? = some (.int (i : Int)) := by
  unfold nums
  rw [List.getElem?_map, List.getElem?_range h]
  rfl
theorem pair_new {G H' : Hp} {μ' : Mu} {T : Addr} {x y : V} {d e : PyData} (m : RM G H' μ') (hT : H' T = none) (h1 : Dv G x d) (h2 : Dv G y e) : Ex G (upd G T (.tup [x, y])) ∧ RM (upd G T (.tup [x, y])) (upd H' T (.tup [x, y])) μ' ∧ RO (upd G T (.tup [x, y])) (.ref T) (.im (.tuple [d, e])) := by
  have n := m.ex.free hT
  exact ⟨Ex.new n, m.lay hT, Dv.tup upd_same (.cons (h1.mono (Ex.new n)) (.cons (h2.mono (Ex.new n)) .nil))⟩
theorem gives_enum {K : PySem.W.Frag} {a : Addr} {xs : List V} {ds : List PyData} {G : Hp} (h : G a = some (.lst xs)) (w : DvA G xs ds) : Gives (Ite K a) ⟨(prs (nums ds.length) ds).map .im, fun _ => True⟩ G := by
  have hlen : ((prs (nums ds.length) ds).map OV.im).length = ds.length := by simp [prs, nums]
  refine ⟨fun H => SqL K H a xs, YPair (fun i => some (.int (i : Nat))) (fun i => xs[i]?), ?_, fun G' H' μ' e m _ => .inl (.inl (m.ex _ _ (e _ _ h))), fun i H' x H2 G' μ' e m _ y hi => ?_⟩
  · show Walk _ ((prs (nums ds.length) ds).map OV.im).length _ _
    rw [hlen, ← w.length]
    exact walk_enum
  · obtain ⟨T, x1, y1, rfl, hT, rfl, h1, h2⟩ := y
    cases h1
    obtain ⟨d, h3, h4⟩ := w.getV h2
    have hi : i < ds.length := by rw [← hlen]; exact hi
    obtain ⟨a1, a2, a3⟩ := pair_new m hT (Dv.int (i : Int)) (h4.mono e)
    exact ⟨_, .im (.tuple [.int (i : Int), d]), a1, a2, by rw [List.getElem?_map, prs_get (nums_get hi) h3]; rfl, a3⟩
theorem di_enum {elts : List Expr} {kk : Nat} {tpos : Pos} (B : Bt X.mg) (hg : Gl X "enumerate") (h : DE X e ρ μ fun o μ1 => ∃ ds, o = .im (.list ds) ∧ Ψ ⟨(prs (nums ds.length) ds).map .im, fun _ => True⟩ μ1)
    (he : starEach [e] X.env = (false, eval e X.env) :: starEach [] X.env := by rfl) (he2 : starEach [e] X.env = [(false, eval e X.env)] := by rfl) : DI X (.Tuple elts kk tpos) (.Call (.Name "enumerate" p) [e] [] pos) ρ μ Ψ :=
  ⟨_, pi_enum hg B.enumerate pwa he2, fun G H σ m v R f => (da_cons (Λ := fun os μ1 => ∃ ds, os = [.im (.list ds)] ∧ Ψ ⟨(prs (nums ds.length) ds).map .im, fun _ => True⟩ μ1)
      (h.imp fun o μ1 ⟨j, ho, q⟩ => da_nil ⟨j, by rw [ho], q⟩) he) G H σ m v _ fun vs os μ1 G1 H1 q1 e1 m1 r1 => by
    obtain ⟨ds, rfl, q⟩ := q1
    obtain ⟨u, rfl, ru⟩ := ro1 r1
    cases ru with
    | lst h1 w => exact ⟨_, _, rfl, .inl (.inl (m1.ex _ _ h1)), f _ _ _ _ _ q e1 m1 (gives_enum h1 w)⟩⟩
end

/-! ### targets -/
/-- the places of several names, from the left -/
def setAll (ρ : Rho) : List Nat → List PyData → Rho
  | i :: is, d :: ds => setAll (ρ.set i (some (.im d))) is ds
  | _, _ => ρ
inductive Tgt where
  | nm (i : Nat) | tp (is : List Nat)
def Tgt.put : Tgt → OV → Rho → Option Rho
  | .nm i, o, ρ => some (ρ.set i (some o))
  | .tp is, .im (.tuple ds), ρ => if ds.length = is.length then some (setAll ρ is ds) else none
  | .tp _, _, _ => none
def gNames : List Nat → TGs
  | [] => gNil
  | i :: is => gCons (gName i) (gNames is)
def TgtG (K : PySem.W.Frag) : Tgt → TG
  | .nm i => gName i
  | .tp is => gTup K is.length (gNames is)
theorem names_run {G H : Hp} {Q : L2.St → Hp → Prop} : ∀ (is : List Nat) {xs : List V} {ds : List PyData} {ρ : Rho} {σ : L2.St}, RV G ρ σ → DvA G xs ds → ds.length = is.length → (∀ σ', RV G (setAll ρ is ds) σ' → Q σ' H) → gNames is xs σ H Q
  | [], _, _, _, _, w, .nil, _, q => ⟨rfl, q _ w⟩
  | i :: is, _, _, _, _, w, .cons hd tl, hl, q => ⟨_, _, rfl, names_run is (w.set (o := .im _) hd) tl (by simpa using hl) q⟩
  | i :: is, _, _, _, _, w, .nil, hl, q => by cases hl
theorem tgt_run {K : PySem.W.Frag} {t : Tgt} {G H : Hp} {μ : Mu} {v : V} {o : OV} {ρ ρ' : Rho} {σ : L2.St} {Q : L2.St → Hp → Prop} (m : RM G H μ) (r : RO G v o) (w : RV G ρ σ) (h : t.put o ρ = some ρ') (q : ∀ σ', RV G ρ' σ' → Q σ' H) : TgtG K t v σ H Q := by
  cases t with
  | nm i =>
    cases h
    exact q _ (w.set r)
  | tp is =>
    cases o with
    | own a => cases h
    | scr K ns => cases h
    | im d =>
      cases d with
      | tuple ds =>
        have h : (if ds.length = is.length then some (setAll ρ is ds) else none) = some ρ' := h
        split at h
        · rename_i hl
          cases h
          have r : Dv G v (.tuple ds) := r
          cases r with
          | tup h1 w1 => exact ⟨_, _, rfl, .inl (.inl (m.ex _ _ h1)), by rw [w1.length, hl], names_run is w w1 hl q⟩
        · cases h
      | _ => cases h
end Nx
namespace Nx
open PySem PySem.Spec PyProof.Rows L2
def Tgt.slots : Tgt → List Nat
  | .nm i => [i]
  | .tp is => is
theorem wipe_set {σ : L2.St} {x : Option V} {j : Nat} : ∀ {vs : List Nat}, j ∈ vs → L2.wipe (σ.set j x) vs = L2.wipe σ vs
  | [], h => nomatch h
  | v :: vs, h => by
    show (L2.wipe (σ.set j x) vs).set v none = (L2.wipe σ vs).set v none
    rcases List.mem_cons.mp h with e | e
    · subst e
      have comm : ∀ (ws : List Nat), (L2.wipe (σ.set j x) ws).set j none = (L2.wipe σ ws).set j none := by
        intro ws
        induction ws with
        | nil => exact List.set_set _
        | cons w ws ih =>
          show ((L2.wipe (σ.set j x) ws).set w none).set j none = ((L2.wipe σ ws).set w none).set j none
          by_cases hw : w = j
          · subst hw
            rw [List.set_set, List.set_set]
            exact ih
          · rw [List.set_comm _ _ hw, List.set_comm _ _ hw, ih]
      exact comm vs
    · rw [wipe_set e]
theorem wipe_idem (σ : L2.St) (vs : List Nat) : L2.wipe (L2.wipe σ vs) vs = L2.wipe σ vs := by
  have go : ∀ (ws : List Nat) (τ : L2.St), (∀ i ∈ ws, i ∈ vs) → L2.wipe (L2.wipe τ ws) vs = L2.wipe τ vs := by
    intro ws
    induction ws with
    | nil => intro τ _; rfl
    | cons w ws ih =>
      intro τ h
      show L2.wipe ((L2.wipe τ ws).set w none) vs = _
      rw [wipe_set (h w (List.mem_cons_self ..))]
      exact ih τ fun i hi => h i (List.mem_cons_of_mem _ hi)
  exact go vs σ fun _ h => h
theorem names_runW {G H : Hp} {Q : L2.St → Hp → Prop} (vs : List Nat) : ∀ (is : List Nat) {xs : List V} {ds : List PyData} {ρ : Rho} {σ : L2.St}, (∀ i ∈ is, i ∈ vs) → RV G ρ σ → DvA G xs ds → ds.length = is.length → (∀ σ', RV G (setAll ρ is ds) σ' → L2.wipe σ' vs = L2.wipe σ vs → Q σ' H) → gNames is xs σ H Q
  | [], _, _, _, _, _, w, .nil, _, q => ⟨rfl, q _ w rfl⟩
  | i :: is, _, _, _, _, hs, w, .cons hd tl, hl, q => ⟨_, _, rfl, names_runW vs is (fun j hj => hs j (List.mem_cons_of_mem _ hj)) (w.set (o := .im _) hd) tl (by simpa using hl) fun σ' r e => q σ' r (e.trans (wipe_set (hs i (List.mem_cons_self ..))))⟩
  | i :: is, _, _, _, _, _, w, .nil, hl, q => by cases hl
theorem tgt_runW {K : PySem.W.Frag} {t : Tgt} {G H : Hp} {μ : Mu} {v : V} {o : OV} {ρ ρ' : Rho} {σ : L2.St} {Q : L2.St → Hp → Prop} (vs : List Nat) (hs : ∀ i ∈ t.slots, i ∈ vs) (m : RM G H μ) (r : RO G v o) (w : RV G ρ σ) (h : t.put o ρ = some ρ') (q : ∀ σ', RV G ρ' σ' → L2.wipe σ' vs = L2.wipe σ vs → Q σ' H) : TgtG K t v σ H Q := by
  cases t with
  | nm i =>
    cases h
    exact q _ (w.set r) (wipe_set (hs i (List.mem_cons_self ..)))
  | tp is =>
    cases o with
    | own a => cases h
    | scr K ns => cases h
    | im d =>
      cases d with
      | tuple ds =>
        have h : (if ds.length = is.length then some (setAll ρ is ds) else none) = some ρ' := h
        split at h
        · rename_i hl
          cases h
          have r : Dv G v (.tuple ds) := r
          cases r with
          | tup h1 w1 => exact ⟨_, _, rfl, .inl (.inl (m.ex _ _ h1)), by rw [w1.length, hl], names_runW vs is hs w w1 hl q⟩
        · cases h
      | _ => cases h
def wipeR (ρ : Rho) (vs : List Nat) : Rho := vs.foldr (fun v r => r.set v none) ρ
theorem RV.wipeV {G : Hp} {ρ : Rho} {σ : L2.St} (h : RV G ρ σ) (vs : List Nat) : RV G (wipeR ρ vs) (L2.wipe σ vs) := h.wipe vs
theorem del_put {μ : Mu} {a : Addr} {l : List OV} (h : μ a = none) : (μ.put a l).del a = μ := by
  funext b
  unfold Mu.put Mu.del
  by_cases e : b = a
  · rw [if_pos e, e, h]
  · rw [if_neg e]
    show (if b = a then some l else μ b) = μ b
    rw [if_neg e]
theorem put_comm {μ : Mu} {a b : Addr} {l m : List OV} (h : a ≠ b) : (μ.put a l).put b m = (μ.put b m).put a l := by
  funext c
  unfold Mu.put
  by_cases e : c = b
  · subst e
    rw [if_pos rfl, if_neg (fun z => h z.symm), if_pos rfl]
  · rw [if_neg e]
    by_cases e2 : c = a
    · rw [if_pos e2, if_pos e2]
    · rw [if_neg e2, if_neg e2, if_neg e]

/-! ### comprehensions -/
section
variable {X : Cx} {tg iter elt : Expr} {ifs : List Expr} {scope : Scope} {ρ : Rho} {μ : Mu} {Φ : OV → Mu → Prop} {pos : Pos}
abbrev Blk (X : Cx) (scope : Scope) (s : Shared) (H : Hp) (C : Addr) (cl : List (Str × Addr)) (fp : List Addr) : Cx := X.blk s H scope (compEnvC scope cl C X.env) fp
def DEb (X : Cx) (scope : Scope) (e : Expr) (ρ : Rho) (μ : Mu) (Φ : OV → Mu → Prop) : Prop := ∀ s H C cl fp, DE (Blk X scope s H C cl fp) e ρ μ Φ
/-- the tests of a clause -/
def DTb (X : Cx) (scope : Scope) (ifs : List Expr) (ρ : Rho) (μ : Mu) (Φ : Bool → Mu → Prop) : Prop := match ifs with
  | [] => Φ true μ
  | [c] => ∀ s H C cl fp, DT (Blk X scope s H C cl fp) c ρ μ Φ
  | _ => False
def WTb (X : Cx) (scope : Scope) (ifs : List Expr) : TT := match ifs with
  | [] => tYes
  | [c] => fun σ H Q => ∀ s H0 C cl fp, WT (Blk X scope s H0 C cl fp) c σ H Q
  | _ => fun _ _ _ => False
theorem pwtb (s : Shared) (H : Hp) (C : Addr) (cl : List (Str × Addr)) (fp : List Addr) : PTs (Blk X scope s H C cl fp) ifs (WTb X scope ifs) := by
  match ifs with
  | [] => exact pts_nil
  | [c] => exact pts_one ⟨fun pins s' σ H' Q I h => h s H C cl fp pins s' I⟩
  | _ :: _ :: _ => exact ⟨fun _ _ _ _ _ _ h => h.elim⟩
theorem DTb.run {G H : Hp} {σ : L2.St} {Ψ : Bool → Mu → Prop} (h : DTb X scope ifs ρ μ Ψ) (m : RM G H μ) (v : RV G ρ σ) {Q : Bool → Hp → Prop} (f : ∀ b μ' G' H', Ψ b μ' → Ex G G' → RM G' H' μ' → Q b H') : WTb X scope ifs σ H Q := by
  match ifs, h with
  | [], h => exact f _ _ _ _ h (Ex.refl G) m
  | [c], h => exact fun s H0 C cl fp => h s H0 C cl fp G H σ m v Q f
/-- what a comprehension over D asks: Pv by the turn, the items made, the lists of one's own -/
def LcD (X : Cx) (scope : Scope) (ifs : List Expr) (elt : Expr) (t : Tgt) (vs : List Nat) (ρ : Rho) (D : Itd) (μ1 : Mu) (done : List OV → Mu → Prop) : Prop :=
  ∃ Pv : Nat → List OV → Mu → Prop, D.its.length ≤ 50000 ∧ Pv 0 [] μ1 ∧ (∀ i acc μ' Dl, Pv i acc μ' → μ' Dl = none → D.ok (μ'.put Dl acc)) ∧ (∀ acc μ', Pv D.its.length acc μ' → done acc μ') ∧
    ∀ i acc μ' o, D.its[i]? = some o → Pv i acc μ' → ∃ ρ', t.put o (wipeR ρ vs) = some ρ' ∧ ∀ Dl, μ' Dl = none →
      DTb X scope ifs ρ' (μ'.put Dl acc) fun k μ2 => if k = true then DEb X scope elt ρ' μ2 fun o' μ3 => ∃ μ4, μ3 = μ4.put Dl acc ∧ μ4 Dl = none ∧ Pv (i + 1) (acc ++ [o']) μ4 else ∃ μ4, μ2 = μ4.put Dl acc ∧ μ4 Dl = none ∧ Pv (i + 1) acc μ4
def WEb (X : Cx) (scope : Scope) (elt : Expr) : TE := fun σ H Q => ∀ s H0 C cl fp, WE (Blk X scope s H0 C cl fp) elt σ H Q
theorem lc_run {own : List (Str × Nat)} {t : Tgt} (hs : ∀ i ∈ t.slots, i ∈ own.map (·.2)) {G : Hp} {σ : L2.St} (v : RV G ρ σ) {J : It} {D : Itd} {μ1 : Mu} {G1 H1 : Hp} {done : List OV → Mu → Prop} {Qd : Addr → Hp → Prop}
    (h : LcD X scope ifs elt t (own.map (·.2)) ρ D μ1 done) (e1 : Ex G G1) (m1 : RM G1 H1 μ1) (gv : Gives J D G1) (fin : ∀ Dl acc μ' G' H', done acc μ' → μ' Dl = none → Ex G1 G' → RM G' H' (μ'.put Dl acc) → Qd Dl H') (Dl : Addr) (hD : H1 Dl = none) :
    ∃ W : Nat → Nat → Hp → Prop, (∃ m, W 0 m (upd H1 Dl (.lst []))) ∧ ∀ i m H, W i m H →
      (J.stop i H ∧ Qd Dl H) ∨ (J.go i H ∧ ∃ Nx : Hp → Prop, (∀ H', Nx H' → ∃ m', m' < m ∧ W (i + 1) m' H') ∧ ∀ x H', J.yld i H x H' → TgtG X.K t x (L2.wipe σ (own.map (·.2))) H' fun σ2 H2 => L2.wipe σ2 (own.map (·.2)) = L2.wipe σ (own.map (·.2)) ∧ WTb X scope ifs σ2 H2 fun b H3 =>
        if b = true then WEb X scope elt σ2 H3 fun y H4 => ∃ acc, H4 Dl = some (.lst acc) ∧ acc.length < sizeLine ∧ Nx (upd H4 Dl (.lst (acc ++ [y]))) else Nx H3) := by
  obtain ⟨Pv, hn, h0, hok, hdone, step⟩ := h
  obtain ⟨Gd, Y, wk, hG, hY⟩ := gv
  refine lc_it wk (Qd := Qd Dl) (fun i H => ∃ acc μ' G', acc.length ≤ i ∧ Pv i acc μ' ∧ μ' Dl = none ∧ Ex G1 G' ∧ RM G' H (μ'.put Dl acc)) ⟨[], μ1, G1, Nat.le_refl _, h0, m1.fresh hD, Ex.refl _, m1.new hD .nil⟩ ?_ ?_ ?_
  · rintro i H _ ⟨acc, μ', G', _, p, n, e, m⟩
    exact hG G' H _ e m (hok i acc μ' Dl p n)
  · rintro i x H H' hi ⟨acc, μ', G', hl, p, n, e, m⟩ y
    obtain ⟨G2, o, e2, m2, ho, r2⟩ := hY i H x H' G' _ e m (hok i acc μ' Dl p n) y hi
    obtain ⟨ρ', hp, hb⟩ := step i acc μ' o ho p
    have v2 : RV G2 (wipeR ρ (own.map (·.2))) (L2.wipe σ (own.map (·.2))) := (v.mono ((e1.trans e).trans e2)).wipeV _
    refine tgt_runW (own.map (·.2)) hs m2 r2 v2 hp fun σ' v3 hw => ⟨hw.trans (wipe_idem _ _), (hb Dl n).run m2 v3 fun b μ3 G3 H3 q3 e3 m3 => ?_⟩
    cases b with
    | true =>
      rw [if_pos rfl] at q3 ⊢
      intro s H0 C cl fp
      refine q3 s H0 C cl fp G3 H3 σ' m3 (v3.mono e3) _ fun vy o' μ4 G4 H4 q4 e4 m4 r4 => ?_
      obtain ⟨μ5, rfl, n5, p5⟩ := q4
      obtain ⟨g5, accv, h5, w5⟩ := m4.own Dl acc put_same
      refine ⟨accv, h5, by rw [w5.length]; exact Nat.lt_of_lt_of_le (show acc.length < 100000 by omega) (by decide), acc ++ [o'], μ5, G4, by rw [List.length_append]; exact Nat.succ_le_succ hl, p5, n5, ((e.trans e2).trans e3).trans e4, ?_⟩
      have m5 := m4.chg (p := Dl) put_same (w5.snoc r4)
      rw [put_put] at m5
      exact m5
    | false =>
      rw [if_neg (by decide)] at q3 ⊢
      obtain ⟨μ5, rfl, n5, p5⟩ := q3
      exact ⟨acc, μ5, G3, Nat.le_succ_of_le hl, p5, n5, (e.trans e2).trans e3, m3⟩
  · rintro H ⟨acc, μ', G', hl, p, n, e, m⟩
    exact fin Dl acc μ' G' H (hdone acc μ' p) n e m
theorem pweb (s : Shared) (H : Hp) (C : Addr) (cl : List (Str × Addr)) (fp : List Addr) : PE (Blk X scope s H C cl fp) elt (WEb X scope elt) := ⟨fun pins s' σ H' Q I h => h s H C cl fp pins s' I⟩
/-- [elt for tg in iter if ..], of one's own -/
theorem de_lcO {own : List (Str × Nat)} (t : Tgt) (hc : X.calm = true) (hN : X.N.Nodup) (ok : BlkOk X.N X.env.scope scope own) (hs : ∀ i ∈ t.slots, i ∈ own.map (·.2))
    (hg : ∀ s H C cl fp, PG (Blk X scope s H C cl fp) tg (TgtG X.K t)) (h : DI X tg iter ρ μ fun D μ1 => LcD X scope ifs elt t (own.map (·.2)) ρ D μ1 fun acc μ' => ∀ p, μ' p = none → Φ (.own p) (μ'.put p acc))
    (hf : ∀ x, foldedSetIterable iter X.env x = pure x := by intro _; rfl) : DE X (.ListComp elt [⟨tg, iter, ifs, 0⟩] scope pos) ρ μ Φ := by
  obtain ⟨wi, pi, run⟩ := h
  intro G H σ m v Q f
  refine WE.of (pe_lc (own := own) hc hN pi ok hg (fun s H C cl fp => pwtb s H C cl fp) (fun s H C cl fp => pweb s H C cl fp) hf) (run G H σ m v _ fun J D μ1 G1 H1 q e1 m1 gv Dl hD => ?_)
  exact lc_run hs v q e1 m1 gv (Qd := fun Dl H => Q (.ref Dl) H) (fun Dl acc μ' G' H' d n e m' => f _ _ _ _ _ (d Dl n) (e1.trans e) m' rfl) Dl hD
/-- the same, a list that stays -/
theorem de_lc {own : List (Str × Nat)} (t : Tgt) (hc : X.calm = true) (hN : X.N.Nodup) (ok : BlkOk X.N X.env.scope scope own) (hs : ∀ i ∈ t.slots, i ∈ own.map (·.2))
    (hg : ∀ s H C cl fp, PG (Blk X scope s H C cl fp) tg (TgtG X.K t)) (h : DI X tg iter ρ μ fun D μ1 => LcD X scope ifs elt t (own.map (·.2)) ρ D μ1 fun acc μ' => ∃ ds, acc = ds.map .im ∧ Φ (.im (.list ds)) μ')
    (hf : ∀ x, foldedSetIterable iter X.env x = pure x := by intro _; rfl) : DE X (.ListComp elt [⟨tg, iter, ifs, 0⟩] scope pos) ρ μ Φ := by
  refine de_frz (ds := []) (p := 0) (de_lcO t hc hN ok hs hg (h.imp fun D μ1 hL => ?_) hf)
  obtain ⟨Pv, a, b, c, d, e⟩ := hL
  refine ⟨Pv, a, b, c, fun acc μ' p q hq => ?_, e⟩
  obtain ⟨ds, rfl, z⟩ := d acc μ' p
  exact ⟨q, ds, rfl, put_same, by rw [del_put hq]; exact z⟩
/-- extends -/
def Xt (μ μ' : Mu) : Prop := ∀ a l, μ a = some l → μ' a = some l
theorem Xt.put {μ : Mu} {p : Addr} {l : List OV} (h : μ p = none) : Xt μ (μ.put p l) := fun a m e => by
  rw [put_ne (fun z => by rw [z, h] at e; cases e)]
  exact e
/-- a comprehension that changes nothing: each item gives one thing -/
theorem lc_map {t : Tgt} {vs : List Nat} {D : Itd} {μ1 : Mu} {done : List OV → Mu → Prop} (outs : List PyData) (hl : outs.length = D.its.length) (hz : D.its.length ≤ 50000) (hok : ∀ μ', Xt μ1 μ' → D.ok μ') (hd : done (outs.map .im) μ1)
    (h : ∀ (i : Nat) (o : OV) (d : PyData), D.its[i]? = some o → outs[i]? = some d → ∃ ρ', t.put o (wipeR ρ vs) = some ρ' ∧ ∀ μ', Xt μ1 μ' → DEb X scope elt ρ' μ' fun o' μ2 => μ2 = μ' ∧ o' = .im d) : LcD X scope [] elt t vs ρ D μ1 done := by
  refine ⟨fun i acc μ' => μ' = μ1 ∧ acc = (outs.take i).map .im, hz, ⟨rfl, rfl⟩, fun i acc μ' Dl ⟨e, _⟩ n => ?_, fun acc μ' ⟨e1, e2⟩ => ?_, fun i acc μ' o ho ⟨e1, e2⟩ => ?_⟩
  · subst e
    exact hok _ (Xt.put n)
  · subst e1 e2
    rw [← hl, List.take_length]
    exact hd
  · subst e1 e2
    have hi : i < outs.length := by
      rw [hl]
      exact (List.getElem?_eq_some_iff.mp ho).1
    obtain ⟨ρ', hp, hb⟩ := h i o outs[i] ho (List.getElem?_eq_getElem hi)
    refine ⟨ρ', hp, fun Dl n => ?_⟩
    dsimp only [DTb]
    rw [if_pos rfl]
    intro s H C cl fp
    refine (hb _ (Xt.put n) s H C cl fp).imp fun o' μ2 q => ?_
    obtain ⟨rfl, rfl⟩ := q
    exact ⟨μ', rfl, n, rfl, by rw [List.take_add_one, List.getElem?_eq_getElem hi, List.map_append]; rfl⟩
/-- with a test -/
theorem lc_filter {c : Expr} {t : Tgt} {vs : List Nat} {D : Itd} {μ1 : Mu} {done : List OV → Mu → Prop} (outs : List (Option PyData)) (hl : outs.length = D.its.length) (hz : D.its.length ≤ 50000) (hok : ∀ μ', Xt μ1 μ' → D.ok μ') (hd : done ((outs.filterMap id).map .im) μ1)
    (h : ∀ (i : Nat) (o : OV) (r : Option PyData), D.its[i]? = some o → outs[i]? = some r → ∃ ρ', t.put o (wipeR ρ vs) = some ρ' ∧ ∀ μ', Xt μ1 μ' → ∀ s H C cl fp, DT (Blk X scope s H C cl fp) c ρ' μ' fun k μ2 => μ2 = μ' ∧ if k = true then ∃ d, r = some d ∧ DEb X scope elt ρ' μ' fun o' μ2 => μ2 = μ' ∧ o' = .im d else r = none) : LcD X scope [c] elt t vs ρ D μ1 done := by
  refine ⟨fun i acc μ' => μ' = μ1 ∧ acc = ((outs.take i).filterMap id).map .im, hz, ⟨rfl, rfl⟩, fun i acc μ' Dl ⟨e, _⟩ n => ?_, fun acc μ' ⟨e1, e2⟩ => ?_, fun i acc μ' o ho ⟨e1, e2⟩ => ?_⟩
  · subst e
    exact hok _ (Xt.put n)
  · subst e1 e2
    rw [← hl, List.take_length]
    exact hd
  · subst e1 e2
    have hi : i < outs.length := by
      rw [hl]
      exact (List.getElem?_eq_some_iff.mp ho).1
    obtain ⟨ρ', hp, hb⟩ := h i o outs[i] ho (List.getElem?_eq_getElem hi)
    refine ⟨ρ', hp, fun Dl n s H C cl fp => (hb _ (Xt.put n) s H C cl fp).imp fun k μ2 q => ?_⟩
    obtain ⟨rfl, q⟩ := q
    cases k with
    | true =>
      rw [if_pos rfl] at q ⊢
      obtain ⟨d, hd', q⟩ := q
      intro s H C cl fp
      refine (q s H C cl fp).imp fun o' μ2 z => ?_
      obtain ⟨rfl, rfl⟩ := z
      exact ⟨μ', rfl, n, rfl, by rw [List.take_add_one, List.getElem?_eq_getElem hi, hd', List.filterMap_append, List.map_append]; rfl⟩
    | false =>
      rw [if_neg (by decide)] at q ⊢
      exact ⟨μ', rfl, n, rfl, by rw [List.take_add_one, List.getElem?_eq_getElem hi, q, List.filterMap_append, List.map_append]; simp⟩
end
end Nx
namespace Nx
open PySem PySem.Spec PyProof.Rows L2
section
variable {X : Cx} {a b c e o : Expr} {es : List Expr} {st : Stmt} {ss : List Stmt} {ρ : Rho} {μ : Mu} {D : DEnds} {Φ : OV → Mu → Prop} {pos : Pos}
theorem dss_nil (h : D.nx ρ μ) : DSs X [] ρ μ D := fun G H σ m v E f => WSs.of pss_nil (f.nx ρ μ G H σ h (Ex.refl G) m v)
theorem dss_one (h : DS X st ρ μ D) : DSs X [st] ρ μ D := fun G H σ m v E f => WSs.of (pss_one pws) (h G H σ m v E f)
theorem dss_cons (h : DS X st ρ μ { D with nx := fun ρ' μ' => DSs X ss ρ' μ' D }) : DSs X (st :: ss) ρ μ D := fun G H σ m v E f =>
  WSs.of (pss_cons pws pwss) (h G H σ m v _ ⟨fun ρ' μ' G' H' σ' q e m' v' => q G' H' σ' m' v' E (f.later e), f.rt, f.bk, f.ct⟩)
theorem ds_expr (h : DE X e ρ μ fun _ μ1 => D.nx ρ μ1) (hs : swapsWith e none pos.line X.env = pure false := by rfl) : DS X (.Expr e pos) ρ μ D := fun G H σ m v E f =>
  WS.of (ps_expr pwe hs) (h G H σ m v _ fun vx x μ1 G1 H1 q1 e1 m1 r1 => f.nx _ _ _ _ _ q1 e1 m1 (v.mono e1))
theorem ds_ret (h : DE X e ρ μ D.rt) : DS X (.Return (some e) pos) ρ μ D := fun G H σ m v E f => WS.of (ps_ret pwe) (h G H σ m v _ f.rt)
theorem ds_pass (h : D.nx ρ μ) : DS X (.Pass pos) ρ μ D := fun G H σ m v E f => WS.of ps_pass (f.nx _ _ _ _ _ h (Ex.refl G) m v)
theorem ds_break (h : D.bk ρ μ) : DS X (.Break pos) ρ μ D := fun G H σ m v E f => WS.of ps_break (f.bk _ _ _ _ _ h (Ex.refl G) m v)
theorem ds_continue (h : D.ct ρ μ) : DS X (.Continue pos) ρ μ D := fun G H σ m v E f => WS.of ps_continue (f.ct _ _ _ _ _ h (Ex.refl G) m v)
theorem ds_if {s1 s2 : List Stmt} (h : DT X c ρ μ fun k μ1 => if k = true then DSs X s1 ρ μ1 D else DSs X s2 ρ μ1 D) : DS X (.If c s1 s2 pos) ρ μ D := fun G H σ m v E f =>
  WS.of (ps_if pwt pwss pwss) (h G H σ m v _ fun k μ1 G1 H1 q e1 m1 => by
    dsimp only at q
    split at q
    · rename_i hk
      rw [if_pos hk]
      exact q G1 H1 σ m1 (v.mono e1) E (f.later e1)
    · rename_i hk
      rw [if_neg hk]
      exact q G1 H1 σ m1 (v.mono e1) E (f.later e1))
/-- x = e -/
theorem ds_set (i : Nat) {x : Str} {p' : Pos} (hN : X.N.Nodup) (hi : X.N[i]? = some x) (hx : Loc X.env.scope x) (h : DE X e ρ μ fun z μ1 => D.nx (ρ.set i (some z)) μ1) (hs : swapsWith e (some (.Name x p')) pos.line X.env = pure false := by rfl)
    (hf : X.fn x = true ∨ X.env.scope.names.lookup x = some .local := by first | exact .inl rfl | exact .inr rfl | assumption) : DS X (.Assign [.Name x p'] e pos) ρ μ D := fun G H σ m v E f =>
  WS.of (ps_set hN hi hx pwe hs hf) (h G H σ m v _ fun vx z μ1 G1 H1 q1 e1 m1 r1 => f.nx _ _ _ _ _ q1 e1 m1 ((v.mono e1).set r1))
/-- x, y = e -/
theorem ds_asg (t : Tgt) {tg : Expr} (hg : PG X tg (TgtG X.K t)) (h : DE X e ρ μ fun z μ1 => ∃ ρ', t.put z ρ = some ρ' ∧ D.nx ρ' μ1) (hs : swapsWithSole [tg] e pos.line X.env = pure false := by rfl) (hw : swappedStores [tg] e X.env = pure none := by rfl)
    (h1 : (assignEach [tg] X.env).map (·.2) = [assign tg X.env] := by rfl) : DS X (.Assign [tg] e pos) ρ μ D := fun G H σ m v E f =>
  WS.of (ps_asg pwe hg hs hw h1) (h G H σ m v _ fun vx z μ1 G1 H1 ⟨ρ', hp, q1⟩ e1 m1 r1 => tgt_run m1 r1 (v.mono e1) hp fun σ' v' => f.nx _ _ _ _ _ q1 e1 m1 v')
/-- x, y = a, b -/
theorem ds_par (i j : Nat) {x y : Str} {px py pt : Pos} {kt k2 pt2} (hc : X.calm = true) (hN : X.N.Nodup) (hi : X.N[i]? = some x) (hj : X.N[j]? = some y) (hij : i ≠ j)
    (hx : X.env.scope.names.lookup x = some .local) (hy : X.env.scope.names.lookup y = some .local) (hw : swappedStores [.Tuple [.Name x px, .Name y py] kt pt] (.Tuple [a, b] k2 pt2) X.env = pure (some [x, y]))
    (h : DA X [a, b] ρ μ fun os μ1 => ∃ u v, os = [u, v] ∧ D.nx ((ρ.set i (some u)).set j (some v)) μ1)
    (hs : swapsWithSole [.Tuple [.Name x px, .Name y py] kt pt] (.Tuple [a, b] k2 pt2) pos.line X.env = pure false := by rfl) : DS X (.Assign [.Tuple [.Name x px, .Name y py] kt pt] (.Tuple [a, b] k2 pt2) pos) ρ μ D := fun G H σ m v E f =>
  WS.of (ps_par hc hN hi hj hij hx hy pwa hw hs) (h G H σ m v _ fun vs os μ1 G1 H1 q1 e1 m1 r1 => by
    obtain ⟨u, w, rfl, q⟩ := q1
    cases r1 with
    | cons r1 t1 =>
      obtain ⟨z, rfl, r2⟩ := ro1 t1
      exact ⟨_, _, rfl, f.nx _ _ _ _ _ q e1 m1 (((v.mono e1).set r1).set r2)⟩)
theorem ds_par3 (i j l : Nat) {x y z : Str} {px py pz pt : Pos} {kt k2 pt2} (hc : X.calm = true) (hN : X.N.Nodup) (hi : X.N[i]? = some x) (hj : X.N[j]? = some y) (hl : X.N[l]? = some z) (hij : i ≠ j) (hil : i ≠ l) (hjl : j ≠ l)
    (hx : X.env.scope.names.lookup x = some .local) (hy : X.env.scope.names.lookup y = some .local) (hz : X.env.scope.names.lookup z = some .local) (hw : swappedStores [.Tuple [.Name x px, .Name y py, .Name z pz] kt pt] (.Tuple [a, b, c] k2 pt2) X.env = pure (some [x, y, z]))
    (h : DA X [a, b, c] ρ μ fun os μ1 => ∃ u v w, os = [u, v, w] ∧ D.nx (((ρ.set i (some u)).set j (some v)).set l (some w)) μ1)
    (hs : swapsWithSole [.Tuple [.Name x px, .Name y py, .Name z pz] kt pt] (.Tuple [a, b, c] k2 pt2) pos.line X.env = pure false := by rfl) : DS X (.Assign [.Tuple [.Name x px, .Name y py, .Name z pz] kt pt] (.Tuple [a, b, c] k2 pt2) pos) ρ μ D := fun G H σ m v E f =>
  WS.of (ps_par3 hc hN hi hj hl hij hil hjl hx hy hz pwa hw hs) (h G H σ m v _ fun vs os μ1 G1 H1 q1 e1 m1 r1 => by
    obtain ⟨u, w, w', rfl, q⟩ := q1
    cases r1 with
    | cons r1 t1 =>
      cases t1 with
      | cons r2 t2 =>
        obtain ⟨z, rfl, r3⟩ := ro1 t2
        exact ⟨_, _, _, rfl, f.nx _ _ _ _ _ q e1 m1 ((((v.mono e1).set r1).set r2).set r3)⟩)
/-- xs[i] = e, xs of one's own -/
theorem ds_sub {p' : Pos} (h : DE X e ρ μ fun z μ1 => DE X a ρ μ1 fun x μ2 => DE X b ρ μ2 fun y μ3 => ∃ (p : Addr) (l : List OV) (i : Int) (j : Nat), x = .own p ∧ y = .im (.int i) ∧ μ3 p = some l ∧ ixN l.length i = some j ∧ D.nx ρ (μ3.put p (l.set j z))) (hs : swapsWithSole [.Subscript a b p'] e pos.line X.env = pure false := by rfl)
    (hw : swappedStores [.Subscript a b p'] e X.env = pure none := by rfl) (h1 : (assignEach [.Subscript a b p'] X.env).map (·.2) = [assign (.Subscript a b p') X.env] := by rfl) (hsub : PG X (.Subscript a b p') (gSub (WE X a) (WE X b) rSetL)) : DS X (.Assign [.Subscript a b p'] e pos) ρ μ D := fun G H σ m v E f =>
  WS.of (ps_asg pwe hsub hs hw h1) (h G H σ m v _ fun vz z μ1 G1 H1 q1 e1 m1 r1 => q1 G1 H1 σ m1 (v.mono e1) _ fun vx x μ2 G2 H2 q2 e2 m2 r2 => q2 G2 H2 σ m2 (v.mono (e1.trans e2)) _ fun vy y μ3 G3 H3 q3 e3 m3 r3 => by
    obtain ⟨p, l, i, j, rfl, rfl, hp, hj, q⟩ := q3
    have r2 : vx = .ref p := r2
    subst r2
    cases r3
    obtain ⟨g, vs, hv, w⟩ := m3.own _ _ hp
    refine ⟨p, vs, i, j, rfl, rfl, hv, by rw [w.length]; exact hj, ?_⟩
    exact f.nx _ _ _ _ _ q ((e1.trans e2).trans e3) (m3.chg hp (w.set (r1.mono (e2.trans e3)) j)) (v.mono ((e1.trans e2).trans e3)))
/-- for tg in iter: body -/
theorem ds_for (t : Tgt) {tg iter : Expr} {body : List Stmt} (hp : PassesOwn (model X.prog X.w) X.A X.env X.xe) (hc : X.calm = true) (hg : PG X tg (TgtG X.K t))
    (h : DI X tg iter ρ μ fun I μ1 => ∃ Pv : Nat → Rho → Mu → Prop, Pv 0 ρ μ1 ∧ (∀ i ρ' μ', Pv i ρ' μ' → I.ok μ') ∧ (∀ (i : Nat) (z : OV) ρ' μ', I.its[i]? = some z → Pv i ρ' μ' → ∃ ρ2, t.put z ρ' = some ρ2 ∧ DSs X body ρ2 μ' { D with nx := Pv (i + 1), ct := Pv (i + 1), bk := D.nx }) ∧ ∀ ρ' μ', Pv I.its.length ρ' μ' → D.nx ρ' μ')
    (hs : ∀ x, foldedSetIterable iter X.env x = pure x := by intro _; rfl) : DS X (.For tg iter body [] pos) ρ μ D := by
  obtain ⟨wi, pi, run⟩ := h
  intro G H σ m v E f
  refine WS.of (ps_for hp hc pi hg pwss hs) (run G H σ m v _ fun J I μ1 G1 H1 q e1 m1 gv => ?_)
  obtain ⟨Pv, h0, hok, step, hd⟩ := q
  obtain ⟨Gd, Y, wk, hG, hY⟩ := gv
  refine for_it wk (D := E) (fun i σ' H' => ∃ ρ' μ' G', Pv i ρ' μ' ∧ Ex G1 G' ∧ RM G' H' μ' ∧ RV G' ρ' σ') ⟨ρ, μ1, G1, h0, Ex.refl _, m1, v.mono e1⟩ ?_ ?_ ?_
  · rintro i σ' H' _ ⟨ρ', μ', G', p, e, m', v'⟩
    exact hG G' H' μ' e m' (hok _ _ _ p)
  · rintro i x σ' H' H2 hi ⟨ρ', μ', G', p, e, m', v'⟩ y
    obtain ⟨G2, z, e2, m2, hz, r2⟩ := hY i H' x H2 G' μ' e m' (hok _ _ _ p) y hi
    obtain ⟨ρ2, hp2, hb⟩ := step i z ρ' μ' hz p
    refine tgt_run m2 r2 (v'.mono e2) hp2 fun σ2 v2 => ?_
    have e02 := (e1.trans e).trans e2
    refine hb G2 H2 σ2 m2 v2 _ ⟨fun ρ3 μ3 G3 H3 σ3 p3 e3 m3 v3 => ⟨ρ3, μ3, G3, p3, (e.trans e2).trans e3, m3, v3⟩, f.rt.later e02, f.nx.later e02, fun ρ3 μ3 G3 H3 σ3 p3 e3 m3 v3 => ⟨ρ3, μ3, G3, p3, (e.trans e2).trans e3, m3, v3⟩⟩
  · rintro σ' H' ⟨ρ', μ', G', p, e, m', v'⟩
    exact f.nx _ _ _ _ _ (hd _ _ p) (e1.trans e) m' v'
/-- while c: body -/
theorem ds_while {body : List Stmt} (hp : PassesOwn (model X.prog X.w) X.A X.env X.xe) (W : Nat → Rho → Mu → Prop) (m0 : Nat) (h0 : W m0 ρ μ)
    (hs : ∀ n ρ' μ', W n ρ' μ' → DT X c ρ' μ' fun k μ1 => if k = true then DSs X body ρ' μ1 { D with nx := fun ρ2 μ2 => ∃ n', n' < n ∧ W n' ρ2 μ2, ct := fun ρ2 μ2 => ∃ n', n' < n ∧ W n' ρ2 μ2, bk := D.nx } else D.nx ρ' μ1) : DS X (.While c body [] pos) ρ μ D := fun G H σ m v E f => by
  refine WS.of (ps_while hp pwt pwss) ⟨fun n σ' H' => ∃ ρ' μ' G', W n ρ' μ' ∧ Ex G G' ∧ RM G' H' μ' ∧ RV G' ρ' σ', ⟨m0, ρ, μ, G, h0, Ex.refl _, m, v⟩, ?_⟩
  rintro n σ' H' ⟨ρ', μ', G', w, e, m', v'⟩
  refine hs n ρ' μ' w G' H' σ' m' v' _ fun k μ1 G1 H1 q e1 m1 => ?_
  dsimp only at q
  cases k with
  | true =>
    rw [if_pos rfl] at q ⊢
    refine ⟨fun σ2 H2 => ∃ n', n' < n ∧ ∃ ρ' μ' G', W n' ρ' μ' ∧ Ex G G' ∧ RM G' H2 μ' ∧ RV G' ρ' σ2, fun σ2 H2 z => z, ?_⟩
    have e01 := e.trans e1
    refine q G1 H1 σ' m1 (v'.mono e1) _ ⟨?_, f.rt.later e01, f.nx.later e01, ?_⟩
    · rintro ρ3 μ3 G3 H3 σ3 ⟨n', hn, p3⟩ e3 m3 v3
      exact ⟨n', hn, ρ3, μ3, G3, p3, e01.trans e3, m3, v3⟩
    · rintro ρ3 μ3 G3 H3 σ3 ⟨n', hn, p3⟩ e3 m3 v3
      exact ⟨n', hn, ρ3, μ3, G3, p3, e01.trans e3, m3, v3⟩
  | false =>
    rw [if_neg (by decide)] at q ⊢
    exact f.nx _ _ _ _ _ q (e.trans e1) m1 (v'.mono e1)
/-- y = [..] on one line -/
theorem ds_setLcO {own : List (Str × Nat)} (t : Tgt) (i : Nat) {y : Str} {py spos : Pos} {tg iter elt : Expr} {ifs : List Expr} {scope : Scope} (hc : X.calm = true) (hN : X.N.Nodup) (hy : X.N[i]? = some y) (hyl : X.env.scope.names.lookup y = some .local)
    (hsw : swapsWith (.ListComp elt [⟨tg, iter, ifs, 0⟩] scope pos) (some (.Name y py)) spos.line X.env = pure true) (ok : BlkOk X.N X.env.scope scope own) (hs : ∀ i ∈ t.slots, i ∈ own.map (·.2))
    (hg : ∀ s H C cl fp, PG (Blk X scope s H C cl fp) tg (TgtG X.K t)) (h : DI X tg iter ρ μ fun I μ1 => LcD X scope ifs elt t (own.map (·.2)) ρ I μ1 fun acc μ' => ∀ p, μ' p = none → D.nx (ρ.set i (some (.own p))) (μ'.put p acc))
    (hf : ∀ x, foldedSetIterable iter X.env x = pure x := by intro _; rfl) : DS X (.Assign [.Name y py] (.ListComp elt [⟨tg, iter, ifs, 0⟩] scope pos) spos) ρ μ D := by
  obtain ⟨wi, pi, run⟩ := h
  intro G H σ m v E f
  refine WS.of (ps_setLc (own := own) hc hN hy hyl hsw pi ok hg (fun s H C cl fp => pwtb s H C cl fp) (fun s H C cl fp => pweb s H C cl fp) hf) (run G H σ m v _ fun J I μ1 G1 H1 q e1 m1 gv Dl hD => ?_)
  exact lc_run hs v q e1 m1 gv (Qd := fun Dl H => E.nx (σ.set i (some (.ref Dl))) H) (fun Dl acc μ' G' H' d n e m' => f.nx _ _ _ _ _ (d Dl n) (e1.trans e) m' ((v.mono (e1.trans e)).set (o := .own Dl) rfl)) Dl hD
theorem ds_setLc {own : List (Str × Nat)} (t : Tgt) (i : Nat) {y : Str} {py spos : Pos} {tg iter elt : Expr} {ifs : List Expr} {scope : Scope} (hc : X.calm = true) (hN : X.N.Nodup) (hy : X.N[i]? = some y) (hyl : X.env.scope.names.lookup y = some .local)
    (hsw : swapsWith (.ListComp elt [⟨tg, iter, ifs, 0⟩] scope pos) (some (.Name y py)) spos.line X.env = pure true) (ok : BlkOk X.N X.env.scope scope own) (hs : ∀ i ∈ t.slots, i ∈ own.map (·.2))
    (hg : ∀ s H C cl fp, PG (Blk X scope s H C cl fp) tg (TgtG X.K t)) (h : DI X tg iter ρ μ fun I μ1 => LcD X scope ifs elt t (own.map (·.2)) ρ I μ1 fun acc μ' => ∃ ds, acc = ds.map .im ∧ D.nx (ρ.set i (some (.im (.list ds)))) μ')
    (hf : ∀ x, foldedSetIterable iter X.env x = pure x := by intro _; rfl) : DS X (.Assign [.Name y py] (.ListComp elt [⟨tg, iter, ifs, 0⟩] scope pos) spos) ρ μ D := by
  obtain ⟨wi, pi, run⟩ := h
  intro G H σ m v E f
  refine WS.of (ps_setLc (own := own) hc hN hy hyl hsw pi ok hg (fun s H C cl fp => pwtb s H C cl fp) (fun s H C cl fp => pweb s H C cl fp) hf) (run G H σ m v _ fun J I μ1 G1 H1 q e1 m1 gv Dl hD => ?_)
  refine lc_run hs v q e1 m1 gv (Qd := fun Dl H => E.nx (σ.set i (some (.ref Dl))) H) (fun Dl acc μ' G' H' d n e m' => ?_) Dl hD
  obtain ⟨ds, rfl, z⟩ := d
  obtain ⟨vs, e0, g0, w, m2⟩ := m'.frz (p := Dl) put_same
  rw [del_put n] at m2
  exact f.nx _ _ _ _ _ z ((e1.trans e).trans (Ex.new g0)) m2 ((v.mono ((e1.trans e).trans (Ex.new g0))).set (o := .im _) (Dv.lst upd_same (w.mono (Ex.new g0))))

/-! ### methods of lists of one's own -/
theorem mt_of {id : String} {r : V → List V → Hp → VK → Prop} (h : MtM X id r) : MtR X id r := h
variable {apos cpos : Pos}
theorem de_append (h : DE X o ρ μ fun x μ1 => ∃ p l, x = .own p ∧ μ1 p = some l ∧ DE X e ρ μ1 fun y μ2 => ∃ l2, μ2 p = some l2 ∧ l2.length < 100000 ∧ Φ (.im .none) (μ2.put p (l2 ++ [y])))
    (hbase : attributeBase o "append" X.env (eval o X.env) = eval o X.env := by rfl)
    (hfew : ((backTo cpos (starEach [e] X.env)).all (fun x => !x.1) && (backToKw cpos (keywordEach [] X.env)).all (fun x => x.1.isSome) && decide ([e].length + ([] : List Keyword).length + (if ([] : List Keyword).isEmpty then 0 else 1) < 30)) = true := by rfl)
    (hline : (apos.endLine == cpos.line) = true := by rfl) (hs : starEach [e] X.env = (false, eval e X.env) :: starEach [] X.env := by rfl) (hplain : (backTo cpos (starEach [] X.env)).any (·.1) = false := by rfl) :
    DE X (.Call (.Attribute o "append" apos) [e] [] cpos) ρ μ Φ := fun G H σ m v Q f =>
  WE.of (pe_bm PySem.F.plainAttrs_list PySem.F.slot_list_append PySem.F.type_list_append mt_append pwe pwa hbase hfew hline hs hplain) (h G H σ m v _ fun vx x μ1 G1 H1 q1 e1 m1 r1 => by
    obtain ⟨p, l, rfl, hp, q⟩ := q1
    have r1 : vx = .ref p := r1
    subst r1
    obtain ⟨_, vs1, hv1, _⟩ := m1.own _ _ hp
    refine ⟨.inl ⟨rfl, _, .inl (.inl hv1)⟩, ?_⟩
    refine (da_cons (Λ := fun os μ2 => ∃ y l2, os = [y] ∧ μ2 p = some l2 ∧ l2.length < 100000 ∧ Φ (.im .none) (μ2.put p (l2 ++ [y]))) (q.imp fun y μ2 ⟨l2, a1, a2, a3⟩ => da_nil ⟨y, l2, rfl, a1, a2, a3⟩) hs) G1 H1 σ m1 (v.mono e1) _ fun vs os μ2 G2 H2 q2 e2 m2 r2 => ?_
    obtain ⟨y, l2, rfl, hp2, hz, q⟩ := q2
    obtain ⟨u, rfl, ru⟩ := ro1 r2
    obtain ⟨_, ws, hw, ww⟩ := m2.own _ _ hp2
    exact ⟨p, ws, u, rfl, rfl, hw, by rw [ww.length]; exact Nat.lt_of_lt_of_le hz (by decide), f _ _ _ _ _ q (e1.trans e2) (m2.chg hp2 (ww.snoc ru)) Dv.non⟩)
theorem de_popAt (h : DE X o ρ μ fun x μ1 => ∃ p l, x = .own p ∧ μ1 p = some l ∧ DE X e ρ μ1 fun y μ2 => ∃ (l2 : List OV) (i : Nat) (z : OV), y = .im (.int (i : Int)) ∧ i < 100000 ∧ μ2 p = some l2 ∧ l2[i]? = some z ∧ Φ z (μ2.put p (l2.eraseIdx i)))
    (hbase : attributeBase o "pop" X.env (eval o X.env) = eval o X.env := by rfl)
    (hfew : ((backTo cpos (starEach [e] X.env)).all (fun x => !x.1) && (backToKw cpos (keywordEach [] X.env)).all (fun x => x.1.isSome) && decide ([e].length + ([] : List Keyword).length + (if ([] : List Keyword).isEmpty then 0 else 1) < 30)) = true := by rfl)
    (hline : (apos.endLine == cpos.line) = true := by rfl) (hs : starEach [e] X.env = (false, eval e X.env) :: starEach [] X.env := by rfl) (hplain : (backTo cpos (starEach [] X.env)).any (·.1) = false := by rfl) :
    DE X (.Call (.Attribute o "pop" apos) [e] [] cpos) ρ μ Φ := fun G H σ m v Q f =>
  WE.of (pe_bm PySem.F.plainAttrs_list PySem.F.slot_list_pop PySem.F.type_list_pop mt_popAt pwe pwa hbase hfew hline hs hplain) (h G H σ m v _ fun vx x μ1 G1 H1 q1 e1 m1 r1 => by
    obtain ⟨p, l, rfl, hp, q⟩ := q1
    have r1 : vx = .ref p := r1
    subst r1
    obtain ⟨_, vs1, hv1, _⟩ := m1.own _ _ hp
    refine ⟨.inl ⟨rfl, _, .inl (.inl hv1)⟩, ?_⟩
    refine (da_cons (Λ := fun os μ2 => ∃ (l2 : List OV) (i : Nat) (z : OV), os = [.im (.int (i : Int))] ∧ i < 100000 ∧ μ2 p = some l2 ∧ l2[i]? = some z ∧ Φ z (μ2.put p (l2.eraseIdx i))) (q.imp fun y μ2 ⟨l2, i, z, a0, a1, a2, a3, a4⟩ => da_nil ⟨l2, i, z, by rw [a0], a1, a2, a3, a4⟩) hs) G1 H1 σ m1 (v.mono e1) _ fun vs os μ2 G2 H2 q2 e2 m2 r2 => ?_
    obtain ⟨l2, i, z, rfl, hi, hp2, hz, q⟩ := q2
    obtain ⟨u, rfl, ru⟩ := ro1 r2
    cases ru
    obtain ⟨_, ws, hw, ww⟩ := m2.own _ _ hp2
    obtain ⟨y, hy, ry⟩ := ROs.get ww hz
    have hil : i < ws.length := (List.getElem?_eq_some_iff.mp hy).1
    refine ⟨p, ws, i, i, y, rfl, rfl, hw, by omega, by omega, ?_, hy, f _ _ _ _ _ q (e1.trans e2) (m2.chg hp2 (ww.erase i)) ry⟩
    exact (atI_get (i := (i : Int)) (xs := ws) (v := y) (atI_nat hy)).elim fun j hj => by
      have e3 : j = i := by
        have h1 := hj.1
        unfold seqIndex? at h1
        split at h1 <;> simp_all <;> omega
      rw [e3] at hj
      exact hj.1)
theorem de_reverse (h : DE X o ρ μ fun x μ1 => ∃ p l, x = .own p ∧ μ1 p = some l ∧ Φ (.im .none) (μ1.put p l.reverse)) (ho : PE X (.Call (.Attribute o "reverse" apos) [] [] cpos) (tBM0 X.K "list" rReverse (WE X o))) :
    DE X (.Call (.Attribute o "reverse" apos) [] [] cpos) ρ μ Φ := fun G H σ m v Q f =>
  WE.of ho (h G H σ m v _ fun vx x μ1 G1 H1 q1 e1 m1 r1 => by
    obtain ⟨p, l, rfl, hp, q⟩ := q1
    have r1 : vx = .ref p := r1
    subst r1
    obtain ⟨_, vs1, hv1, w⟩ := m1.own _ _ hp
    exact ⟨.inl ⟨rfl, _, .inl (.inl hv1)⟩, p, vs1, rfl, rfl, hv1, f _ _ _ _ _ q e1 (m1.chg hp w.reverse) Dv.non⟩)
end
end Nx
namespace Nx
open PySem PySem.Spec PyProof.Rows L2
/-! ### enumerate and zip over lists and tuples in any mix -/
/-- a source: a list (true) or a tuple -/
def ItO (k : Bool) (h : Heap) (it a : Addr) (i : Nat) : Prop := if k then h.IsListIter it a i else h.IsTupleIter it a i
def SrO (k : Bool) (h : Heap) (a : Addr) (its : Array Value) : Prop := if k then h.IsList a its else h.IsTuple a its
def SqK (k : Bool) (H : Hp) (a : Addr) (xs : List V) : Prop := H a = some (if k then HO.lst xs else HO.tup xs)
def itOb (k : Bool) (a : Addr) : Obj := { cls := .type (if k then "list_iterator" else "tuple_iterator"), data := .fields #[.ref a, .int 0 0] }
theorem draws (k : Bool) {prog : Program} {w : World} {A : Around} (hh : A.handled = none) (it a : Addr) (hne : a ≠ it) (its : Array Value) : Draws prog w A it [it, a] its.size (fun i v => its[i]? = some v) (fun i h => ItO k h it a i ∧ SrO k h a its) := by
  cases k
  · exact Draws.tuple hh it a hne its
  · exact Draws.list hh it a hne its
theorem begins (k : Bool) (a : Addr) (its : Array Value) : Begins (.ref a) (itOb k a) fun h => SrO k h a its := by
  cases k
  · exact begins_tuple a its
  · exact begins_list a its
theorem ItO.new {k : Bool} {h : Heap} {it a : Addr} (e : h.get? it = some (itOb k a)) : ItO k h it a 0 := by
  cases k
  · exact ⟨_, e, rfl, rfl⟩
  · exact ⟨_, e, rfl, rfl⟩
theorem ItO.keep {k : Bool} {h h' : Heap} {it a : Addr} {i : Nat} (x : ItO k h it a i) (e : ∀ o, h.get? it = some o → h'.get? it = some o) : ItO k h' it a i := by
  cases k
  · obtain ⟨o, h1, h2, h3⟩ := x
    exact ⟨o, e o h1, h2, h3⟩
  · obtain ⟨o, h1, h2, h3⟩ := x
    exact ⟨o, e o h1, h2, h3⟩
theorem ItO.obj {k : Bool} {h : Heap} {it a : Addr} {i : Nat} (x : ItO k h it a i) : ∃ o, h.get? it = some o ∧ ∀ v, o.data ≠ .cell v := by
  cases k
  · obtain ⟨o, h1, h2, h3⟩ := x
    exact ⟨o, h1, fun v q => by rw [h3] at q; cases q⟩
  · obtain ⟨o, h1, h2, h3⟩ := x
    exact ⟨o, h1, fun v q => by rw [h3] at q; cases q⟩
theorem SqK.at {X : Cx} {pins : List (Addr × Obj)} {σ : L2.St} {H : Hp} {s : Shared} {k : Bool} {a : Addr} {xs : List V} (I : Inv X pins σ H s) (h : SqK k H a xs) : ∃ its : List Value, Vals xs its ∧ SrO k s.heap a its.toArray := by
  cases k
  · obtain ⟨its, rv, t, _⟩ := I.tuple (X := X) (xs := xs) (a := a) (.inl (.inl h))
    exact ⟨its, rv, t⟩
  · obtain ⟨its, rv, p, _⟩ := I.list (X := X) (xs := xs) (a := a) (.inl (.inl h))
    exact ⟨its, rv, p.isList⟩
theorem mem2 {b e it : Addr} (h : b ∈ [e, it]) : b = e ∨ b = it := by simpa using h

/-- i, x of the list or tuple at a, which stays -/
def Jen (k : Bool) (a : Addr) (xs : List V) : It :=
  ⟨fun i H => i < xs.length ∧ SqK k H a xs, fun i H v H' => ∃ T x, v = .ref T ∧ H T = none ∧ H' = upd H T (.tup [.int (i : Nat), x]) ∧ xs[i]? = some x, fun i H => i = xs.length ∧ SqK k H a xs⟩
theorem turn_en {P : Program} {w : World} {K : PySem.W.Frag} {elts : List Expr} {kk : Nat} {tpos : Pos} (k : Bool) (a e it : Addr) (xs : List V) (hei : e ≠ it) :
    Turn P w K (.Tuple elts kk tpos) (Jen k a xs) [e, it] e (fun i h => (∃ old, IsEnum h e it ((i : Nat) : Int) old) ∧ ItO k h it a i) where
  mem := by simp
  obj := fun i h st b hb => by
    obtain ⟨⟨old, he⟩, hi⟩ := st
    rcases mem2 hb with z | z
    · rw [z]
      exact ⟨_, he, fun v q => nomatch q⟩
    · rw [z]
      exact hi.obj
  keep := fun i h h' st kp => by
    obtain ⟨⟨old, he⟩, hi⟩ := st
    exact ⟨⟨old, kp e (by simp) _ he⟩, hi.keep fun o q => kp it (by simp) o q⟩
  item := by
    intro X hP hw hK hc i pins s σ H E I hf st hg
    subst hP hw hK
    obtain ⟨⟨old, he⟩, hit⟩ := st
    obtain ⟨hi, hq⟩ := hg
    obtain ⟨its, rv, hs⟩ := hq.at I
    have na : ∀ b ∈ [e, it], a ≠ b := fun b hb => ne_of_none hq (hf b hb).1
    have W := GoesN.enumFrom (elts := elts) (x1 := kk) (pos := tpos) (A := X.A) 0 (draws (prog := X.prog) (w := X.w) (A := X.A.in1) k (I.ok.hd hc) it a (na it (by simp)) its.toArray) e hei (by
      intro hm
      rcases mem2 hm with z | z
      · exact hei z
      · exact na e (by simp) z.symm) (by simp)
    have hl := rv.length
    refine W.goes i s _ E (by simp; omega) ⟨⟨old, by rw [Int.zero_add]; exact he⟩, hit, hs⟩ fun v h' tk hY st' hk _ => ?_
    obtain ⟨T, t, x, rfl, hT, hx, hTu⟩ := hY
    obtain ⟨⟨old', he'⟩, hit', _⟩ := st'
    have hx' : its[i]? = some x := by simpa using hx
    obtain ⟨y, hy⟩ : ∃ y, xs[i]? = some y := ⟨_, List.getElem?_eq_getElem hi⟩
    obtain ⟨u, hu, ru⟩ := rv.get hy
    rw [hx'] at hu
    cases hu
    have new : ObjOk X.prog X.w (upd H T (.tup [.int (i : Nat), y])) h' T (.tup [.int (i : Nat), y]) :=
      ⟨by show 2 ≤ sizeLine; decide, [.int (0 + (i : Int)) t, x], .cons ⟨t, by rw [Int.zero_add]⟩ (.cons ru .nil), hTu⟩
    have hTn := I.hok.fresh hT
    refine ⟨.ref T, _, I.turnedNew (t' := tk) (ch := [e, it]) hk hf hT new, rfl, ⟨T, y, rfl, hTn, rfl, hy⟩, ⟨⟨old', ?_⟩, hit'⟩, fun b hb => ?_⟩
    · rw [Int.zero_add] at he'
      exact he'
    · have hb' : b ≠ T := fun z => by
        obtain ⟨o, ho, _⟩ : ∃ o, s.heap.get? b = some o ∧ ∀ v, o.data ≠ .cell v := by
          rcases mem2 hb with z | z
          · rw [z]
            exact ⟨_, he, fun v q => nomatch q⟩
          · rw [z]
            exact hit.obj
        have := Heap.lt_size ho
        rw [z] at this
        exact absurd hT (Nat.not_le.mpr this)
      rw [upd_ne hb']
      exact (hf b hb).1
  done := by
    intro X hP hw hK hc i pins s σ H E I hf st hg
    subst hP hw hK
    obtain ⟨⟨old, he⟩, hit⟩ := st
    obtain ⟨rfl, hq⟩ := hg
    obtain ⟨its, rv, hs⟩ := hq.at I
    have na : ∀ b ∈ [e, it], a ≠ b := fun b hb => ne_of_none hq (hf b hb).1
    have W := GoesN.enumFrom (elts := elts) (x1 := kk) (pos := tpos) (A := X.A) 0 (draws (prog := X.prog) (w := X.w) (A := X.A.in1) k (I.ok.hd hc) it a (na it (by simp)) its.toArray) e hei (by
      intro hm
      rcases mem2 hm with z | z
      · exact hei z
      · exact na e (by simp) z.symm) (by simp)
    have hl := rv.length
    have hn : its.toArray.size = xs.length := by simp; omega
    refine W.stops s _ E (by rw [hn]; exact ⟨⟨old, by rw [Int.zero_add]; exact he⟩, hit, hs⟩) fun h' tk hk _ => ?_
    exact I.turnedL hk hf
  self := fun A i s Q E st h => let ⟨⟨_, he⟩, _⟩ := st; wpAny_pyIter_enum he h

set_option maxHeartbeats 1000000 in
theorem meets_en {v : Value} {o : Obj} {Hs : Heap → Prop} (B : Begins v o Hs) :
    Meets (Builtin.«enumerate.__new__» ⟨[.type "enumerate", v], []⟩) (fun _ R s => Hs s.heap ∧
      R (.ok (.ret (.ref (s.heap.push o).objs.size))) { s with heap := (s.heap.push o).push { cls := .type "enumerate", data := .fields #[.none, .bool false, .ref s.heap.objs.size, rawInt 0, .none, .none] } }) :=
  .of_wp fun prog w A R s h => by
    obtain ⟨hp, g, d, tk, os⟩ := s
    obtain ⟨h1, h⟩ := h
    have sub := sub_enumerate
    have it1 : ∀ {A' : Around} {E : Value → Shared → Prop} {Q : Value → Shared → Prop}, Q (.ref hp.objs.size) ⟨hp.push o, g, d, tk, os⟩ → wpAny (model prog w) A' (pyIter v) Q E ⟨hp, g, d, tk, os⟩ := fun q => B.iter prog w _ _ ⟨hp, g, d, tk, os⟩ _ h1 q
    wp_walk using it1
    refine wpAny_stack_any fun st => wpAny_pure ?_
    split
    · rename_i c _ _ _ _ _
      cases (c == Value.type "enumerate") <;> (wp_walk using it1; exact ⟨_, rfl, h⟩)
    · wp_walk using it1
      exact ⟨_, rfl, h⟩
theorem call_en {prog : Program} {w : World} {A : Around} {E : Value → Shared → Prop} {s : Shared} {v : Value} {o : Obj} {Hs : Heap → Prop} {Q : Value → Shared → Prop} (B : Begins v o Hs) (h1 : Hs s.heap)
    (h : ∀ h', IsEnum h' (s.heap.objs.size + 1) s.heap.objs.size 0 .none → h'.get? s.heap.objs.size = some o → (∀ b o, s.heap.get? b = some o → h'.get? b = some o) → Q (.ref (s.heap.objs.size + 1)) { s with heap := h' }) : wpAny (model prog w) A (call (.type "enumerate") [v]) Q E s := by
  refine callType_new F.called_enumerate (by decide) (F.typeCall_enumerate_1 _) (F.newCall_enumerate_1 _) (fun obj => F.args_object_init_2 obj _) F.entry_enumerate_new (meets_en B) ⟨h1, ?_⟩
  have hz : (s.heap.push o).objs.size = s.heap.objs.size + 1 := Heap.size_push ..
  rw [hz]
  have he := Heap.get?_push_size (s.heap.push o) (o := { cls := .type "enumerate", data := .fields #[.none, .bool false, .ref s.heap.objs.size, rawInt 0, .none, .none] }) rfl
  rw [hz] at he
  exact ⟨⟨_, he, rfl⟩, h _ he (Heap.get?_push_of_some _ (Heap.get?_push_size _ B.free)) fun b o x => Heap.get?_push_of_some _ (Heap.get?_push_of_some _ x)⟩
def iEn (ta : TA) : TI := fun σ H R => ta σ H fun vs H1 => ∃ k a xs, vs = [.ref a] ∧ SqK k H1 a xs ∧ R (Jen k a xs) H1
theorem pi_en {X : Cx} {e : Expr} {ta : TA} {p pos tpos : Pos} {elts : List Expr} {kk : Nat} (hg : Gl X "enumerate") (hm : X.mg "enumerate" = none) (ha : PA X [e] ta) (hs : starEach [e] X.env = [(false, eval e X.env)]) :
    PI X (.Tuple elts kk tpos) (.Call (.Name "enumerate" p) [e] [] pos) (iEn ta) := by
  constructor
  intro pins s σ H R I h
  refine Call_ (ld_blt I hg hm boot_enumerate (PyProof.Rows.callWith_type1 (thn (ha.run pos pins s σ H _ I h) fun us s1 ⟨vs, H1, I1, r1, q1⟩ => ?_) hs rfl))
  obtain ⟨k, a, xs, rfl, hq, q⟩ := q1
  obtain rfl := r1.ref1
  obtain ⟨its, rv, hsr⟩ := hq.at I1
  refine call_en (begins k a its.toArray) hsr fun h' he hit hk => wpAny_pyIter_enum he ?_
  refine ⟨s1.heap.objs.size + 1, [s1.heap.objs.size + 1, s1.heap.objs.size], _, _, H1, rfl, I1.kept (t' := s1.toks) hk, turn_en k a (s1.heap.objs.size + 1) s1.heap.objs.size xs (Nat.succ_ne_self _), ⟨⟨.none, he⟩, ItO.new hit⟩, fun b hb => ?_, q⟩
  have hle : s1.heap.objs.size ≤ b := by
    rcases mem2 hb with z | z
    · rw [z]; exact Nat.le_add_right _ _
    · rw [z]; exact Nat.le_refl _
  exact I1.fpOk hle (I1.hok.fresh hle)
theorem walk_en {k : Bool} {a : Addr} {xs : List V} : Walk (Jen k a xs) xs.length (fun H => SqK k H a xs) (YPair (fun i => some (.int (i : Nat))) (fun i => xs[i]?)) :=
  ⟨fun i H hi q => ⟨hi, q⟩, fun H q => ⟨rfl, q⟩, fun i H v H' _ q ⟨T, x, h1, h2, h3, h4⟩ => ⟨T, .int (i : Nat), x, h1, h2, h3, rfl, h4⟩⟩
/-- the items of a list or a tuple that stays -/
inductive Seq (ds : List PyData) : OV → Prop
  | lst : Seq ds (.im (.list ds))
  | tup : Seq ds (.im (.tuple ds))
theorem Seq.at {G : Hp} {v : V} {o : OV} {ds : List PyData} (h : Seq ds o) (r : RO G v o) : ∃ k a xs, v = .ref a ∧ SqK k G a xs ∧ DvA G xs ds := by
  cases h with
  | lst =>
    have r : Dv G v (.list ds) := r
    cases r with
    | lst h1 w => exact ⟨true, _, _, rfl, h1, w⟩
  | tup =>
    have r : Dv G v (.tuple ds) := r
    cases r with
    | tup h1 w => exact ⟨false, _, _, rfl, h1, w⟩
section
variable {X : Cx} {tg e e2 e3 : Expr} {ρ : Rho} {μ : Mu} {Ψ : Itd → Mu → Prop} {p pos : Pos}
theorem di_en {elts : List Expr} {kk : Nat} {tpos : Pos} (B : Bt X.mg) (hg : Gl X "enumerate") (h : DE X e ρ μ fun o μ1 => ∃ ds, Seq ds o ∧ Ψ ⟨(prs (nums ds.length) ds).map .im, fun _ => True⟩ μ1)
    (he : starEach [e] X.env = (false, eval e X.env) :: starEach [] X.env := by rfl) (he2 : starEach [e] X.env = [(false, eval e X.env)] := by rfl) : DI X (.Tuple elts kk tpos) (.Call (.Name "enumerate" p) [e] [] pos) ρ μ Ψ :=
  ⟨_, pi_en hg B.enumerate pwa he2, fun G H σ m v R f => (da_cons (Λ := fun os μ1 => ∃ o ds, os = [o] ∧ Seq ds o ∧ Ψ ⟨(prs (nums ds.length) ds).map .im, fun _ => True⟩ μ1)
      (h.imp fun o μ1 ⟨ds, ho, q⟩ => da_nil ⟨o, ds, rfl, ho, q⟩) he) G H σ m v _ fun vs os μ1 G1 H1 q1 e1 m1 r1 => by
    obtain ⟨o, ds, rfl, hd, q⟩ := q1
    obtain ⟨u, rfl, ru⟩ := ro1 r1
    obtain ⟨k, a, xs, rfl, hq, w⟩ := hd.at ru
    refine ⟨k, a, xs, rfl, m1.ex _ _ hq, f _ _ _ _ _ q e1 m1 ?_⟩
    have hlen : ((prs (nums ds.length) ds).map OV.im).length = ds.length := by simp [prs, nums]
    refine ⟨fun H => SqK k H a xs, YPair (fun i => some (.int (i : Nat))) (fun i => xs[i]?), ?_, fun G' H' μ' e m _ => m.ex _ _ (e _ _ hq), fun i H' x H2 G' μ' e m _ y hi => ?_⟩
    · show Walk _ ((prs (nums ds.length) ds).map OV.im).length _ _
      rw [hlen, ← w.length]
      exact walk_en
    · obtain ⟨T, x1, y1, rfl, hT, rfl, h1, h2⟩ := y
      cases h1
      obtain ⟨d, h3, h4⟩ := w.getV h2
      have hi : i < ds.length := by rw [← hlen]; exact hi
      obtain ⟨a1, a2, a3⟩ := pair_new m hT (Dv.int (i : Int)) (h4.mono e)
      exact ⟨_, .im (.tuple [.int (i : Int), d]), a1, a2, by rw [List.getElem?_map, prs_get (nums_get hi) h3]; rfl, a3⟩⟩
end
end Nx
namespace Nx
open PySem PySem.Spec PyProof.Rows L2
/-! ### zip -/
def Jz2 (k1 k2 : Bool) (a1 a2 : Addr) (xs ys : List V) : It :=
  ⟨fun i H => i < min xs.length ys.length ∧ SqK k1 H a1 xs ∧ SqK k2 H a2 ys, fun i H v H' => ∃ T x y, v = .ref T ∧ H T = none ∧ H' = upd H T (.tup [x, y]) ∧ xs[i]? = some x ∧ ys[i]? = some y, fun i H => i = min xs.length ys.length ∧ SqK k1 H a1 xs ∧ SqK k2 H a2 ys⟩
def tnz2 (k1 k2 : Bool) (z TI TO i1 i2 a1 a2 : Addr) (i : Nat) (h : Heap) : Prop := IsZip h z TI TO .none ∧ IsTupOf2 h TI (.ref i1) (.ref i2) ∧ (∃ x y, IsTupOf2 h TO x y) ∧ ItO k1 h i1 a1 i ∧ ItO k2 h i2 a2 i
theorem tupOf2_at {h h' : Heap} {T : Addr} {x y : Value} (t : IsTupOf2 h T x y) (k : ∀ o, h.get? T = some o → h'.get? T = some o) : IsTupOf2 h' T x y := k _ t
theorem turn_z2 {P : Program} {w : World} {K : PySem.W.Frag} {elts : List Expr} {kk : Nat} {tpos : Pos} (k1 k2 : Bool) (a1 a2 z TI TO i1 i2 : Addr) (xs ys : List V) (hd : [z, TI, TO, i1, i2].Nodup) :
    Turn P w K (.Tuple elts kk tpos) (Jz2 k1 k2 a1 a2 xs ys) [z, TI, TO, i1, i2] z (tnz2 k1 k2 z TI TO i1 i2 a1 a2) := by
  have obj : ∀ i h, tnz2 k1 k2 z TI TO i1 i2 a1 a2 i h → ∀ b ∈ [z, TI, TO, i1, i2], ∃ o, h.get? b = some o ∧ ∀ v, o.data ≠ .cell v := by
    rintro i h ⟨h1, h2, ⟨x, y, h3⟩, h4, h5⟩ b hb
    simp only [List.mem_cons, List.not_mem_nil, or_false] at hb
    rcases hb with rfl | rfl | rfl | rfl | rfl
    · exact ⟨_, h1, fun v q => nomatch q⟩
    · exact ⟨_, h2, fun v q => nomatch q⟩
    · exact ⟨_, h3, fun v q => nomatch q⟩
    · exact h4.obj
    · exact h5.obj
  have goes : ∀ (X : Cx) (i : Nat) (pins : List (Addr × Obj)) (s : Shared) (σ : L2.St) (H : Hp), X.prog = P → X.w = w → X.calm = true → Inv X pins σ H s → (∀ b ∈ [z, TI, TO, i1, i2], FpOk X pins H b) → SqK k1 H a1 xs → SqK k2 H a2 ys →
      ∃ (its jts : List Value), Vals xs its ∧ Vals ys jts ∧ SrO k1 s.heap a1 its.toArray ∧ SrO k2 s.heap a2 jts.toArray ∧ GoesN P w X.A (.Tuple elts kk tpos) z (z :: TI :: TO :: ([i1, a1] ++ [i2, a2])) [z, TO, i1, i2] (min its.toArray.size jts.toArray.size)
        (fun i h₀ v h => ∃ T x y, v = .ref T ∧ h₀.objs.size ≤ T ∧ its.toArray[i]? = some x ∧ jts.toArray[i]? = some y ∧ h.IsTuple T #[x, y])
        (fun i h => IsZip h z TI TO .none ∧ IsTupOf2 h TI (.ref i1) (.ref i2) ∧ (∃ a1 a2, IsTupOf2 h TO a1 a2) ∧ (ItO k1 h i1 a1 i ∧ SrO k1 h a1 its.toArray) ∧ (ItO k2 h i2 a2 i ∧ SrO k2 h a2 jts.toArray)) := by
    intro X i pins s σ H hP hw hc I hf q1 q2
    subst hP hw
    obtain ⟨its, rv, hs1⟩ := q1.at I
    obtain ⟨jts, rw_, hs2⟩ := q2.at I
    have n1 : ∀ b ∈ [z, TI, TO, i1, i2], a1 ≠ b := fun b hb => ne_of_none q1 (hf b hb).1
    have n2 : ∀ b ∈ [z, TI, TO, i1, i2], a2 ≠ b := fun b hb => ne_of_none q2 (hf b hb).1
    have m1 := n1 z (by simp)
    have m3 := n1 TO (by simp)
    have m4 := n1 i1 (by simp)
    have m5 := n1 i2 (by simp)
    have l1 := n2 z (by simp)
    have l3 := n2 TO (by simp)
    have l4 := n2 i1 (by simp)
    have l5 := n2 i2 (by simp)
    simp only [List.nodup_cons, List.mem_cons, List.not_mem_nil, or_false, not_or, List.nodup_nil, and_true, not_false_eq_true] at hd
    obtain ⟨⟨d1, d2, d3, d4⟩, ⟨d5, d6, d7⟩, ⟨d8, d9⟩, d10⟩ := hd
    refine ⟨its, jts, rv, rw_, hs1, hs2, GoesN.zip2 ?_ (draws (A := X.A.in1) k1 (I.ok.hd hc) i1 a1 m4 its.toArray) (draws (A := X.A.in1) k2 (I.ok.hd hc) i2 a2 l5 jts.toArray)⟩
    exact { TIz := fun e => d1 e.symm, TOz := fun e => d2 e.symm, TITO := d5, TIi1 := d6, mem1 := by simp, zf1 := by simp; exact ⟨d3, fun e => m1 e.symm⟩, Tf1 := by simp; exact ⟨d8, fun e => m3 e.symm⟩, TIi2 := d7, mem2 := by simp,
            zf2 := by simp; exact ⟨d4, fun e => l1 e.symm⟩, Tf2 := by simp; exact ⟨d9, fun e => l3 e.symm⟩, sep1_2 := by simp; exact ⟨d10, fun e => l4 e.symm⟩, sep2_1 := by simp; exact ⟨fun e => d10 e.symm, fun e => m5 e.symm⟩ }
  have keepF : ∀ {h h' : Heap} {b : Addr}, b ∉ [z, TI, TO, i1, i2] → b ∉ [z, TO, i1, i2] := fun {h h' b} hb hm => hb (by
    simp only [List.mem_cons, List.not_mem_nil, or_false] at hm ⊢
    rcases hm with e | e | e | e
    · exact .inl e
    · exact .inr (.inr (.inl e))
    · exact .inr (.inr (.inr (.inl e)))
    · exact .inr (.inr (.inr (.inr e))))
  constructor
  · simp
  · exact obj
  · rintro i h h' ⟨h1, h2, ⟨x, y, h3⟩, h4, h5⟩ kp
    exact ⟨kp z (by simp) _ h1, kp TI (by simp) _ h2, ⟨x, y, kp TO (by simp) _ h3⟩, h4.keep (kp i1 (by simp)), h5.keep (kp i2 (by simp))⟩
  · intro X hP hw hK hc i pins s σ H E I hf st hg
    obtain ⟨hi, q1, q2⟩ := hg
    obtain ⟨its, jts, rv, rw_, hs1, hs2, W⟩ := goes X i pins s σ H hP hw hc I hf q1 q2
    subst hP hw hK
    obtain ⟨h1, h2, h3, h4, h5⟩ := id st
    have hl := rv.length
    have hl2 := rw_.length
    refine W.goes i s _ E (by simp; omega) ⟨h1, h2, h3, ⟨h4, hs1⟩, h5, hs2⟩ fun v h' tk hY st' hk _ => ?_
    obtain ⟨T, x, y, rfl, hT, hx, hy, hTu⟩ := hY
    obtain ⟨g1, g2, g3, ⟨g4, _⟩, g5, _⟩ := st'
    obtain ⟨x', hx'⟩ : ∃ y, xs[i]? = some y := ⟨_, List.getElem?_eq_getElem (by omega)⟩
    obtain ⟨y', hy'⟩ : ∃ y, ys[i]? = some y := ⟨_, List.getElem?_eq_getElem (by omega)⟩
    obtain ⟨u, hu, ru⟩ := rv.get hx'
    obtain ⟨u2, hu2, ru2⟩ := rw_.get hy'
    have ex : u = x := by
      have : its[i]? = some x := by simpa using hx
      rw [this] at hu
      exact (Option.some.inj hu).symm
    have ey : u2 = y := by
      have : jts[i]? = some y := by simpa using hy
      rw [this] at hu2
      exact (Option.some.inj hu2).symm
    subst ex ey
    have new : ObjOk X.prog X.w (upd H T (.tup [x', y'])) h' T (.tup [x', y']) := ⟨by show 2 ≤ sizeLine; decide, [u, u2], .cons ru (.cons ru2 .nil), hTu⟩
    refine ⟨.ref T, _, I.turnedNew (t' := tk) (ch := [z, TI, TO, i1, i2]) (fun b o hb => hk b o (keepF (h := h') (h' := h') hb)) hf hT new, rfl, ⟨T, x', y', rfl, I.hok.fresh hT, rfl, hx', hy'⟩, ⟨g1, g2, g3, g4, g5⟩, fun b hb => ?_⟩
    obtain ⟨o, ho, _⟩ := obj i _ st b hb
    have hb' : b ≠ T := fun e => by
      have := Heap.lt_size ho
      rw [e] at this
      exact absurd hT (Nat.not_le.mpr this)
    rw [upd_ne hb']
    exact (hf b hb).1
  · intro X hP hw hK hc i pins s σ H E I hf st hg
    obtain ⟨rfl, q1, q2⟩ := hg
    obtain ⟨its, jts, rv, rw_, hs1, hs2, W⟩ := goes X 0 pins s σ H hP hw hc I hf q1 q2
    subst hP hw hK
    obtain ⟨h1, h2, h3, h4, h5⟩ := id st
    have hl := rv.length
    have hl2 := rw_.length
    have hn : min its.toArray.size jts.toArray.size = min xs.length ys.length := by simp; omega
    refine W.stops s _ E (by rw [hn]; exact ⟨h1, h2, h3, ⟨h4, hs1⟩, h5, hs2⟩) fun h' tk hk _ => ?_
    exact I.turnedL (fun b o hb => hk b o (keepF (h := h') (h' := h') hb)) hf
  · rintro A i s Q E ⟨h1, _⟩ h
    exact wpAny_pyIter_zip h1 h
def iZ2 (ta : TA) : TI := fun σ H R => ta σ H fun vs H1 => ∃ k1 k2 a1 a2 xs ys, vs = [.ref a1, .ref a2] ∧ SqK k1 H1 a1 xs ∧ SqK k2 H1 a2 ys ∧ R (Jz2 k1 k2 a1 a2 xs ys) H1
theorem pi_z2 {X : Cx} {e e2 : Expr} {ta : TA} {p pos tpos : Pos} {elts : List Expr} {kk : Nat} (hg : Gl X "zip") (hm : X.mg "zip" = none) (ha : PA X [e, e2] ta) (hs : starEach [e, e2] X.env = (false, eval e X.env) :: starEach [e2] X.env) (hs2 : (backTo pos (starEach [e2] X.env)).any (·.1) = false) :
    PI X (.Tuple elts kk tpos) (.Call (.Name "zip" p) [e, e2] [] pos) (iZ2 ta) := by
  constructor
  intro pins s σ H R I h
  refine Call_ (ld_blt I hg hm boot_zip (PyProof.Rows.callWith_type1 (thn (ha.run pos pins s σ H _ I h) fun us s1 ⟨vs, H1, I1, r1, q1⟩ => ?_) hs hs2))
  obtain ⟨k1, k2, a1, a2, xs, ys, rfl, hq1, hq2, q⟩ := q1
  obtain ⟨u, u2, rfl, ru, ru2⟩ := r1.two
  cases ru
  cases ru2
  obtain ⟨its, rv, hs1⟩ := hq1.at I1
  obtain ⟨jts, rw_, hs2⟩ := hq2.at I1
  refine zip_begins2 (begins k1 a1 its.toArray) (begins k2 a2 jts.toArray) hs1 hs2 fun h' hz hTI hTO ho1 ho2 _ hk => wpAny_pyIter_zip hz ?_
  refine ⟨s1.heap.objs.size + 4, [s1.heap.objs.size + 4, s1.heap.objs.size + 2, s1.heap.objs.size + 3, s1.heap.objs.size, s1.heap.objs.size + 1], _, _, H1, rfl, I1.kept (t' := s1.toks) hk, turn_z2 k1 k2 a1 a2 _ _ _ _ _ xs ys ?_, ⟨hz, hTI, ⟨_, _, hTO⟩, ItO.new ho1, ItO.new ho2⟩, fun b hb => ?_, q⟩
  · simp only [List.nodup_cons, List.mem_cons, List.not_mem_nil, or_false, not_or, List.nodup_nil, and_true, not_false_eq_true]
    refine ⟨⟨?_, ?_, ?_, ?_⟩, ⟨?_, ?_, ?_⟩, ⟨?_, ?_⟩, ?_⟩ <;> (intro e; have e : (_ : Nat) = _ := e; omega)
  · have hle : s1.heap.objs.size ≤ b := by
      simp only [List.mem_cons, List.not_mem_nil, or_false] at hb
      rcases hb with z | z | z | z | z <;> (subst z; first | exact Nat.le_refl _ | exact Nat.le_add_right _ _)
    exact I1.fpOk hle (I1.hok.fresh hle)
theorem walk_z2 {k1 k2 : Bool} {a1 a2 : Addr} {xs ys : List V} : Walk (Jz2 k1 k2 a1 a2 xs ys) (min xs.length ys.length) (fun H => SqK k1 H a1 xs ∧ SqK k2 H a2 ys) (YPair (fun i => xs[i]?) (fun i => ys[i]?)) :=
  ⟨fun i H hi q => ⟨hi, q⟩, fun H q => ⟨rfl, q⟩, fun i H v H' _ q y => y⟩
section
variable {X : Cx} {tg e e2 e3 : Expr} {ρ : Rho} {μ : Mu} {Ψ : Itd → Mu → Prop} {p pos : Pos}
theorem di_zip2 {elts : List Expr} {kk : Nat} {tpos : Pos} (B : Bt X.mg) (hg : Gl X "zip") (h : DE X e ρ μ fun o μ1 => DE X e2 ρ μ1 fun o2 μ2 => ∃ ds es, Seq ds o ∧ Seq es o2 ∧ Ψ ⟨(prs ds es).map .im, fun _ => True⟩ μ2)
    (he : starEach [e, e2] X.env = (false, eval e X.env) :: starEach [e2] X.env := by rfl) (he2 : starEach [e2] X.env = (false, eval e2 X.env) :: starEach [] X.env := by rfl) (hpl : (backTo pos (starEach [e2] X.env)).any (·.1) = false := by rfl) : DI X (.Tuple elts kk tpos) (.Call (.Name "zip" p) [e, e2] [] pos) ρ μ Ψ :=
  ⟨_, pi_z2 hg B.zip pwa he hpl, fun G H σ m v R f => (da_cons (Λ := fun os μ1 => ∃ o o2 ds es, os = [o, o2] ∧ Seq ds o ∧ Seq es o2 ∧ Ψ ⟨(prs ds es).map .im, fun _ => True⟩ μ1)
      (h.imp fun o μ1 h2 => da_cons (h2.imp fun o2 μ2 ⟨ds, es, h3, h4, q⟩ => da_nil ⟨o, o2, ds, es, rfl, h3, h4, q⟩) he2) he) G H σ m v _ fun vs os μ1 G1 H1 q1 e1 m1 r1 => by
    obtain ⟨o, o2, ds, es, rfl, hd, hd2, q⟩ := q1
    cases r1 with
    | cons r1 t1 =>
      obtain ⟨u, rfl, ru⟩ := ro1 t1
      obtain ⟨k1, a1, xs, rfl, hq1, w1⟩ := hd.at r1
      obtain ⟨k2, a2, ys, rfl, hq2, w2⟩ := hd2.at ru
      refine ⟨k1, k2, a1, a2, xs, ys, rfl, m1.ex _ _ hq1, m1.ex _ _ hq2, f _ _ _ _ _ q e1 m1 ?_⟩
      have hlen : ((prs ds es).map OV.im).length = min xs.length ys.length := by simp [prs, w1.length, w2.length]
      refine ⟨fun H => SqK k1 H a1 xs ∧ SqK k2 H a2 ys, YPair (fun i => xs[i]?) (fun i => ys[i]?), (by show Walk _ ((prs ds es).map OV.im).length _ _; rw [hlen]; exact walk_z2), fun G' H' μ' e m _ => ⟨m.ex _ _ (e _ _ hq1), m.ex _ _ (e _ _ hq2)⟩, fun i H' x H2 G' μ' e m _ y hi => ?_⟩
      obtain ⟨T, x1, y1, rfl, hT, rfl, h1, h2⟩ := y
      obtain ⟨d, h3, h4⟩ := w1.getV h1
      obtain ⟨d2, h5, h6⟩ := w2.getV h2
      obtain ⟨b1, b2, b3⟩ := pair_new m hT (h4.mono e) (h6.mono e)
      exact ⟨_, .im (.tuple [d, d2]), b1, b2, by rw [List.getElem?_map, prs_get h3 h5]; rfl, b3⟩⟩
end
end Nx
namespace Nx
open PySem PySem.Spec PyProof.Rows L2
def Jz3 (k1 k2 k3 : Bool) (a1 a2 a3 : Addr) (xs ys zs : List V) : It :=
  ⟨fun i H => i < min (min xs.length ys.length) zs.length ∧ SqK k1 H a1 xs ∧ SqK k2 H a2 ys ∧ SqK k3 H a3 zs, fun i H v H' => ∃ T x y u, v = .ref T ∧ H T = none ∧ H' = upd H T (.tup [x, y, u]) ∧ xs[i]? = some x ∧ ys[i]? = some y ∧ zs[i]? = some u,
    fun i H => i = min (min xs.length ys.length) zs.length ∧ SqK k1 H a1 xs ∧ SqK k2 H a2 ys ∧ SqK k3 H a3 zs⟩
def tnz3 (k1 k2 k3 : Bool) (z TI TO i1 i2 i3 a1 a2 a3 : Addr) (i : Nat) (h : Heap) : Prop := IsZip h z TI TO .none ∧ IsTupOf3 h TI (.ref i1) (.ref i2) (.ref i3) ∧ (∃ x y u, IsTupOf3 h TO x y u) ∧ ItO k1 h i1 a1 i ∧ ItO k2 h i2 a2 i ∧ ItO k3 h i3 a3 i
theorem turn_z3 {P : Program} {w : World} {K : PySem.W.Frag} {elts : List Expr} {kk : Nat} {tpos : Pos} (k1 k2 k3 : Bool) (a1 a2 a3 z TI TO i1 i2 i3 : Addr) (xs ys zs : List V) (hd : [z, TI, TO, i1, i2, i3].Nodup) :
    Turn P w K (.Tuple elts kk tpos) (Jz3 k1 k2 k3 a1 a2 a3 xs ys zs) [z, TI, TO, i1, i2, i3] z (tnz3 k1 k2 k3 z TI TO i1 i2 i3 a1 a2 a3) := by
  have obj : ∀ i h, tnz3 k1 k2 k3 z TI TO i1 i2 i3 a1 a2 a3 i h → ∀ b ∈ [z, TI, TO, i1, i2, i3], ∃ o, h.get? b = some o ∧ ∀ v, o.data ≠ .cell v := by
    rintro i h ⟨h1, h2, ⟨x, y, u, h3⟩, h4, h5, h6⟩ b hb
    simp only [List.mem_cons, List.not_mem_nil, or_false] at hb
    rcases hb with rfl | rfl | rfl | rfl | rfl | rfl
    · exact ⟨_, h1, fun v q => nomatch q⟩
    · exact ⟨_, h2, fun v q => nomatch q⟩
    · exact ⟨_, h3, fun v q => nomatch q⟩
    · exact h4.obj
    · exact h5.obj
    · exact h6.obj
  have goes : ∀ (X : Cx) (pins : List (Addr × Obj)) (s : Shared) (σ : L2.St) (H : Hp), X.prog = P → X.w = w → X.calm = true → Inv X pins σ H s → (∀ b ∈ [z, TI, TO, i1, i2, i3], FpOk X pins H b) → SqK k1 H a1 xs → SqK k2 H a2 ys → SqK k3 H a3 zs →
      ∃ (its jts uts : List Value), Vals xs its ∧ Vals ys jts ∧ Vals zs uts ∧ SrO k1 s.heap a1 its.toArray ∧ SrO k2 s.heap a2 jts.toArray ∧ SrO k3 s.heap a3 uts.toArray ∧ GoesN P w X.A (.Tuple elts kk tpos) z (z :: TI :: TO :: ([i1, a1] ++ [i2, a2] ++ [i3, a3])) [z, TO, i1, i2, i3] (min (min its.toArray.size jts.toArray.size) uts.toArray.size)
        (fun i h₀ v h => ∃ T x y u, v = .ref T ∧ h₀.objs.size ≤ T ∧ its.toArray[i]? = some x ∧ jts.toArray[i]? = some y ∧ uts.toArray[i]? = some u ∧ h.IsTuple T #[x, y, u])
        (fun i h => IsZip h z TI TO .none ∧ IsTupOf3 h TI (.ref i1) (.ref i2) (.ref i3) ∧ (∃ a1 a2 a3, IsTupOf3 h TO a1 a2 a3) ∧ (ItO k1 h i1 a1 i ∧ SrO k1 h a1 its.toArray) ∧ (ItO k2 h i2 a2 i ∧ SrO k2 h a2 jts.toArray) ∧ (ItO k3 h i3 a3 i ∧ SrO k3 h a3 uts.toArray)) := by
    intro X pins s σ H hP hw hc I hf q1 q2 q3
    subst hP hw
    obtain ⟨its, rv, hs1⟩ := q1.at I
    obtain ⟨jts, rw_, hs2⟩ := q2.at I
    obtain ⟨uts, ru_, hs3⟩ := q3.at I
    have n1 : ∀ b ∈ [z, TI, TO, i1, i2, i3], a1 ≠ b := fun b hb => ne_of_none q1 (hf b hb).1
    have n2 : ∀ b ∈ [z, TI, TO, i1, i2, i3], a2 ≠ b := fun b hb => ne_of_none q2 (hf b hb).1
    have n3 : ∀ b ∈ [z, TI, TO, i1, i2, i3], a3 ≠ b := fun b hb => ne_of_none q3 (hf b hb).1
    simp only [List.nodup_cons, List.mem_cons, List.not_mem_nil, or_false, not_or, List.nodup_nil, and_true, not_false_eq_true] at hd
    obtain ⟨⟨d1, d2, d3, d4, d5⟩, ⟨d6, d7, d8, d9⟩, ⟨d10, d11, d12⟩, ⟨d13, d14⟩, d15⟩ := hd
    refine ⟨its, jts, uts, rv, rw_, ru_, hs1, hs2, hs3, GoesN.zip3 ?_ (draws (A := X.A.in1) k1 (I.ok.hd hc) i1 a1 (n1 i1 (by simp)) its.toArray) (draws (A := X.A.in1) k2 (I.ok.hd hc) i2 a2 (n2 i2 (by simp)) jts.toArray) (draws (A := X.A.in1) k3 (I.ok.hd hc) i3 a3 (n3 i3 (by simp)) uts.toArray)⟩
    have no : ∀ {c i a : Addr}, c ≠ i → a ≠ c → c ∉ [i, a] := fun {c i a} p q hm => by
      rcases mem2 hm with e | e
      · exact p e
      · exact q e.symm
    exact { TIz := fun e => d1 e.symm, TOz := fun e => d2 e.symm, TITO := d6, TIi1 := d7, mem1 := by simp, zf1 := no d3 (n1 z (by simp)), Tf1 := no d10 (n1 TO (by simp)), TIi2 := d8, mem2 := by simp,
            zf2 := no d4 (n2 z (by simp)), Tf2 := no d11 (n2 TO (by simp)), TIi3 := d9, mem3 := by simp, zf3 := no d5 (n3 z (by simp)), Tf3 := no d12 (n3 TO (by simp)), sep1_2 := no d13 (n2 i1 (by simp)), sep1_3 := no d14 (n3 i1 (by simp)),
            sep2_1 := no (fun e => d13 e.symm) (n1 i2 (by simp)), sep2_3 := no d15 (n3 i2 (by simp)), sep3_1 := no (fun e => d14 e.symm) (n1 i3 (by simp)), sep3_2 := no (fun e => d15 e.symm) (n2 i3 (by simp)) }
  have keepF : ∀ {b : Addr}, b ∉ [z, TI, TO, i1, i2, i3] → b ∉ [z, TO, i1, i2, i3] := fun {b} hb hm => hb (by
    simp only [List.mem_cons, List.not_mem_nil, or_false] at hm ⊢
    rcases hm with e | e | e | e | e
    · exact .inl e
    · exact .inr (.inr (.inl e))
    · exact .inr (.inr (.inr (.inl e)))
    · exact .inr (.inr (.inr (.inr (.inl e))))
    · exact .inr (.inr (.inr (.inr (.inr e)))))
  have pickV : ∀ {xs : List V} {its : List Value} {i : Nat} {x : Value}, Vals xs its → i < xs.length → its.toArray[i]? = some x → ∃ x', xs[i]? = some x' ∧ RelV x' x := by
    intro xs its i x rv hi hx
    obtain ⟨x', hx'⟩ : ∃ y, xs[i]? = some y := ⟨_, List.getElem?_eq_getElem hi⟩
    obtain ⟨u, hu, ru⟩ := rv.get hx'
    have : its[i]? = some x := by simpa using hx
    rw [this] at hu
    cases hu
    exact ⟨x', hx', ru⟩
  constructor
  · simp
  · exact obj
  · rintro i h h' ⟨h1, h2, ⟨x, y, u, h3⟩, h4, h5, h6⟩ kp
    exact ⟨kp z (by simp) _ h1, kp TI (by simp) _ h2, ⟨x, y, u, kp TO (by simp) _ h3⟩, h4.keep (kp i1 (by simp)), h5.keep (kp i2 (by simp)), h6.keep (kp i3 (by simp))⟩
  · intro X hP hw hK hc i pins s σ H E I hf st hg
    obtain ⟨hi, q1, q2, q3⟩ := hg
    obtain ⟨its, jts, uts, rv, rw_, ru_, hs1, hs2, hs3, W⟩ := goes X pins s σ H hP hw hc I hf q1 q2 q3
    subst hP hw hK
    obtain ⟨h1, h2, h3, h4, h5, h6⟩ := id st
    have hl := rv.length
    have hl2 := rw_.length
    have hl3 := ru_.length
    refine W.goes i s _ E (by simp; omega) ⟨h1, h2, h3, ⟨h4, hs1⟩, ⟨h5, hs2⟩, h6, hs3⟩ fun v h' tk hY st' hk _ => ?_
    obtain ⟨T, x, y, u, rfl, hT, hx, hy, hu, hTu⟩ := hY
    obtain ⟨g1, g2, g3, ⟨g4, _⟩, ⟨g5, _⟩, g6, _⟩ := st'
    obtain ⟨x', hx', rx⟩ := pickV rv (by omega) hx
    obtain ⟨y', hy', ry⟩ := pickV rw_ (by omega) hy
    obtain ⟨u', hu', ru⟩ := pickV ru_ (by omega) hu
    have new : ObjOk X.prog X.w (upd H T (.tup [x', y', u'])) h' T (.tup [x', y', u']) := ⟨by show 3 ≤ sizeLine; decide, [x, y, u], .cons rx (.cons ry (.cons ru .nil)), hTu⟩
    refine ⟨.ref T, _, I.turnedNew (t' := tk) (ch := [z, TI, TO, i1, i2, i3]) (fun b o hb => hk b o (keepF hb)) hf hT new, rfl, ⟨T, x', y', u', rfl, I.hok.fresh hT, rfl, hx', hy', hu'⟩, ⟨g1, g2, g3, g4, g5, g6⟩, fun b hb => ?_⟩
    obtain ⟨o, ho, _⟩ := obj i _ st b hb
    have hb' : b ≠ T := fun e => by
      have := Heap.lt_size ho
      rw [e] at this
      exact absurd hT (Nat.not_le.mpr this)
    rw [upd_ne hb']
    exact (hf b hb).1
  · intro X hP hw hK hc i pins s σ H E I hf st hg
    obtain ⟨rfl, q1, q2, q3⟩ := hg
    obtain ⟨its, jts, uts, rv, rw_, ru_, hs1, hs2, hs3, W⟩ := goes X pins s σ H hP hw hc I hf q1 q2 q3
    subst hP hw hK
    obtain ⟨h1, h2, h3, h4, h5, h6⟩ := id st
    have hl := rv.length
    have hl2 := rw_.length
    have hl3 := ru_.length
    have hn : min (min its.toArray.size jts.toArray.size) uts.toArray.size = min (min xs.length ys.length) zs.length := by simp; omega
    refine W.stops s _ E (by rw [hn]; exact ⟨h1, h2, h3, ⟨h4, hs1⟩, ⟨h5, hs2⟩, h6, hs3⟩) fun h' tk hk _ => ?_
    exact I.turnedL (fun b o hb => hk b o (keepF hb)) hf
  · rintro A i s Q E ⟨h1, _⟩ h
    exact wpAny_pyIter_zip h1 h
def iZ3 (ta : TA) : TI := fun σ H R => ta σ H fun vs H1 => ∃ k1 k2 k3 a1 a2 a3 xs ys zs, vs = [.ref a1, .ref a2, .ref a3] ∧ SqK k1 H1 a1 xs ∧ SqK k2 H1 a2 ys ∧ SqK k3 H1 a3 zs ∧ R (Jz3 k1 k2 k3 a1 a2 a3 xs ys zs) H1
theorem pi_z3 {X : Cx} {e e2 e3 : Expr} {ta : TA} {p pos tpos : Pos} {elts : List Expr} {kk : Nat} (hg : Gl X "zip") (hm : X.mg "zip" = none) (ha : PA X [e, e2, e3] ta) (hs : starEach [e, e2, e3] X.env = (false, eval e X.env) :: starEach [e2, e3] X.env) (hs2 : (backTo pos (starEach [e2, e3] X.env)).any (·.1) = false) :
    PI X (.Tuple elts kk tpos) (.Call (.Name "zip" p) [e, e2, e3] [] pos) (iZ3 ta) := by
  constructor
  intro pins s σ H R I h
  refine Call_ (ld_blt I hg hm boot_zip (PyProof.Rows.callWith_type1 (thn (ha.run pos pins s σ H _ I h) fun us s1 ⟨vs, H1, I1, r1, q1⟩ => ?_) hs hs2))
  obtain ⟨k1, k2, k3, a1, a2, a3, xs, ys, zs, rfl, hq1, hq2, hq3, q⟩ := q1
  cases r1 with
  | cons ru t1 =>
    obtain ⟨u2, u3, rfl, ru2, ru3⟩ := Vals.two t1
    cases ru
    cases ru2
    cases ru3
    obtain ⟨its, rv, hs1⟩ := hq1.at I1
    obtain ⟨jts, rw_, hs2⟩ := hq2.at I1
    obtain ⟨uts, ru_, hs3⟩ := hq3.at I1
    refine zip_begins3 (begins k1 a1 its.toArray) (begins k2 a2 jts.toArray) (begins k3 a3 uts.toArray) hs1 hs2 hs3 fun h' hz hTI hTO ho1 ho2 ho3 _ hk => wpAny_pyIter_zip hz ?_
    refine ⟨s1.heap.objs.size + 5, [s1.heap.objs.size + 5, s1.heap.objs.size + 3, s1.heap.objs.size + 4, s1.heap.objs.size, s1.heap.objs.size + 1, s1.heap.objs.size + 2], _, _, H1, rfl, I1.kept (t' := s1.toks) hk, turn_z3 k1 k2 k3 a1 a2 a3 _ _ _ _ _ _ xs ys zs ?_, ⟨hz, hTI, ⟨_, _, _, hTO⟩, ItO.new ho1, ItO.new ho2, ItO.new ho3⟩, fun b hb => ?_, q⟩
    · simp only [List.nodup_cons, List.mem_cons, List.not_mem_nil, or_false, not_or, List.nodup_nil, and_true, not_false_eq_true]
      refine ⟨⟨?_, ?_, ?_, ?_, ?_⟩, ⟨?_, ?_, ?_, ?_⟩, ⟨?_, ?_, ?_⟩, ⟨?_, ?_⟩, ?_⟩ <;> (intro e; have e : (_ : Nat) = _ := e; omega)
    · have hle : s1.heap.objs.size ≤ b := by
        simp only [List.mem_cons, List.not_mem_nil, or_false] at hb
        rcases hb with z | z | z | z | z | z <;> (subst z; first | exact Nat.le_refl _ | exact Nat.le_add_right _ _)
      exact I1.fpOk hle (I1.hok.fresh hle)
/-- the triples of three lists of data -/
def trs (xs ys zs : List PyData) : List PyData := (xs.zip (ys.zip zs)).map fun q => .tuple [q.1, q.2.1, q.2.2]
theorem trs_get {xs ys zs : List PyData} {i : Nat} {x y z : PyData} (h1 : xs[i]? = some x) (h2 : ys[i]? = some y) (h3 : zs[i]? = some z) : (trs xs ys zs)[i]? = some (.tuple [x, y, z]) := by
  unfold trs
  rw [List.getElem?_map, List.getElem?_zip_eq_some (z := (x, (y, z))) |>.mpr ⟨h1, List.getElem?_zip_eq_some (z := (y, z)) |>.mpr ⟨h2, h3⟩⟩]
  rfl
section
variable {X : Cx} {tg e e2 e3 : Expr} {ρ : Rho} {μ : Mu} {Ψ : Itd → Mu → Prop} {Φ : OV → Mu → Prop} {p pos : Pos}
theorem di_zip3 {elts : List Expr} {kk : Nat} {tpos : Pos} (B : Bt X.mg) (hg : Gl X "zip") (h : DE X e ρ μ fun o μ1 => DE X e2 ρ μ1 fun o2 μ2 => DE X e3 ρ μ2 fun o3 μ3 => ∃ ds es fs, Seq ds o ∧ Seq es o2 ∧ Seq fs o3 ∧ Ψ ⟨(trs ds es fs).map .im, fun _ => True⟩ μ3)
    (he : starEach [e, e2, e3] X.env = (false, eval e X.env) :: starEach [e2, e3] X.env := by rfl) (he2 : starEach [e2, e3] X.env = (false, eval e2 X.env) :: starEach [e3] X.env := by rfl) (he3 : starEach [e3] X.env = (false, eval e3 X.env) :: starEach [] X.env := by rfl) (hpl : (backTo pos (starEach [e2, e3] X.env)).any (·.1) = false := by rfl) : DI X (.Tuple elts kk tpos) (.Call (.Name "zip" p) [e, e2, e3] [] pos) ρ μ Ψ :=
  ⟨_, pi_z3 hg B.zip pwa he hpl, fun G H σ m v R f => (da_cons (Λ := fun os μ1 => ∃ o o2 o3 ds es fs, os = [o, o2, o3] ∧ Seq ds o ∧ Seq es o2 ∧ Seq fs o3 ∧ Ψ ⟨(trs ds es fs).map .im, fun _ => True⟩ μ1)
      (h.imp fun o μ1 h2 => da_cons (h2.imp fun o2 μ2 h3 => da_cons (h3.imp fun o3 μ3 ⟨ds, es, fs, h4, h5, h6, q⟩ => da_nil ⟨o, o2, o3, ds, es, fs, rfl, h4, h5, h6, q⟩) he3) he2) he) G H σ m v _ fun vs os μ1 G1 H1 q1 e1 m1 r1 => by
    obtain ⟨o, o2, o3, ds, es, fs, rfl, hd, hd2, hd3, q⟩ := q1
    cases r1 with
    | cons r1 t1 =>
      cases t1 with
      | cons r2 t2 =>
        obtain ⟨u, rfl, r3⟩ := ro1 t2
        obtain ⟨k1, a1, xs, rfl, hq1, w1⟩ := hd.at r1
        obtain ⟨k2, a2, ys, rfl, hq2, w2⟩ := hd2.at r2
        obtain ⟨k3, a3, zs, rfl, hq3, w3⟩ := hd3.at r3
        refine ⟨k1, k2, k3, a1, a2, a3, xs, ys, zs, rfl, m1.ex _ _ hq1, m1.ex _ _ hq2, m1.ex _ _ hq3, f _ _ _ _ _ q e1 m1 ?_⟩
        have hlen : ((trs ds es fs).map OV.im).length = min (min xs.length ys.length) zs.length := by simp [trs, w1.length, w2.length, w3.length, Nat.min_assoc]
        refine ⟨fun H => SqK k1 H a1 xs ∧ SqK k2 H a2 ys ∧ SqK k3 H a3 zs, fun i H v H' => ∃ T x y u, v = .ref T ∧ H T = none ∧ H' = upd H T (.tup [x, y, u]) ∧ xs[i]? = some x ∧ ys[i]? = some y ∧ zs[i]? = some u,
          (by show Walk _ ((trs ds es fs).map OV.im).length _ _; rw [hlen]; exact ⟨fun i H hi q => ⟨hi, q⟩, fun H q => ⟨rfl, q⟩, fun i H v H' _ q y => y⟩), fun G' H' μ' e m _ => ⟨m.ex _ _ (e _ _ hq1), m.ex _ _ (e _ _ hq2), m.ex _ _ (e _ _ hq3)⟩, fun i H' x H2 G' μ' e m _ y hi => ?_⟩
        obtain ⟨T, x1, y1, z1, rfl, hT, rfl, h1, h2, h3⟩ := y
        obtain ⟨d1, g1, g2⟩ := w1.getV h1
        obtain ⟨d2, g3, g4⟩ := w2.getV h2
        obtain ⟨d3, g5, g6⟩ := w3.getV h3
        have n := m.ex.free hT
        exact ⟨_, .im (.tuple [d1, d2, d3]), Ex.new n, m.lay hT, by rw [List.getElem?_map, trs_get g1 g3 g5]; rfl, Dv.tup upd_same (.cons ((g2.mono e).mono (Ex.new n)) (.cons ((g4.mono e).mono (Ex.new n)) (.cons ((g6.mono e).mono (Ex.new n)) .nil)))⟩⟩
/-! ### max, min, sum, any, all, list(range) -/
theorem dv_list {G H : Hp} {μ : Mu} {v : V} {o : OV} {ds : List PyData} (m : RM G H μ) (hd : RdD μ o (.list ds)) (r : RO G v o) : ∃ a xs, v = .ref a ∧ H a = some (.lst xs) ∧ DvA H xs ds := by
  have d := hd.at m r
  generalize hdd : PyData.list ds = dd at d
  cases d with
  | lst h1 w => cases hdd; exact ⟨_, _, rfl, h1, w⟩
  | _ => cases hdd
theorem DvA.bls {H : Hp} : ∀ (bs : List Bool) {vs : List V}, DvA H vs (bs.map PyData.bool) → vs = bs.map V.bl
  | [], _, .nil => rfl
  | n :: ns, _, .cons (.bl _) t => by rw [DvA.bls ns t]; rfl
theorem de_all (B : Bt X.mg) (hc : X.calm = true) (hg : Gl X "all") (h : DE X e ρ μ fun o μ1 => ∃ bs : List Bool, RdD μ1 o (.list (bs.map .bool)) ∧ Φ (.im (.bool (bs.all id))) μ1) (he : starEach [e] X.env = (false, eval e X.env) :: starEach [] X.env := by rfl) (hpl : (backTo pos (starEach [] X.env)).any (·.1) = false := by rfl) : DE X (.Call (.Name "all" p) [e] [] pos) ρ μ Φ :=
  de_callB (cr_all hc) hg B.all PyProof.Rows.boot_all (he := he) (hpl := hpl) (da_cons (hs := he) (h.imp fun o μ1 ⟨bs, hd, q⟩ => da_nil fun G H vs m r Q f => by
    obtain ⟨v, rfl, r1⟩ := ro1 r
    obtain ⟨a, xs, rfl, h1, w⟩ := dv_list m hd r1
    exact ⟨a, bs, rfl, .inl (.inl (by rw [← w.bls]; exact h1)), f _ _ _ _ _ q (Ex.refl G) m (Dv.bl _)⟩))
theorem de_any (B : Bt X.mg) (hc : X.calm = true) (hg : Gl X "any") (h : DE X e ρ μ fun o μ1 => ∃ bs : List Bool, RdD μ1 o (.list (bs.map .bool)) ∧ Φ (.im (.bool (bs.any id))) μ1) (he : starEach [e] X.env = (false, eval e X.env) :: starEach [] X.env := by rfl) (hpl : (backTo pos (starEach [] X.env)).any (·.1) = false := by rfl) : DE X (.Call (.Name "any" p) [e] [] pos) ρ μ Φ :=
  de_callB (cr_any hc) hg B.any PyProof.Rows.boot_any (he := he) (hpl := hpl) (da_cons (hs := he) (h.imp fun o μ1 ⟨bs, hd, q⟩ => da_nil fun G H vs m r Q f => by
    obtain ⟨v, rfl, r1⟩ := ro1 r
    obtain ⟨a, xs, rfl, h1, w⟩ := dv_list m hd r1
    exact ⟨a, bs, rfl, .inl (.inl (by rw [← w.bls]; exact h1)), f _ _ _ _ _ q (Ex.refl G) m (Dv.bl _)⟩))
theorem de_sum (B : Bt X.mg) (hc : X.calm = true) (hg : Gl X "sum") (h : DE X e ρ μ fun o μ1 => ∃ ns : List Int, RdD μ1 o (.list (ns.map .int)) ∧ Φ (.im (.int ns.sum)) μ1) (he : starEach [e] X.env = (false, eval e X.env) :: starEach [] X.env := by rfl) (hpl : (backTo pos (starEach [] X.env)).any (·.1) = false := by rfl) : DE X (.Call (.Name "sum" p) [e] [] pos) ρ μ Φ :=
  de_callB (cr_sum hc) hg B.sum PyProof.Rows.boot_sum (he := he) (hpl := hpl) (da_cons (hs := he) (h.imp fun o μ1 ⟨bs, hd, q⟩ => da_nil fun G H vs m r Q f => by
    obtain ⟨v, rfl, r1⟩ := ro1 r
    obtain ⟨a, xs, rfl, h1, w⟩ := dv_list m hd r1
    exact ⟨a, bs, rfl, .inl (.inl (by rw [← w.ints]; exact h1)), f _ _ _ _ _ q (Ex.refl G) m (Dv.int _)⟩))
theorem de_max (B : Bt X.mg) (hc : X.calm = true) (hg : Gl X "max") (h : DE X e ρ μ fun o μ1 => ∃ ns : List Int, RdD μ1 o (.list (ns.map .int)) ∧ 0 < ns.length ∧ ∀ k, k ∈ ns → (∀ y, y ∈ ns → y ≤ k) → Φ (.im (.int k)) μ1) (he : starEach [e] X.env = (false, eval e X.env) :: starEach [] X.env := by rfl) (hpl : (backTo pos (starEach [] X.env)).any (·.1) = false := by rfl) : DE X (.Call (.Name "max" p) [e] [] pos) ρ μ Φ :=
  de_callB (cr_max hc) hg B.max PyProof.Rows.boot_max (he := he) (hpl := hpl) (da_cons (hs := he) (h.imp fun o μ1 ⟨bs, hd, hz, q⟩ => da_nil fun G H vs m r Q f => by
    obtain ⟨v, rfl, r1⟩ := ro1 r
    obtain ⟨a, xs, rfl, h1, w⟩ := dv_list m hd r1
    exact ⟨a, bs, rfl, .inl (.inl (by rw [← w.ints]; exact h1)), hz, fun k hk hm => f _ _ _ _ _ (q k hk hm) (Ex.refl G) m (Dv.int _)⟩))
theorem de_min (B : Bt X.mg) (hc : X.calm = true) (hg : Gl X "min") (h : DE X e ρ μ fun o μ1 => ∃ ns : List Int, RdD μ1 o (.list (ns.map .int)) ∧ 0 < ns.length ∧ ∀ k, k ∈ ns → (∀ y, y ∈ ns → k ≤ y) → Φ (.im (.int k)) μ1) (he : starEach [e] X.env = (false, eval e X.env) :: starEach [] X.env := by rfl) (hpl : (backTo pos (starEach [] X.env)).any (·.1) = false := by rfl) : DE X (.Call (.Name "min" p) [e] [] pos) ρ μ Φ :=
  de_callB (cr_min hc) hg B.min PyProof.Rows.boot_min (he := he) (hpl := hpl) (da_cons (hs := he) (h.imp fun o μ1 ⟨bs, hd, hz, q⟩ => da_nil fun G H vs m r Q f => by
    obtain ⟨v, rfl, r1⟩ := ro1 r
    obtain ⟨a, xs, rfl, h1, w⟩ := dv_list m hd r1
    exact ⟨a, bs, rfl, .inl (.inl (by rw [← w.ints]; exact h1)), hz, fun k hk hm => f _ _ _ _ _ (q k hk hm) (Ex.refl G) m (Dv.int _)⟩))
theorem rg_dv {H : Hp} (n : Nat) : DvA H (rgV 0 (n : Int)) (nums n) := by
  unfold rgV nums
  have go : ∀ l : List Nat, DvA H (l.map fun (i : Nat) => V.int (0 + (i : Int))) (l.map fun (k : Nat) => PyData.int (k : Int)) := by
    intro l
    induction l with
    | nil => exact .nil
    | cons i l ih =>
      refine .cons ?_ ih
      show Dv H (V.int (0 + (i : Int))) (.int (i : Int))
      rw [Int.zero_add]
      exact .int _
  have e : ((n : Int) - 0).toNat = n := by omega
  rw [e]
  exact go _
/-- list(range(n)) -/
theorem de_listRg {p2 pos2 : Pos} (B : Bt X.mg) (hc : X.calm = true) (hg : Gl X "list") (hg2 : Gl X "range") (h : DE X e ρ μ fun o μ1 => ∃ n : Nat, o = .im (.int (n : Int)) ∧ n ≤ 100000 ∧ Φ (.im (.list (nums n))) μ1)
    (he : starEach [e] X.env = (false, eval e X.env) :: starEach [] X.env := by rfl) (he2 : starEach [.Call (.Name "range" p2) [e] [] pos2] X.env = (false, eval (.Call (.Name "range" p2) [e] [] pos2) X.env) :: starEach [] X.env := by rfl) : DE X (.Call (.Name "list" p) [.Call (.Name "range" p2) [e] [] pos2] [] pos) ρ μ Φ := fun G H σ m v Q f =>
  WE.of (pe_listRg hc hg B.list (prg_1 hg2 B.range pwe he) he2) (h G H σ m v _ fun vx x μ1 G1 H1 q1 e1 m1 r1 => by
    obtain ⟨n, rfl, hn, q⟩ := q1
    cases r1
    refine ⟨_, rfl, RgOk.of_le (by omega) (by omega) (by omega) (by omega), fun l hl => ?_⟩
    have fr := m1.ex.free hl
    exact f _ _ _ _ _ q (e1.trans (Ex.new fr)) (m1.lay hl) (Dv.lst upd_same (rg_dv n)))
end
end Nx
namespace Nx
open PySem PySem.Spec PyProof.Rows L2
/-! ### the end of a law -/
/-- what the law's call gives, from an abstract heap in which the script alone may be tracked -/
theorem law_core {P : Program} {w : World} {K : PySem.W.Frag} {mg mb : Str → Option Value} {k : Nat} {fa a : Addr} {fd : FuncData} {x : Str} {sp : Sp} {s : Shared}
    (KX : K.In s.heap) (hns : s.heap.Ns mainGlobals mg) (hb : s.heap.Ns builtinsNs mb) (hbb : ∀ x : Str, x ≠ "__name__" → mb x = bootBuiltins x) (hlim : s.heap.NoLimit) (hgn : s.gens = #[]) (hr : Rm k callerA)
    (F : ∀ base : Heap, K.In base → base.Ns mainGlobals mg → FnG P w K mg base CX0 k fa fd [x] sp) (bind : ∀ (s : Shared) (u : Value), BindsTo s fd ⟨[u], []⟩ [(x, u)])
    (H : Hp) (hO : Only H) (nd : ∀ b o, H b ≠ none → s.heap.get? b = some o → ∀ es ep, o.data ≠ .dict es ep) (hok : HOk P w H s.heap) (hK : ∀ b, H b ≠ none → K.lookup b = none) (hsp : sp [.ref a] H (fun v _ => v = .bl true) fun _ _ _ => False) :
    codeAny (model P w) callerA (.call (.ref fa) ⟨[.ref a], []⟩) (fun r s' => r = .ok (.ret (.bool true)) ∧ OldK s.heap s'.heap ∧ s'.os = s.os ∧ AllBare s'.gens) s := by
  have up : ∀ {b : Addr} {o : Obj}, s.heap.get? b = some o → H b = none → (hidT s.heap H).get? b = some o := fun e n => hidT_get e n
  have nsUp : ∀ {b : Addr} {m : Str → Option Value}, s.heap.Ns b m → (hidT s.heap H).Ns b m := by
    rintro b m ⟨o, es, ep, e, d, r⟩
    refine ⟨o, es, ep, up e ?_, d, r⟩
    cases q : H b with
    | none => rfl
    | some u => exact absurd d (nd b o (by rw [q]; simp) e es ep)
  have inK : K.In (hidT s.heap H) := by
    intro b o e
    refine up (KX b o e) ?_
    cases q : H b with
    | none => rfl
    | some u =>
      have := hK b (by rw [q]; simp)
      rw [e] at this
      cases this
  have lim : (hidT s.heap H).NoLimit := by
    obtain ⟨mc, h1, h2⟩ := hlim
    exact ⟨mc, nsUp h1, h2⟩
  have env0 : Env0 P w K mg (hidT s.heap H) callerA [] s H :=
    { frames := rfl, mod := ⟨inK, nsUp hns, ⟨mb, nsUp hb, hbb⟩, lim⟩, bs := fun b o e => of_hidT e, bsz := Nat.le_of_eq (hidT_size _ _), funs := trivial, frf := (fun b hb => absurd (show b ∈ ([] : List Addr) from hb) (by simp)), hok := hok, bare := .of_eq hgn }
  have run := (F _ inK (nsUp hns)).run callerA [] s H ⟨[.ref a], []⟩ [.ref a] [.ref a] _ _ hr env0 (bind s (.ref a)) (.cons rfl .nil) hsp
  refine codeAny_mono run fun r s' h => ?_
  match r, h with
  | .error e, h => exact h.elim
  | .ok (.ret u), h =>
    obtain ⟨v, H', os, bare, un, hok', r', q⟩ := h
    have q : v = .bl true := q
    subst q
    have r' : u = Value.bool true := r'
    subst r'
    refine ⟨rfl, OldK.of_keep fun b o e => ?_, os, bare⟩
    cases q : H b with
    | none => exact un.keep b o e q (fun z => nomatch z) (by simp)
    | some u =>
      obtain z | ⟨ob, xs, z⟩ := hO b
      · rw [q] at z
        cases z
      · have e1 := (hok b _ z).1
        have e2 := (hok' b _ (un.frzs b ob _ z)).1
        rw [e] at e1
        cases e1
        exact e2
theorem law_end {P : Program} {w : World} {K : PySem.W.Frag} {mg mb : Str → Option Value} {k : Nat} {fa a : Addr} {fd : FuncData} {x : Str} {sp : Sp} {s : Shared} {vs : List Value} {ns : List Int}
    (KX : K.In s.heap) (hns : s.heap.Ns mainGlobals mg) (hb : s.heap.Ns builtinsNs mb) (hbb : ∀ x : Str, x ≠ "__name__" → mb x = bootBuiltins x) (hlim : s.heap.NoLimit) (hgn : s.gens = #[]) (hr : Rm k callerA)
    (F : ∀ base : Heap, K.In base → base.Ns mainGlobals mg → FnG P w K mg base CX0 k fa fd [x] sp) (bind : ∀ (s : Shared) (u : Value), BindsTo s fd ⟨[u], []⟩ [(x, u)])
    (ha : s.heap.get? a = some { cls := .type "list", data := .seq vs.toArray }) (hi : IntsAre vs ns) (hl : ns.length ≤ sizeLine) (hsp : ∀ H : Hp, Only H → SqL K H a (ns.map V.int) → sp [.ref a] H (fun v _ => v = .bl true) fun _ _ _ => False) :
    codeAny (model P w) callerA (.call (.ref fa) ⟨[.ref a], []⟩) (fun r s' => r = .ok (.ret (.bool true)) ∧ OldK s.heap s'.heap ∧ s'.os = s.os ∧ AllBare s'.gens) s := by
  have rv := vals_ints hi
  have lv := hi.length
  cases hk : K.lookup a with
  | some o =>
    have e := KX a o hk
    rw [ha] at e
    cases e
    have hS : SqL K (fun _ => none) a (ns.map V.int) := .inr ⟨_, vs.toArray, _, hk, rfl, rfl, rfl, by rw [List.size_toArray, lv]; exact hl, by simpa using rv⟩
    exact law_core KX hns hb hbb hlim hgn hr F bind (fun _ => none) (fun _ => .inl rfl) (fun b o z => absurd rfl z) (fun b u z => nomatch z) (fun b z => absurd rfl z) (hsp _ (fun _ => .inl rfl) hS)
  | none =>
    let fz : HO := .frz { cls := .type "list", data := .seq vs.toArray } (.lst (ns.map V.int))
    have at_ : ∀ b u, upd (fun _ => none) a fz b = some u → b = a ∧ u = fz := by
      intro b u z
      by_cases e : b = a
      · subst e
        rw [upd_same] at z
        exact ⟨rfl, (Option.some.inj z).symm⟩
      · rw [upd_ne e] at z
        cases z
    have isA : ∀ b, upd (fun _ => none) a fz b ≠ none → b = a := fun b z => by
      cases q : upd (fun _ => none) a fz b with
      | none => exact absurd q z
      | some u => exact (at_ b u q).1
    have hO : Only (upd (fun _ => none) a fz) := fun b => by
      cases q : upd (fun _ => none) a fz b with
      | none => exact .inl rfl
      | some u => exact .inr ⟨_, _, by rw [(at_ b u q).2]⟩
    refine law_core KX hns hb hbb hlim hgn hr F bind (upd (fun _ => none) a fz) hO (fun b o z e es ep d => ?_) (fun b u z => ?_) (fun b z => ?_) (hsp _ hO (.inl (.inr ⟨_, upd_same⟩)))
    · rw [isA b z, ha] at e
      cases e
      cases d
    · obtain ⟨rfl, rfl⟩ := at_ b u z
      exact ⟨ha, by rw [List.length_map]; exact hl, vs, _, rv, ha⟩
    · rw [isA b z]
      exact hk
/-- the goal behind k_head and k_fill, from the law's contract -/
theorem walk_G {l : PySem.W.OpenLaw} {n k : Nat} {q : Program} {loose : List Str} {XP : (Str → Option Value) → Heap → Prop} {YP : World → Heap → Prop} {d : DefRec} {K : Params → PySem.W.Frag} {sp : PySem.W.Frag → Sp} {x : Str}
    (hn : l.most = some n) (hn2 : n ≤ sizeLine) (hdf : d.params.defaults = []) (hr : Rm k callerA) (hY : ∀ (w : World) (h : Heap), YP w h → (K w.params).In h)
    (F : ∀ (w : World) (mg : Str → Option Value) (fa : Addr) (h : Heap), (K w.params).In h → h.Ns mainGlobals mg → mg d.name = some (.ref fa) →
      ∃ fd : FuncData, (∀ (s : Shared) (u : Value), BindsTo s fd ⟨[u], []⟩ [(x, u)]) ∧ ∀ base : Heap, (K w.params).In base → base.Ns mainGlobals mg → FnG l.prog w (K w.params) mg base CX0 k fa fd [x] (sp (K w.params)))
    (hsp : ∀ (K : PySem.W.Frag) (H : Hp) (a : Addr) (ns : List Int), ns.length ≤ n → Only H → SqL K H a (ns.map V.int) → sp K [.ref a] H (fun v _ => v = .bl true) fun _ _ _ => False) :
    PySem.W.WalkO q loose XP YP l.row.toRowW d [] (fun f vs => PySem.call f vs) := by
  apply Att.attach_call hn hdf
  intro w s₀ s₁ mg mb fa o pm cd doc a vs ns G Y ho hd hcd hmg hobj hints hlen hgn
  have KX := hY w _ Y
  obtain ⟨fd, hb, hF⟩ := F w mg fa _ KX G.T.g hmg
  exact law_end KX G.T.g G.T.b G.T.builtins G.T.nolimit hgn hr hF hb hobj hints (Nat.le_trans hlen hn2) fun H hO hS => hsp _ H a ns hlen hO hS
end Nx
namespace Nx
open PySem PySem.Spec PyProof.Rows L2
def Sub (μ' μ : Mu) : Prop := ∀ a l, μ' a = some l → μ a = some l
theorem Sub.refl (μ : Mu) : Sub μ μ := fun _ _ h => h
section
variable {X : Cx} {e : Expr} {st : Stmt} {ss : List Stmt} {ρ : Rho} {μ μ' : Mu} {D : DEnds} {Φ : OV → Mu → Prop}
theorem dss_drop (h : Sub μ' μ) (k : DSs X ss ρ μ' D) : DSs X ss ρ μ D := fun G H σ m v E f => k G H σ (m.drop h) v E f
theorem ds_drop (h : Sub μ' μ) (k : DS X st ρ μ' D) : DS X st ρ μ D := fun G H σ m v E f => k G H σ (m.drop h) v E f
theorem de_drop (h : Sub μ' μ) (k : DE X e ρ μ' Φ) : DE X e ρ μ Φ := fun G H σ m v Q f => k G H σ (m.drop h) v Q f
/-- drop behind -/
theorem de_after (k : DE X e ρ μ fun o μ1 => ∃ μ2, Sub μ2 μ1 ∧ Φ o μ2) : DE X e ρ μ Φ := fun G H σ m v Q f => k G H σ m v Q fun v o μ1 G1 H1 ⟨μ2, s, q⟩ e1 m1 r1 => f _ _ _ _ _ q e1 (m1.drop s) r1
theorem dss_frz {i : Nat} {p : Addr} {ds : List PyData} (hi : ρ[i]? = some (some (.own p))) (hp : μ p = some (ds.map .im)) (k : DSs X ss (ρ.set i (some (.im (.list ds)))) (μ.del p) D) : DSs X ss ρ μ D := fun G H σ m v E f => by
  obtain ⟨vs, e0, g0, w, m'⟩ := m.frz hp
  have v2 := (v.mono (Ex.new (o := .lst vs) g0)).set (i := i) (v := .ref p) (o := .im (.list ds)) (Dv.lst upd_same (w.mono (Ex.new g0)))
  obtain ⟨u, hu, ru⟩ := v.get i _ hi
  have ru : u = .ref p := ru
  subst ru
  have e1 : σ.set i (some (.ref p)) = σ := by
    apply List.ext_getElem?
    intro j
    by_cases hj : i = j
    · subst hj
      rw [List.getElem?_set_self (List.getElem?_eq_some_iff.mp hu).1, hu]
    · rw [List.getElem?_set_ne hj]
  rw [e1] at v2
  exact k _ H σ m' v2 E (f.later (Ex.new g0))
end
theorem put_get {μ : Mu} {a b : Addr} {l : List OV} : μ.put a l b = if b = a then some l else μ b := rfl
theorem put_self {μ : Mu} {a : Addr} {l : List OV} (h : μ a = some l) : μ.put a l = μ := by
  funext b
  rw [put_get]
  by_cases e : b = a
  · rw [if_pos e, e, h]
  · rw [if_neg e]
theorem put_back {μ : Mu} {a : Addr} {l : List OV} (h : μ a = some l) : μ = (μ.del a).put a l ∧ (μ.del a) a = none := by
  refine ⟨?_, if_pos rfl⟩
  funext b
  rw [put_get]
  by_cases e : b = a
  · rw [if_pos e, e, h]
  · rw [if_neg e]
    exact (if_neg e).symm
theorem ne_own {μ : Mu} {a b : Addr} {l : List OV} (h : μ a = some l) (n : μ b = none) : a ≠ b := fun e => by
  rw [e, n] at h
  cases h
theorem lz {n : Nat} (h : Nat.ble n 100000 = true) : n ≤ 100000 := Nat.le_of_ble_eq_true h
theorem c01 {k : Bool} : -(2 ^ 64 : Int) < (if k = true then 1 else 0) ∧ (if k = true then (1 : Int) else 0) < 2 ^ 64 := by cases k <;> decide
theorem ixN_nat {n j : Nat} (h : j < n) : ixN n (j : Int) = some j := by
  unfold ixN
  rw [if_pos (by omega), if_pos (by omega), Int.toNat_natCast]
theorem cutI_to (ns : List Int) (u : Nat) : cutI ns none (some (u : Int)) = ns.take u := by
  unfold cutI
  rw [HT.sIx_none, HT.sIx_nat, List.drop_zero, Nat.sub_zero]
  exact List.take_eq_take_iff.mpr (by omega)
theorem cutI_len (ns : List Int) (u v : Nat) : (cutI ns (some (u : Int)) (some (v : Int))).length ≤ ns.length - u := by
  unfold cutI
  rw [HT.sIx_nat, HT.sIx_nat, List.length_take, List.length_drop]
  omega
theorem cutD_to (ns : List PyData) (u : Nat) : cutD ns none (some (u : Int)) = ns.take u := by
  unfold cutD
  rw [HT.sIx_none, HT.sIx_nat, List.drop_zero, Nat.sub_zero]
  exact List.take_eq_take_iff.mpr (by omega)
theorem cutD_from (ns : List PyData) (u : Nat) : cutD ns (some (u : Int)) none = ns.drop u := by
  unfold cutD
  rw [HT.sIx_none, HT.sIx_nat]
  by_cases h : u ≤ ns.length
  · rw [Nat.min_eq_left h]
    exact List.take_of_length_le (by rw [List.length_drop]; omega)
  · rw [Nat.min_eq_right (by omega), List.drop_length, List.drop_of_length_le (by omega)]
    simp
theorem prs_at {ds : List PyData} {i : Nat} {z : OV} (h : ((prs (nums ds.length) ds).map OV.im)[i]? = some z) : ∃ d, ds[i]? = some d ∧ z = .im (.tuple [.int (i : Int), d]) := by
  have hi : i < ds.length := by
    have := (List.getElem?_eq_some_iff.mp h).1
    simpa [prs, nums] using this
  rw [List.getElem?_map, prs_get (nums_get hi) (List.getElem?_eq_getElem hi)] at h
  cases h
  exact ⟨_, List.getElem?_eq_getElem hi, rfl⟩
theorem erase_map {α β : Type} (f : α → β) : ∀ (l : List α) (j : Nat), (l.map f).eraseIdx j = (l.eraseIdx j).map f
  | [], _ => rfl
  | _ :: _, 0 => rfl
  | a :: l, j + 1 => by
    show f a :: (l.map f).eraseIdx j = f a :: (l.eraseIdx j).map f
    rw [erase_map f l j]
theorem erase_perm {α : Type} : ∀ (l : List α) (j : Nat) (h : j < l.length), ([l[j]] ++ l.eraseIdx j).Perm l
  | [], _, h => nomatch h
  | _ :: _, 0, _ => List.Perm.refl _
  | a :: l, j + 1, h => by
    have ih := erase_perm l j (by simpa using h)
    show (l[j]'(by simpa using h) :: a :: l.eraseIdx j).Perm (a :: l)
    exact (List.Perm.swap _ _ _).trans (ih.cons a)
theorem fg_of {P : Program} {w : World} {K : PySem.W.Frag} {mg : Str → Option Value} {base : Heap} {k : Nat} {f : Addr} {x : Str} {st : Stmt} {fd : FuncData} {N ps : List Str} {C : Ct} (F : Fun K x x st f fd) (S : FnScope N ps (defScope st)) (len : ∀ os μ Φ, C os μ Φ → os.length = ps.length)
    (body : ∀ (cdv : Value) A outer s H E os μ Φ, Rm k (A.deeper (envOfC x (defScope st) s.heap.objs.size f cdv)) → C os μ Φ →
      DSs (cxOf CX0 P w K mg base N x (defScope st) f cdv A outer s H E).nox (defBody st) (os.map some ++ List.replicate (N.length - os.length) none) μ { nx := fun _ μ' => Φ (.im .none) μ', rt := Φ }) : FnG P w K mg base CX0 (k + 1) f fd ps (spOf C) := by
  refine fng_of F S (fun vs H Q E h => ?_) fun cdv A outer s H vs Q E hr h => ?_
  · obtain ⟨os, μ, G, Φ, _, r, c, _⟩ := h
    rw [r.length]
    exact len _ _ _ c
  · obtain ⟨os, μ, G, Φ, m, r, c, fin⟩ := h
    refine WSs.of (PSs.nox pwss) (body cdv A outer s H E os μ Φ hr c G H _ m (rv_start r) _ ⟨fun ρ' μ' G' H' σ' q e m' _ => fin _ _ _ _ _ q e m' Dv.non, fin, fun _ _ _ _ _ q => q.elim, fun _ _ _ _ _ q => q.elim⟩)
def c_law (K : PySem.W.Frag) : Ct := fun os μ Φ => ∃ ns : List Int, os = [.scr K ns] ∧ ns.length ≤ 63 ∧ ∀ μ', Φ (.im (.bool true)) μ'
theorem law_sp (K : PySem.W.Frag) (H : Hp) (a : Addr) (ns : List Int) (hn : ns.length ≤ 63) (hS : SqL K H a (ns.map V.int)) : spOf (c_law K) [.ref a] H (fun v _ => v = .bl true) fun _ _ _ => False :=
  ⟨[.scr K ns], fun _ => none, H, fun o _ => o = .im (.bool true), ⟨Ex.refl H, fun _ _ h => nomatch h⟩, .cons ⟨a, rfl, hS⟩ .nil, ⟨ns, rfl, hn, fun _ => rfl⟩, fun v o μ' G' H' h e m r => by
    subst h
    cases r
    rfl⟩
/-! ### forms of data -/
abbrev iL (ns : List Int) : List PyData := ns.map .int
theorem lay_ints : ∀ ns : List Int, PyData.canLayAll0 (iL ns) = true
  | [] => by simp [PyData.canLayAll0]
  | n :: ns => by simp [PyData.canLayAll0, PyData.canLay0, lay_ints ns]
theorem depth_ints : ∀ ns : List Int, PyData.depthAll (iL ns) ≤ 1
  | [] => by simp [PyData.depthAll]
  | n :: ns => by
    have := depth_ints ns
    simp [PyData.depthAll, PyData.depth]
    omega
theorem atI_iL {cs : List Int} {k : Nat} (h : k < cs.length) : atI ((iL cs).map OV.im) (k : Int) = some (.im (.int cs[k])) := by
  apply atI_nat
  rw [List.getElem?_map, List.getElem?_map, List.getElem?_eq_getElem h]
  rfl
theorem iL_get {cs : List Int} {k : Nat} {d : PyData} (h : (iL cs)[k]? = some d) : ∃ c, cs[k]? = some c ∧ d = .int c := by
  rw [List.getElem?_map] at h
  cases q : cs[k]? with
  | none =>
    rw [q] at h
    cases h
  | some c =>
    rw [q] at h
    cases h
    exact ⟨c, rfl, rfl⟩
theorem imL_get {cs : List Int} {k : Nat} {z : OV} (h : ((iL cs).map OV.im)[k]? = some z) : ∃ c, cs[k]? = some c ∧ z = .im (.int c) := by
  rw [List.getElem?_map] at h
  cases q : (iL cs)[k]? with
  | none =>
    rw [q] at h
    cases h
  | some d =>
    rw [q] at h
    cases h
    obtain ⟨c, h1, rfl⟩ := iL_get q
    exact ⟨c, h1, rfl⟩
end Nx
namespace Nx
open PySem PySem.Spec PyProof.Rows L2
/-! ### how long a text is -/
def pile : List Str → Nat
  | [] => 0
  | t :: ts => t.length + 2 + pile ts
theorem textFrom_le : ∀ (ts : List Str) (k : Nat) (acc : Str), (textFrom k acc ts).length ≤ acc.length + pile ts
  | [], k, acc => by
    show acc.length ≤ _
    exact Nat.le_add_right _ _
  | t :: r, k, acc => by
    have ih := textFrom_le r (k + 1) (acc ++ (if k > 0 then ", " else "" : String) ++ t)
    have h2 : (Str.ofString (if k > 0 then ", " else "" : String)).length ≤ 2 := by split <;> decide
    rw [Str.length_append, Str.length_append] at ih
    show (textFrom (k + 1) (acc ++ (if k > 0 then ", " else "" : String) ++ t) r).length ≤ acc.length + (t.length + 2 + pile r)
    omega
theorem listText_le (ts : List Str) : (listText ts).length ≤ pile ts + 2 := by
  have h := textFrom_le ts 0 (Str.ofString "[")
  have e1 : (Str.ofString "[").length = 1 := by decide
  have e2 : (Str.ofString "]").length = 1 := by decide
  show (textFrom 0 (Str.ofString "[") ts ++ Str.ofString "]").length ≤ _
  rw [Str.length_append, e2]
  omega
theorem join_le : ∀ ts : List Str, (Str.join ", " ts).length ≤ pile ts
  | [] => by decide
  | [x] => by
    show x.length ≤ x.length + 2 + 0
    omega
  | x :: y :: r => by
    have ih := join_le (y :: r)
    have e : (Str.ofString ", ").length = 2 := by decide
    show (x ++ Str.ofString ", " ++ Str.join ", " (y :: r)).length ≤ x.length + 2 + pile (y :: r)
    rw [Str.length_append, Str.length_append, e]
    omega
theorem tupleText_le (ts : List Str) : (tupleText ts).length ≤ pile ts + 3 := by
  have h := join_le ts
  have e1 : (Str.ofString "(").length = 1 := by decide
  have e2 : (Str.ofString (if ts.length == 1 then ",)" else ")" : String)).length ≤ 2 := by split <;> decide
  show (Str.ofString "(" ++ Str.join ", " ts ++ Str.ofString (if ts.length == 1 then ",)" else ")" : String)).length ≤ _
  rw [Str.length_append, Str.length_append, e1]
  omega
/-- a thing of depth k whose text has at most w signs -/
structure Sd (k w : Nat) (d : PyData) : Prop where
  sh : d.showable = true
  nd : d.hasDict = false
  dp : d.depth ≤ k
  ln : d.shown.length ≤ w
structure SdA (k w : Nat) (ds : List PyData) : Prop where
  sh : PyData.showableAll ds = true
  nd : PyData.hasDictAll ds = false
  dp : PyData.depthAll ds ≤ k
  ln : pile (PyData.shownAll ds) ≤ w
theorem Sd.mono {k w k' w' : Nat} {d : PyData} (h : Sd k w d) (hk : k ≤ k') (hw : w ≤ w') : Sd k' w' d := ⟨h.sh, h.nd, Nat.le_trans h.dp hk, Nat.le_trans h.ln hw⟩
theorem SdA.mono {k w k' w' : Nat} {d : List PyData} (h : SdA k w d) (hk : k ≤ k') (hw : w ≤ w') : SdA k' w' d := ⟨h.sh, h.nd, Nat.le_trans h.dp hk, Nat.le_trans h.ln hw⟩
theorem Sd.none : Sd 0 4 .none := ⟨by simp [PyData.showable], by simp [PyData.hasDict], by simp [PyData.depth], by simp only [PyData.shown]; decide⟩
theorem Sd.bool (b : Bool) : Sd 0 5 (.bool b) := ⟨by simp [PyData.showable], by simp [PyData.hasDict], by simp [PyData.depth], by simp only [PyData.shown]; cases b <;> decide⟩
theorem log_small {n : Nat} (h : n < 10 ^ 60) : n.log2 < 1920 := by
  by_cases h0 : n = 0
  · subst h0
    decide
  · exact (Nat.log2_lt h0).mpr (Nat.lt_of_lt_of_le h (Nat.le_trans (show 10 ^ 60 ≤ 2 ^ 200 by decide) (Nat.pow_le_pow_right (by decide) (by decide))))
theorem Sd.int {i : Int} (h : i.natAbs < 10 ^ 60) : Sd 0 61 (.int i) := by
  refine ⟨by simp only [PyData.showable]; exact decide_eq_true (log_small h), by simp [PyData.hasDict], by simp [PyData.depth], ?_⟩
  simp only [PyData.shown]
  have := int_text_length_le10 (a := i) (k := 60) (by decide) h
  show (Str.ofString (toString i)).length ≤ 61
  rw [PySem.ofString_length]
  exact this
theorem SdA.nil : SdA 0 0 [] := ⟨by simp [PyData.showableAll], by simp [PyData.hasDictAll], by simp [PyData.depthAll], by simp [PyData.shownAll, pile]⟩
theorem SdA.cons {k w k' w' : Nat} {d : PyData} {ds : List PyData} (h : Sd k w d) (t : SdA k' w' ds) : SdA (max k k') (w + 2 + w') (d :: ds) := by
  refine ⟨by simp [PyData.showableAll, h.sh, t.sh], by simp [PyData.hasDictAll, h.nd, t.nd], ?_, ?_⟩
  · have := h.dp
    have := t.dp
    simp only [PyData.depthAll]
    omega
  · have := h.ln
    have := t.ln
    simp only [PyData.shownAll, pile]
    omega
theorem Sd.list {k w : Nat} {ds : List PyData} (h : SdA k w ds) : Sd (k + 1) (w + 2) (.list ds) := by
  refine ⟨by simp only [PyData.showable]; exact h.sh, by simp only [PyData.hasDict]; exact h.nd, by simp only [PyData.depth]; exact Nat.succ_le_succ h.dp, ?_⟩
  simp only [PyData.shown]
  exact Nat.le_trans (listText_le _) (Nat.add_le_add_right h.ln 2)
theorem Sd.tuple {k w : Nat} {ds : List PyData} (h : SdA k w ds) : Sd (k + 1) (w + 3) (.tuple ds) := by
  refine ⟨by simp only [PyData.showable]; exact h.sh, by simp only [PyData.hasDict]; exact h.nd, by simp only [PyData.depth]; exact Nat.succ_le_succ h.dp, ?_⟩
  simp only [PyData.shown]
  exact Nat.le_trans (tupleText_le _) (Nat.add_le_add_right h.ln 3)
theorem SdA.all {k w : Nat} : ∀ {ds : List PyData}, (∀ d ∈ ds, Sd k w d) → SdA k ((w + 2) * ds.length) ds
  | [], _ => SdA.nil.mono (Nat.zero_le _) (Nat.zero_le _)
  | d :: ds, h => by
    have t := SdA.all fun d hd => h d (List.mem_cons_of_mem _ hd)
    refine (SdA.cons (h d (List.mem_cons_self ..)) t).mono (by omega) ?_
    rw [List.length_cons, Nat.mul_add, Nat.mul_one]
    omega
theorem SdA.ints {ns : List Int} (h : ∀ i ∈ ns, i.natAbs < 10 ^ 60) : SdA 0 (63 * ns.length) (iL ns) := by
  have := SdA.all (k := 0) (w := 61) (ds := iL ns) fun d hd => by
    obtain ⟨i, hi, rfl⟩ := List.mem_map.mp hd
    exact Sd.int (h i hi)
  rw [List.length_map] at this
  exact this
theorem Sd.shw {k w : Nat} {d : PyData} (h : Sd k w d) (hd : isDisplay d = true) (hk : k ≤ 60) (hw : w ≤ 16777216) : Shw d := ⟨h.sh, h.nd, hd, Nat.le_trans h.dp hk, Nat.le_trans h.ln hw⟩
/-! ### the shapes of ==, and its answers -/
theorem shaped_of {k w : Nat} {d : PyData} (hl : d.canLay0 = true) (h : d.depth ≤ 64) : SeqAt.shaped d = true := by
  show (d.canLay0 && decide (d.depth ≤ 64)) = true
  rw [hl, decide_eq_true h]
  rfl
theorem shaped_list_ints (ns : List Int) : SeqAt.shaped (.list (iL ns)) = true := by
  refine shaped_of (k := 0) (w := 0) (by simp only [PyData.canLay0]; exact lay_ints ns) ?_
  have := depth_ints ns
  simp only [PyData.depth]
  omega
theorem shaped_tuple_ints (ns : List Int) : SeqAt.shaped (.tuple (iL ns)) = true := by
  refine shaped_of (k := 0) (w := 0) (by simp only [PyData.canLay0]; exact lay_ints ns) ?_
  have := depth_ints ns
  simp only [PyData.depth]
  omega
theorem eqvAll_ints : ∀ ns ms : List Int, PyData.eqvAll (iL ns) (iL ms) = decide (ns = ms)
  | [], [] => by simp [PyData.eqvAll]
  | [], m :: ms => by simp [PyData.eqvAll]
  | n :: ns, [] => by simp [PyData.eqvAll]
  | n :: ns, m :: ms => by
    have ih := eqvAll_ints ns ms
    show (PyData.eqv (.int n) (.int m) && PyData.eqvAll (iL ns) (iL ms)) = _
    rw [ih]
    show ((n == m) && _) = _
    by_cases h1 : n = m
    · subst h1
      simp
    · simp [h1]
theorem eqv_list_ints (ns ms : List Int) : PyData.eqv (.list (iL ns)) (.list (iL ms)) = decide (ns = ms) := by
  simp only [PyData.eqv]
  exact eqvAll_ints ns ms
theorem eqv_tuple_ints (ns ms : List Int) : PyData.eqv (.tuple (iL ns)) (.tuple (iL ms)) = decide (ns = ms) := by
  simp only [PyData.eqv]
  exact eqvAll_ints ns ms
end Nx
namespace Nx
open PySem PySem.Spec PyProof.Rows L2
/-! ### a list or a tuple walked -/
def Jsq (K : PySem.W.Frag) (k : Bool) (a : Addr) : It := if k then Itl K a else Itt K a
def iSq (K : PySem.W.Frag) (tl : TE) : TI := fun σ H R => tl σ H fun x H1 => ∃ k a xs, x = .ref a ∧ SqK k H1 a xs ∧ R (Jsq K k a) H1
theorem pi_sq {X : Cx} {tg l : Expr} {tl : TE} (hl : PE X l tl) : PI X tg l (iSq X.K tl) := by
  constructor
  intro pins s σ H R I h
  refine thn (hl.run pins s σ H _ I h) fun v s1 ⟨x, H1, I1, r1, k, a, xs, e, hq, q⟩ => ?_
  subst e
  cases r1
  obtain ⟨its, rv, hs⟩ := hq.at I1
  refine (begins k a its.toArray).iter _ _ _ _ s1 _ hs ?_
  have fp : ∀ b ∈ [s1.heap.objs.size], FpOk X pins H1 b := fun b hb => by
    rw [List.mem_singleton.mp hb]
    exact I1.fpOk (Nat.le_refl _) (I1.hok.fresh (Nat.le_refl _))
  have I2 : Inv X pins σ H1 { s1 with heap := s1.heap.push (itOb k a) } := I1.kept (t' := s1.toks) fun b o e => Heap.get?_push_of_some _ e
  cases k with
  | true => exact ⟨s1.heap.objs.size, [s1.heap.objs.size], _, _, H1, rfl, I2, turn_list a _, ⟨_, Heap.get?_push_size _ rfl, rfl, rfl⟩, fp, q⟩
  | false => exact ⟨s1.heap.objs.size, [s1.heap.objs.size], _, _, H1, rfl, I2, turn_tuple a _, ⟨_, Heap.get?_push_size _ rfl, rfl, rfl⟩, fp, q⟩
theorem di_seq {X : Cx} {tg e : Expr} {ρ : Rho} {μ : Mu} {Ψ : Itd → Mu → Prop} (h : DE X e ρ μ fun o μ1 => ∃ ds, Seq ds o ∧ Ψ ⟨ds.map .im, fun _ => True⟩ μ1) : DI X tg e ρ μ Ψ :=
  ⟨_, pi_sq pwe, fun G H σ m v R f => h G H σ m v _ fun vx x μ1 G1 H1 q1 e1 m1 r1 => by
    obtain ⟨ds, hd, q⟩ := q1
    obtain ⟨k, a, xs, rfl, hq, w⟩ := hd.at r1
    refine ⟨k, a, xs, rfl, m1.ex _ _ hq, f _ _ _ _ _ q e1 m1 ?_⟩
    cases k with
    | true => exact gives_list hq w
    | false => exact gives_tup hq w⟩
theorem ll {n : Nat} (h : Nat.ble (n + 1) 100000 = true) : n < 100000 := Nat.le_of_ble_eq_true h
theorem Seq.sq {μ : Mu} {ds : List PyData} {o : OV} (h : Seq ds o) : SqD μ o (ds.map .im) := by
  cases h with
  | lst => exact .lst ds
  | tup => exact .tup ds
theorem rd_list {μ : Mu} {a : Addr} {ds : List PyData} (h : μ a = some (ds.map OV.im)) : RdD μ (.own a) (.list ds) := .own h
theorem prs_get2 {ds es : List PyData} {i : Nat} {z : OV} (h : ((prs ds es).map OV.im)[i]? = some z) : ∃ d e, ds[i]? = some d ∧ es[i]? = some e ∧ z = .im (.tuple [d, e]) := by
  have hi := (List.getElem?_eq_some_iff.mp h).1
  simp [prs] at hi
  have h1 : i < ds.length := by omega
  have h2 : i < es.length := by omega
  rw [List.getElem?_map, prs_get (List.getElem?_eq_getElem h1) (List.getElem?_eq_getElem h2)] at h
  cases h
  exact ⟨_, _, List.getElem?_eq_getElem h1, List.getElem?_eq_getElem h2, rfl⟩
theorem trs_get3 {ds es fs : List PyData} {i : Nat} {z : OV} (h : ((trs ds es fs).map OV.im)[i]? = some z) : ∃ d e f, ds[i]? = some d ∧ es[i]? = some e ∧ fs[i]? = some f ∧ z = .im (.tuple [d, e, f]) := by
  have hi := (List.getElem?_eq_some_iff.mp h).1
  simp [trs] at hi
  have h1 : i < ds.length := by omega
  have h2 : i < es.length := by omega
  have h3 : i < fs.length := by omega
  rw [List.getElem?_map, trs_get (List.getElem?_eq_getElem h1) (List.getElem?_eq_getElem h2) (List.getElem?_eq_getElem h3)] at h
  cases h
  exact ⟨_, _, _, List.getElem?_eq_getElem h1, List.getElem?_eq_getElem h2, List.getElem?_eq_getElem h3, rfl⟩
theorem rg_get {n i : Nat} {z : OV} (h : ((List.range n).map fun (k : Nat) => OV.im (PyData.int (k : Int)))[i]? = some z) : i < n ∧ z = .im (.int (i : Int)) := by
  have hi : i < n := by simpa using (List.getElem?_eq_some_iff.mp h).1
  rw [List.getElem?_map, List.getElem?_range hi] at h
  cases h
  exact ⟨hi, rfl⟩
end Nx
namespace Nx
open PySem PySem.Spec PyProof.Rows L2
/-! ### a list, a tuple or a list of one's own, walked -/
theorem Gives.ok {J : It} {its : List OV} {ok1 ok2 : Mu → Prop} {G : Hp} (h : Gives J ⟨its, ok1⟩ G) (hi : ∀ μ, ok2 μ → ok1 μ) : Gives J ⟨its, ok2⟩ G := by
  obtain ⟨Gd, Y, wk, h1, h2⟩ := h
  exact ⟨Gd, Y, wk, fun G' H' μ' e m o => h1 G' H' μ' e m (hi _ o), fun i H' x H2 G' μ' e m o y hl => h2 i H' x H2 G' μ' e m (hi _ o) y hl⟩
theorem map_im_inj : ∀ {as bs : List PyData}, as.map OV.im = bs.map OV.im → as = bs
  | [], [], _ => rfl
  | [], _ :: _, h => by simp at h
  | _ :: _, [], h => by simp at h
  | a :: as, b :: bs, h => by
    simp only [List.map_cons, List.cons.injEq, OV.im.injEq] at h
    rw [h.1, map_im_inj h.2]
theorem di_sq {X : Cx} {tg e : Expr} {ρ : Rho} {μ : Mu} {Ψ : Itd → Mu → Prop} (h : DE X e ρ μ fun o μ1 => ∃ ds : List PyData, SqD μ1 o (ds.map .im) ∧ Ψ ⟨ds.map .im, fun μ' => SqD μ' o (ds.map .im)⟩ μ1) : DI X tg e ρ μ Ψ :=
  ⟨_, pi_sq pwe, fun G H σ m v R f => h G H σ m v _ fun vx x μ1 G1 H1 q1 e1 m1 r1 => by
    obtain ⟨ds, hd, q⟩ := q1
    generalize hl : ds.map OV.im = l at hd q
    cases hd with
    | lst es =>
      have e := map_im_inj hl
      subst e
      cases r1 with
      | lst h1 w => exact ⟨true, _, _, rfl, m1.ex _ _ h1, f _ _ _ _ _ q e1 m1 ((gives_list h1 w).ok fun _ _ => trivial)⟩
    | tup es =>
      have e := map_im_inj hl
      subst e
      cases r1 with
      | tup h1 w => exact ⟨false, _, _, rfl, m1.ex _ _ h1, f _ _ _ _ _ q e1 m1 ((gives_tup h1 w).ok fun _ _ => trivial)⟩
    | @own a l hl' =>
      have r1 : vx = .ref a := r1
      subst r1
      obtain ⟨g, vs, hv, w⟩ := m1.own _ _ hl'
      refine ⟨true, a, vs, rfl, hv, f _ _ _ _ _ q e1 m1 ⟨_, _, walk_own, fun G' H' μ' e m' ok => ?_, fun i H' x H2 G' μ' e m' ok y hi => ?_⟩⟩
      · cases ok with
        | own ok =>
          obtain ⟨_, us, hu, wu⟩ := m'.own _ _ ok
          exact ⟨us, .inl (.inl hu), wu.length⟩
      · cases ok with
        | own ok =>
          obtain ⟨rfl, hy⟩ := y
          obtain ⟨_, us, hu, wu⟩ := m'.own _ _ ok
          obtain ⟨o, h1, h2⟩ := ROs.getV wu (hy us (.inl (.inl hu)))
          exact ⟨G', o, Ex.refl _, m', h1, h2⟩⟩
theorem SqD.sub {μ μ' : Mu} {o : OV} {l : List OV} (h : SqD μ o l) (s : ∀ a l, μ a = some l → μ' a = some l) : SqD μ' o l := by
  cases h with
  | lst => exact .lst _
  | tup => exact .tup _
  | own h => exact .own (s _ _ h)
theorem SqD.put {μ : Mu} {o : OV} {l l' : List OV} {p : Addr} (h : SqD μ o l) (hp : μ p = none) : SqD (μ.put p l') o l := h.sub fun a m e => (put_ne (ne_own e hp)).trans e
theorem dss_mid {X : Cx} {st : Stmt} {ss : List Stmt} {ρ : Rho} {μ : Mu} {D : DEnds} (Q : Rho → Mu → Prop) (h : DS X st ρ μ { D with nx := Q }) (k : ∀ ρ' μ', Q ρ' μ' → DSs X ss ρ' μ' D) : DSs X (st :: ss) ρ μ D :=
  dss_cons (h.imp k (fun _ _ h => h) (fun _ _ h => h) fun _ _ h => h)
theorem DRs.own1 {μ : Mu} {a : Addr} {ds : List PyData} {os : List OV} {es : List PyData} (h : μ a = some (ds.map OV.im)) (t : DRs μ os es) : DRs μ (.own a :: os) (.list ds :: es) := .cons (.own h (DRs.ims _)) t
end Nx
namespace Nx
open PySem PySem.Spec PyProof.Rows L2
def topS (i : Nat) : Stmt := PySem.Challenge.pw_nextstands_k03_lists_of_calls.main.body.getD i (.Pass ⟨0, 0, 0, 0⟩)
abbrev s_mover : Stmt := topS 1
abbrev s_seats_called : Stmt := topS 2
abbrev s_seats_along : Stmt := topS 3
abbrev s_as_table : Stmt := topS 4
abbrev s_table_after : Stmt := topS 5
abbrev s_tables_along : Stmt := topS 6
abbrev s_idle_calls : Stmt := topS 7
abbrev s_steps : Stmt := topS 8
abbrev s_seats_after : Stmt := topS 9
abbrev s_law_box : Stmt := topS 11
abbrev s_law_take : Stmt := topS 12
abbrev s_law_cells : Stmt := topS 13
abbrev s_law_of : Stmt := topS 14
abbrev s_law_strewn : Stmt := topS 15
abbrev s_law_same : Stmt := topS 16
abbrev s_law_span : Stmt := topS 17
abbrev s_law_crowd : Stmt := topS 18
abbrev s_law_tour : Stmt := topS 19
abbrev s_law_pushed : Stmt := topS 20
abbrev s_law_table : Stmt := topS 21
abbrev s_law_scene : Stmt := topS 22
abbrev s_law_due : Stmt := topS 23
abbrev s_law_lists_right : Stmt := topS 24
abbrev s_law_right : Stmt := topS 25
abbrev s_law : Stmt := topS 26
section
variable {P : Program} {w : World} {K : PySem.W.Frag} {mg : Str → Option Value} {base : Heap}
/-! ### tables -/
structure Tbl (n : Nat) (ns : List Int) : Prop where
  asc : ns.Pairwise (· < ·)
  mem : ∀ x ∈ ns, 0 ≤ x ∧ x < n
theorem srt_len (ns : List Int) : (srt ns).length = ns.length := (srt_perm ns).length_eq
theorem srt_mem {ns : List Int} {x : Int} : x ∈ srt ns ↔ x ∈ ns := (srt_perm ns).mem_iff
theorem pw_lt : ∀ {l : List Int}, l.Pairwise (· ≤ ·) → l.Nodup → l.Pairwise (· < ·)
  | [], _, _ => .nil
  | a :: l, h, d => by
    obtain ⟨h1, h2⟩ := List.pairwise_cons.mp h
    obtain ⟨d1, d2⟩ := List.nodup_cons.mp d
    refine List.pairwise_cons.mpr ⟨fun x hx => ?_, pw_lt h2 d2⟩
    have := h1 x hx
    have : a ≠ x := fun e => d1 (e ▸ hx)
    omega
theorem tbl_srt {n : Nat} {ms : List Int} (d : ms.Nodup) (h : ∀ x ∈ ms, 0 ≤ x ∧ x < n) : Tbl n (srt ms) :=
  ⟨pw_lt (srt_pw ms) ((srt_perm ms).nodup_iff.mpr d), fun x hx => h x (srt_mem.mp hx)⟩
theorem nodup_asc {l : List Int} (h : l.Pairwise (· < ·)) : l.Nodup := h.imp fun {a b} h e => by omega
theorem Tbl.srt {n : Nat} {ns : List Int} (h : Tbl n ns) : srt ns = ns := (srt_eq (List.Perm.refl ns) (h.asc.imp fun {a b} h => by omega)).symm
theorem srt_congr {a b : List Int} (h : a.Perm b) : srt a = srt b := srt_eq ((srt_perm a).trans h) (srt_pw a)
theorem nums_eq (n : Nat) : nums n = iL ((List.range n).map fun (k : Nat) => (k : Int)) := by
  unfold nums iL
  rw [List.map_map]
  rfl
theorem perm_ints : ∀ {es : List PyData} {ns : List Int}, es.Perm (iL ns) → ∃ ms : List Int, es = iL ms ∧ ms.Perm ns := by
  intro es ns h
  have hall : ∀ d ∈ es, ∃ i : Int, d = .int i := fun d hd => by
    obtain ⟨i, _, e⟩ := List.mem_map.mp (h.mem_iff.mp hd)
    exact ⟨i, e.symm⟩
  have hex : ∀ es : List PyData, (∀ d ∈ es, ∃ i : Int, d = .int i) → ∃ ms : List Int, es = iL ms := by
    intro es
    induction es with
    | nil => exact fun _ => ⟨[], rfl⟩
    | cons d es ih =>
      intro h
      obtain ⟨i, rfl⟩ := h d (List.mem_cons_self ..)
      obtain ⟨ms, rfl⟩ := ih fun d hd => h d (List.mem_cons_of_mem _ hd)
      exact ⟨i :: ms, rfl⟩
  obtain ⟨ms, rfl⟩ := hex es hall
  refine ⟨ms, rfl, ?_⟩
  have := h.map (fun d => match d with | PyData.int i => i | _ => 0)
  simpa [iL, List.map_map, Function.comp_def] using this
theorem nodup_take {l : List Int} (h : l.Nodup) (k : Nat) : (l.take k).Nodup := h.sublist (List.take_sublist k l)
theorem nodup_map_of {α β : Type} {f : α → β} : ∀ {l : List α}, l.Nodup → (∀ a ∈ l, ∀ b ∈ l, f a = f b → a = b) → (l.map f).Nodup
  | [], _, _ => .nil
  | a :: l, d, h => by
    obtain ⟨d1, d2⟩ := List.nodup_cons.mp d
    rw [List.map_cons]
    refine List.nodup_cons.mpr ⟨fun hm => ?_, nodup_map_of d2 fun a ha b hb => h a (List.mem_cons_of_mem _ ha) b (List.mem_cons_of_mem _ hb)⟩
    obtain ⟨b, hb, e⟩ := List.mem_map.mp hm
    have := h b (List.mem_cons_of_mem _ hb) a (List.mem_cons_self ..) e
    subst this
    exact d1 hb
theorem mod_inj {n a b : Int} (hn : 0 < n) (h : a % n = b % n) (h1 : a - b < n) (h2 : b - a < n) : a = b := by
  have e1 := Int.mul_ediv_add_emod a n
  have e2 := Int.mul_ediv_add_emod b n
  have e : a - b = n * (a / n - b / n) := by rw [Int.mul_sub]; omega
  generalize a / n - b / n = z at e
  have hz : z = 0 := by
    rcases Int.lt_trichotomy z 0 with h | h | h
    · have : n * z ≤ n * (-1) := Int.mul_le_mul_of_nonneg_left (by omega) (by omega)
      omega
    · exact h
    · have : n * 1 ≤ n * z := Int.mul_le_mul_of_nonneg_left (by omega) (by omega)
      omega
  subst hz
  omega
theorem range_lt_asc : ∀ n : Nat, ((List.range n).map fun (k : Nat) => (k : Int)).Pairwise (· < ·) := by
  intro n
  rw [List.pairwise_map]
  exact List.pairwise_lt_range.imp fun h => by omega

def bx (p q t : Int) : List OV := [.im (.int p), .im (.int q), .im (.int t)]
theorem sc_law_take : FnScope ["_law_box_here", "_law_below", "_law_blend", "_law_found"] ["_law_box_here", "_law_below"] (defScope s_law_take) := ⟨rfl, rfl, rfl, by decide +kernel, rfl, by decide +kernel, by decide +kernel⟩
def c_law_take : Ct := fun os μ Φ => ∃ b n p q t, os = [.own b, .im (.int n)] ∧ μ b = some (bx p q t) ∧ 0 < n ∧ n < 1000000 ∧ ∀ r p' t', 0 ≤ r → r < n → Φ (.im (.int r)) (μ.put b (bx p' q t'))
theorem f_law_take {f : Addr} {fd : FuncData} (F : Fun K "_law_take" "_law_take" s_law_take f fd) (hm : mg "_law_take" = some (.ref f)) : Fc P w K mg base "_law_take" s_law_take ["_law_box_here", "_law_below"] 1 c_law_take := by
  have sc := sc_law_take
  refine fc_of F hm sc (fun os μ Φ h => ?_) fun cdv A outer s H E os μ Φ hr h => ?_
  · obtain ⟨b, n, p, q, t, rfl, _⟩ := h
    rfl
  · obtain ⟨b, n, p, q, t, rfl, hb, n0, n1, k⟩ := h
    refine dss_cons (ds_if (dt_gt (de_ix (fun _ _ => rfl) (de_var 0 rfl (.inl rfl) rfl (de_int ⟨_, _, _, .own hb, rfl, rfl, de_int ⟨_, _, rfl, rfl, ?_⟩⟩)))))
    by_cases hp : 0 < p
    · rw [if_pos (decide_eq_true hp)]
      refine dss_cons (ds_set 3 sc.nd rfl (.inl rfl) (de_mod (de_ix (fun _ _ => rfl) (de_var 0 rfl (.inl rfl) rfl (de_int ⟨_, _, _, .own hb, rfl, rfl, de_var 1 rfl (.inl rfl) rfl ⟨_, _, rfl, rfl, n0, ?_⟩⟩)))))
      refine dss_cons (ds_sub (de_fdiv (de_ix (fun _ _ => rfl) (de_var 0 rfl (.inl rfl) rfl (de_int ⟨_, _, _, .own hb, rfl, rfl, de_var 1 rfl (.inl rfl) rfl ⟨_, _, rfl, rfl, ⟨n0, by omega⟩, de_var 0 rfl (.inl rfl) rfl (de_int ⟨_, _, _, _, rfl, rfl, hb, rfl, ?_⟩)⟩⟩)))) (hsub := pg_sub pwe pwe set_list))
      refine dss_one (ds_ret (de_var 3 rfl (.inl rfl) rfl ?_))
      exact k _ _ _ (Int.emod_nonneg _ (by omega)) (Int.emod_lt_of_pos _ n0)
    · rw [if_neg (by simpa using hp)]
      refine dss_nil ?_
      refine dss_cons (ds_sub (de_add (de_ix (fun _ _ => rfl) (de_var 0 rfl (.inl rfl) rfl (de_int ⟨_, _, _, .own hb, rfl, rfl, de_int (.inl ⟨_, _, rfl, rfl, de_var 0 rfl (.inl rfl) rfl (de_int ⟨_, _, _, _, rfl, rfl, hb, rfl, ?_⟩)⟩)⟩)))) (hsub := pg_sub pwe pwe set_list))
      refine dss_cons (ds_set 2 sc.nd rfl (.inl rfl) (de_mod (de_add (de_ix (fun _ _ => rfl) (de_var 0 rfl (.inl rfl) rfl (de_int ⟨_, _, _, .own put_same, rfl, rfl, de_mul (de_int (de_ix (fun _ _ => rfl) (de_var 0 rfl (.inl rfl) rfl (de_int ⟨_, _, _, .own put_same, rfl, rfl, ⟨_, _, rfl, rfl, .inl ⟨by decide, by decide⟩, .inl ⟨_, _, rfl, rfl, de_int ⟨_, _, rfl, rfl, by decide, ?_⟩⟩⟩⟩))))⟩))))))
      generalize hm1 : (q + 1442695040888963407 * (t + 1)) % 2305843009213693951 = m1
      have a1 := Int.emod_nonneg (q + 1442695040888963407 * (t + 1)) (show (2305843009213693951 : Int) ≠ 0 by decide)
      have a2 := Int.emod_lt_of_pos (q + 1442695040888963407 * (t + 1)) (show (0 : Int) < 2305843009213693951 by decide)
      rw [hm1] at a1 a2
      refine dss_cons (ds_set 2 sc.nd rfl (.inl rfl) (de_mod (de_add (de_add (de_mul (de_var 2 rfl (.inl rfl) rfl (de_var 2 rfl (.inl rfl) rfl ⟨_, _, rfl, rfl, .inl ⟨by omega, by omega⟩, de_mul (de_int (de_ix (fun _ _ => rfl) (de_var 0 rfl (.inl rfl) rfl (de_int ⟨_, _, _, .own put_same, rfl, rfl, ⟨_, _, rfl, rfl, .inl ⟨by decide, by decide⟩, .inl ⟨_, _, rfl, rfl, de_int (.inl ⟨_, _, rfl, rfl, de_int ⟨_, _, rfl, rfl, by decide, ?_⟩⟩)⟩⟩⟩))))⟩)))))))
      generalize hm2 : (m1 * m1 + 39373 * (t + 1) + 7) % 2305843009213693921 = m2
      have a3 := Int.emod_nonneg (m1 * m1 + 39373 * (t + 1) + 7) (show (2305843009213693921 : Int) ≠ 0 by decide)
      have a4 := Int.emod_lt_of_pos (m1 * m1 + 39373 * (t + 1) + 7) (show (0 : Int) < 2305843009213693921 by decide)
      rw [hm2] at a3 a4
      refine dss_cons (ds_set 2 sc.nd rfl (.inl rfl) (de_mod (de_add (de_mul (de_var 2 rfl (.inl rfl) rfl (de_add (de_fdiv (de_var 2 rfl (.inl rfl) rfl (de_int ⟨_, _, rfl, rfl, ⟨by decide, by decide⟩, de_int (.inl ⟨_, _, rfl, rfl, ⟨_, _, rfl, rfl, .inl ⟨by omega, by omega⟩, de_ix (fun _ _ => rfl) (de_var 0 rfl (.inl rfl) rfl (de_int ⟨_, _, _, .own put_same, rfl, rfl, .inl ⟨_, _, rfl, rfl, de_int ⟨_, _, rfl, rfl, by decide, ?_⟩⟩⟩))⟩⟩)⟩)))))))))
      refine dss_one (ds_ret (de_mod (de_fdiv (de_var 2 rfl (.inl rfl) rfl (de_int ⟨_, _, rfl, rfl, ⟨by decide, by decide⟩, de_var 1 rfl (.inl rfl) rfl ⟨_, _, rfl, rfl, n0, ?_⟩⟩)))))
      exact k _ _ _ (Int.emod_nonneg _ (by omega)) (Int.emod_lt_of_pos _ n0)

theorem sc_law_strewn : FnScope ["_law_box_here", "_law_some", "_law_left", "_law_found", "_law_turn"] ["_law_box_here", "_law_some"] (defScope s_law_strewn) := ⟨rfl, rfl, rfl, by decide +kernel, rfl, by decide +kernel, by decide +kernel⟩
def c_law_strewn : Ct := fun os μ Φ => ∃ (b : Addr) (ds : List PyData) (p q t : Int), os = [.own b, .im (.list ds)] ∧ μ b = some (bx p q t) ∧ ds.length ≤ 1000 ∧ ∀ es p' t', es.Perm ds → Φ (.im (.list es)) (μ.put b (bx p' q t'))
theorem f_law_strewn (B : Bt mg) (F_law_take : Fc P w K mg base "_law_take" s_law_take ["_law_box_here", "_law_below"] 1 c_law_take) {f : Addr} {fd : FuncData} (F : Fun K "_law_strewn" "_law_strewn" s_law_strewn f fd) (hm : mg "_law_strewn" = some (.ref f)) : Fc P w K mg base "_law_strewn" s_law_strewn ["_law_box_here", "_law_some"] 2 c_law_strewn := by
  have sc := sc_law_strewn
  refine fc_of F hm sc (fun os μ Φ h => ?_) fun cdv A outer s H E os μ Φ hr h => ?_
  · obtain ⟨b, ds, p, q, t, rfl, _⟩ := h
    rfl
  · obtain ⟨b, ds, p, q, t, rfl, hb, hz, k⟩ := h
    refine dss_cons (ds_par 2 3 rfl sc.nd rfl rfl (by decide) rfl rfl rfl (da_cons (de_listO B rfl (de_var 1 rfl (.inl rfl) rfl ⟨_, .lst _, fun la hla => da_cons (de_lstO (da_nil ⟨lz rfl, fun fa hfa => da_nil ⟨_, _, rfl, ?_⟩⟩))⟩))))
    have nlf : la ≠ fa := ne_own put_same hfa
    have nbl := ne_own hb hla
    have hfa0 : μ fa = none := by
      cases z : μ fa with
      | none => rfl
      | some l =>
        rw [put_ne (ne_own z hla), z] at hfa
        cases hfa
    have nbf := ne_own hb hfa0
    refine dss_cons (ds_for (.nm 4) PassesOwn.never rfl (pg_name (i := 4) sc.nd rfl (.inl rfl)) (di_range1 B rfl (de_len B rfl (de_var 2 rfl (.inl rfl) rfl ⟨_, .own ((put_ne nlf).trans put_same), ⟨_, rfl, by omega, ?_, ?_⟩⟩))))
    · rw [List.length_map]
      omega
    refine ⟨fun i ρ' μ' => ∃ es fs p t x, ρ' = [some (.own b), some (.im (.list ds)), some (.own la), some (.own fa), x] ∧ μ' b = some (bx p q t) ∧ μ' la = some (es.map OV.im) ∧ μ' fa = some (fs.map OV.im) ∧ (∀ a l, a ≠ b → μ a = some l → μ' a = some l) ∧ es.length + i = ds.length ∧ (fs ++ es).Perm ds,
      ⟨ds, [], p, t, none, rfl, ?_, (put_ne nlf).trans put_same, put_same, fun a l _ e => ?_, rfl, by simp⟩, fun _ _ _ _ => trivial, fun i z ρ' μ' hz' hP => ?_, fun ρ' μ' hP => ?_⟩
    · rw [put_ne nbf, put_ne nbl]
      exact hb
    · rw [put_ne (ne_own e hfa0), put_ne (ne_own e hla)]
      exact e
    · obtain ⟨es, fs, p1, t1, x, rfl, h1, h2, h3, h4, h5, h6⟩ := hP
      have hi := (List.getElem?_eq_some_iff.mp hz').1
      simp at hi
      refine ⟨_, rfl, ?_⟩
      refine dss_one (ds_expr (de_append (de_var 3 rfl (.inl rfl) rfl ⟨_, _, rfl, h3, de_popAt (de_var 2 rfl (.inl rfl) rfl ⟨_, _, rfl, h2, de_call F_law_take (hr.mono (by decide)) rfl (fun _ _ _ _ _ _ us hl => match us, hl with | [_, _], _ => rfl) (da_cons (de_var 0 rfl (.inl rfl) rfl (da_cons (de_len B rfl (de_var 2 rfl (.inl rfl) rfl ⟨_, .own h2, da_nil ⟨b, _, p1, q, t1, rfl, h1, ?_, ?_, fun r p2 t2 r0 r1 => ?_⟩⟩)))))⟩)⟩)))
      · rw [List.length_map]
        omega
      · rw [List.length_map]
        omega
      · rw [List.length_map] at r1
        obtain ⟨j, rfl⟩ : ∃ j : Nat, r = (j : Int) := ⟨r.toNat, by omega⟩
        have hj : j < es.length := by omega
        refine ⟨es.map OV.im, j, .im es[j], rfl, by omega, by rw [put_ne nbl.symm]; exact h2, by rw [List.getElem?_map, List.getElem?_eq_getElem hj]; rfl, fs.map OV.im, by rw [put_ne nlf.symm, put_ne nbf.symm]; exact h3, ?_, ?_⟩
        · have := h6.length_eq
          rw [List.length_append] at this
          rw [List.length_map]
          omega
        · refine ⟨es.eraseIdx j, fs ++ [es[j]], p2, t2, _, rfl, ?_, ?_, ?_, fun a l ha e => ?_, ?_, ?_⟩
          · rw [put_ne nbf, put_ne nbl, put_same]
          · rw [put_ne nlf, put_same, erase_map]
          · rw [put_same, List.map_append]
            rfl
          · rw [put_ne (ne_own e hfa0), put_ne (ne_own e hla), put_ne ha]
            exact h4 a l ha e
          · rw [List.length_eraseIdx_of_lt hj]
            omega
          · refine List.Perm.trans ?_ h6
            rw [List.append_assoc]
            refine List.Perm.append_left fs ?_
            exact erase_perm es j hj
    · obtain ⟨es, fs, p1, t1, x, rfl, h1, h2, h3, h4, h5, h6⟩ := hP
      simp at h5
      subst h5
      rw [List.append_nil] at h6
      refine dss_frz (i := 3) rfl h3 (dss_drop (μ' := μ.put b (bx p1 q t1)) (fun a l e => ?_) (dss_one (ds_ret (de_var 3 rfl (.inl rfl) rfl (k fs p1 t1 h6)))))
      show (if a = fa then none else μ' a) = some l
      by_cases ha : a = b
      · subst ha
        rw [put_same] at e
        cases e
        rw [if_neg nbf]
        exact h1
      · rw [put_ne ha] at e
        rw [if_neg (ne_own e hfa0)]
        exact h4 a l ha e

abbrev N_law_crowd : List Str := ["_law_box_here", "_law_span_here", "_law_folk", "_law_base", "_law_k"]
theorem sc_law_crowd : FnScope N_law_crowd ["_law_box_here", "_law_span_here", "_law_folk"] (defScope s_law_crowd) := ⟨rfl, rfl, rfl, by decide +kernel, rfl, by decide +kernel, by decide +kernel⟩
def c_law_crowd : Ct := fun os μ Φ => ∃ (b : Addr) (n k : Nat) (p q t : Int), os = [.own b, .im (.int n), .im (.int k)] ∧ μ b = some (bx p q t) ∧ 1 ≤ n ∧ n ≤ 1000 ∧ k ≤ n ∧ ∀ ns p' t', Tbl n ns → ns.length = k → Φ (.im (.tuple (iL ns))) (μ.put b (bx p' q t'))
theorem f_law_crowd (B : Bt mg) (F_law_take : Fc P w K mg base "_law_take" s_law_take ["_law_box_here", "_law_below"] 1 c_law_take) (F_law_strewn : Fc P w K mg base "_law_strewn" s_law_strewn ["_law_box_here", "_law_some"] 2 c_law_strewn) {f : Addr} {fd : FuncData} (F : Fun K "_law_crowd" "_law_crowd" s_law_crowd f fd) (hm : mg "_law_crowd" = some (.ref f)) : Fc P w K mg base "_law_crowd" s_law_crowd ["_law_box_here", "_law_span_here", "_law_folk"] 3 c_law_crowd := by
  have sc := sc_law_crowd
  refine fc_of F hm sc (fun os μ Φ h => ?_) fun cdv A outer s H E os μ Φ hr h => ?_
  · obtain ⟨b, n, k, p, q, t, rfl, _⟩ := h
    rfl
  · obtain ⟨b, n, k, p, q, t, rfl, hb, n0, n1, hk, q0⟩ := h
    refine dss_cons (ds_if (dt_eq hr.room (de_call F_law_take (hr.mono (by decide)) rfl (fun _ _ _ _ _ _ us hl => match us, hl with | [_, _], _ => rfl) (da_cons (de_var 0 rfl (.inl rfl) rfl (da_cons (de_int (da_nil ⟨b, 4, p, q, t, rfl, hb, by decide, by decide, fun r p1 t1 r0 r1 => de_int (.inl ⟨_, _, rfl, rfl, ⟨_, rfl, ?_⟩⟩)⟩))))))))
    refine ite2 (fun hr0 => ?_) fun hr0 => ?_
    · refine dss_cons (ds_set 3 sc.nd rfl (.inr rfl) (de_call F_law_take (hr.mono (by decide)) rfl (fun _ _ _ _ _ _ us hl => match us, hl with | [_, _], _ => rfl) (da_cons (de_var 0 rfl (.inl rfl) rfl (da_cons (de_var 1 rfl (.inr (.inl rfl)) rfl (da_nil ⟨b, n, p1, q, t1, rfl, put_same, by omega, by omega, fun bs p2 t2 b0 b1 => ?_⟩)))))))
      rw [put_put]
      refine dss_one (ds_ret (de_tuple B rfl (de_sorted B rfl (de_lc (own := [("_law_k", 4)]) (.nm 4) rfl sc.nd (blkOk_by (N := N_law_crowd) (sc := defScope s_law_crowd) (by decide +kernel)) (by decide) (fun _ _ _ _ _ => pg_name (i := 4) sc.nd rfl (.inl rfl)) (di_range1 B rfl (de_var 2 rfl (.inl rfl) rfl ⟨_, rfl, by omega, by omega, ?_⟩))))))
      let ms : List Int := (List.range k).map fun (i : Nat) => (bs + (i : Int)) % (n : Int)
      have hms : ms.length = k := by simp [ms]
      have hd : ms.Nodup := nodup_map_of List.nodup_range fun i hi j hj e => by
        have hi := List.mem_range.mp hi
        have hj := List.mem_range.mp hj
        have := mod_inj (by omega) e (by omega) (by omega)
        omega
      refine lc_map (iL ms) (by simp [ms]) (by simp; omega) (fun _ _ => trivial) ⟨_, rfl, ms, .im _, _, .lst _, q0 _ p2 t2 (tbl_srt hd fun x hx => ?_) (by rw [srt_len, hms])⟩ fun i o d ho hd' => ?_
      · obtain ⟨i, _, rfl⟩ := List.mem_map.mp hx
        exact ⟨Int.emod_nonneg _ (by omega), Int.emod_lt_of_pos _ (by omega)⟩
      · have hi : i < k := by simpa using (List.getElem?_eq_some_iff.mp ho).1
        simp only [Int.toNat_natCast, List.getElem?_map, List.getElem?_range hi, Option.map_some, Option.some.injEq] at ho
        simp only [ms, List.getElem?_map, List.getElem?_range hi, Option.map_some, Option.some.injEq] at hd'
        subst ho hd'
        refine ⟨_, rfl, fun μ' _ s1 H1 C1 cl1 fp1 => ?_⟩
        refine de_mod (de_add (de_v 3 rfl (de_v 4 rfl (.inl ⟨_, _, rfl, rfl, de_v 1 rfl ⟨_, _, rfl, rfl, by omega, ⟨rfl, rfl⟩⟩⟩))))
    · refine dss_nil ?_
      refine dss_one (ds_ret (de_tuple B rfl (de_sorted B rfl (de_slL (de_call F_law_strewn (hr.mono (by decide)) rfl (fun _ _ _ _ _ _ us hl => match us, hl with | [_, _], _ => rfl) (da_cons (de_var 0 rfl (.inl rfl) rfl (da_cons (de_listRg B rfl rfl rfl (de_var 1 rfl (.inr (.inl rfl)) rfl ⟨n, rfl, by omega, da_nil ⟨b, _, p1, q, t1, rfl, put_same, by simp [nums]; omega, fun es p2 t2 hp => ?_⟩⟩))))))))))
      rw [put_put]
      refine de_var 2 rfl (.inl rfl) rfl ⟨_, rfl, ⟨_, .im _, ?_⟩⟩
      rw [nums_eq] at hp
      obtain ⟨ms, rfl, hm2⟩ := perm_ints hp
      rw [cutD_to, ← List.map_take]
      have hd : ms.Nodup := hm2.nodup_iff.mpr (nodup_asc (range_lt_asc n))
      have hl : ms.length = n := by rw [hm2.length_eq]; simp
      refine ⟨ms.take k, .im _, _, .lst _, q0 _ p2 t2 (tbl_srt (nodup_take hd k) fun x hx => ?_) (by rw [srt_len, List.length_take]; omega)⟩
      obtain ⟨i, hi, rfl⟩ := List.mem_map.mp (hm2.mem_iff.mp (List.mem_of_mem_take hx))
      have := List.mem_range.mp hi
      omega

/-! ### the law's own push -/
def pushGo (n : Int) (ss : List Int) (c : Int) : Nat → Nat → List Int
  | 0, _ => ss
  | f + 1, far => match ss.findIdx? (fun s => decide ((c + (far : Int) - s) % n = 0)) with
    | some k => ss.set k (ss.getD k 0 - (far : Int))
    | none => pushGo n ss c f (far + 1)
def pushL (n : Nat) (ss : List Int) (c : Int) : List Int := pushGo n ss c n 0
theorem find_at {ss : List Int} {p : Int → Bool} {k : Nat} {s : Int} (h : ss[k]? = some s) (hp : p s = true) (hn : ∀ (j : Nat) (s' : Int), j < k → ss[j]? = some s' → p s' = false) : ss.findIdx? p = some k := by
  obtain ⟨hk, e⟩ := List.getElem?_eq_some_iff.mp h
  rw [List.findIdx?_eq_some_iff_getElem]
  refine ⟨hk, by rw [e]; exact hp, fun j hj => ?_⟩
  have := hn j ss[j] hj (List.getElem?_eq_getElem (by omega))
  simp [this]
theorem find_no {ss : List Int} {p : Int → Bool} (hn : ∀ (j : Nat) (s' : Int), ss[j]? = some s' → p s' = false) : ss.findIdx? p = none := by
  rw [List.findIdx?_eq_none_iff]
  intro x hx
  obtain ⟨j, hj⟩ := List.getElem?_of_mem hx
  exact hn j x hj
theorem set_cut {ss : List Int} {k : Nat} {v : Int} (h : k < ss.length) : ss.take k ++ [v] ++ ss.drop (k + 1) = ss.set k v := by
  rw [List.set_eq_take_append_cons_drop, if_pos h, List.append_assoc]
  rfl

abbrev N_law_pushed : List Str := ["_law_span_here", "_law_spots", "_law_mark", "_law_far", "_law_k", "_law_spot"]
theorem sc_law_pushed : FnScope N_law_pushed ["_law_span_here", "_law_spots", "_law_mark"] (defScope s_law_pushed) := ⟨rfl, rfl, rfl, by decide +kernel, rfl, by decide +kernel, by decide +kernel⟩
def c_law_pushed : Ct := fun os μ Φ => ∃ (n : Nat) (ss : List Int) (c : Int), os = [.im (.int n), .im (.list (iL ss)), .im (.int c)] ∧ 0 < n ∧ n ≤ 1000 ∧ ss.length ≤ 1000 ∧ Φ (.im (.list (iL (pushL n ss c)))) μ
theorem f_law_pushed (B : Bt mg) {f : Addr} {fd : FuncData} (F : Fun K "_law_pushed" "_law_pushed" s_law_pushed f fd) (hm : mg "_law_pushed" = some (.ref f)) : Fc P w K mg base "_law_pushed" s_law_pushed ["_law_span_here", "_law_spots", "_law_mark"] 1 c_law_pushed := by
  have sc := sc_law_pushed
  refine fc_of F hm sc (fun os μ Φ h => ?_) fun cdv A outer s H E os μ Φ hr h => ?_
  · obtain ⟨n, ss, c, rfl, _⟩ := h
    rfl
  · obtain ⟨n, ss, c, rfl, n0, n1, hl, q⟩ := h
    refine dss_cons (ds_for (.nm 3) PassesOwn.never rfl (pg_name (i := 3) sc.nd rfl (.inl rfl)) (di_range1 B rfl (de_var 0 rfl (.inl rfl) rfl ⟨_, rfl, by omega, by omega, ?_⟩)))
    refine ⟨fun i ρ' μ' => ∃ x y z, ρ' = [some (.im (.int n)), some (.im (.list (iL ss))), some (.im (.int c)), x, y, z] ∧ μ' = μ ∧ pushGo n ss c (n - i) i = pushL n ss c, ⟨none, none, none, rfl, rfl, rfl⟩, fun _ _ _ _ => trivial, fun i o ρ' μ' ho hP => ?_, fun ρ' μ' hP => ?_⟩
    · obtain ⟨x, y, z, rfl, rfl, hP⟩ := hP
      have hi : i < n := by simpa using (List.getElem?_eq_some_iff.mp ho).1
      simp only [Int.toNat_natCast, List.getElem?_map, List.getElem?_range hi, Option.map_some, Option.some.injEq] at ho
      subst ho
      refine ⟨_, rfl, ?_⟩
      refine dss_one (ds_for (.tp [4, 5]) PassesOwn.never rfl (pg_tup rfl (pgs_cons (pg_name (i := 4) sc.nd rfl (.inl rfl)) (pgs_cons (pg_name (i := 5) sc.nd rfl (.inl rfl)) pgs_nil))) (di_en B rfl (de_var 1 rfl (.inl rfl) rfl ⟨_, .lst, ?_⟩)))
      refine ⟨fun k ρ' μ2 => ∃ y z, ρ' = [some (.im (.int n)), some (.im (.list (iL ss))), some (.im (.int c)), some (.im (.int (i : Int))), y, z] ∧ μ2 = μ' ∧ ∀ j s', j < k → ss[j]? = some s' → decide ((c + (i : Int) - s') % (n : Int) = 0) = false, ⟨y, z, rfl, rfl, fun j _ hj => absurd hj (Nat.not_lt_zero _)⟩, fun _ _ _ _ => trivial, fun k o ρ' μ2 ho hQ => ?_, fun ρ' μ2 hQ => ?_⟩
      · obtain ⟨y1, z1, rfl, rfl, hQ⟩ := hQ
        obtain ⟨d, hd, rfl⟩ := prs_at ho
        obtain ⟨sp, hsp, rfl⟩ := iL_get hd
        have hk := (List.getElem?_eq_some_iff.mp hsp).1
        refine ⟨_, rfl, ?_⟩
        refine dss_one (ds_if (dt_eq hr.room (de_mod (de_sub (de_add (de_var 2 rfl (.inl rfl) rfl (de_var 3 rfl (.inl rfl) rfl (.inl ⟨_, _, rfl, rfl, de_var 5 rfl (.inl rfl) rfl ⟨_, _, rfl, rfl, de_var 0 rfl (.inl rfl) rfl ⟨_, _, rfl, rfl, by omega, de_int (.inl ⟨_, _, rfl, rfl, ⟨_, rfl, ?_⟩⟩)⟩⟩⟩))))))))
        refine ite2 (fun hz => ?_) fun hz => ?_
        · refine dss_one (ds_ret (de_add (de_add (de_slL (de_var 1 rfl (.inl rfl) rfl (de_var 4 rfl (.inl rfl) rfl ⟨_, rfl, ⟨_, .im _, de_lst (da_cons (de_sub (de_var 5 rfl (.inl rfl) rfl (de_var 3 rfl (.inl rfl) rfl ⟨_, _, rfl, rfl, da_nil ⟨[_], rfl, lz rfl, .inr (.inl ⟨_, _, rfl, rfl, ?_, de_slL (de_var 1 rfl (.inl rfl) rfl (de_add (de_var 4 rfl (.inl rfl) rfl (de_int (.inl ⟨_, _, rfl, rfl, ⟨_, rfl, ⟨_, .im _, .inr (.inl ⟨_, _, rfl, rfl, ?_, ?_⟩)⟩⟩⟩)))))⟩)⟩⟩))))⟩⟩))))))
          · rw [cutD_to, List.length_take, List.length_map]
            simp
            omega
          · rw [cutD_to, show ((k : Int) + 1) = ((k + 1 : Nat) : Int) by omega, cutD_from]
            simp
            omega
          · rw [cutD_to, show ((k : Int) + 1) = ((k + 1 : Nat) : Int) by omega, cutD_from]
            have e : (iL ss).take k ++ [PyData.int (sp - (i : Int))] ++ (iL ss).drop (k + 1) = iL (pushL n ss c) := by
              rw [← hP, show n - i = (n - i - 1) + 1 by omega]
              unfold pushGo
              rw [find_at hsp hz hQ]
              show _ = iL (ss.set k (ss.getD k 0 - (i : Int)))
              rw [← set_cut hk, List.getD_eq_getElem?_getD, hsp]
              simp only [iL, List.map_append, List.map_take, List.map_drop, List.map_cons, List.map_nil, Option.getD_some]
            rw [e]
            exact q
        · refine dss_nil ⟨_, _, rfl, rfl, fun j s' hj hs' => ?_⟩
          by_cases hjk : j = k
          · subst hjk
            rw [hsp] at hs'
            cases hs'
            simpa using hz
          · exact hQ j s' (by omega) hs'
      · obtain ⟨y1, z1, rfl, rfl, hQ⟩ := hQ
        refine ⟨_, _, _, rfl, rfl, ?_⟩
        have hno : ss.findIdx? (fun s => decide ((c + (i : Int) - s) % (n : Int) = 0)) = none := find_no fun j s' hs' => hQ j s' (by simpa [prs, nums] using (List.getElem?_eq_some_iff.mp hs').1) hs'
        rw [← hP, show n - i = (n - (i + 1)) + 1 by omega]
        show _ = pushGo n ss c ((n - (i + 1)) + 1) i
        conv => rhs; unfold pushGo
        rw [hno]
    · obtain ⟨x, y, z, rfl, rfl, hP⟩ := hP
      simp only [Int.toNat_natCast, List.length_map, List.length_range, Nat.sub_self] at hP
      refine dss_one (ds_ret (de_var 1 rfl (.inl rfl) rfl ?_))
      have e : ss = pushL n ss c := hP
      rw [← e] at q
      exact q

abbrev N_law_table : List Str := ["_law_span_here", "_law_spots", "_law_spot"]
theorem sc_law_table : FnScope N_law_table ["_law_span_here", "_law_spots"] (defScope s_law_table) := ⟨rfl, rfl, rfl, by decide +kernel, rfl, by decide +kernel, by decide +kernel⟩
def tblOf (n : Nat) (ss : List Int) : List Int := srt (ss.map (· % (n : Int)))
def c_law_table : Ct := fun os μ Φ => ∃ (n : Nat) (ss : List Int), os = [.im (.int n), .im (.list (iL ss))] ∧ 0 < n ∧ ss.length ≤ 1000 ∧ Φ (.im (.tuple (iL (tblOf n ss)))) μ
theorem f_law_table (B : Bt mg) {f : Addr} {fd : FuncData} (F : Fun K "_law_table" "_law_table" s_law_table f fd) (hm : mg "_law_table" = some (.ref f)) : Fc P w K mg base "_law_table" s_law_table ["_law_span_here", "_law_spots"] 1 c_law_table := by
  have sc := sc_law_table
  refine fc_of F hm sc (fun os μ Φ h => ?_) fun cdv A outer s H E os μ Φ hr h => ?_
  · obtain ⟨n, ss, rfl, _⟩ := h
    rfl
  · obtain ⟨n, ss, rfl, n0, hl, q⟩ := h
    refine dss_one (ds_ret (de_tuple B rfl (de_sorted B rfl (de_lc (own := [("_law_spot", 2)]) (.nm 2) rfl sc.nd (blkOk_by (N := N_law_table) (sc := defScope s_law_table) (by decide +kernel)) (by decide) (fun _ _ _ _ _ => pg_name (i := 2) sc.nd rfl (.inl rfl)) (di_list (de_var 1 rfl (.inl rfl) rfl ⟨_, rfl, ?_⟩))))))
    refine lc_map (iL (ss.map (· % (n : Int)))) (by simp) (by simp; omega) (fun _ _ => trivial) ⟨_, rfl, _, .im _, _, .lst _, q⟩ fun i o d ho hd => ?_
    obtain ⟨c, hc, rfl⟩ := imL_get ho
    obtain ⟨e, he, rfl⟩ := iL_get hd
    rw [List.getElem?_map, hc] at he
    cases he
    refine ⟨_, rfl, fun μ' _ s1 H1 C1 cl1 fp1 => ?_⟩
    exact de_mod (de_v 2 rfl (de_v 0 rfl ⟨_, _, rfl, rfl, by omega, ⟨rfl, rfl⟩⟩))

theorem sc_law_span : FnScope ["_law_box_here", "_law_most"] ["_law_box_here", "_law_most"] (defScope s_law_span) := ⟨rfl, rfl, rfl, by decide +kernel, rfl, by decide +kernel, by decide +kernel⟩
def c_law_span : Ct := fun os μ Φ => ∃ (b : Addr) (m : Nat) (p q t : Int), os = [.own b, .im (.int m)] ∧ μ b = some (bx p q t) ∧ 2 ≤ m ∧ m ≤ 1000 ∧ ∀ (n : Nat) p' t', 2 ≤ n → n ≤ m → Φ (.im (.int n)) (μ.put b (bx p' q t'))
theorem f_law_span (F_law_take : Fc P w K mg base "_law_take" s_law_take ["_law_box_here", "_law_below"] 1 c_law_take) {f : Addr} {fd : FuncData} (F : Fun K "_law_span" "_law_span" s_law_span f fd) (hm : mg "_law_span" = some (.ref f)) : Fc P w K mg base "_law_span" s_law_span ["_law_box_here", "_law_most"] 2 c_law_span := by
  have sc := sc_law_span
  refine fc_of F hm sc (fun os μ Φ h => ?_) fun cdv A outer s H E os μ Φ hr h => ?_
  · obtain ⟨b, m, p, q, t, rfl, _⟩ := h
    rfl
  · obtain ⟨b, m, p, q, t, rfl, hb, m0, m1, k⟩ := h
    refine dss_one (ds_ret (de_add (de_int (de_call F_law_take (hr.mono (by decide)) rfl (fun _ _ _ _ _ _ us hl => match us, hl with | [_, _], _ => rfl) (da_cons (de_var 0 rfl (.inl rfl) rfl (da_cons (de_sub (de_var 1 rfl (.inl rfl) rfl (de_int ⟨_, _, rfl, rfl, da_nil ⟨b, _, p, q, t, rfl, hb, by omega, by omega, fun r p1 t1 r0 r1 => .inl ⟨_, _, rfl, rfl, ?_⟩⟩⟩))))))))))
    obtain ⟨j, rfl⟩ : ∃ j : Nat, r = (j : Int) := ⟨r.toNat, by omega⟩
    have := k (2 + j) p1 t1 (by omega) (by omega)
    rw [show ((2 + j : Nat) : Int) = 2 + (j : Int) by omega] at this
    exact this
theorem sc_law_scene : FnScope ["_law_box_here", "_law_most", "_law_span_here", "_law_folk"] ["_law_box_here", "_law_most"] (defScope s_law_scene) := ⟨rfl, rfl, rfl, by decide +kernel, rfl, by decide +kernel, by decide +kernel⟩
def c_law_scene : Ct := fun os μ Φ => ∃ (b : Addr) (m : Nat) (p q t : Int), os = [.own b, .im (.int m)] ∧ μ b = some (bx p q t) ∧ 2 ≤ m ∧ m ≤ 1000 ∧ ∀ (n k : Nat) ns p' t', 2 ≤ n → n ≤ m → 1 ≤ k → k < n → Tbl n ns → ns.length = k → Φ (.im (.tuple [.int n, .int k, .tuple (iL ns)])) (μ.put b (bx p' q t'))
theorem f_law_scene (F_law_span : Fc P w K mg base "_law_span" s_law_span ["_law_box_here", "_law_most"] 2 c_law_span) (F_law_take : Fc P w K mg base "_law_take" s_law_take ["_law_box_here", "_law_below"] 1 c_law_take) (F_law_crowd : Fc P w K mg base "_law_crowd" s_law_crowd ["_law_box_here", "_law_span_here", "_law_folk"] 3 c_law_crowd) {f : Addr} {fd : FuncData} (F : Fun K "_law_scene" "_law_scene" s_law_scene f fd) (hm : mg "_law_scene" = some (.ref f)) : Fc P w K mg base "_law_scene" s_law_scene ["_law_box_here", "_law_most"] 4 c_law_scene := by
  have sc := sc_law_scene
  refine fc_of F hm sc (fun os μ Φ h => ?_) fun cdv A outer s H E os μ Φ hr h => ?_
  · obtain ⟨b, m, p, q, t, rfl, _⟩ := h
    rfl
  · obtain ⟨b, m, p, q, t, rfl, hb, m0, m1, k⟩ := h
    refine dss_cons (ds_set 2 sc.nd rfl (.inl rfl) (de_call F_law_span (hr.mono (by decide)) rfl (fun _ _ _ _ _ _ us hl => match us, hl with | [_, _], _ => rfl) (da_cons (de_var 0 rfl (.inl rfl) rfl (da_cons (de_var 1 rfl (.inl rfl) rfl (da_nil ⟨b, m, p, q, t, rfl, hb, m0, m1, fun n p1 t1 n0 n1 => ?_⟩)))))))
    refine dss_cons (ds_set 3 sc.nd rfl (.inl rfl) (de_add (de_int (de_call F_law_take (hr.mono (by decide)) rfl (fun _ _ _ _ _ _ us hl => match us, hl with | [_, _], _ => rfl) (da_cons (de_var 0 rfl (.inl rfl) rfl (da_cons (de_sub (de_var 2 rfl (.inl rfl) rfl (de_int ⟨_, _, rfl, rfl, da_nil ⟨b, _, p1, q, t1, rfl, put_same, by omega, by omega, fun r p2 t2 r0 r1 => .inl ⟨_, _, rfl, rfl, ?_⟩⟩⟩))))))))))
    rw [put_put]
    obtain ⟨j, rfl⟩ : ∃ j : Nat, r = (j : Int) := ⟨r.toNat, by omega⟩
    rw [show (1 : Int) + (j : Int) = ((1 + j : Nat) : Int) by omega]
    refine dss_one (ds_ret (de_tup (da_cons (de_var 2 rfl (.inl rfl) rfl (da_cons (de_var 3 rfl (.inl rfl) rfl (da_cons (de_call F_law_crowd (hr.mono (by decide)) rfl (fun _ _ _ _ _ _ us hl => match us, hl with | [_, _, _], _ => rfl) (da_cons (de_var 0 rfl (.inl rfl) rfl (da_cons (de_var 2 rfl (.inl rfl) rfl (da_cons (de_var 3 rfl (.inl rfl) rfl (da_nil ⟨b, n, 1 + j, p2, q, t2, rfl, put_same, by omega, by omega, by omega, fun ns p3 t3 h1 h2 => da_nil ⟨[_, _, _], rfl, lz rfl, ?_⟩⟩)))))))))))))))
    rw [put_put]
    exact k n (1 + j) ns p3 t3 n0 n1 (by omega) (by omega) h1 h2

theorem sc_law_same : FnScope ["_law_found", "_law_due_here"] ["_law_found", "_law_due_here"] (defScope s_law_same) := ⟨rfl, rfl, rfl, by decide +kernel, rfl, by decide +kernel, by decide +kernel⟩
def c_law_same : Ct := fun os μ Φ => ∃ (o1 o2 : OV) (d : PyData), os = [o1, o2] ∧ DR μ o1 d ∧ DR μ o2 d ∧ Shw d ∧ Φ (.im (.bool true)) μ
theorem f_law_same (B : Bt mg) {f : Addr} {fd : FuncData} (F : Fun K "_law_same" "_law_same" s_law_same f fd) (hm : mg "_law_same" = some (.ref f)) : Fc P w K mg base "_law_same" s_law_same ["_law_found", "_law_due_here"] 1 c_law_same := by
  have sc := sc_law_same
  refine fc_of F hm sc (fun os μ Φ h => ?_) fun cdv A outer s H E os μ Φ hr h => ?_
  · obtain ⟨o1, o2, d, rfl, _⟩ := h
    rfl
  · obtain ⟨o1, o2, d, rfl, h1, h2, h3, q⟩ := h
    refine dss_one (ds_ret (de_eq hr.room (de_repr B hr rfl (de_var 0 rfl (.inl rfl) rfl ⟨_, h1, h3, de_repr B hr rfl (de_var 1 rfl (.inl rfl) rfl ⟨_, h2, h3, .inr (.inr ⟨_, _, rfl, rfl, ?_⟩)⟩)⟩))))
    simpa using q

/-! ### the nearest person clockwise -/
def dst (n c s : Int) : Int := (s - c) % n
structure Near (n c : Int) (ss : List Int) (k : Nat) (s : Int) : Prop where
  at_ : ss[k]? = some s
  le : ∀ (j : Nat) s', ss[j]? = some s' → dst n c s ≤ dst n c s'
  lt : ∀ (j : Nat) s', j < k → ss[j]? = some s' → dst n c s < dst n c s'
theorem Near.uniq {n c : Int} {ss : List Int} {k k' : Nat} {s s' : Int} (a : Near n c ss k s) (b : Near n c ss k' s') : k = k' ∧ s = s' := by
  have e : k = k' := by
    rcases Nat.lt_trichotomy k k' with h | h | h
    · have h1 := b.lt k s h a.at_
      have h2 := a.le k' s' b.at_
      omega
    · exact h
    · have h1 := a.lt k' s' h b.at_
      have h2 := b.le k s a.at_
      omega
  subst e
  have := a.at_.symm.trans b.at_
  exact ⟨rfl, Option.some.inj this⟩
def nearIx (n c : Int) : List Int → Nat
  | [] => 0
  | s :: r => if r = [] then 0 else if dst n c (r.getD (nearIx n c r) 0) < dst n c s then nearIx n c r + 1 else 0
theorem near_ix {n c : Int} : ∀ {ss : List Int}, ss ≠ [] → Near n c ss (nearIx n c ss) (ss.getD (nearIx n c ss) 0)
  | [], h => absurd rfl h
  | s :: r, _ => by
    by_cases hr : r = []
    · subst hr
      unfold nearIx
      rw [if_pos rfl]
      refine ⟨rfl, fun j s' hj => ?_, fun j s' hj => absurd hj (Nat.not_lt_zero _)⟩
      cases j with
      | zero =>
        cases hj
        exact Int.le_refl _
      | succ j => simp at hj
    · have ih := near_ix (n := n) (c := c) hr
      unfold nearIx
      rw [if_neg hr]
      by_cases hd : dst n c (r.getD (nearIx n c r) 0) < dst n c s
      · rw [if_pos hd]
        refine ⟨ih.at_, fun j s' hj => ?_, fun j s' hjk hj => ?_⟩
        · cases j with
          | zero =>
            cases hj
            show dst n c (r.getD (nearIx n c r) 0) ≤ _
            omega
          | succ j => exact ih.le j s' hj
        · cases j with
          | zero =>
            cases hj
            exact hd
          | succ j => exact ih.lt j s' (by omega) hj
      · rw [if_neg hd]
        refine ⟨rfl, fun j s' hj => ?_, fun j s' hj => absurd hj (Nat.not_lt_zero _)⟩
        cases j with
        | zero =>
          cases hj
          exact Int.le_refl _
        | succ j =>
          have := ih.le j s' hj
          show dst n c s ≤ _
          omega
/-- who moves -/
def moverL (n c : Int) (ss : List Int) : Option Nat := if dst n c (ss.getD (nearIx n c ss) 0) = 0 then none else some (nearIx n c ss)
/-- the seats behind a call -/
def callL (n c : Int) (ss : List Int) : List Int := match moverL n c ss with
  | none => ss
  | some k => ss.set k c
def optI : Option Nat → PyData
  | none => .none
  | some k => .int (k : Int)
theorem Near.mover {n c : Int} {ss : List Int} {k : Nat} {s : Int} (a : Near n c ss k s) : moverL n c ss = if dst n c s = 0 then none else some k := by
  have hne : ss ≠ [] := fun e => by
    have := a.at_
    rw [e] at this
    simp at this
  obtain ⟨h1, h2⟩ := (near_ix (n := n) (c := c) hne).uniq a
  unfold moverL
  rw [h2, h1]
theorem dst_lt {n c s : Int} (h : 0 < n) : 0 ≤ dst n c s ∧ dst n c s < n := ⟨Int.emod_nonneg _ (by omega), Int.emod_lt_of_pos _ h⟩

abbrev N_mover : List Str := ["size", "table", "chair", "person", "nearest", "number", "seat", "distance"]
theorem sc_mover : FnScope N_mover ["size", "table", "chair"] (defScope s_mover) := ⟨rfl, rfl, rfl, by decide +kernel, rfl, by decide +kernel, by decide +kernel⟩
def c_mover : Ct := fun os μ Φ => ∃ (n : Nat) (o : OV) (ss : List Int) (c : Int), os = [.im (.int n), o, .im (.int c)] ∧ Seq (iL ss) o ∧ 0 < n ∧ ss ≠ [] ∧ Φ (.im (optI (moverL n c ss))) μ
theorem f_mover (B : Bt mg) {f : Addr} {fd : FuncData} (F : Fun K "mover" "mover" s_mover f fd) (hm : mg "mover" = some (.ref f)) : Fc P w K mg base "mover" s_mover ["size", "table", "chair"] 1 c_mover := by
  have sc := sc_mover
  refine fc_of F hm sc (fun os μ Φ h => ?_) fun cdv A outer s H E os μ Φ hr h => ?_
  · obtain ⟨n, o, ss, c, rfl, _⟩ := h
    rfl
  · obtain ⟨n, o, ss, c, rfl, hsq, n0, hne, q⟩ := h
    refine dss_cons (ds_set 3 sc.nd rfl (.inl rfl) (de_non ?_))
    refine dss_cons (ds_set 4 sc.nd rfl (.inl rfl) (de_var 0 rfl (.inl rfl) rfl ?_))
    refine dss_cons (ds_for (.tp [5, 6]) PassesOwn.never rfl (pg_tup rfl (pgs_cons (pg_name (i := 5) sc.nd rfl (.inl rfl)) (pgs_cons (pg_name (i := 6) sc.nd rfl (.inl rfl)) pgs_nil))) (di_en B rfl (de_var 1 rfl (.inl rfl) rfl ⟨_, hsq, ?_⟩)))
    refine ⟨fun i ρ' μ' => ∃ a b x y z, ρ' = [some (.im (.int n)), some o, some (.im (.int c)), some (.im a), some (.im (.int b)), x, y, z] ∧ μ' = μ ∧ ((i = 0 ∧ a = .none ∧ b = n) ∨ ∃ (k : Nat) (s : Int), a = .int k ∧ b = dst n c s ∧ ss[k]? = some s ∧ (∀ (j : Nat) s', j < i → ss[j]? = some s' → dst n c s ≤ dst n c s') ∧ ∀ (j : Nat) s', j < k → ss[j]? = some s' → dst n c s < dst n c s'),
      ⟨.none, n, none, none, none, rfl, rfl, .inl ⟨rfl, rfl, rfl⟩⟩, fun _ _ _ _ => trivial, fun i z ρ' μ' hz hP => ?_, fun ρ' μ' hP => ?_⟩
    · obtain ⟨a, b, x, y, z1, rfl, rfl, hP⟩ := hP
      obtain ⟨d, hd, rfl⟩ := prs_at hz
      obtain ⟨sp, hsp, rfl⟩ := iL_get hd
      refine ⟨_, rfl, ?_⟩
      refine dss_cons (ds_set 7 sc.nd rfl (.inl rfl) (de_mod (de_sub (de_var 6 rfl (.inl rfl) rfl (de_var 2 rfl (.inl rfl) rfl ⟨_, _, rfl, rfl, de_var 0 rfl (.inl rfl) rfl ⟨_, _, rfl, rfl, by omega, ?_⟩⟩)))))
      refine dss_one (ds_if (dt_lt (de_var 7 rfl (.inl rfl) rfl (de_var 4 rfl (.inl rfl) rfl ⟨_, _, rfl, rfl, ?_⟩))))
      have hlt : dst n c sp < n := (dst_lt (by omega)).2
      refine ite2 (fun hc => ?_) fun hc => ?_
      · have hc : dst n c sp < b := of_decide_eq_true hc
        refine dss_cons (ds_set 3 sc.nd rfl (.inl rfl) (de_var 5 rfl (.inl rfl) rfl ?_))
        refine dss_one (ds_set 4 sc.nd rfl (.inl rfl) (de_var 7 rfl (.inl rfl) rfl ?_))
        refine ⟨_, _, _, _, _, rfl, rfl, .inr ⟨i, sp, rfl, rfl, hsp, fun j s' hj hs' => ?_, fun j s' hj hs' => ?_⟩⟩
        · by_cases e : j = i
          · subst e
            rw [hsp] at hs'
            cases hs'
            exact Int.le_refl _
          · rcases hP with ⟨rfl, _, _⟩ | ⟨k, s0, _, rfl, _, h3, _⟩
            · omega
            · have := h3 j s' (by omega) hs'
              omega
        · rcases hP with ⟨rfl, _, _⟩ | ⟨k, s0, _, rfl, _, h3, _⟩
          · omega
          · have := h3 j s' hj hs'
            omega
      · have hc : ¬ dst n c sp < b := fun h => hc (decide_eq_true h)
        refine dss_nil ⟨_, _, _, _, _, rfl, rfl, ?_⟩
        rcases hP with ⟨rfl, _, rfl⟩ | ⟨k, s0, rfl, rfl, h2, h3, h4⟩
        · omega
        · refine .inr ⟨k, s0, rfl, rfl, h2, fun j s' hj hs' => ?_, h4⟩
          by_cases e : j = i
          · subst e
            rw [hsp] at hs'
            cases hs'
            omega
          · exact h3 j s' (by omega) hs'
    · obtain ⟨a, b, x, y, z1, rfl, rfl, hP⟩ := hP
      have hlen : ((prs (nums (iL ss).length) (iL ss)).map OV.im).length = ss.length := by simp [prs, nums]
      rcases hP with ⟨h0, _, _⟩ | ⟨k, s0, rfl, rfl, h2, h3, h4⟩
      · rw [hlen] at h0
        exact absurd (List.length_eq_zero_iff.mp h0) hne
      · have nr : Near n c ss k s0 := ⟨h2, fun j s' hs' => h3 j s' (by rw [hlen]; exact (List.getElem?_eq_some_iff.mp hs').1) hs', h4⟩
        rw [nr.mover] at q
        refine dss_one (ds_ret (de_ifExp (dt_eq hr.room (de_var 4 rfl (.inl rfl) rfl (de_int (.inl ⟨_, _, rfl, rfl, ⟨_, rfl, ?_⟩⟩))))))
        refine ite2 (fun hc => ?_) fun hc => ?_
        · rw [if_pos (by simpa using hc)] at q
          exact de_non q
        · rw [if_neg (by simpa using hc)] at q
          exact de_var 3 rfl (.inl rfl) rfl q

abbrev N_seats_called : List Str := ["size", "seats", "chair", "person", "number", "seat"]
theorem sc_seats_called : FnScope N_seats_called ["size", "seats", "chair"] (defScope s_seats_called) := ⟨rfl, rfl, rfl, by decide +kernel, rfl, by decide +kernel, by decide +kernel⟩
def c_seats_called : Ct := fun os μ Φ => ∃ (n : Nat) (o : OV) (ss : List Int) (c : Int), os = [.im (.int n), o, .im (.int c)] ∧ Seq (iL ss) o ∧ 0 < n ∧ ss ≠ [] ∧ ss.length ≤ 1000 ∧ ∀ p, μ p = none → Φ (.own p) (μ.put p ((iL (callL n c ss)).map .im))
theorem callL_get {n c : Int} {ss : List Int} {i : Nat} {s : Int} (h : ss[i]? = some s) : (callL n c ss)[i]? = some (if moverL n c ss = some i then c else s) := by
  unfold callL
  cases e : moverL n c ss with
  | none => simpa using h
  | some k =>
    by_cases hk : k = i
    · subst hk
      simp only [if_true]
      exact List.getElem?_set_self (List.getElem?_eq_some_iff.mp h).1
    · simp only [Option.some.injEq, hk, if_false]
      rw [List.getElem?_set_ne hk, h]
theorem callL_len {n c : Int} {ss : List Int} : (callL n c ss).length = ss.length := by
  unfold callL
  split
  · rfl
  · exact List.length_set
theorem f_seats_called (B : Bt mg) (F_mover : Fc P w K mg base "mover" s_mover ["size", "table", "chair"] 1 c_mover) {f : Addr} {fd : FuncData} (F : Fun K "seats_called" "seats_called" s_seats_called f fd) (hm : mg "seats_called" = some (.ref f)) : Fc P w K mg base "seats_called" s_seats_called ["size", "seats", "chair"] 2 c_seats_called := by
  have sc := sc_seats_called
  refine fc_of F hm sc (fun os μ Φ h => ?_) fun cdv A outer s H E os μ Φ hr h => ?_
  · obtain ⟨n, o, ss, c, rfl, _⟩ := h
    rfl
  · obtain ⟨n, o, ss, c, rfl, hsq, n0, hne, hl, q⟩ := h
    refine dss_cons (ds_set 3 sc.nd rfl (.inr rfl) (de_call F_mover (hr.mono (by decide)) rfl (fun _ _ _ _ _ _ us hl => match us, hl with | [_, _, _], _ => rfl) (da_cons (de_var 0 rfl (.inl rfl) rfl (da_cons (de_var 1 rfl (.inl rfl) rfl (da_cons (de_var 2 rfl (.inr (.inl rfl)) rfl (da_nil ⟨n, o, ss, c, rfl, hsq, n0, hne, ?_⟩)))))))))
    refine dss_one (ds_ret (de_lcO (own := [("number", 4), ("seat", 5)]) (.tp [4, 5]) rfl sc.nd (blkOk_by (N := N_seats_called) (sc := defScope s_seats_called) (by decide +kernel)) (by decide) (fun _ _ _ _ _ => pg_tup rfl (pgs_cons (pg_name (i := 4) sc.nd rfl (.inl rfl)) (pgs_cons (pg_name (i := 5) sc.nd rfl (.inl rfl)) pgs_nil))) (di_en B rfl (de_var 1 rfl (.inl rfl) rfl ⟨_, hsq, ?_⟩))))
    refine lc_map (iL (callL n c ss)) (by simp [prs, nums, callL_len]) (by simp [prs, nums]; omega) (fun _ _ => trivial) q fun i z d hz hd => ?_
    obtain ⟨d1, hd1, rfl⟩ := prs_at hz
    obtain ⟨sp, hsp, rfl⟩ := iL_get hd1
    obtain ⟨e, he, rfl⟩ := iL_get hd
    rw [callL_get hsp] at he
    cases he
    refine ⟨_, rfl, fun μ' _ s1 H1 C1 cl1 fp1 => ?_⟩
    cases hmv : moverL n c ss with
    | none =>
      refine de_ifExp (dt_eq hr.room (de_v 4 rfl (de_v 3 rfl (.inr (.inl ⟨_, _, .im _, .im _, rfl, rfl, ⟨_, rfl, ?_⟩⟩)))))
      refine ite2 (fun hc => by simp [optI, PyData.eqv] at hc) fun _ => ?_
      exact de_v 5 rfl ⟨rfl, by simp⟩
    | some k =>
      refine de_ifExp (dt_eq hr.room (de_v 4 rfl (de_v 3 rfl (.inl ⟨_, _, rfl, rfl, ⟨_, rfl, ?_⟩⟩))))
      refine ite2 (fun hc => ?_) fun hc => ?_
      · have hc : i = k := by
          have : (i : Int) = (k : Int) := by simpa using hc
          omega
        exact de_v 2 rfl ⟨rfl, by rw [if_pos (by rw [hc])]⟩
      · have hc : ¬ i = k := by
          have : ¬ (i : Int) = (k : Int) := by simpa using hc
          omega
        exact de_v 5 rfl ⟨rfl, by rw [if_neg (fun e => hc (Option.some.inj e).symm)]⟩
theorem sc_as_table : FnScope ["seats"] ["seats"] (defScope s_as_table) := ⟨rfl, rfl, rfl, by decide +kernel, rfl, by decide +kernel, by decide +kernel⟩
def c_as_table : Ct := fun os μ Φ => ∃ (o : OV) (ss : List Int), os = [o] ∧ RdD μ o (.list (iL ss)) ∧ Φ (.im (.tuple (iL (srt ss)))) μ
theorem f_as_table (B : Bt mg) {f : Addr} {fd : FuncData} (F : Fun K "as_table" "as_table" s_as_table f fd) (hm : mg "as_table" = some (.ref f)) : Fc P w K mg base "as_table" s_as_table ["seats"] 1 c_as_table := by
  have sc := sc_as_table
  refine fc_of F hm sc (fun os μ Φ h => ?_) fun cdv A outer s H E os μ Φ hr h => ?_
  · obtain ⟨o, ss, rfl, _⟩ := h
    rfl
  · obtain ⟨o, ss, rfl, hd, q⟩ := h
    exact dss_one (ds_ret (de_tuple B rfl (de_sorted B rfl (de_var 0 rfl (.inl rfl) rfl ⟨_, hd, ⟨_, .lst _, q⟩⟩))))

/-! ### a push is a call -/
theorem hit_iff {n c s : Int} {far : Nat} (hn : (far : Int) < n) : (c + (far : Int) - s) % n = 0 ↔ dst n c s = (far : Int) := by
  unfold dst
  constructor
  · intro h
    have h1 : (s - c) % n = (far : Int) % n := by
      have e : s - c = (far : Int) - (c + (far : Int) - s) := by omega
      rw [e, Int.sub_emod, h]
      simp
    rw [h1]
    exact Int.emod_eq_of_lt (by omega) hn
  · intro h
    have e : c + (far : Int) - s = (far : Int) - (s - c) := by omega
    rw [e, Int.sub_emod, h, Int.emod_eq_of_lt (by omega) hn, Int.sub_self]
    simp
theorem push_near {n : Nat} {c : Int} {ss : List Int} {k : Nat} {s : Int} (n0 : 0 < n) (h : Near n c ss k s) : pushL n ss c = ss.set k (s - dst n c s) := by
  obtain ⟨d0, d1⟩ := dst_lt (n := (n : Int)) (c := c) (s := s) (by omega)
  obtain ⟨f, hf⟩ : ∃ f : Nat, dst n c s = (f : Int) := ⟨(dst n c s).toNat, by omega⟩
  have hfn : f < n := by omega
  have go : ∀ (i : Nat), i ≤ f → pushGo n ss c (n - (f - i)) (f - i) = ss.set k (s - (f : Int)) := by
    intro i
    induction i with
    | zero =>
      intro _
      rw [Nat.sub_zero, show n - f = (n - f - 1) + 1 by omega]
      unfold pushGo
      rw [find_at (p := fun s => decide ((c + (f : Int) - s) % (n : Int) = 0)) (k := k) (s := s) h.at_ (decide_eq_true ((hit_iff (by omega)).mpr hf)) fun j s' hj hs' => decide_eq_false fun e => ?_]
      · show ss.set k (ss.getD k 0 - (f : Int)) = _
        rw [List.getD_eq_getElem?_getD, h.at_]
        rfl
      · have h1 := (hit_iff (n := (n : Int)) (far := f) (by omega)).mp e
        have h2 := h.lt j s' hj hs'
        omega
    | succ i ih =>
      intro hi
      rw [show n - (f - (i + 1)) = (n - (f - i)) + 1 by omega]
      unfold pushGo
      rw [find_no (p := fun s => decide ((c + ((f - (i + 1) : Nat) : Int) - s) % (n : Int) = 0)) fun j s' hs' => decide_eq_false fun e => ?_]
      · show pushGo n ss c (n - (f - i)) (f - (i + 1) + 1) = _
        rw [show f - (i + 1) + 1 = f - i by omega]
        exact ih (by omega)
      · have h1 := (hit_iff (n := (n : Int)) (far := f - (i + 1)) (by omega)).mp e
        have h2 := h.le j s' hs'
        omega
  have := go f (Nat.le_refl _)
  rw [Nat.sub_self, Nat.sub_zero] at this
  rw [hf]
  exact this
theorem mod_self_of {n : Nat} {ss : List Int} (h : ∀ x ∈ ss, 0 ≤ x ∧ x < n) : ss.map (· % (n : Int)) = ss := by
  have : ss.map (· % (n : Int)) = ss.map id := List.map_congr_left fun x hx => Int.emod_eq_of_lt (h x hx).1 (h x hx).2
  rw [this, List.map_id]
theorem set_same {ss : List Int} {k : Nat} {s : Int} (h : ss[k]? = some s) : ss.set k s = ss := by
  obtain ⟨hk, rfl⟩ := List.getElem?_eq_some_iff.mp h
  exact List.set_getElem_self hk
theorem dst_sub {n c s : Int} (h : 0 ≤ c ∧ c < n) : (s - dst n c s) % n = c := by
  unfold dst
  rw [Int.sub_emod, Int.emod_emod_of_dvd _ (Int.dvd_refl n), ← Int.sub_emod, show s - (s - c) = c by omega]
  exact Int.emod_eq_of_lt h.1 h.2
theorem near_ex {n c : Int} {ss : List Int} (hne : ss ≠ []) : ∃ k s, Near n c ss k s := ⟨_, _, near_ix hne⟩
theorem table_push {n : Nat} {c : Int} {ss : List Int} (hb : ∀ x ∈ ss, 0 ≤ x ∧ x < n) (hne : ss ≠ []) (n0 : 0 < n) (hc : 0 ≤ c ∧ c < n) : (pushL n ss c).map (· % (n : Int)) = callL n c ss := by
  obtain ⟨k, t, nr⟩ := near_ex (n := (n : Int)) (c := c) hne
  rw [push_near n0 nr, List.map_set, mod_self_of hb, dst_sub hc]
  unfold callL
  rw [nr.mover]
  by_cases h0 : dst n c t = 0
  · rw [if_pos h0]
    have hm : t ∈ ss := List.mem_of_getElem? nr.at_
    have h1 := dst_sub (n := (n : Int)) (s := t) hc
    rw [h0, Int.sub_zero, Int.emod_eq_of_lt (hb _ hm).1 (hb _ hm).2] at h1
    show ss.set k c = ss
    rw [← h1]
    exact set_same nr.at_
  · rw [if_neg h0]
theorem mem_of_dst {n : Nat} {c : Int} {ss : List Int} (hb : ∀ x ∈ ss, 0 ≤ x ∧ x < n) (hne : ss ≠ []) (n0 : 0 < n) (hc : 0 ≤ c ∧ c < n) : (moverL n c ss = none) ↔ c ∈ ss := by
  have nr := near_ix (n := (n : Int)) (c := c) hne
  have hm : ss.getD (nearIx n c ss) 0 ∈ ss := List.mem_of_getElem? nr.at_
  rw [nr.mover]
  constructor
  · intro h
    by_cases h0 : dst n c (ss.getD (nearIx n c ss) 0) = 0
    · have h1 := dst_sub (n := (n : Int)) (s := ss.getD (nearIx n c ss) 0) hc
      rw [h0, Int.sub_zero, Int.emod_eq_of_lt (hb _ hm).1 (hb _ hm).2] at h1
      rw [← h1]
      exact hm
    · rw [if_neg h0] at h
      cases h
  · intro h
    obtain ⟨j, hj⟩ := List.getElem?_of_mem h
    have h1 := nr.le j c hj
    have h2 : dst n c c = 0 := by unfold dst; simp
    have h3 := (dst_lt (n := (n : Int)) (c := c) (s := ss.getD (nearIx n c ss) 0) (by omega)).1
    rw [if_pos (by omega)]
/-- one thing in a list of choices -/
theorem fm_one {k j : Nat} (h : j < k) (f : Nat → PyData) : ((List.range k).map fun i => if i = j then some (f i) else none).filterMap id = [f j] := by
  rw [List.filterMap_map]
  have : ∀ k, j < k → (List.range k).filterMap (id ∘ fun i => if i = j then some (f i) else none) = [f j] := by
    intro k
    induction k with
    | zero => exact fun h => absurd h (Nat.not_lt_zero _)
    | succ k ih =>
      intro h
      rw [List.range_succ, List.filterMap_append]
      by_cases hk : j = k
      · subst hk
        have : (List.range j).filterMap (id ∘ fun i => if i = j then some (f i) else none) = [] := by
          rw [List.filterMap_eq_nil_iff]
          intro i hi
          have := List.mem_range.mp hi
          show (if i = j then some (f i) else none) = none
          rw [if_neg (by omega)]
        rw [this]
        simp
      · rw [ih (by omega)]
        have : ([k] : List Nat).filterMap (id ∘ fun i => if i = j then some (f i) else none) = [] := by
          rw [List.filterMap_eq_nil_iff]
          intro i hi
          have := List.mem_singleton.mp hi
          show (if i = j then some (f i) else none) = none
          rw [if_neg (by omega)]
        rw [this, List.append_nil]
  exact this k h
theorem fm_none {α β : Type} {l : List (Option β)} (h : ∀ x ∈ l, x = none) : l.filterMap id = [] := by
  rw [List.filterMap_eq_nil_iff]
  exact fun x hx => h x hx
/-- the first of the choices that is one -/
theorem fm_head {β : Type} : ∀ {l : List (Option β)} {i : Nat} {x : β}, l[i]? = some (some x) → (∀ (j : Nat) r, j < i → l[j]? = some r → r = none) → (l.filterMap id)[0]? = some x
  | [], _, _, h, _ => by simp at h
  | a :: l, 0, x, h, _ => by
    cases h
    rfl
  | a :: l, i + 1, x, h, hn => by
    have h0 := hn 0 a (by omega) rfl
    subst h0
    exact fm_head (l := l) (i := i) h fun j r hj hr => hn (j + 1) r (by omega) hr
def goneL : Option Nat → List PyData
  | none => []
  | some a => [.int (a : Int)]
theorem gone_fm {k : Nat} {m : Option Nat} (h : ∀ a, m = some a → a < k) : ((List.range k).map fun a => if m = some a then some (PyData.int (a : Int)) else none).filterMap id = goneL m := by
  cases m with
  | none =>
    refine fm_none (α := Unit) fun x hx => ?_
    obtain ⟨a, _, rfl⟩ := List.mem_map.mp hx
    simp
  | some j =>
    have e : ((List.range k).map fun a => if some j = some a then some (PyData.int (a : Int)) else none) = (List.range k).map fun a => if a = j then some (PyData.int (a : Int)) else none :=
      List.map_congr_left fun a _ => by
        by_cases h : a = j
        · subst h
          simp
        · rw [if_neg h, if_neg (fun e => h (Option.some.inj e).symm)]
    rw [e]
    exact fm_one (h j rfl) fun a => PyData.int (a : Int)
theorem dst_add {n c e : Int} (h : 0 ≤ e ∧ e < n) : dst n c ((c + e) % n) = e := by
  unfold dst
  rw [Int.sub_emod, Int.emod_emod_of_dvd _ (Int.dvd_refl n), ← Int.sub_emod, show c + e - c = e by omega]
  exact Int.emod_eq_of_lt h.1 h.2
theorem add_dst {n c s : Int} (h : 0 ≤ s ∧ s < n) : (c + dst n c s) % n = s := by
  unfold dst
  rw [Int.add_emod, Int.emod_emod_of_dvd _ (Int.dvd_refl n), ← Int.add_emod, show c + (s - c) = s by omega]
  exact Int.emod_eq_of_lt h.1 h.2
theorem next_head {n : Nat} {c : Int} {ss : List Int} {k : Nat} {s : Int} (nr : Near n c ss k s) (hb : ∀ x ∈ ss, 0 ≤ x ∧ x < n) (n0 : 0 < n) (h0 : dst n c s ≠ 0) :
    ((((List.range (n - 1)).map fun (r : Nat) => (c + (1 + (r : Int))) % (n : Int)).map fun m => if m ∈ ss then some (PyData.int m) else none).filterMap id)[0]? = some (.int s) := by
  have hd := dst_lt (n := (n : Int)) (c := c) (s := s) (by omega)
  obtain ⟨f, hf⟩ : ∃ f : Nat, dst n c s = ((f + 1 : Nat) : Int) := ⟨(dst n c s).toNat - 1, by omega⟩
  have hm : s ∈ ss := List.mem_of_getElem? nr.at_
  refine fm_head (i := f) ?_ fun j r hj hr => ?_
  · rw [List.getElem?_map, List.getElem?_map, List.getElem?_range (by omega)]
    have e : (c + (1 + (f : Int))) % (n : Int) = s := by
      rw [show (1 + (f : Int)) = dst n c s by omega]
      exact add_dst (hb s hm)
    show some (if (c + (1 + (f : Int))) % (n : Int) ∈ ss then some (PyData.int ((c + (1 + (f : Int))) % (n : Int))) else none) = _
    rw [e, if_pos hm]
  · rw [List.getElem?_map, List.getElem?_map, List.getElem?_range (by omega)] at hr
    have hr : some (if (c + (1 + (j : Int))) % (n : Int) ∈ ss then some (PyData.int ((c + (1 + (j : Int))) % (n : Int))) else none) = some r := hr
    rw [if_neg (fun h => ?_)] at hr
    · exact (Option.some.inj hr).symm
    · obtain ⟨i, hi⟩ := List.getElem?_of_mem h
      have h1 := nr.le i _ hi
      rw [dst_add ⟨by omega, by omega⟩] at h1
      omega

theorem tbl_small {n : Nat} {ns : List Int} (h : ∀ x ∈ ns, 0 ≤ x ∧ x < n) (hn : n ≤ 1000) : ∀ i ∈ ns, i.natAbs < 10 ^ 60 := fun i hi => by
  have := h i hi
  exact Nat.lt_of_lt_of_le (show i.natAbs < 1000 by omega) (by decide)
theorem sd_opt {n : Nat} {m : Option Nat} (h : ∀ k, m = some k → k < n) (hn : n ≤ 1000) : Sd 0 61 (optI m) := by
  cases m with
  | none => exact Sd.none.mono (by decide) (by decide)
  | some k =>
    have := h k rfl
    exact Sd.int (Nat.lt_of_lt_of_le (show ((k : Int)).natAbs < 1000 by omega) (by decide))
theorem mover_lt {n c : Int} {ss : List Int} (hne : ss ≠ []) {k : Nat} (h : moverL n c ss = some k) : k < ss.length := by
  obtain ⟨j, t, nr⟩ := near_ex (n := n) (c := c) hne
  rw [nr.mover] at h
  split at h
  · cases h
  · cases h
    exact (List.getElem?_eq_some_iff.mp nr.at_).1
theorem callL_mem {n : Nat} {c : Int} {ss : List Int} (hb : ∀ x ∈ ss, 0 ≤ x ∧ x < n) (hc : 0 ≤ c ∧ c < n) : ∀ x ∈ callL n c ss, 0 ≤ x ∧ x < n := by
  intro x hx
  unfold callL at hx
  split at hx
  · exact hb x hx
  · rcases List.mem_or_eq_of_mem_set hx with h | h
    · exact hb x h
    · rw [h]
      exact hc

/-! ### several calls -/
def runS (n : Int) (ss cs : List Int) : List Int := cs.foldl (fun s c => callL n c s) ss
def AL (n : Int) (ss cs : List Int) : List (List Int) := (List.range (cs.length + 1)).map fun j => runS n ss (cs.take j)
theorem runS_succ {n : Int} {ss cs : List Int} {j : Nat} {c : Int} (h : cs[j]? = some c) : runS n ss (cs.take (j + 1)) = callL n c (runS n ss (cs.take j)) := by
  unfold runS
  rw [List.take_add_one, h, List.foldl_append]
  rfl
theorem runS_len (n : Int) : ∀ (cs ss : List Int), (runS n ss cs).length = ss.length
  | [], _ => rfl
  | c :: cs, ss => by
    show (runS n (callL n c ss) cs).length = _
    rw [runS_len n cs, callL_len]
theorem runS_all (n : Int) (ss cs : List Int) : runS n ss (cs.take cs.length) = runS n ss cs := by rw [List.take_length]
theorem AL_len (n : Int) (ss cs : List Int) : (AL n ss cs).length = cs.length + 1 := by simp [AL]
theorem AL_get {n : Int} {ss cs : List Int} {j : Nat} (h : j ≤ cs.length) : (AL n ss cs)[j]? = some (runS n ss (cs.take j)) := by
  unfold AL
  rw [List.getElem?_map, List.getElem?_range (by omega)]
  rfl
theorem AL_snoc {n : Int} {ss cs : List Int} {j : Nat} (h : j < cs.length) : AL n ss (cs.take (j + 1)) = AL n ss (cs.take j) ++ [runS n ss (cs.take (j + 1))] := by
  unfold AL
  rw [List.length_take, List.length_take, Nat.min_eq_left (by omega), Nat.min_eq_left (by omega), List.range_succ (n := j + 1), List.map_append]
  congr 1
  · refine List.map_congr_left fun i hi => ?_
    have := List.mem_range.mp hi
    rw [List.take_take, List.take_take, Nat.min_eq_left (by omega), Nat.min_eq_left (by omega)]
  · simp [List.take_take]
def dLs (ls : List (List Int)) : List PyData := ls.map fun s => .list (iL s)
def zipStep (n : Int) (t a b : List Int) : List Int := (t.zip (a.zip b)).map fun q => q.1 + (q.2.1 - q.2.2) % n
def stepsL (n : Int) (ss cs : List Int) : List Int := (List.range cs.length).foldl (fun t j => zipStep n t (runS n ss (cs.take j)) (runS n ss (cs.take (j + 1)))) (ss.map fun _ => 0)
theorem zipStep_get {n : Int} {t a b : List Int} {i : Nat} {x y z : Int} (h1 : t[i]? = some x) (h2 : a[i]? = some y) (h3 : b[i]? = some z) : (zipStep n t a b)[i]? = some (x + (y - z) % n) := by
  unfold zipStep
  rw [List.getElem?_map, List.getElem?_zip_eq_some (z := (x, (y, z))) |>.mpr ⟨h1, List.getElem?_zip_eq_some (z := (y, z)) |>.mpr ⟨h2, h3⟩⟩]
  rfl
theorem zipStep_len {n : Int} {t a b : List Int} (h1 : t.length = a.length) (h2 : a.length = b.length) : (zipStep n t a b).length = t.length := by
  simp [zipStep]
  omega
/-- the calls that move nobody -/
def idleL (n : Int) (ss cs : List Int) : List PyData := ((List.range cs.length).map fun j => if runS n ss (cs.take j) = runS n ss (cs.take (j + 1)) then some (PyData.int (j : Int)) else none).filterMap id

abbrev N_seats_along : List Str := ["size", "table", "calls", "seats", "along", "chair"]
theorem sc_seats_along : FnScope N_seats_along ["size", "table", "calls"] (defScope s_seats_along) := ⟨rfl, rfl, rfl, by decide +kernel, rfl, by decide +kernel, by decide +kernel⟩
structure ArgsC (μ : Mu) (os : List OV) (n : Nat) (ss cs : List Int) : Prop where
  ex : ∃ o1 o2, os = [.im (.int n), o1, o2] ∧ Seq (iL ss) o1 ∧ SqD μ o2 ((iL cs).map .im)
  n0 : 0 < n
  ne : ss ≠ []
  sz : ss.length ≤ 1000
  cz : cs.length ≤ 1000
def c_seats_along : Ct := fun os μ Φ => ∃ n ss cs, ArgsC μ os n ss cs ∧ ∀ p, μ p = none → Φ (.own p) (μ.put p ((dLs (AL n ss cs)).map .im))
theorem f_seats_along (B : Bt mg) (F_seats_called : Fc P w K mg base "seats_called" s_seats_called ["size", "seats", "chair"] 2 c_seats_called) {f : Addr} {fd : FuncData} (F : Fun K "seats_along" "seats_along" s_seats_along f fd) (hm : mg "seats_along" = some (.ref f)) : Fc P w K mg base "seats_along" s_seats_along ["size", "table", "calls"] 3 c_seats_along := by
  have sc := sc_seats_along
  refine fc_of F hm sc (fun os μ Φ h => ?_) fun cdv A outer s H E os μ Φ hr h => ?_
  · obtain ⟨n, ss, cs, a, _⟩ := h
    obtain ⟨o1, o2, rfl, _⟩ := a.ex
    rfl
  · obtain ⟨n, ss, cs, a, q⟩ := h
    obtain ⟨o1, o2, rfl, h1, h2⟩ := a.ex
    refine dss_cons (ds_set 3 sc.nd rfl (.inl rfl) (de_list B rfl (de_var 1 rfl (.inl rfl) rfl ⟨_, h1.sq, ?_⟩)))
    refine dss_cons (ds_set 4 sc.nd rfl (.inl rfl) (de_lstO (da_cons (de_var 3 rfl (.inl rfl) rfl (da_nil ⟨lz rfl, fun p hp => ?_⟩)))))
    have h2s := h2.put (l' := [.im (.list (iL ss))]) hp
    refine dss_cons (ds_for (.nm 5) PassesOwn.never rfl (pg_name (i := 5) sc.nd rfl (.inl rfl)) (di_sq (de_var 2 rfl (.inl rfl) rfl ⟨_, h2s, ?_⟩)))
    refine ⟨fun i ρ' μ' => ∃ x, ρ' = [some (.im (.int n)), some o1, some o2, some (.im (.list (iL (runS n ss (cs.take i))))), some (.own p), x] ∧ μ' = μ.put p ((dLs (AL n ss (cs.take i))).map .im), ⟨none, rfl, rfl⟩, fun i ρ' μ' hP => by obtain ⟨x, _, rfl⟩ := hP; exact h2.put hp, fun i z ρ' μ' hz hP => ?_, fun ρ' μ' hP => ?_⟩
    · obtain ⟨x, rfl, rfl⟩ := hP
      obtain ⟨c, hc, rfl⟩ := imL_get hz
      have hi := (List.getElem?_eq_some_iff.mp hc).1
      have hcz := a.cz
      refine ⟨_, rfl, ?_⟩
      refine dss_cons (ds_set 3 sc.nd rfl (.inl rfl) (de_frz (ds := []) (p := 0) (de_call F_seats_called (hr.mono (by decide)) rfl (fun _ _ _ _ _ _ us hl => match us, hl with | [_, _, _], _ => rfl) (da_cons (de_var 0 rfl (.inl rfl) rfl (da_cons (de_var 3 rfl (.inl rfl) rfl (da_cons (de_var 5 rfl (.inl rfl) rfl (da_nil ⟨n, _, runS n ss (cs.take i), c, rfl, .lst, a.n0, ?_, ?_, fun p2 hp2 => ⟨p2, _, rfl, put_same, ?_⟩⟩))))))))))
      · intro e
        have := congrArg List.length e
        rw [runS_len] at this
        exact a.ne (List.length_eq_zero_iff.mp this)
      · rw [runS_len]
        exact a.sz
      · rw [del_put hp2, ← runS_succ hc]
        refine dss_one (ds_expr (de_append (de_var 4 rfl (.inl rfl) rfl ⟨_, _, rfl, put_same, de_var 3 rfl (.inl rfl) rfl ⟨_, put_same, ?_, ?_⟩⟩)))
        · rw [List.length_map]
          unfold dLs
          rw [List.length_map, AL_len, List.length_take]
          omega
        · refine ⟨_, rfl, ?_⟩
          rw [put_put, AL_snoc hi]
          simp [dLs]
    · obtain ⟨x, rfl, rfl⟩ := hP
      simp only [List.length_map, List.take_length]
      exact dss_one (ds_ret (de_var 4 rfl (.inl rfl) rfl (q p hp)))
/-- the last list is one's own -/
def c2_seats_along : Ct := fun os μ Φ => ∃ n ss cs, ArgsC μ os n ss cs ∧ ∀ pa pl l μ', Sub μ μ' → μ pl = none → μ' pa = some (l ++ [.own pl]) → μ' pl = some ((iL (runS n ss cs)).map .im) → Φ (.own pa) μ'
theorem f2_seats_along (B : Bt mg) (F_seats_called : Fc P w K mg base "seats_called" s_seats_called ["size", "seats", "chair"] 2 c_seats_called) {f : Addr} {fd : FuncData} (F : Fun K "seats_along" "seats_along" s_seats_along f fd) (hm : mg "seats_along" = some (.ref f)) : Fc P w K mg base "seats_along" s_seats_along ["size", "table", "calls"] 3 c2_seats_along := by
  have sc := sc_seats_along
  refine fc_of F hm sc (fun os μ Φ h => ?_) fun cdv A outer s H E os μ Φ hr h => ?_
  · obtain ⟨n, ss, cs, a, _⟩ := h
    obtain ⟨o1, o2, rfl, _⟩ := a.ex
    rfl
  · obtain ⟨n, ss, cs, a, q⟩ := h
    obtain ⟨o1, o2, rfl, h1, h2⟩ := a.ex
    refine dss_cons (ds_set 3 sc.nd rfl (.inl rfl) (de_listO B rfl (de_var 1 rfl (.inl rfl) rfl ⟨_, h1.sq, fun p0 hp0 => ?_⟩)))
    refine dss_cons (ds_set 4 sc.nd rfl (.inl rfl) (de_lstO (da_cons (de_var 3 rfl (.inl rfl) rfl (da_nil ⟨lz rfl, fun pa hpa => ?_⟩)))))
    have n0a : p0 ≠ pa := ne_own put_same hpa
    have hpa0 : μ pa = none := by
      cases z : μ pa with
      | none => rfl
      | some m =>
        rw [put_ne (ne_own z hp0), z] at hpa
        cases hpa
    have h2s := (h2.put (l' := (iL ss).map OV.im) hp0).put (l' := [.own p0]) hpa
    refine dss_cons (ds_for (.nm 5) PassesOwn.never rfl (pg_name (i := 5) sc.nd rfl (.inl rfl)) (di_sq (de_var 2 rfl (.inl rfl) rfl ⟨_, h2s, ?_⟩)))
    refine ⟨fun i ρ' μ' => ∃ x pl l, ρ' = [some (.im (.int n)), some o1, some o2, some (.own pl), some (.own pa), x] ∧ Sub μ μ' ∧ μ pl = none ∧ pl ≠ pa ∧ μ' pa = some (l ++ [.own pl]) ∧ l.length = i ∧ μ' pl = some ((iL (runS n ss (cs.take i))).map .im), ⟨none, p0, [], rfl, fun b l e => ?_, hp0, n0a, put_same, rfl, (put_ne n0a).trans put_same⟩, fun i ρ' μ' hP => by obtain ⟨x, pl, l, _, hs, _⟩ := hP; exact h2.sub hs, fun i z ρ' μ' hz hP => ?_, fun ρ' μ' hP => ?_⟩
    · rw [put_ne (ne_own (show μ.put p0 ((iL ss).map OV.im) b = some l by rw [put_ne (ne_own e hp0)]; exact e) hpa), put_ne (ne_own e hp0)]
      exact e
    · obtain ⟨x, pl, l, rfl, hs, hpl, hne, ha, hl, hv⟩ := hP
      obtain ⟨c, hc, rfl⟩ := imL_get hz
      have hi := (List.getElem?_eq_some_iff.mp hc).1
      have hcz := a.cz
      refine ⟨_, rfl, dss_frz (i := 3) rfl hv ?_⟩
      refine dss_cons (ds_set 3 sc.nd rfl (.inl rfl) (de_call F_seats_called (hr.mono (by decide)) rfl (fun _ _ _ _ _ _ us hl => match us, hl with | [_, _, _], _ => rfl) (da_cons (de_var 0 rfl (.inl rfl) rfl (da_cons (de_var 3 rfl (.inl rfl) rfl (da_cons (de_var 5 rfl (.inl rfl) rfl (da_nil ⟨n, _, runS n ss (cs.take i), c, rfl, .lst, a.n0, ?_, ?_, fun p2 hp2 => ?_⟩)))))))))
      · intro e
        have := congrArg List.length e
        rw [runS_len] at this
        exact a.ne (List.length_eq_zero_iff.mp this)
      · rw [runS_len]
        exact a.sz
      · have da : (Mu.del μ' pl) pa = some (l ++ [.own pl]) := by
          show (if pa = pl then none else μ' pa) = _
          rw [if_neg (fun e => hne e.symm)]
          exact ha
        have n2a : p2 ≠ pa := fun e => by
          rw [e, da] at hp2
          cases hp2
        have sd : Sub μ (Mu.del μ' pl) := fun b m e => by
          show (if b = pl then none else μ' b) = _
          rw [if_neg (ne_own e hpl)]
          exact hs b m e
        have hp2' : μ p2 = none := by
          cases z : μ p2 with
          | none => rfl
          | some m =>
            rw [sd p2 m z] at hp2
            cases hp2
        rw [← runS_succ hc]
        refine dss_one (ds_expr (de_append (de_var 4 rfl (.inl rfl) rfl ⟨_, _, rfl, (put_ne (fun e => n2a e.symm)).trans da, de_var 3 rfl (.inl rfl) rfl ⟨_, (put_ne (fun e => n2a e.symm)).trans da, ?_, ?_⟩⟩)))
        · rw [List.length_append]
          simp
          omega
        · refine ⟨_, p2, l ++ [.own pl], rfl, fun b m e => ?_, hp2', n2a, put_same, by simp [hl], ?_⟩
          · rw [put_ne (ne_own e hpa0), put_ne (ne_own e hp2')]
            exact sd b m e
          · rw [put_ne n2a, put_same]
    · obtain ⟨x, pl, l, rfl, hs, hpl, hne, ha, hl, hv⟩ := hP
      rw [List.length_map, List.length_map, List.take_length] at hv
      exact dss_one (ds_ret (de_var 4 rfl (.inl rfl) rfl (q pa pl l μ' hs hpl ha hv)))
abbrev N_seats_after : List Str := ["size", "table", "calls"]
theorem sc_seats_after : FnScope N_seats_after ["size", "table", "calls"] (defScope s_seats_after) := ⟨rfl, rfl, rfl, by decide +kernel, rfl, by decide +kernel, by decide +kernel⟩
def c_seats_after : Ct := fun os μ Φ => ∃ n ss cs, ArgsC μ os n ss cs ∧ ∀ p, μ p = none → Φ (.own p) (μ.put p ((iL (runS n ss cs)).map .im))
theorem f_seats_after (F2_seats_along : Fc P w K mg base "seats_along" s_seats_along ["size", "table", "calls"] 3 c2_seats_along) {f : Addr} {fd : FuncData} (F : Fun K "seats_after" "seats_after" s_seats_after f fd) (hm : mg "seats_after" = some (.ref f)) : Fc P w K mg base "seats_after" s_seats_after ["size", "table", "calls"] 4 c_seats_after := by
  have sc := sc_seats_after
  refine fc_of F hm sc (fun os μ Φ h => ?_) fun cdv A outer s H E os μ Φ hr h => ?_
  · obtain ⟨n, ss, cs, a, _⟩ := h
    obtain ⟨o1, o2, rfl, _⟩ := a.ex
    rfl
  · obtain ⟨n, ss, cs, a, q⟩ := h
    obtain ⟨o1, o2, rfl, h1, h2⟩ := a.ex
    refine dss_one (ds_ret (de_after (de_ix (fun _ _ => rfl) (de_call F2_seats_along (hr.mono (by decide)) rfl (fun _ _ _ _ _ _ us hl => match us, hl with | [_, _, _], _ => rfl) (da_cons (de_var 0 rfl (.inl rfl) rfl (da_cons (de_var 1 rfl (.inl rfl) rfl (da_cons (de_var 2 rfl (.inl rfl) rfl (da_nil ⟨n, ss, cs, a, fun pa pl l μ1 hs hpl ha hl => de_neg (de_int ⟨_, rfl, ⟨_, _, _, .own ha, rfl, atI_last _ _, _, ?_, q pl hpl⟩⟩)⟩)))))))))))
    intro x m e
    rw [put_get] at e
    by_cases hx : x = pl
    · rw [if_pos hx] at e
      rw [hx, hl]
      exact e
    · rw [if_neg hx] at e
      exact hs x m e
abbrev N_table_after : List Str := ["size", "table", "calls"]
theorem sc_table_after : FnScope N_table_after ["size", "table", "calls"] (defScope s_table_after) := ⟨rfl, rfl, rfl, by decide +kernel, rfl, by decide +kernel, by decide +kernel⟩
def c_table_after : Ct := fun os μ Φ => ∃ n ss cs, ArgsC μ os n ss cs ∧ Φ (.im (.tuple (iL (srt (runS n ss cs))))) μ
theorem f_table_after (F_as_table : Fc P w K mg base "as_table" s_as_table ["seats"] 1 c_as_table) (F_seats_after : Fc P w K mg base "seats_after" s_seats_after ["size", "table", "calls"] 4 c_seats_after) {f : Addr} {fd : FuncData} (F : Fun K "table_after" "table_after" s_table_after f fd) (hm : mg "table_after" = some (.ref f)) : Fc P w K mg base "table_after" s_table_after ["size", "table", "calls"] 5 c_table_after := by
  have sc := sc_table_after
  refine fc_of F hm sc (fun os μ Φ h => ?_) fun cdv A outer s H E os μ Φ hr h => ?_
  · obtain ⟨n, ss, cs, a, _⟩ := h
    obtain ⟨o1, o2, rfl, _⟩ := a.ex
    rfl
  · obtain ⟨n, ss, cs, a, q⟩ := h
    obtain ⟨o1, o2, rfl, h1, h2⟩ := id a.ex
    refine dss_one (ds_ret (de_call F_as_table (hr.mono (by decide)) rfl (fun _ _ _ _ _ _ us hl => match us, hl with | [_], _ => rfl) (da_cons (de_frz (ds := []) (p := 0) (de_call F_seats_after (hr.mono (by decide)) rfl (fun _ _ _ _ _ _ us hl => match us, hl with | [_, _, _], _ => rfl) (da_cons (de_var 0 rfl (.inl rfl) rfl (da_cons (de_var 1 rfl (.inl rfl) rfl (da_cons (de_var 2 rfl (.inl rfl) rfl (da_nil ⟨n, ss, cs, a, fun p hp => ⟨p, _, rfl, put_same, da_nil ⟨_, _, rfl, .im _, ?_⟩⟩⟩))))))))))))
    rw [del_put hp]
    exact q

abbrev N_steps : List Str := ["size", "table", "calls", "along", "total", "before", "after", "seat", "so_far", "old", "new"]
theorem sc_steps : FnScope N_steps ["size", "table", "calls"] (defScope s_steps) := ⟨rfl, rfl, rfl, by decide +kernel, rfl, by decide +kernel, by decide +kernel⟩
def c_steps : Ct := fun os μ Φ => ∃ n ss cs, ArgsC μ os n ss cs ∧ ∀ p, μ p = none → Φ (.own p) (μ.put p ((iL (stepsL n ss cs)).map .im))
def stT (n : Int) (ss cs : List Int) (i : Nat) : List Int := (List.range i).foldl (fun t j => zipStep n t (runS n ss (cs.take j)) (runS n ss (cs.take (j + 1)))) (ss.map fun _ => 0)
theorem stT_succ (n : Int) (ss cs : List Int) (i : Nat) : stT n ss cs (i + 1) = zipStep n (stT n ss cs i) (runS n ss (cs.take i)) (runS n ss (cs.take (i + 1))) := by
  unfold stT
  rw [List.range_succ, List.foldl_append]
  rfl
theorem stT_len (n : Int) (ss cs : List Int) : ∀ i, (stT n ss cs i).length = ss.length
  | 0 => by simp [stT]
  | i + 1 => by
    rw [stT_succ, zipStep_len (by rw [stT_len, runS_len]) (by rw [runS_len, runS_len]), stT_len]
theorem dLs_get {ls : List (List Int)} {j : Nat} {d : PyData} (h : (dLs ls)[j]? = some d) : ∃ l, ls[j]? = some l ∧ d = .list (iL l) := by
  unfold dLs at h
  rw [List.getElem?_map] at h
  cases q : ls[j]? with
  | none =>
    rw [q] at h
    cases h
  | some l =>
    rw [q] at h
    cases h
    exact ⟨l, rfl, rfl⟩
theorem f_steps (B : Bt mg) (F_seats_along : Fc P w K mg base "seats_along" s_seats_along ["size", "table", "calls"] 3 c_seats_along) {f : Addr} {fd : FuncData} (F : Fun K "steps" "steps" s_steps f fd) (hm : mg "steps" = some (.ref f)) : Fc P w K mg base "steps" s_steps ["size", "table", "calls"] 4 c_steps := by
  have sc := sc_steps
  refine fc_of F hm sc (fun os μ Φ h => ?_) fun cdv A outer s H E os μ Φ hr h => ?_
  · obtain ⟨n, ss, cs, a, _⟩ := h
    obtain ⟨o1, o2, rfl, _⟩ := a.ex
    rfl
  · obtain ⟨n, ss, cs, a, q⟩ := h
    obtain ⟨o1, o2, rfl, h1, h2⟩ := id a.ex
    have n0 := a.n0
    have hsz := a.sz
    have hcz := a.cz
    refine dss_cons (ds_set 3 sc.nd rfl (.inl rfl) (de_frz (ds := []) (p := 0) (de_call F_seats_along (hr.mono (by decide)) rfl (fun _ _ _ _ _ _ us hl => match us, hl with | [_, _, _], _ => rfl) (da_cons (de_var 0 rfl (.inr (.inl rfl)) rfl (da_cons (de_var 1 rfl (.inl rfl) rfl (da_cons (de_var 2 rfl (.inl rfl) rfl (da_nil ⟨n, ss, cs, a, fun p hp => ⟨p, _, rfl, put_same, ?_⟩⟩))))))))))
    rw [del_put hp]
    refine dss_cons (ds_setLcO (own := [("seat", 7)]) (.nm 7) 4 rfl sc.nd rfl rfl (sw_true rfl rfl rfl (by decide +kernel)) (blkOk_by (N := N_steps) (sc := defScope s_steps) (by decide +kernel)) (by decide) (fun _ _ _ _ _ => pg_name (i := 7) sc.nd rfl (.inl rfl)) (di_seq (de_var 1 rfl (.inl rfl) rfl ⟨_, h1, ?_⟩)))
    refine lc_map (iL (ss.map fun _ => 0)) (by simp) (by simp; omega) (fun _ _ => trivial) (fun p0 hp0 => ?_) fun i z d hz hd => ?_
    · refine dss_cons (ds_for (.tp [5, 6]) PassesOwn.never rfl (pg_tup rfl (pgs_cons (pg_name (i := 5) sc.nd rfl (.inl rfl)) (pgs_cons (pg_name (i := 6) sc.nd rfl (.inl rfl)) pgs_nil))) (di_zip2 B rfl (de_var 3 rfl (.inl rfl) rfl (de_slL (de_var 3 rfl (.inl rfl) rfl (de_int ⟨_, rfl, ⟨_, .im _, ⟨_, _, .lst, .lst, ?_⟩⟩⟩))))))
      refine ⟨fun i ρ' μ' => ∃ pt x y, ρ' = [some (.im (.int n)), some o1, some o2, some (.im (.list (dLs (AL n ss cs)))), some (.own pt), x, y, none, none, none, none] ∧ μ pt = none ∧ μ' = μ.put pt ((iL (stT n ss cs i)).map .im), ⟨p0, none, none, rfl, hp0, rfl⟩, fun _ _ _ _ => trivial, fun i z ρ' μ' hz hP => ?_, fun ρ' μ' hP => ?_⟩
      · obtain ⟨pt, x, y, rfl, hpt, rfl⟩ := hP
        obtain ⟨d, e, hd, he, rfl⟩ := prs_get2 hz
        have e1 : cutD (dLs (AL n ss cs)) (some 1) none = (dLs (AL n ss cs)).drop 1 := cutD_from _ 1
        rw [e1, List.getElem?_drop] at he
        obtain ⟨l1, hl1, rfl⟩ := dLs_get hd
        obtain ⟨l2, hl2, rfl⟩ := dLs_get he
        have hi : i + 1 ≤ cs.length := by
          have := (List.getElem?_eq_some_iff.mp hl2).1
          rw [AL_len] at this
          omega
        rw [AL_get (by omega)] at hl1
        rw [show 1 + i = i + 1 by omega, AL_get hi] at hl2
        cases hl1
        cases hl2
        refine ⟨_, rfl, dss_frz (i := 4) rfl put_same ?_⟩
        rw [del_put hpt]
        refine dss_one (ds_setLcO (own := [("new", 10), ("old", 9), ("so_far", 8)]) (.tp [8, 9, 10]) 4 rfl sc.nd rfl rfl (sw_true rfl rfl rfl (by decide +kernel)) (blkOk_by (N := N_steps) (sc := defScope s_steps) (by decide +kernel)) (by decide) (fun _ _ _ _ _ => pg_tup rfl (pgs_cons (pg_name (i := 8) sc.nd rfl (.inl rfl)) (pgs_cons (pg_name (i := 9) sc.nd rfl (.inl rfl)) (pgs_cons (pg_name (i := 10) sc.nd rfl (.inl rfl)) pgs_nil)))) (di_zip3 B rfl (de_var 4 rfl (.inl rfl) rfl (de_var 5 rfl (.inl rfl) rfl (de_var 6 rfl (.inl rfl) rfl ⟨_, _, _, .lst, .lst, .lst, ?_⟩)))))
        refine lc_map (iL (stT n ss cs (i + 1))) ?_ ?_ (fun _ _ => trivial) (fun p1 hp1 => ⟨p1, _, _, rfl, hp1, rfl⟩) fun j z d hz hd => ?_
        · simp [trs, stT_len, runS_len]
        · simp [trs, stT_len, runS_len]
          omega
        · obtain ⟨d1, d2, d3, g1, g2, g3, rfl⟩ := trs_get3 hz
          obtain ⟨x1, k1, rfl⟩ := iL_get g1
          obtain ⟨x2, k2, rfl⟩ := iL_get g2
          obtain ⟨x3, k3, rfl⟩ := iL_get g3
          obtain ⟨x4, k4, rfl⟩ := iL_get hd
          rw [stT_succ, zipStep_get k1 k2 k3] at k4
          cases k4
          refine ⟨_, rfl, fun μ' _ s1 H1 C1 cl1 fp1 => ?_⟩
          exact de_add (de_v 8 rfl (de_mod (de_sub (de_v 9 rfl (de_v 10 rfl ⟨_, _, rfl, rfl, de_v 0 rfl ⟨_, _, rfl, rfl, by omega, .inl ⟨_, _, rfl, rfl, ⟨rfl, rfl⟩⟩⟩⟩)))))
      · obtain ⟨pt, x, y, rfl, hpt, rfl⟩ := hP
        have hlen : ((prs (dLs (AL n ss cs)) (cutD (dLs (AL n ss cs)) (some 1) none)).map OV.im).length = cs.length := by
          have e1 : cutD (dLs (AL n ss cs)) (some 1) none = (dLs (AL n ss cs)).drop 1 := cutD_from _ 1
          rw [e1]
          simp [prs, dLs, AL_len]
        rw [hlen]
        exact dss_one (ds_ret (de_var 4 rfl (.inl rfl) rfl (q pt hpt)))
    · obtain ⟨x, hx, rfl⟩ := iL_get hd
      rw [List.getElem?_map] at hx
      have ex : x = 0 := by
        cases h : ss[i]? with
        | none =>
          rw [h] at hx
          cases hx
        | some v =>
          rw [h] at hx
          exact (Option.some.inj hx).symm
      subst ex
      exact ⟨_, rfl, fun μ' _ s1 H1 C1 cl1 fp1 => de_int ⟨rfl, rfl⟩⟩

abbrev N_tables_along : List Str := ["size", "table", "calls", "seats"]
theorem sc_tables_along : FnScope N_tables_along ["size", "table", "calls"] (defScope s_tables_along) := ⟨rfl, rfl, rfl, by decide +kernel, rfl, by decide +kernel, by decide +kernel⟩
def tabs (ls : List (List Int)) : List PyData := ls.map fun s => .tuple (iL (srt s))
def c_tables_along : Ct := fun os μ Φ => ∃ n ss cs, ArgsC μ os n ss cs ∧ ∀ p, μ p = none → Φ (.own p) (μ.put p ((tabs (AL n ss cs)).map .im))
theorem f_tables_along (F_as_table : Fc P w K mg base "as_table" s_as_table ["seats"] 1 c_as_table) (F_seats_along : Fc P w K mg base "seats_along" s_seats_along ["size", "table", "calls"] 3 c_seats_along) {f : Addr} {fd : FuncData} (F : Fun K "tables_along" "tables_along" s_tables_along f fd) (hm : mg "tables_along" = some (.ref f)) : Fc P w K mg base "tables_along" s_tables_along ["size", "table", "calls"] 4 c_tables_along := by
  have sc := sc_tables_along
  refine fc_of F hm sc (fun os μ Φ h => ?_) fun cdv A outer s H E os μ Φ hr h => ?_
  · obtain ⟨n, ss, cs, a, _⟩ := h
    obtain ⟨o1, o2, rfl, _⟩ := a.ex
    rfl
  · obtain ⟨n, ss, cs, a, q⟩ := h
    obtain ⟨o1, o2, rfl, h1, h2⟩ := id a.ex
    have hcz := a.cz
    refine dss_one (ds_ret (de_lcO (own := [("seats", 3)]) (.nm 3) rfl sc.nd (blkOk_by (N := N_tables_along) (sc := defScope s_tables_along) (by decide +kernel)) (by decide) (fun _ _ _ _ _ => pg_name (i := 3) sc.nd rfl (.inl rfl)) (di_list (de_frz (ds := []) (p := 0) (de_call F_seats_along (hr.mono (by decide)) rfl (fun _ _ _ _ _ _ us hl => match us, hl with | [_, _, _], _ => rfl) (da_cons (de_var 0 rfl (.inl rfl) rfl (da_cons (de_var 1 rfl (.inl rfl) rfl (da_cons (de_var 2 rfl (.inl rfl) rfl (da_nil ⟨n, ss, cs, a, fun p hp => ⟨p, _, rfl, put_same, _, rfl, ?_⟩⟩))))))))))))
    rw [del_put hp]
    refine lc_map (tabs (AL n ss cs)) (by simp [tabs, dLs]) (by simp [dLs, AL_len]; omega) (fun _ _ => trivial) (fun p1 hp1 => q p1 hp1) fun i z d hz hd => ?_
    have hi : i ≤ cs.length := by
      have := (List.getElem?_eq_some_iff.mp hd).1
      simp [tabs, AL_len] at this
      omega
    unfold tabs at hd
    unfold dLs at hz
    rw [List.getElem?_map, AL_get hi] at hd
    rw [List.getElem?_map, List.getElem?_map, AL_get hi] at hz
    cases hd
    cases hz
    refine ⟨_, rfl, fun μ' _ s1 H1 C1 cl1 fp1 => ?_⟩
    exact de_call F_as_table (hr.mono (by decide)) rfl (fun _ _ _ _ _ _ us hl => match us, hl with | [_], _ => rfl) (da_cons (de_v 3 rfl (da_nil ⟨_, _, rfl, .im _, ⟨rfl, rfl⟩⟩)))
abbrev N_idle_calls : List Str := ["size", "table", "calls", "along", "at"]
theorem sc_idle_calls : FnScope N_idle_calls ["size", "table", "calls"] (defScope s_idle_calls) := ⟨rfl, rfl, rfl, by decide +kernel, rfl, by decide +kernel, by decide +kernel⟩
def c_idle_calls : Ct := fun os μ Φ => ∃ n ss cs, ArgsC μ os n ss cs ∧ ∀ p, μ p = none → Φ (.own p) (μ.put p ((idleL n ss cs).map .im))
theorem f_idle_calls (B : Bt mg) (F_seats_along : Fc P w K mg base "seats_along" s_seats_along ["size", "table", "calls"] 3 c_seats_along) {f : Addr} {fd : FuncData} (F : Fun K "idle_calls" "idle_calls" s_idle_calls f fd) (hm : mg "idle_calls" = some (.ref f)) : Fc P w K mg base "idle_calls" s_idle_calls ["size", "table", "calls"] 4 c_idle_calls := by
  have sc := sc_idle_calls
  refine fc_of F hm sc (fun os μ Φ h => ?_) fun cdv A outer s H E os μ Φ hr h => ?_
  · obtain ⟨n, ss, cs, a, _⟩ := h
    obtain ⟨o1, o2, rfl, _⟩ := a.ex
    rfl
  · obtain ⟨n, ss, cs, a, q⟩ := h
    obtain ⟨o1, o2, rfl, h1, h2⟩ := id a.ex
    have hcz := a.cz
    refine dss_cons (ds_set 3 sc.nd rfl (.inr rfl) (de_frz (ds := []) (p := 0) (de_call F_seats_along (hr.mono (by decide)) rfl (fun _ _ _ _ _ _ us hl => match us, hl with | [_, _, _], _ => rfl) (da_cons (de_var 0 rfl (.inl rfl) rfl (da_cons (de_var 1 rfl (.inl rfl) rfl (da_cons (de_var 2 rfl (.inl rfl) rfl (da_nil ⟨n, ss, cs, a, fun p hp => ⟨p, _, rfl, put_same, ?_⟩⟩))))))))))
    rw [del_put hp]
    refine dss_one (ds_ret (de_lcO (own := [("at", 4)]) (.nm 4) rfl sc.nd (blkOk_by (N := N_idle_calls) (sc := defScope s_idle_calls) (by decide +kernel)) (by decide) (fun _ _ _ _ _ => pg_name (i := 4) sc.nd rfl (.inl rfl)) (di_range1 B rfl (de_len B rfl (de_var 2 rfl (.inl rfl) rfl ⟨_, h2, ⟨_, rfl, by omega, ?_, ?_⟩⟩)))))
    · simp
      omega
    refine lc_filter ((List.range cs.length).map fun j => if runS n ss (cs.take j) = runS n ss (cs.take (j + 1)) then some (PyData.int (j : Int)) else none) (by simp) (by simp; omega) (fun _ _ => trivial) (fun p1 hp1 => q p1 hp1) fun i z r hz hr' => ?_
    have e0 : ((List.map OV.im (iL cs)).length : Int).toNat = cs.length := by simp
    rw [show (⟨(List.range ((List.map OV.im (iL cs)).length : Int).toNat).map fun (k : Nat) => OV.im (PyData.int (k : Int)), fun _ => True⟩ : Itd).its = (List.range cs.length).map fun (k : Nat) => OV.im (PyData.int (k : Int)) by rw [e0]] at hz
    obtain ⟨hi, rfl⟩ := rg_get hz
    rw [List.getElem?_map, List.getElem?_range hi] at hr'
    cases hr'
    refine ⟨_, rfl, fun μ' _ s1 H1 C1 cl1 fp1 => ?_⟩
    have g1 : ∀ j, j ≤ cs.length → atI ((dLs (AL n ss cs)).map OV.im) (j : Int) = some (.im (.list (iL (runS n ss (cs.take j))))) := fun j hj => by
      apply atI_nat
      unfold dLs
      rw [List.getElem?_map, List.getElem?_map, AL_get hj]
      rfl
    refine dt_eq hr.room (de_ix (fun _ _ => rfl) (de_v 3 rfl (de_v 4 rfl ⟨_, _, _, .lst _, rfl, g1 i (by omega), de_ix (fun _ _ => rfl) (de_v 3 rfl (de_add (de_v 4 rfl (de_int (.inl ⟨_, _, rfl, rfl, ⟨_, _, _, .lst _, rfl, g1 (i + 1) (by omega), .inr (.inl ⟨_, _, .im _, .im _, shaped_list_ints _, shaped_list_ints _, ⟨_, rfl, ⟨rfl, ?_⟩⟩⟩)⟩⟩)))))⟩)))
    rw [eqv_list_ints]
    exact ite2 (fun h => ⟨_, if_pos (of_decide_eq_true h), fun s2 H2 C2 cl2 fp2 => de_v 4 rfl ⟨rfl, rfl⟩⟩) fun h => if_neg fun e => h (decide_eq_true e)

/-- a comprehension whose items are drawn from the box -/
theorem lc_ints {X : Cx} {scope : Scope} {elt : Expr} {ρ : Rho} {t : Tgt} {vs : List Nat} {D : Itd} {μ1 : Mu} {done : List OV → Mu → Prop} {b : Addr} {q p0 t0 : Int} (Pr : Int → Prop) (h1 : μ1 b = some (bx p0 q t0)) (hz : D.its.length ≤ 50000) (hok : ∀ μ', D.ok μ')
    (hd : ∀ cs p' t', cs.length = D.its.length → (∀ x ∈ cs, Pr x) → done ((iL cs).map .im) (μ1.put b (bx p' q t')))
    (h : ∀ (i : Nat) (o : OV), D.its[i]? = some o → ∃ ρ', t.put o (wipeR ρ vs) = some ρ' ∧ ∀ μ' p t, μ' b = some (bx p q t) → DEb X scope elt ρ' μ' fun o' μ2 => ∃ c p' t', o' = .im (.int c) ∧ Pr c ∧ μ2 = μ'.put b (bx p' q t')) : LcD X scope [] elt t vs ρ D μ1 done := by
  refine ⟨fun i acc μ' => ∃ cs p t, acc = (iL cs).map .im ∧ cs.length = i ∧ (∀ x ∈ cs, Pr x) ∧ μ' = μ1.put b (bx p q t), hz, ⟨[], p0, t0, rfl, rfl, fun _ h => absurd h (List.not_mem_nil), (put_self h1).symm⟩, fun _ _ _ _ _ _ => hok _, fun acc μ' h => ?_, fun i acc μ' o ho h' => ?_⟩
  · obtain ⟨cs, p, t, rfl, e1, e2, rfl⟩ := h
    exact hd cs p t e1 e2
  · obtain ⟨cs, p, t, rfl, e1, e2, rfl⟩ := h'
    obtain ⟨ρ', hp, hb⟩ := h i o ho
    refine ⟨ρ', hp, fun Dl hDl => ?_⟩
    have nbD : b ≠ Dl := ne_own put_same hDl
    dsimp only [DTb]
    rw [if_pos rfl]
    intro s1 H1 C1 cl1 fp1
    refine (hb _ p t ((put_ne nbD).trans put_same) s1 H1 C1 cl1 fp1).imp fun o' μ2 ⟨c, p2, t2, eo, hc, e⟩ => ?_
    subst eo e
    refine ⟨μ1.put b (bx p2 q t2), ?_, ?_, cs ++ [c], p2, t2, ?_, by rw [List.length_append, e1]; rfl, fun x hx => ?_, rfl⟩
    · rw [put_comm (fun e => nbD e.symm), put_put]
    · rw [put_ne (fun e => nbD e.symm)] at hDl ⊢
      exact hDl
    · simp [iL]
    · rcases List.mem_append.mp hx with h | h
      · exact e2 x h
      · rw [List.mem_singleton.mp h]
        exact hc

abbrev N_law_of : List Str := ["_law_box_here", "_law_some"]
theorem sc_law_of : FnScope N_law_of ["_law_box_here", "_law_some"] (defScope s_law_of) := ⟨rfl, rfl, rfl, by decide +kernel, rfl, by decide +kernel, by decide +kernel⟩
def c_law_of : Ct := fun os μ Φ => ∃ (b : Addr) (ds : List PyData) (p q t : Int), os = [.own b, .im (.list ds)] ∧ μ b = some (bx p q t) ∧ ds ≠ [] ∧ ds.length ≤ 1000 ∧ ∀ d p' t', d ∈ ds → Φ (.im d) (μ.put b (bx p' q t'))
theorem f_law_of (B : Bt mg) (F_law_take : Fc P w K mg base "_law_take" s_law_take ["_law_box_here", "_law_below"] 1 c_law_take) {f : Addr} {fd : FuncData} (F : Fun K "_law_of" "_law_of" s_law_of f fd) (hm : mg "_law_of" = some (.ref f)) : Fc P w K mg base "_law_of" s_law_of ["_law_box_here", "_law_some"] 2 c_law_of := by
  have sc := sc_law_of
  refine fc_of F hm sc (fun os μ Φ h => ?_) fun cdv A outer s H E os μ Φ hr h => ?_
  · obtain ⟨b, ds, p, q, t, rfl, _⟩ := h
    rfl
  · obtain ⟨b, ds, p, q, t, rfl, hb, hne, hl, k⟩ := h
    have h0 : 0 < ds.length := List.length_pos_iff.mpr hne
    refine dss_one (ds_ret (de_ix (fun _ _ => rfl) (de_var 1 rfl (.inl rfl) rfl (de_call F_law_take (hr.mono (by decide)) rfl (fun _ _ _ _ _ _ us hl => match us, hl with | [_, _], _ => rfl) (da_cons (de_var 0 rfl (.inl rfl) rfl (da_cons (de_len B rfl (de_var 1 rfl (.inl rfl) rfl ⟨_, .lst _, da_nil ⟨b, _, p, q, t, rfl, hb, ?_, ?_, fun r p1 t1 r0 r1 => ?_⟩⟩)))))))))
    · rw [List.length_map]
      omega
    · rw [List.length_map]
      omega
    · rw [List.length_map] at r1
      obtain ⟨j, rfl⟩ : ∃ j : Nat, r = (j : Int) := ⟨r.toNat, by omega⟩
      have hj : j < ds.length := by omega
      refine ⟨_, _, .im ds[j], .lst _, rfl, atI_nat ?_, k _ _ _ (List.getElem_mem hj)⟩
      rw [List.getElem?_map, List.getElem?_eq_getElem hj]
      rfl
abbrev N_law_tour : List Str := ["_law_box_here", "_law_span_here", "_law_most", "_law_few", "_law_turn", "_law_way", "_law_found"]
theorem sc_law_tour : FnScope N_law_tour ["_law_box_here", "_law_span_here", "_law_most"] (defScope s_law_tour) := ⟨rfl, rfl, rfl, by decide +kernel, rfl, by decide +kernel, by decide +kernel⟩
def InR (n : Nat) (cs : List Int) : Prop := ∀ x ∈ cs, 0 ≤ x ∧ x < (n : Int)
def c_law_tour : Ct := fun os μ Φ => ∃ (b : Addr) (n m : Nat) (p q t : Int), os = [.own b, .im (.int n), .im (.int m)] ∧ μ b = some (bx p q t) ∧ 1 ≤ n ∧ n ≤ 1000 ∧ m ≤ 1000 ∧ ∀ cs p' t', InR n cs → cs.length ≤ m → Φ (.im (.list (iL cs))) (μ.put b (bx p' q t'))
theorem f_law_tour (B : Bt mg) (F_law_take : Fc P w K mg base "_law_take" s_law_take ["_law_box_here", "_law_below"] 1 c_law_take) (F_law_of : Fc P w K mg base "_law_of" s_law_of ["_law_box_here", "_law_some"] 2 c_law_of) {f : Addr} {fd : FuncData} (F : Fun K "_law_tour" "_law_tour" s_law_tour f fd) (hm : mg "_law_tour" = some (.ref f)) : Fc P w K mg base "_law_tour" s_law_tour ["_law_box_here", "_law_span_here", "_law_most"] 3 c_law_tour := by
  have sc := sc_law_tour
  refine fc_of F hm sc (fun os μ Φ h => ?_) fun cdv A outer s H E os μ Φ hr h => ?_
  · obtain ⟨b, n, m, p, q, t, rfl, _⟩ := h
    rfl
  · obtain ⟨b, n, m, p, q, t, rfl, hb, n0, n1, m1, k⟩ := h
    refine dss_cons (ds_par 5 6 rfl sc.nd rfl rfl (by decide) rfl rfl rfl (da_cons (de_call F_law_take (hr.mono (by decide)) rfl (fun _ _ _ _ _ _ us hl => match us, hl with | [_, _], _ => rfl) (da_cons (de_var 0 rfl (.inr (.inl rfl)) rfl (da_cons (de_int (da_nil ⟨b, 5, p, q, t, rfl, hb, by decide, by decide, fun way p1 t1 w0 w1 => da_cons (de_lstO (da_nil ⟨lz rfl, fun fa hfa => da_nil ⟨_, _, rfl, ?_⟩⟩))⟩))))))))
    have nbf : b ≠ fa := ne_own put_same hfa
    have hfa0 : μ fa = none := by
      rw [put_ne (fun e => nbf e.symm)] at hfa
      exact hfa
    refine dss_cons (ds_setLc (own := [("_law_turn", 4)]) (.nm 4) 3 rfl sc.nd rfl rfl (sw_true rfl rfl rfl (by decide +kernel)) (blkOk_by (N := N_law_tour) (sc := defScope s_law_tour) (by decide +kernel)) (by decide) (fun _ _ _ _ _ => pg_name (i := 4) sc.nd rfl (.inl rfl)) (di_range1 B rfl (de_int ⟨_, rfl, by decide, by decide, ?_⟩)))
    refine lc_ints (b := b) (q := q) (fun x => 0 ≤ x ∧ x < (n : Int)) ((put_ne nbf).trans put_same) (by decide) (fun _ => trivial) (fun few p2 t2 hfl hfm => ⟨_, rfl, ?_⟩) fun i o ho => ⟨_, rfl, fun μ' p t hb' s1 H1 C1 cl1 fp1 => ?_⟩
    rotate_left
    · exact de_call F_law_take (hr.mono (by decide)) rfl (fun _ _ _ _ _ _ us hl => match us, hl with | [_, _], _ => rfl) (da_cons (de_v 0 rfl (da_cons (de_v 1 rfl (da_nil ⟨b, _, p, q, t, rfl, hb', by omega, by omega, fun r p1 t1 r0 r1 => ⟨r, p1, t1, rfl, ⟨r0, r1⟩, rfl⟩⟩)))))
    have hfl : few.length = 3 := hfl
    generalize hμ1 : Mu.put (Mu.put (Mu.put μ b (bx p1 q t1)) fa []) b (bx p2 q t2) = μ1
    have hb1 : μ1 b = some (bx p2 q t2) := by
      rw [← hμ1]
      exact put_same
    have hf1 : μ1 fa = some [] := by
      rw [← hμ1, put_ne nbf.symm]
      exact put_same
    have hx1 : ∀ a l, a ≠ b → μ a = some l → μ1 a = some l := fun a l ha e => by
      rw [← hμ1, put_ne ha, put_ne (ne_own e hfa0), put_ne ha]
      exact e
    refine dss_cons (ds_for (.nm 4) PassesOwn.never rfl (pg_name (i := 4) sc.nd rfl (.inl rfl)) (di_range1 B rfl (de_call F_law_take (hr.mono (by decide)) rfl (fun _ _ _ _ _ _ us hl => match us, hl with | [_, _], _ => rfl) (da_cons (de_var 0 rfl (.inr (.inl rfl)) rfl (da_cons (de_add (de_var 2 rfl (.inl rfl) rfl (de_int (.inl ⟨_, _, rfl, rfl, da_nil ⟨b, _, p2, q, t2, rfl, hb1, by omega, by omega, fun r p3 t3 r0 r1 => ⟨_, rfl, by omega, by omega, ?_⟩⟩⟩))))))))))
    refine ⟨fun i ρ' μ' => ∃ cs p t x, ρ' = [some (.own b), some (.im (.int n)), some (.im (.int m)), some (.im (.list (iL few))), x, some (.im (.int way)), some (.own fa)] ∧ μ' b = some (bx p q t) ∧ μ' fa = some ((iL cs).map OV.im) ∧ (∀ a l, a ≠ b → μ a = some l → μ' a = some l) ∧ cs.length = i ∧ InR n cs,
      ⟨[], p3, t3, none, rfl, put_same, ?_, fun a l ha e => ?_, rfl, fun _ h => absurd h List.not_mem_nil⟩, fun _ _ _ _ => trivial, fun i z ρ' μ' hz hP => ?_, fun ρ' μ' hP => ?_⟩
    · rw [put_ne nbf.symm]
      exact hf1
    · rw [put_ne ha]
      exact hx1 a l ha e
    · obtain ⟨cs, p4, t4, x, rfl, h1, h2, h3, h4, h5⟩ := hP
      have hi := (List.getElem?_eq_some_iff.mp hz).1
      simp at hi
      refine ⟨_, rfl, ?_⟩
      refine dss_one (ds_expr (de_append (de_var 6 rfl (.inl rfl) rfl ⟨_, _, rfl, h2, DE.imp (Φ := fun y μ2 => ∃ c p2 t2, y = .im (.int c) ∧ (0 ≤ c ∧ c < (n : Int)) ∧ μ2 = μ'.put b (bx p2 q t2)) (de_ifExp (dt_eq hr.room (de_var 5 rfl (.inl rfl) rfl (de_int (.inl ⟨_, _, rfl, rfl, ⟨_, rfl, ?_⟩⟩))))) fun y μ2 hy => ?_⟩)))
      · refine ite2 (fun hc => ?_) fun hc => ?_
        · refine de_call F_law_of (hr.mono (by decide)) rfl (fun _ _ _ _ _ _ us hl => match us, hl with | [_, _], _ => rfl) (da_cons (de_var 0 rfl (.inr (.inl rfl)) rfl (da_cons (de_var 3 rfl (.inl rfl) rfl (da_nil ⟨b, iL few, p4, q, t4, rfl, h1, fun e => ?_, ?_, fun d p5 t5 hd => ?_⟩)))))
          · have := congrArg List.length e
            simp [iL, hfl] at this
          · simp [iL, hfl]
          · obtain ⟨c, hc, rfl⟩ := List.mem_map.mp hd
            exact ⟨c, p5, t5, rfl, hfm c hc, rfl⟩
        · exact de_call F_law_take (hr.mono (by decide)) rfl (fun _ _ _ _ _ _ us hl => match us, hl with | [_, _], _ => rfl) (da_cons (de_var 0 rfl (.inr (.inl rfl)) rfl (da_cons (de_var 1 rfl (.inr (.inl rfl)) rfl (da_nil ⟨b, _, p4, q, t4, rfl, h1, by omega, by omega, fun r p1 t1 r0 r1 => ⟨r, p1, t1, rfl, ⟨r0, r1⟩, rfl⟩⟩)))))
      · obtain ⟨c, p5, t5, rfl, hc, rfl⟩ := hy
        refine ⟨_, (put_ne nbf.symm).trans h2, ?_, cs ++ [c], p5, t5, _, rfl, ?_, ?_, fun a l ha e => ?_, ?_, fun x hx => ?_⟩
        · simp
          omega
        · rw [put_ne nbf]
          exact put_same
        · rw [put_same]
          simp [iL]
        · rw [put_ne (ne_own e hfa0), put_ne ha]
          exact h3 a l ha e
        · rw [List.length_append, h4]
          rfl
        · rcases List.mem_append.mp hx with h | h
          · exact h5 x h
          · rw [List.mem_singleton.mp h]
            exact hc
    · obtain ⟨cs, p4, t4, x, rfl, h1, h2, h3, h4, h5⟩ := hP
      have hlen : cs.length ≤ m := by
        simp at h4
        omega
      refine dss_frz (i := 6) rfl h2 (dss_drop (μ' := μ.put b (bx p4 q t4)) (fun a l e => ?_) ?_)
      · show (if a = fa then none else μ' a) = some l
        by_cases ha : a = b
        · subst ha
          rw [put_same] at e
          cases e
          rw [if_neg nbf]
          exact h1
        · rw [put_ne ha] at e
          rw [if_neg (ne_own e hfa0)]
          exact h3 a l ha e
      · refine dss_one (ds_ret (de_ix (fun _ _ => rfl) (de_lst (da_cons (de_var 6 rfl (.inl rfl) rfl (da_cons (de_var 6 rfl (.inl rfl) rfl (da_cons (de_var 6 rfl (.inl rfl) rfl (da_cons (de_sorted B rfl (de_var 6 rfl (.inl rfl) rfl ⟨cs, .im _, da_cons (de_rev (de_sorted B rfl (de_var 6 rfl (.inl rfl) rfl ⟨cs, .im _, ⟨_, rfl, da_nil ⟨[_,_,_,_,_], rfl, lz rfl, de_var 5 rfl (.inl rfl) rfl ?_⟩⟩⟩)))⟩))))))))))))
        have q1 := k cs p4 t4 h5 hlen
        have q2 := k (srt cs) p4 t4 (fun x hx => h5 x (srt_mem.mp hx)) (by rw [srt_len]; exact hlen)
        have q3 := k (srt cs).reverse p4 t4 (fun x hx => h5 x (srt_mem.mp (List.mem_reverse.mp hx))) (by rw [List.length_reverse, srt_len]; exact hlen)
        have e3 : iL (srt cs).reverse = (iL (srt cs)).reverse := by simp [iL]
        rw [e3] at q3
        have hw : way = 0 ∨ way = 1 ∨ way = 2 ∨ way = 3 ∨ way = 4 := by omega
        rcases hw with rfl | rfl | rfl | rfl | rfl
        · exact ⟨_, _, _, .lst _, rfl, rfl, q1⟩
        · exact ⟨_, _, _, .lst _, rfl, rfl, q1⟩
        · exact ⟨_, _, _, .lst _, rfl, rfl, q1⟩
        · exact ⟨_, _, _, .lst _, rfl, rfl, q2⟩
        · exact ⟨_, _, _, .lst _, rfl, rfl, q3⟩

/-! ### unrolled places -/
theorem dst_mod {n c s : Int} : dst n c (s % n) = dst n c s := by
  unfold dst
  rw [Int.sub_emod, Int.emod_emod_of_dvd _ (Int.dvd_refl n), ← Int.sub_emod]
theorem Near.mod {n c : Int} {us : List Int} {k : Nat} {s : Int} (h : Near n c us k s) : Near n c (us.map (· % n)) k (s % n) := by
  refine ⟨?_, fun j s' hj => ?_, fun j s' hjk hj => ?_⟩
  · rw [List.getElem?_map, h.at_]
    rfl
  · rw [List.getElem?_map] at hj
    obtain ⟨u, hu, rfl⟩ := Option.map_eq_some_iff.mp hj
    rw [dst_mod, dst_mod]
    exact h.le j u hu
  · rw [List.getElem?_map] at hj
    obtain ⟨u, hu, rfl⟩ := Option.map_eq_some_iff.mp hj
    rw [dst_mod, dst_mod]
    exact h.lt j u hjk hu
theorem push_mod {n : Nat} {c : Int} {us : List Int} (hne : us ≠ []) (n0 : 0 < n) (hc : 0 ≤ c ∧ c < n) : (pushL n us c).map (· % (n : Int)) = callL n c (us.map (· % (n : Int))) := by
  obtain ⟨k, t, nr⟩ := near_ex (n := (n : Int)) (c := c) hne
  rw [push_near n0 nr, List.map_set, dst_sub hc]
  unfold callL
  rw [nr.mod.mover, dst_mod]
  by_cases h0 : dst n c t = 0
  · rw [if_pos h0]
    have h1 := dst_sub (n := (n : Int)) (s := t) hc
    rw [h0, Int.sub_zero] at h1
    show (us.map (· % (n : Int))).set k c = us.map (· % (n : Int))
    conv => lhs; rw [← h1]
    exact set_same nr.mod.at_
  · rw [if_neg h0]
def pushS (n : Nat) (us cs : List Int) : List Int := cs.foldl (fun s c => pushL n s c) us
theorem pushL_len {n : Nat} {c : Int} {us : List Int} (hne : us ≠ []) (n0 : 0 < n) : (pushL n us c).length = us.length := by
  obtain ⟨k, t, nr⟩ := near_ex (n := (n : Int)) (c := c) hne
  rw [push_near n0 nr, List.length_set]
theorem ne_of_len {a b : List Int} (h : a.length = b.length) (hb : b ≠ []) : a ≠ [] := fun e => by
  rw [e] at h
  exact hb (List.length_eq_zero_iff.mp h.symm)
theorem pushS_succ {n : Nat} {us cs : List Int} {j : Nat} {c : Int} (h : cs[j]? = some c) : pushS n us (cs.take (j + 1)) = pushL n (pushS n us (cs.take j)) c := by
  unfold pushS
  rw [List.take_add_one, h, List.foldl_append]
  rfl
theorem pushS_len {n : Nat} (n0 : 0 < n) : ∀ (cs : List Int) {us : List Int}, us ≠ [] → (pushS n us cs).length = us.length
  | [], _, _ => rfl
  | c :: cs, us, h => by
    have e := pushL_len (c := c) h n0
    show (pushS n (pushL n us c) cs).length = _
    rw [pushS_len n0 cs (ne_of_len e h), e]
theorem pushS_mod {n : Nat} (n0 : 0 < n) : ∀ (cs : List Int) {us : List Int}, us ≠ [] → (∀ c ∈ cs, 0 ≤ c ∧ c < (n : Int)) → (pushS n us cs).map (· % (n : Int)) = runS n (us.map (· % (n : Int))) cs
  | [], _, _, _ => rfl
  | c :: cs, us, h, hc => by
    have e := pushL_len (c := c) h n0
    show (pushS n (pushL n us c) cs).map _ = runS n (callL n c (us.map (· % (n : Int)))) cs
    rw [pushS_mod n0 cs (ne_of_len e h) fun x hx => hc x (List.mem_cons_of_mem _ hx), push_mod h n0 (hc c (List.mem_cons_self ..))]
/-- one push: nobody goes forward, and nobody a whole round -/
theorem push_step {n : Nat} {c : Int} {us : List Int} {i : Nat} {x : Int} (hne : us ≠ []) (n0 : 0 < n) (h : us[i]? = some x) : ∃ y, (pushL n us c)[i]? = some y ∧ 0 ≤ x - y ∧ x - y < n := by
  obtain ⟨k, t, nr⟩ := near_ex (n := (n : Int)) (c := c) hne
  rw [push_near n0 nr]
  have hd := dst_lt (n := (n : Int)) (c := c) (s := t) (by omega)
  by_cases hk : k = i
  · subst hk
    have e := nr.at_.symm.trans h
    cases e
    exact ⟨_, List.getElem?_set_self (List.getElem?_eq_some_iff.mp h).1, by omega, by omega⟩
  · exact ⟨x, by rw [List.getElem?_set_ne hk, h], by omega, by omega⟩
theorem mod_dif {n x y : Int} (h : 0 ≤ x - y ∧ x - y < n) : (x % n - y % n) % n = x - y := by
  rw [← Int.sub_emod]
  exact Int.emod_eq_of_lt h.1 h.2
def difL (a b : List Int) : List Int := (a.zip b).map fun q => q.1 - q.2
theorem difL_get {a b : List Int} {i : Nat} {x y : Int} (h1 : a[i]? = some x) (h2 : b[i]? = some y) : (difL a b)[i]? = some (x - y) := by
  unfold difL
  rw [List.getElem?_map, List.getElem?_zip_eq_some (z := (x, y)) |>.mpr ⟨h1, h2⟩]
  rfl
theorem difL_len {a b : List Int} (h : a.length = b.length) : (difL a b).length = a.length := by
  simp [difL]
  omega
theorem stT_dif {n : Nat} {ss cs : List Int} (n0 : 0 < n) (hne : ss ≠ []) (hb : ∀ x ∈ ss, 0 ≤ x ∧ x < (n : Int)) (hc : ∀ c ∈ cs, 0 ≤ c ∧ c < (n : Int)) : ∀ j, j ≤ cs.length → stT n ss cs j = difL ss (pushS n ss (cs.take j))
  | 0, _ => by
    refine List.ext_getElem? fun i => ?_
    show (ss.map fun _ => (0 : Int))[i]? = (difL ss ss)[i]?
    cases h : ss[i]? with
    | none =>
      rw [List.getElem?_map, h]
      have : ss.length ≤ i := List.getElem?_eq_none_iff.mp h
      rw [List.getElem?_eq_none (by rw [difL_len rfl]; exact this)]
      rfl
    | some x =>
      rw [List.getElem?_map, h, difL_get h h, Int.sub_self]
      rfl
  | j + 1, hj => by
    obtain ⟨c, hcj⟩ : ∃ c, cs[j]? = some c := ⟨_, List.getElem?_eq_getElem (by omega)⟩
    have ih := stT_dif n0 hne hb hc j (by omega)
    have lj := pushS_len n0 (cs.take j) hne
    have lj1 := pushS_len n0 (cs.take (j + 1)) hne
    have hmem : ∀ i : Nat, ∀ c ∈ cs.take i, 0 ≤ c ∧ c < (n : Int) := fun i c h => hc c (List.mem_of_mem_take h)
    have r0 := pushS_mod n0 (cs.take j) hne (hmem j)
    have r1 := pushS_mod n0 (cs.take (j + 1)) hne (hmem (j + 1))
    rw [mod_self_of hb] at r0 r1
    rw [stT_succ, ih]
    refine List.ext_getElem? fun i => ?_
    cases h : ss[i]? with
    | none =>
      have : ss.length ≤ i := List.getElem?_eq_none_iff.mp h
      rw [List.getElem?_eq_none, List.getElem?_eq_none]
      · rw [difL_len lj1.symm]
        exact this
      · rw [zipStep_len (by rw [difL_len lj.symm, runS_len]) (by rw [runS_len, runS_len]), difL_len lj.symm]
        exact this
    | some x =>
      have hi := (List.getElem?_eq_some_iff.mp h).1
      obtain ⟨u, hu⟩ : ∃ u, (pushS n ss (cs.take j))[i]? = some u := ⟨_, List.getElem?_eq_getElem (by rw [lj]; exact hi)⟩
      obtain ⟨y, hy, h1, h2⟩ := push_step (c := c) (ne_of_len lj hne) n0 hu
      rw [← pushS_succ hcj] at hy
      have a0 : (runS n ss (cs.take j))[i]? = some (u % (n : Int)) := by
        rw [← r0, List.getElem?_map, hu]
        rfl
      have a1 : (runS n ss (cs.take (j + 1)))[i]? = some (y % (n : Int)) := by
        rw [← r1, List.getElem?_map, hy]
        rfl
      rw [zipStep_get (difL_get h hu) a0 a1, difL_get h hy, mod_dif ⟨h1, h2⟩]
      congr 1
      omega
theorem callL_eq {n : Nat} {c : Int} {ss : List Int} (hb : ∀ x ∈ ss, 0 ≤ x ∧ x < (n : Int)) (hne : ss ≠ []) (n0 : 0 < n) (hc : 0 ≤ c ∧ c < (n : Int)) : ss = callL n c ss ↔ c ∈ ss := by
  have hm := mem_of_dst (c := c) hb hne n0 hc
  constructor
  · intro h
    cases hv : moverL n c ss with
    | none => exact hm.mp hv
    | some k =>
      have hk := mover_lt hne hv
      have e : callL n c ss = ss.set k c := by
        unfold callL
        rw [hv]
      rw [e] at h
      have : ss[k]? = some c := by
        conv => lhs; rw [h]
        exact List.getElem?_set_self hk
      exact List.mem_of_getElem? this
  · intro h
    unfold callL
    rw [hm.mpr h]
theorem runS_mem {n : Nat} {ss cs : List Int} (hb : ∀ x ∈ ss, 0 ≤ x ∧ x < (n : Int)) (hc : ∀ c ∈ cs, 0 ≤ c ∧ c < (n : Int)) : ∀ x ∈ runS n ss cs, 0 ≤ x ∧ x < (n : Int) := by
  induction cs generalizing ss with
  | nil => exact hb
  | cons c cs ih => exact ih (callL_mem hb (hc c (List.mem_cons_self ..))) fun x hx => hc x (List.mem_cons_of_mem _ hx)
theorem runS_ne {n : Int} {ss cs : List Int} (h : ss ≠ []) : runS n ss cs ≠ [] := ne_of_len (runS_len n cs ss) h
def idleT (n : Int) (ss cs : List Int) (k : Nat) : List PyData := ((List.range k).map fun j => if runS n ss (cs.take j) = runS n ss (cs.take (j + 1)) then some (PyData.int (j : Int)) else none).filterMap id
theorem idleT_succ {n : Int} {ss cs : List Int} {j : Nat} : idleT n ss cs (j + 1) = idleT n ss cs j ++ if runS n ss (cs.take j) = runS n ss (cs.take (j + 1)) then [PyData.int (j : Int)] else [] := by
  unfold idleT
  rw [List.range_succ, List.map_append, List.filterMap_append]
  congr 1
  by_cases h : runS n ss (cs.take j) = runS n ss (cs.take (j + 1))
  · simp [h]
  · simp [h]
theorem idleT_len {n : Int} {ss cs : List Int} : ∀ j, (idleT n ss cs j).length ≤ j
  | 0 => Nat.le_refl _
  | j + 1 => by
    rw [idleT_succ, List.length_append]
    have := idleT_len (n := n) (ss := ss) (cs := cs) j
    split <;> simp <;> omega

theorem AL_last {n : Int} {ss cs : List Int} : AL n ss cs = ((List.range cs.length).map fun j => runS n ss (cs.take j)) ++ [runS n ss cs] := by
  unfold AL
  rw [List.range_succ, List.map_append]
  simp
abbrev N_law_due : List Str := ["_law_span_here", "_law_crowd_here", "_law_tour_here", "_law_along", "_law_idle", "_law_spots", "_law_spot", "_law_mark", "_law_one", "_law_other"]
theorem sc_law_due : FnScope N_law_due ["_law_span_here", "_law_crowd_here", "_law_tour_here"] (defScope s_law_due) := ⟨rfl, rfl, rfl, by decide +kernel, rfl, by decide +kernel, by decide +kernel⟩
def dueD (n : Nat) (ss cs : List Int) : PyData := .list [.list (tabs (AL n ss cs)), .list (idleL n ss cs), .list (iL (stepsL n ss cs)), .list (iL (runS n ss cs))]
structure Sc (n : Nat) (ss cs : List Int) : Prop where
  tb : Tbl n ss
  ne : ss ≠ []
  n0 : 0 < n
  n1 : n ≤ 1000
  sz : ss.length ≤ 1000
  cz : cs.length ≤ 1000
  cr : InR n cs
def c_law_due : Ct := fun os μ Φ => ∃ n ss cs, os = [.im (.int (n : Nat)), .im (.tuple (iL ss)), .im (.list (iL cs))] ∧ Sc n ss cs ∧ Φ (.im (dueD n ss cs)) μ
theorem f_law_due (B : Bt mg) (F_law_pushed : Fc P w K mg base "_law_pushed" s_law_pushed ["_law_span_here", "_law_spots", "_law_mark"] 1 c_law_pushed) (F_law_table : Fc P w K mg base "_law_table" s_law_table ["_law_span_here", "_law_spots"] 1 c_law_table) {f : Addr} {fd : FuncData} (F : Fun K "_law_due" "_law_due" s_law_due f fd) (hm : mg "_law_due" = some (.ref f)) : Fc P w K mg base "_law_due" s_law_due ["_law_span_here", "_law_crowd_here", "_law_tour_here"] 2 c_law_due := by
  have sc := sc_law_due
  refine fc_of F hm sc (fun os μ Φ h => ?_) fun cdv A outer s H E os μ Φ hr h => ?_
  · obtain ⟨n, ss, cs, rfl, _⟩ := h
    rfl
  · obtain ⟨n, ss, cs, rfl, a, q⟩ := h
    have n0 := a.n0
    have n1 := a.n1
    have hsz := a.sz
    have hcz := a.cz
    refine dss_cons (ds_par3 3 4 5 rfl sc.nd rfl rfl rfl (by decide) (by decide) (by decide) rfl rfl rfl rfl (da_cons (de_lstO (da_cons (de_var 1 rfl (.inl rfl) rfl (da_nil ⟨lz rfl, fun pa hpa => da_cons (de_lst (da_nil ⟨[], rfl, lz rfl, da_cons (de_list B rfl (de_var 1 rfl (.inl rfl) rfl ⟨_, .tup _, da_nil ⟨_, _, _, rfl, ?_⟩⟩))⟩))⟩))))))
    refine dss_cons (ds_for (.tp [6, 7]) PassesOwn.never rfl (pg_tup rfl (pgs_cons (pg_name (i := 6) sc.nd rfl (.inl rfl)) (pgs_cons (pg_name (i := 7) sc.nd rfl (.inl rfl)) pgs_nil))) (di_en B rfl (de_var 2 rfl (.inl rfl) rfl ⟨_, .lst, ?_⟩)))
    refine ⟨fun i ρ' μ' => ∃ x y, ρ' = [some (.im (.int n)), some (.im (.tuple (iL ss))), some (.im (.list (iL cs))), some (.own pa), some (.im (.list (idleT n ss cs i))), some (.im (.list (iL (pushS n ss (cs.take i))))), x, y, none, none] ∧ μ' = μ.put pa ((tabs (AL n ss (cs.take i))).map .im), ⟨none, none, rfl, ?_⟩, fun _ _ _ _ => trivial, fun i z ρ' μ' hz hP => ?_, fun ρ' μ' hP => ?_⟩
    · show _ = μ.put pa [.im (.tuple (iL (srt ss)))]
      rw [a.tb.srt]
    · obtain ⟨x, y, rfl, rfl⟩ := hP
      obtain ⟨d, hd, rfl⟩ := prs_at hz
      obtain ⟨c, hc, rfl⟩ := iL_get hd
      have hi := (List.getElem?_eq_some_iff.mp hc).1
      have hcr := a.cr c (List.mem_of_getElem? hc)
      have htk : ∀ c ∈ cs.take i, 0 ≤ c ∧ c < (n : Int) := fun c h => a.cr c (List.mem_of_mem_take h)
      have hlast : atI ((tabs (AL n ss (cs.take i))).map OV.im) (-1) = some (.im (.tuple (iL (srt (runS n ss (cs.take i)))))) := by
        rw [AL_last]
        unfold tabs
        rw [List.map_append, List.map_append]
        exact atI_last _ _
      have hil := idleT_len (n := n) (ss := ss) (cs := cs) i
      have hpl := pushS_len n0 (cs.take i) a.ne
      have hmem := callL_eq (c := c) (runS_mem a.tb.mem htk) (runS_ne a.ne) n0 hcr
      rw [← runS_succ hc] at hmem
      refine ⟨_, rfl, ?_⟩
      refine dss_cons (ds_set 4 sc.nd rfl (.inl rfl) (de_add (de_var 4 rfl (.inl rfl) rfl (de_mulL (de_lst (da_cons (de_var 6 rfl (.inl rfl) rfl (da_nil ⟨[_], rfl, lz rfl, de_int1 B rfl (de_in rfl (de_var 7 rfl (.inl rfl) rfl (de_ix (fun _ _ => rfl) (de_var 3 rfl (.inl rfl) rfl (de_neg (de_int ⟨_, rfl, ⟨_, _, _, .own put_same, rfl, hlast, ⟨_, srt (runS n ss (cs.take i)), rfl, .inr (.im _), .inr ⟨_, rfl, ⟨_, _, rfl, rfl, ?_, ?_, ?_, .inr (.inl ⟨_, _, rfl, rfl, ?_, ?_⟩)⟩⟩⟩⟩⟩))))))⟩))))))))
      · split <;> decide
      · split <;> decide
      · split <;> simp
      · split <;> simp <;> omega
      have eidl : idleT n ss cs i ++ (List.replicate (Int.toNat (if id (decide (c ∈ srt (runS n ss (cs.take i)))) = true then 1 else 0)) [PyData.int (i : Int)]).flatten = idleT n ss cs (i + 1) := by
        rw [idleT_succ]
        congr 1
        by_cases h : c ∈ runS n ss (cs.take i)
        · rw [if_pos (hmem.mpr h), if_pos (by simpa using srt_mem.mpr h)]
          rfl
        · rw [if_neg (fun e => h (hmem.mp e)), if_neg (by simpa using fun e => h (srt_mem.mp e))]
          rfl
      rw [eidl]
      refine dss_cons (ds_set 5 sc.nd rfl (.inl rfl) (de_call F_law_pushed (hr.mono (by decide)) rfl (fun _ _ _ _ _ _ us hl => match us, hl with | [_, _, _], _ => rfl) (da_cons (de_var 0 rfl (.inr (.inl rfl)) rfl (da_cons (de_var 5 rfl (.inl rfl) rfl (da_cons (de_var 7 rfl (.inl rfl) rfl (da_nil ⟨n, pushS n ss (cs.take i), c, rfl, n0, n1, by omega, ?_⟩)))))))))
      rw [← pushS_succ hc]
      have hpl1 := pushS_len n0 (cs.take (i + 1)) a.ne
      refine dss_one (ds_expr (de_append (de_var 3 rfl (.inl rfl) rfl ⟨_, _, rfl, put_same, de_call F_law_table (hr.mono (by decide)) rfl (fun _ _ _ _ _ _ us hl => match us, hl with | [_, _], _ => rfl) (da_cons (de_var 0 rfl (.inr (.inl rfl)) rfl (da_cons (de_var 5 rfl (.inl rfl) rfl (da_nil ⟨n, _, rfl, n0, by omega, ⟨_, put_same, ?_, ?_⟩⟩)))))⟩)))
      · simp [tabs, AL_len]
        omega
      · refine ⟨_, _, rfl, ?_⟩
        have htk1 : ∀ c ∈ cs.take (i + 1), 0 ≤ c ∧ c < (n : Int) := fun c h => a.cr c (List.mem_of_mem_take h)
        have e := pushS_mod n0 (cs.take (i + 1)) a.ne htk1
        rw [mod_self_of a.tb.mem] at e
        rw [put_put, AL_snoc hi]
        unfold tblOf tabs
        rw [e]
        simp
    · obtain ⟨x, y, rfl, rfl⟩ := hP
      simp only [List.length_map, prs, nums, List.length_zip, List.length_range, Nat.min_self, List.take_length]
      refine dss_frz (i := 3) rfl put_same ?_
      rw [del_put hpa]
      have hpl := pushS_len n0 cs a.ne
      refine dss_one (ds_ret (de_lst (da_cons (de_var 3 rfl (.inl rfl) rfl (da_cons (de_var 4 rfl (.inl rfl) rfl (da_cons (de_lc (own := [("_law_one", 8), ("_law_other", 9)]) (.tp [8, 9]) rfl sc.nd (blkOk_by (N := N_law_due) (sc := defScope s_law_due) (by decide +kernel)) (by decide) (fun _ _ _ _ _ => pg_tup rfl (pgs_cons (pg_name (i := 8) sc.nd rfl (.inl rfl)) (pgs_cons (pg_name (i := 9) sc.nd rfl (.inl rfl)) pgs_nil))) (di_zip2 B rfl (de_var 1 rfl (.inl rfl) rfl (de_var 5 rfl (.inl rfl) rfl ⟨_, _, .tup, .lst, ?_⟩)))))))))))
      refine lc_map (iL (difL ss (pushS n ss cs))) ?_ ?_ (fun _ _ => trivial) ⟨_, rfl, ?_⟩ fun j z d hz hd => ?_
      · simp [prs, difL]
      · simp [prs]
        omega
      · refine da_cons (de_lc (own := [("_law_spot", 6)]) (.nm 6) rfl sc.nd (blkOk_by (N := N_law_due) (sc := defScope s_law_due) (by decide +kernel)) (by decide) (fun _ _ _ _ _ => pg_name (i := 6) sc.nd rfl (.inl rfl)) (di_list (de_var 5 rfl (.inl rfl) rfl ⟨_, rfl, ?_⟩)))
        have e := pushS_mod n0 cs a.ne a.cr
        rw [mod_self_of a.tb.mem] at e
        refine lc_map (iL (runS n ss cs)) ?_ ?_ (fun _ _ => trivial) ⟨_, rfl, da_nil ⟨[_, _, _, _], rfl, lz rfl, ?_⟩⟩ fun j z d hz hd => ?_
        · simp [runS_len, hpl]
        · simp [hpl]
          omega
        · have e1 := stT_dif n0 a.ne a.tb.mem a.cr cs.length (Nat.le_refl _)
          rw [List.take_length] at e1
          unfold dueD at q
          rw [show stepsL n ss cs = stT n ss cs cs.length from rfl, e1, show idleL n ss cs = idleT n ss cs cs.length from rfl] at q
          simpa using q
        · obtain ⟨u, hu, rfl⟩ := imL_get hz
          obtain ⟨v, hv, rfl⟩ := iL_get hd
          rw [← e, List.getElem?_map, hu] at hv
          cases hv
          refine ⟨_, rfl, fun μ' _ s1 H1 C1 cl1 fp1 => ?_⟩
          exact de_mod (de_v 6 rfl (de_v 0 rfl ⟨_, _, rfl, rfl, by omega, ⟨rfl, rfl⟩⟩))
      · obtain ⟨d1, d2, h1, h2, rfl⟩ := prs_get2 hz
        obtain ⟨x1, hx1, rfl⟩ := iL_get h1
        obtain ⟨x2, hx2, rfl⟩ := iL_get h2
        obtain ⟨v, hv, rfl⟩ := iL_get hd
        rw [difL_get hx1 hx2] at hv
        cases hv
        refine ⟨_, rfl, fun μ' _ s1 H1 C1 cl1 fp1 => ?_⟩
        exact de_sub (de_v 8 rfl (de_v 9 rfl ⟨_, _, rfl, rfl, ⟨rfl, rfl⟩⟩))

theorem st_bound {n : Nat} {ss cs : List Int} (n0 : 0 < n) (n1 : n ≤ 1000) : ∀ j, ∀ x ∈ stT n ss cs j, 0 ≤ x ∧ x ≤ 1000 * (j : Int)
  | 0, x, hx => by
    obtain ⟨y, _, rfl⟩ := List.mem_map.mp hx
    omega
  | j + 1, x, hx => by
    rw [stT_succ] at hx
    obtain ⟨q, hq, rfl⟩ := List.mem_map.mp hx
    have h1 := st_bound n0 n1 j q.1 (List.of_mem_zip hq).1
    have h2 := Int.emod_nonneg (q.2.1 - q.2.2) (show (n : Int) ≠ 0 by omega)
    have h3 := Int.emod_lt_of_pos (q.2.1 - q.2.2) (show (0 : Int) < n by omega)
    omega
theorem idleT_mem {n : Int} {ss cs : List Int} {k : Nat} : ∀ d ∈ idleT n ss cs k, ∃ j : Nat, j < k ∧ d = .int (j : Int) := by
  intro d hd
  obtain ⟨o, ho, e⟩ := List.mem_filterMap.mp hd
  obtain ⟨j, hj, rfl⟩ := List.mem_map.mp ho
  refine ⟨j, List.mem_range.mp hj, ?_⟩
  have e : (if runS n ss (cs.take j) = runS n ss (cs.take (j + 1)) then some (PyData.int (j : Int)) else none) = some d := e
  split at e
  · exact (Option.some.inj e).symm
  · cases e
theorem small_of {x : Int} (h : 0 ≤ x ∧ x ≤ 1000000) : x.natAbs < 10 ^ 60 := Nat.lt_of_lt_of_le (show x.natAbs < 1000001 by omega) (by decide)
structure Scl (n : Nat) (ss cs : List Int) : Prop extends Sc n ss cs where
  s1 : ss.length ≤ 100
  c1 : cs.length ≤ 200
theorem sd_ints {xs : List Int} {m : Nat} (h : ∀ x ∈ xs, 0 ≤ x ∧ x ≤ 1000000) (hl : xs.length ≤ m) : SdA 0 (63 * m) (iL xs) := (SdA.ints fun i hi => small_of (h i hi)).mono (Nat.le_refl _) (by omega)
theorem sd_seat {n : Nat} {ss : List Int} (h : ∀ x ∈ ss, 0 ≤ x ∧ x < (n : Int)) (n1 : n ≤ 1000) (hl : ss.length ≤ 100) : SdA 0 6300 (iL ss) := sd_ints (m := 100) (fun x hx => by have := h x hx; omega) hl
theorem sd_due {n : Nat} {ss cs : List Int} (a : Scl n ss cs) : Sd 3 1400000 (dueD n ss cs) := by
  have s1 := a.s1
  have c1 := a.c1
  have n0 := a.n0
  have n1 := a.n1
  have h1 : Sd 2 1280000 (.list (tabs (AL n ss cs))) := by
    refine (Sd.list (SdA.all (k := 1) (w := 6303) fun d hd => ?_)).mono (by decide) ?_
    · obtain ⟨l, hl, rfl⟩ := List.mem_map.mp hd
      obtain ⟨j, hj, rfl⟩ := List.mem_map.mp hl
      have hm := runS_mem (cs := cs.take j) a.tb.mem fun c h => a.cr c (List.mem_of_mem_take h)
      exact Sd.tuple (sd_seat (n := n) (fun x hx => hm x (srt_mem.mp hx)) n1 (by rw [srt_len, runS_len]; omega))
    · simp [tabs, AL_len]
      omega
  have h2 : Sd 1 12602 (.list (idleL n ss cs)) := by
    refine (Sd.list (SdA.all (k := 0) (w := 61) fun d hd => ?_)).mono (by decide) ?_
    · obtain ⟨j, hj, rfl⟩ := idleT_mem d hd
      exact Sd.int (small_of (by omega))
    · have := idleT_len (n := n) (ss := ss) (cs := cs) cs.length
      have : (idleL n ss cs).length ≤ cs.length := this
      omega
  have h3 : Sd 1 6302 (.list (iL (stepsL n ss cs))) := by
    refine Sd.list (sd_ints (m := 100) (fun x hx => ?_) ?_)
    · have := st_bound (n := n) (ss := ss) (cs := cs) n0 n1 cs.length x hx
      omega
    · have : (stepsL n ss cs).length = ss.length := stT_len n ss cs cs.length
      omega
  have h4 : Sd 1 6302 (.list (iL (runS n ss cs))) := Sd.list (sd_seat (n := n) (runS_mem a.tb.mem a.cr) n1 (by rw [runS_len]; exact s1))
  exact (Sd.list (SdA.cons h1 (SdA.cons h2 (SdA.cons h3 (SdA.cons h4 SdA.nil))))).mono (by decide) (by decide)
theorem shw_due {n : Nat} {ss cs : List Int} (a : Scl n ss cs) : Shw (dueD n ss cs) := (sd_due a).shw rfl (by decide) (by decide)
theorem shw_pair {n : Nat} {ss cs : List Int} (a : Scl n ss cs) : Shw (.list [.tuple (iL ss), .list (iL cs)]) := by
  have h1 := sd_seat a.tb.mem a.n1 a.s1
  have h2 : SdA 0 12600 (iL cs) := sd_ints (m := 200) (fun x hx => by have := a.cr x hx; have := a.n1; omega) a.c1
  exact (Sd.list (SdA.cons (Sd.tuple h1) (SdA.cons (Sd.list h2) SdA.nil))).shw rfl (by decide) (by decide)
theorem shw_tbl {n : Nat} {ss cs : List Int} (a : Scl n ss cs) : Shw (.tuple (iL (srt (runS n ss cs)))) := by
  have hm := runS_mem (cs := cs) a.tb.mem a.cr
  exact (Sd.tuple (sd_seat (n := n) (ss := srt (runS n ss cs)) (fun x hx => hm x (srt_mem.mp hx)) a.n1 (by rw [srt_len, runS_len]; exact a.s1))).shw rfl (by decide) (by decide)
theorem shw_steps {n : Nat} {ss cs : List Int} (a : Scl n ss cs) : Shw (.list (iL (stepsL n ss cs))) := by
  refine (Sd.list (sd_ints (m := 100) (fun x hx => ?_) ?_)).shw rfl (by decide) (by decide)
  · have := st_bound (n := n) (ss := ss) (cs := cs) a.n0 a.n1 cs.length x hx
    have := a.c1
    omega
  · have : (stepsL n ss cs).length = ss.length := stT_len n ss cs cs.length
    have := a.s1
    omega
theorem last_tab {n : Int} {ss cs : List Int} : atI ((tabs (AL n ss cs)).map OV.im) (-1) = some (.im (.tuple (iL (srt (runS n ss cs))))) := by
  rw [AL_last]
  unfold tabs
  rw [List.map_append, List.map_append]
  exact atI_last _ _

abbrev N_law_lists_right : List Str := ["_law_span_here", "_law_crowd_here", "_law_tour_here", "_law_turn", "_law_heard", "_law_longer", "_law_kept", "_law_due_here", "_law_part", "_law_soft", "_law_hard"]
theorem sc_law_lists_right : FnScope N_law_lists_right ["_law_span_here", "_law_crowd_here", "_law_tour_here"] (defScope s_law_lists_right) := ⟨rfl, rfl, rfl, by decide +kernel, rfl, by decide +kernel, by decide +kernel⟩
def c_law_lists_right : Ct := fun os μ Φ => ∃ n ss cs, os = [.im (.int (n : Nat)), .im (.tuple (iL ss)), .im (.list (iL cs))] ∧ Scl n ss cs ∧ Φ (.im (.bool true)) μ
theorem f_law_lists_right (B : Bt mg) (F_law_due : Fc P w K mg base "_law_due" s_law_due ["_law_span_here", "_law_crowd_here", "_law_tour_here"] 2 c_law_due) (F_tables_along : Fc P w K mg base "tables_along" s_tables_along ["size", "table", "calls"] 4 c_tables_along) (F_idle_calls : Fc P w K mg base "idle_calls" s_idle_calls ["size", "table", "calls"] 4 c_idle_calls) (F_law_same : Fc P w K mg base "_law_same" s_law_same ["_law_found", "_law_due_here"] 1 c_law_same) (F_steps : Fc P w K mg base "steps" s_steps ["size", "table", "calls"] 4 c_steps) (F_seats_after : Fc P w K mg base "seats_after" s_seats_after ["size", "table", "calls"] 4 c_seats_after) (F_table_after : Fc P w K mg base "table_after" s_table_after ["size", "table", "calls"] 5 c_table_after) {f : Addr} {fd : FuncData} (F : Fun K "_law_lists_right" "_law_lists_right" s_law_lists_right f fd) (hm : mg "_law_lists_right" = some (.ref f)) : Fc P w K mg base "_law_lists_right" s_law_lists_right ["_law_span_here", "_law_crowd_here", "_law_tour_here"] 6 c_law_lists_right := by
  have sc := sc_law_lists_right
  refine fc_of F hm sc (fun os μ Φ h => ?_) fun cdv A outer s H E os μ Φ hr h => ?_
  · obtain ⟨n, ss, cs, rfl, _⟩ := h
    rfl
  · obtain ⟨n, ss, cs, rfl, a, q⟩ := h
    have hpair := shw_pair a
    have hdue := shw_due a
    have htbl := shw_tbl a
    have hc1 := a.c1
    have hs1 := a.s1
    have ac : ∀ μ : Mu, ArgsC μ [.im (.int n), .im (.tuple (iL ss)), .im (.list (iL cs))] n ss cs := fun μ => ⟨⟨_, _, rfl, .tup, .lst _⟩, a.n0, a.ne, by omega, by omega⟩
    have ah : ∀ μ : Mu, ArgsC μ [.im (.int n), .im (.list (iL ss)), .im (.tuple (iL cs))] n ss cs := fun μ => ⟨⟨_, _, rfl, .lst, .tup _⟩, a.n0, a.ne, by omega, by omega⟩
    have due0 : atI ([PyData.list (tabs (AL n ss cs)), .list (idleL n ss cs), .list (iL (stepsL n ss cs)), .list (iL (runS n ss cs))].map OV.im) 0 = some (.im (.list (tabs (AL n ss cs)))) := rfl
    refine dss_cons (ds_par 6 7 rfl sc.nd rfl rfl (by decide) rfl rfl rfl (da_cons (de_repr B hr rfl (de_lst (da_cons (de_var 1 rfl (.inl rfl) rfl (da_cons (de_var 2 rfl (.inl rfl) rfl (da_nil ⟨[_,_], rfl, lz rfl, ⟨_, .im _, hpair, da_cons (de_call F_law_due (hr.mono (by decide)) rfl (fun _ _ _ _ _ _ us hl => match us, hl with | [_, _, _], _ => rfl) (da_cons (de_var 0 rfl (.inl rfl) rfl (da_cons (de_var 1 rfl (.inl rfl) rfl (da_cons (de_var 2 rfl (.inl rfl) rfl (da_nil ⟨n, ss, cs, rfl, a.toSc, da_nil ⟨_, _, rfl, ?_⟩⟩))))))))⟩⟩)))))))))
    refine dss_cons (ds_for (.nm 3) PassesOwn.never rfl (pg_name (i := 3) sc.nd rfl (.inl rfl)) (di_range1 B rfl (de_int ⟨_, rfl, by decide, by decide, ?_⟩)))
    refine ⟨fun i ρ' μ' => ∃ x3 x4 x8, ρ' = [some (.im (.int n)), some (.im (.tuple (iL ss))), some (.im (.list (iL cs))), x3, x4, none, some (.im (.str (PyData.list [.tuple (iL ss), .list (iL cs)]).shown)), some (.im (dueD n ss cs)), x8, none, none] ∧ Sub μ μ', ⟨none, none, none, rfl, Sub.refl _⟩, fun _ _ _ _ => trivial, fun i z ρ' μ' hz hP => ?_, fun ρ' μ' hP => ?_⟩
    · obtain ⟨x3, x4, x8, rfl, hs⟩ := hP
      refine ⟨_, rfl, dss_drop hs ?_⟩
      obtain ⟨hi, rfl⟩ := rg_get hz
      refine dss_cons (ds_set 4 sc.nd rfl (.inl rfl) (de_lstO (da_cons (de_call F_tables_along (hr.mono (by decide)) rfl (fun _ _ _ _ _ _ us hl => match us, hl with | [_, _, _], _ => rfl) (da_cons (de_var 0 rfl (.inl rfl) rfl (da_cons (de_var 1 rfl (.inl rfl) rfl (da_cons (de_var 2 rfl (.inl rfl) rfl (da_nil ⟨n, ss, cs, ac _, fun p1 hp1 => ?_⟩)))))))))))
      refine da_cons (de_call F_idle_calls (hr.mono (by decide)) rfl (fun _ _ _ _ _ _ us hl => match us, hl with | [_, _, _], _ => rfl) (da_cons (de_var 0 rfl (.inl rfl) rfl (da_cons (de_var 1 rfl (.inl rfl) rfl (da_cons (de_var 2 rfl (.inl rfl) rfl (da_nil ⟨n, ss, cs, ac _, fun p2 hp2 => ?_⟩))))))))
      refine da_cons (de_call F_steps (hr.mono (by decide)) rfl (fun _ _ _ _ _ _ us hl => match us, hl with | [_, _, _], _ => rfl) (da_cons (de_var 0 rfl (.inl rfl) rfl (da_cons (de_var 1 rfl (.inl rfl) rfl (da_cons (de_var 2 rfl (.inl rfl) rfl (da_nil ⟨n, ss, cs, ac _, fun p3 hp3 => da_nil ⟨lz rfl, fun ph hph => ?_⟩⟩))))))))
      refine dss_cons (ds_expr (de_append (de_var 4 rfl (.inl rfl) rfl ⟨_, _, rfl, put_same, de_call F_seats_after (hr.mono (by decide)) rfl (fun _ _ _ _ _ _ us hl => match us, hl with | [_, _, _], _ => rfl) (da_cons (de_var 0 rfl (.inl rfl) rfl (da_cons (de_var 1 rfl (.inl rfl) rfl (da_cons (de_var 2 rfl (.inl rfl) rfl (da_nil ⟨n, ss, cs, ac _, fun p4 hp4 => ?_⟩)))))))⟩)))
      have n12 : p1 ≠ p2 := ne_own put_same hp2
      have g1 : (Mu.put (Mu.put μ p1 ((tabs (AL n ss cs)).map OV.im)) p2 ((idleL n ss cs).map OV.im)) p1 = some ((tabs (AL n ss cs)).map OV.im) := (put_ne n12).trans put_same
      have n13 : p1 ≠ p3 := ne_own g1 hp3
      have n23 : p2 ≠ p3 := ne_own put_same hp3
      generalize hμ3 : Mu.put (Mu.put (Mu.put μ p1 ((tabs (AL n ss cs)).map OV.im)) p2 ((idleL n ss cs).map OV.im)) p3 ((iL (stepsL n ss cs)).map OV.im) = μ3 at hph hp4
      have k1 : μ3 p1 = some ((tabs (AL n ss cs)).map OV.im) := by rw [← hμ3, put_ne n13]; exact g1
      have k2 : μ3 p2 = some ((idleL n ss cs).map OV.im) := by rw [← hμ3, put_ne n23]; exact put_same
      have k3 : μ3 p3 = some ((iL (stepsL n ss cs)).map OV.im) := by rw [← hμ3]; exact put_same
      have ks : Sub μ μ3 := fun b l e => by
        have e2 := (put_ne (l := (tabs (AL n ss cs)).map OV.im) (ne_own e hp1)).trans e
        have e3 := (put_ne (l := (idleL n ss cs).map OV.im) (ne_own e2 hp2)).trans e2
        rw [← hμ3]
        exact (put_ne (ne_own e3 hp3)).trans e3
      have n1h := ne_own k1 hph
      have n2h := ne_own k2 hph
      have n3h := ne_own k3 hph
      have l1 : (Mu.put μ3 ph [.own p1, .own p2, .own p3]) p1 = some ((tabs (AL n ss cs)).map OV.im) := (put_ne n1h).trans k1
      have l2 : (Mu.put μ3 ph [.own p1, .own p2, .own p3]) p2 = some ((idleL n ss cs).map OV.im) := (put_ne n2h).trans k2
      have l3 : (Mu.put μ3 ph [.own p1, .own p2, .own p3]) p3 = some ((iL (stepsL n ss cs)).map OV.im) := (put_ne n3h).trans k3
      have n14 := ne_own l1 hp4
      have n24 := ne_own l2 hp4
      have n34 := ne_own l3 hp4
      have nh4 : ph ≠ p4 := ne_own put_same hp4
      have f1 := hp1
      have f2 : μ p2 = none := by
        cases z : μ p2 with
        | none => rfl
        | some l =>
          rw [put_ne (ne_own z hp1), z] at hp2
          cases hp2
      have f3 : μ p3 = none := by
        cases z : μ p3 with
        | none => rfl
        | some l =>
          have e2 := (put_ne (l := (tabs (AL n ss cs)).map OV.im) (ne_own z hp1)).trans z
          rw [put_ne (ne_own z f2), e2] at hp3
          cases hp3
      have fh : μ ph = none := by
        cases z : μ ph with
        | none => rfl
        | some l =>
          rw [ks _ _ z] at hph
          cases hph
      have f4 : μ p4 = none := by
        cases z : μ p4 with
        | none => rfl
        | some l =>
          rw [put_ne (ne_own z fh), ks _ _ z] at hp4
          cases hp4
      refine ⟨[.own p1, .own p2, .own p3], (put_ne nh4).trans put_same, ll rfl, ?_⟩
      generalize hμ5 : Mu.put (Mu.put (Mu.put μ3 ph [.own p1, .own p2, .own p3]) p4 ((iL (runS n ss cs)).map OV.im)) ph ([.own p1, .own p2, .own p3] ++ [.own p4]) = μ5
      have j1 : μ5 p1 = some ((tabs (AL n ss cs)).map OV.im) := by rw [← hμ5, put_ne n1h, put_ne n14]; exact l1
      have j2 : μ5 p2 = some ((idleL n ss cs).map OV.im) := by rw [← hμ5, put_ne n2h, put_ne n24]; exact l2
      have j3 : μ5 p3 = some ((iL (stepsL n ss cs)).map OV.im) := by rw [← hμ5, put_ne n3h, put_ne n34]; exact l3
      have j4 : μ5 p4 = some ((iL (runS n ss cs)).map OV.im) := by rw [← hμ5, put_ne nh4.symm]; exact put_same
      have jh : μ5 ph = some ([p1, p2, p3, p4].map OV.own) := by rw [← hμ5]; exact put_same
      have js : Sub μ μ5 := fun b l e => by
        rw [← hμ5, put_ne (ne_own e fh), put_ne (ne_own e f4), put_ne (ne_own e fh)]
        exact ks b l e
      refine dss_cons (ds_if (DW.dt (dw_or (dt_not (dt_val (de_call F_law_same (hr.mono (by decide)) rfl (fun _ _ _ _ _ _ us hl => match us, hl with | [_, _], _ => rfl) (da_cons (de_var 4 rfl (.inl rfl) rfl (da_cons (de_var 7 rfl (.inl rfl) rfl (da_nil ⟨_, _, dueD n ss cs, rfl, .own jh (DRs.own1 j1 (DRs.own1 j2 (DRs.own1 j3 (DRs.own1 j4 .nil)))), .im _, hdue, ⟨_, rfl, ?_⟩⟩)))))))))))
      refine iteF (dw_or1 ?_)
      refine dt_not (dt_val (de_call F_law_same (hr.mono (by decide)) rfl (fun _ _ _ _ _ _ us hl => match us, hl with | [_, _], _ => rfl) (da_cons (de_call F_table_after (hr.mono (by decide)) rfl (fun _ _ _ _ _ _ us hl => match us, hl with | [_, _, _], _ => rfl) (da_cons (de_var 0 rfl (.inl rfl) rfl (da_cons (de_var 1 rfl (.inl rfl) rfl (da_cons (de_var 2 rfl (.inl rfl) rfl (da_nil ⟨n, ss, cs, ac _, ?_⟩)))))))))))
      refine da_cons (de_ix (fun _ _ => rfl) (de_ix (fun _ _ => rfl) (de_var 7 rfl (.inl rfl) rfl (de_int ⟨_, _, _, .lst _, rfl, due0, de_neg (de_int ⟨_, rfl, ⟨_, _, _, .lst _, rfl, last_tab, da_nil ⟨_, _, _, rfl, .im _, .im _, htbl, ⟨_, rfl, ?_⟩⟩⟩⟩)⟩))))
      refine iteF (dss_nil ?_)
      refine dss_one (ds_for (.nm 8) PassesOwn.never rfl (pg_name (i := 8) sc.nd rfl (.inl rfl)) (di_own (de_var 4 rfl (.inl rfl) rfl ⟨_, _, rfl, jh, ?_⟩)))
      refine ⟨fun i ρ' μ' => ∃ x3 x4 x8, ρ' = [some (.im (.int n)), some (.im (.tuple (iL ss))), some (.im (.list (iL cs))), x3, x4, none, some (.im (.str (PyData.list [.tuple (iL ss), .list (iL cs)]).shown)), some (.im (dueD n ss cs)), x8, none, none] ∧ Sub μ μ' ∧ μ' ph = some ([p1, p2, p3, p4].map OV.own) ∧ ∀ r ∈ [p1, p2, p3, p4], ∃ l, μ' r = some l ∧ l.length ≤ 2000 + i, ⟨_, _, _, rfl, js, jh, fun r hr' => ?_⟩, fun _ _ _ h => ?_, fun i z ρ' μ' hz hP => ?_, fun ρ' μ' hP => ?_⟩
      · simp only [List.mem_cons, List.not_mem_nil, or_false] at hr'
        rcases hr' with rfl | rfl | rfl | rfl
        · exact ⟨_, j1, by simp [tabs, AL_len]; omega⟩
        · refine ⟨_, j2, ?_⟩
          have := idleT_len (n := n) (ss := ss) (cs := cs) cs.length
          have : (idleL n ss cs).length ≤ cs.length := this
          rw [List.length_map]
          omega
        · refine ⟨_, j3, ?_⟩
          have : (stepsL n ss cs).length = ss.length := stT_len n ss cs cs.length
          simp [this]
          omega
        · refine ⟨_, j4, ?_⟩
          simp [runS_len]
          omega
      · obtain ⟨_, _, _, _, _, h, _⟩ := h
        exact h
      · obtain ⟨x3, x4, x8, rfl, hs', hh, hps⟩ := hP
        rw [List.getElem?_map] at hz
        obtain ⟨r, hr1, rfl⟩ := Option.map_eq_some_iff.mp hz
        have hi2 : i < 4 := (List.getElem?_eq_some_iff.mp hr1).1
        have hrm : r ∈ [p1, p2, p3, p4] := List.mem_of_getElem? hr1
        obtain ⟨l, hl, hll⟩ := hps r hrm
        have hrh : r ≠ ph := by
          simp only [List.mem_cons, List.not_mem_nil, or_false] at hrm
          rcases hrm with rfl | rfl | rfl | rfl
          · exact n1h
          · exact n2h
          · exact n3h
          · exact nh4.symm
        have hr0 : μ r = none := by
          simp only [List.mem_cons, List.not_mem_nil, or_false] at hrm
          rcases hrm with rfl | rfl | rfl | rfl
          · exact f1
          · exact f2
          · exact f3
          · exact f4
        refine ⟨_, rfl, ?_⟩
        refine dss_cons (ds_expr (de_append (de_var 8 rfl (.inl rfl) rfl ⟨_, _, rfl, hl, de_str ⟨_, hl, by omega, ?_⟩⟩)))
        refine dss_one (ds_expr (de_reverse (de_var 8 rfl (.inl rfl) rfl ⟨_, _, rfl, put_same, ?_⟩) (pe_bm0 PySem.F.plainAttrs_list PySem.F.slot_list_reverse PySem.F.type_list_reverse mt_reverse pwe)))
        rw [put_put]
        refine ⟨_, _, _, rfl, fun b m e => ?_, ?_, fun r' hr' => ?_⟩
        · rw [put_ne (ne_own e hr0)]
          exact hs' b m e
        · rw [put_ne hrh.symm]
          exact hh
        · by_cases e : r' = r
          · subst e
            exact ⟨_, put_same, by simp; omega⟩
          · obtain ⟨l', h1, h2⟩ := hps r' hr'
            exact ⟨l', by rw [put_ne e]; exact h1, by omega⟩
      · obtain ⟨x3, x4, x8, rfl, hs', _⟩ := hP
        exact ⟨_, _, _, rfl, hs'⟩
    · obtain ⟨x3, x4, x8, rfl, hs⟩ := hP
      refine dss_drop hs ?_
      refine dss_cons (ds_par 9 10 rfl sc.nd rfl rfl (by decide) rfl rfl rfl (da_cons (de_list B rfl (de_var 1 rfl (.inl rfl) rfl ⟨_, .tup _, da_cons (de_tuple B rfl (de_var 2 rfl (.inl rfl) rfl ⟨_, .lst _, da_nil ⟨_, _, rfl, ?_⟩⟩))⟩))))
      refine dss_cons (ds_set 4 sc.nd rfl (.inl rfl) (de_lst (da_cons (de_frz (ds := []) (p := 0) (de_callK ["calls", "table", "size"] [2, 1, 0] F_tables_along (hr.mono (by decide)) rfl (fun _ _ _ _ _ _ us hl => match us, hl with | [_, _, _], _ => rfl) (dk_cons (de_var 10 rfl (.inl rfl) rfl (dk_cons (de_var 9 rfl (.inl rfl) rfl (dk_cons (de_var 0 rfl (.inl rfl) rfl (dk_nil ⟨rfl, ⟨n, ss, cs, ah _, fun p hp => ⟨p, _, rfl, put_same, ?_⟩⟩⟩))))))))))))
      rw [del_put hp]
      refine da_cons (de_frz (ds := []) (p := 0) (de_callK ["calls", "table", "size"] [2, 1, 0] F_idle_calls (hr.mono (by decide)) rfl (fun _ _ _ _ _ _ us hl => match us, hl with | [_, _, _], _ => rfl) (dk_cons (de_var 10 rfl (.inl rfl) rfl (dk_cons (de_var 9 rfl (.inl rfl) rfl (dk_cons (de_var 0 rfl (.inl rfl) rfl (dk_nil ⟨rfl, ⟨n, ss, cs, ah _, fun p hp => ⟨p, _, rfl, put_same, ?_⟩⟩⟩)))))))))
      rw [del_put hp]
      refine da_nil ⟨[_, _], rfl, lz rfl, ?_⟩
      refine dss_cons (ds_set 4 sc.nd rfl (.inl rfl) (de_add (de_var 4 rfl (.inl rfl) rfl (de_lst (da_cons (de_frz (ds := []) (p := 0) (de_callK ["calls", "table", "size"] [2, 1, 0] F_steps (hr.mono (by decide)) rfl (fun _ _ _ _ _ _ us hl => match us, hl with | [_, _, _], _ => rfl) (dk_cons (de_var 10 rfl (.inl rfl) rfl (dk_cons (de_var 9 rfl (.inl rfl) rfl (dk_cons (de_var 0 rfl (.inl rfl) rfl (dk_nil ⟨rfl, ⟨n, ss, cs, ah _, fun p hp => ⟨p, _, rfl, put_same, ?_⟩⟩⟩))))))))))))))
      rw [del_put hp]
      refine da_cons (de_frz (ds := []) (p := 0) (de_callK ["calls", "table", "size"] [2, 1, 0] F_seats_after (hr.mono (by decide)) rfl (fun _ _ _ _ _ _ us hl => match us, hl with | [_, _, _], _ => rfl) (dk_cons (de_var 10 rfl (.inl rfl) rfl (dk_cons (de_var 9 rfl (.inl rfl) rfl (dk_cons (de_var 0 rfl (.inl rfl) rfl (dk_nil ⟨rfl, ⟨n, ss, cs, ah _, fun p hp => ⟨p, _, rfl, put_same, ?_⟩⟩⟩)))))))))
      rw [del_put hp]
      refine da_nil ⟨[_, _], rfl, lz rfl, .inr (.inl ⟨_, _, rfl, rfl, lz rfl, ?_⟩)⟩
      refine dss_cons (ds_if (DW.dt (dw_or (dt_not (dt_val (de_call F_law_same (hr.mono (by decide)) rfl (fun _ _ _ _ _ _ us hl => match us, hl with | [_, _], _ => rfl) (da_cons (de_var 4 rfl (.inl rfl) rfl (da_cons (de_var 7 rfl (.inl rfl) rfl (da_nil ⟨_, _, dueD n ss cs, rfl, .im _, .im _, hdue, ⟨_, rfl, ?_⟩⟩)))))))))))
      refine iteF (dw_or1 ?_)
      refine dt_not (dt_val (de_call F_law_same (hr.mono (by decide)) rfl (fun _ _ _ _ _ _ us hl => match us, hl with | [_, _], _ => rfl) (da_cons (de_callK ["calls", "table", "size"] [2, 1, 0] F_table_after (hr.mono (by decide)) rfl (fun _ _ _ _ _ _ us hl => match us, hl with | [_, _, _], _ => rfl) (dk_cons (de_var 10 rfl (.inl rfl) rfl (dk_cons (de_var 9 rfl (.inl rfl) rfl (dk_cons (de_var 0 rfl (.inl rfl) rfl (dk_nil ⟨rfl, ⟨n, ss, cs, ah _, ?_⟩⟩)))))))))))
      refine da_cons (de_ix (fun _ _ => rfl) (de_ix (fun _ _ => rfl) (de_var 7 rfl (.inl rfl) rfl (de_int ⟨_, _, _, .lst _, rfl, due0, de_neg (de_int ⟨_, rfl, ⟨_, _, _, .lst _, rfl, last_tab, da_nil ⟨_, _, _, rfl, .im _, .im _, htbl, ⟨_, rfl, ?_⟩⟩⟩⟩)⟩))))
      refine iteF (dss_nil ?_)
      refine dss_cons (ds_set 5 sc.nd rfl (.inl rfl) (de_listO B rfl (de_var 2 rfl (.inl rfl) rfl ⟨_, .lst _, fun pl hpl => ?_⟩)))
      refine dss_cons (ds_if (dt_not (dt_val (de_call F_law_same (hr.mono (by decide)) rfl (fun _ _ _ _ _ _ us hl => match us, hl with | [_, _], _ => rfl) (da_cons (de_call F_steps (hr.mono (by decide)) rfl (fun _ _ _ _ _ _ us hl => match us, hl with | [_, _, _], _ => rfl) (da_cons (de_var 0 rfl (.inl rfl) rfl (da_cons (de_var 1 rfl (.inl rfl) rfl (da_cons (de_var 5 rfl (.inl rfl) rfl (da_nil ⟨n, ss, cs, ⟨⟨_, _, rfl, .tup, .own put_same⟩, a.n0, a.ne, by omega, by omega⟩, fun p hp => ?_⟩)))))))))))))
      refine da_cons (de_ix (fun _ _ => rfl) (de_var 7 rfl (.inl rfl) rfl (de_int ⟨_, _, _, .lst _, rfl, rfl, da_nil ⟨_, _, .list (iL (stepsL n ss cs)), rfl, .own put_same (DRs.ims _), .im _, shw_steps a, ⟨_, rfl, ?_⟩⟩⟩)))
      refine iteF (dss_nil ?_)
      refine dss_drop (μ' := μ.put pl ((iL cs).map OV.im)) (fun b l e => (put_ne (ne_own e hp)).trans e) ?_
      refine dss_mid (fun ρ' μ' => ∃ x5, ρ' = [some (.im (.int n)), some (.im (.tuple (iL ss))), some (.im (.list (iL cs))), x3, some (.im (dueD n ss cs)), x5, some (.im (.str (PyData.list [.tuple (iL ss), .list (iL cs)]).shown)), some (.im (dueD n ss cs)), x8, some (.im (.list (iL ss))), some (.im (.tuple (iL cs)))] ∧ Sub μ μ') (ds_if (dt_lt (de_len B rfl (de_var 5 rfl (.inl rfl) rfl ⟨_, .own put_same, de_int ⟨_, _, rfl, rfl, ?_⟩⟩)))) fun ρ' μ' hQ => ?_
      · refine ite2 (fun hc => ?_) fun hc => ?_
        · have hc : (((iL cs).map OV.im).length : Int) < 120 := of_decide_eq_true hc
          have hc : cs.length < 120 := by
            simp at hc
            omega
          refine dss_cons (ds_expr (de_append (de_var 5 rfl (.inl rfl) rfl ⟨_, _, rfl, put_same, de_int ⟨_, put_same, by simp; omega, ?_⟩⟩)))
          rw [put_put]
          have el : (iL cs).map OV.im ++ [.im (.int 0)] = (iL (cs ++ [0])).map OV.im := by simp [iL]
          rw [el]
          refine dss_frz (i := 5) rfl put_same ?_
          rw [del_put hpl]
          have n0 := a.n0
          have a2 : Scl n ss (cs ++ [0]) := ⟨⟨a.tb, a.ne, a.n0, a.n1, a.sz, by simp; omega, fun x hx => by
            rcases List.mem_append.mp hx with h | h
            · exact a.cr x h
            · rw [List.mem_singleton.mp h]
              omega⟩, a.s1, by simp; omega⟩
          refine dss_one (ds_if (dt_not (dt_val (de_call F_law_same (hr.mono (by decide)) rfl (fun _ _ _ _ _ _ us hl => match us, hl with | [_, _], _ => rfl) (da_cons (de_call F_steps (hr.mono (by decide)) rfl (fun _ _ _ _ _ _ us hl => match us, hl with | [_, _, _], _ => rfl) (da_cons (de_var 0 rfl (.inl rfl) rfl (da_cons (de_var 1 rfl (.inl rfl) rfl (da_cons (de_var 5 rfl (.inl rfl) rfl (da_nil ⟨n, ss, cs ++ [0], ⟨⟨_, _, rfl, .tup, .lst _⟩, a.n0, a.ne, by omega, by simp; omega⟩, fun p hp => ?_⟩)))))))))))))
          refine da_cons (de_ix (fun _ _ => rfl) (de_call F_law_due (hr.mono (by decide)) rfl (fun _ _ _ _ _ _ us hl => match us, hl with | [_, _, _], _ => rfl) (da_cons (de_var 0 rfl (.inl rfl) rfl (da_cons (de_var 1 rfl (.inl rfl) rfl (da_cons (de_var 5 rfl (.inl rfl) rfl (da_nil ⟨n, ss, cs ++ [0], rfl, a2.toSc, de_int ⟨_, _, _, .lst _, rfl, rfl, da_nil ⟨_, _, .list (iL (stepsL n ss (cs ++ [0]))), rfl, .own put_same (DRs.ims _), .im _, shw_steps a2, ⟨_, rfl, ?_⟩⟩⟩⟩)))))))))
          exact iteF (dss_nil ⟨_, rfl, fun b l e => (put_ne (ne_own e hp)).trans e⟩)
        · exact dss_nil ⟨_, rfl, fun b l e => (put_ne (ne_own e hpl)).trans e⟩
      · obtain ⟨x5, rfl, hs'⟩ := hQ
        refine dss_drop hs' (dss_one (ds_ret (de_and (de_eq hr.room (de_repr B hr rfl (de_lst (da_cons (de_var 1 rfl (.inl rfl) rfl (da_cons (de_var 2 rfl (.inl rfl) rfl (da_nil ⟨[_,_], rfl, lz rfl, ⟨_, .im _, hpair, de_var 6 rfl (.inl rfl) rfl (.inr (.inr ⟨_, _, rfl, rfl, ⟨_, rfl, ?_⟩⟩))⟩⟩)))))))))))
        rw [if_pos (by simp)]
        refine de_one (de_eq hr.room (de_var 9 rfl (.inl rfl) rfl (de_list B rfl (de_var 1 rfl (.inl rfl) rfl ⟨_, .tup _, .inr (.inl ⟨_, _, .im _, .im _, shaped_list_ints ss, shaped_list_ints ss, ?_⟩)⟩))))
        rw [eqv_list_ints]
        simpa using q

theorem sc_law_box : FnScope ["_law_cells_here", "_law_k", "_law_cell"] ["_law_cells_here", "_law_k"] (defScope s_law_box) := ⟨rfl, rfl, rfl, by decide +kernel, rfl, by decide +kernel, by decide +kernel⟩
def c_law_box : Ct := fun os μ Φ => ∃ (cs : List Int) (k : Nat), os = [.im (.list (iL cs)), .im (.int (k : Int))] ∧ k < cs.length ∧ ∀ b p q, μ b = none → Φ (.own b) (μ.put b (bx p q 0))
theorem f_law_box (B : Bt mg) {f : Addr} {fd : FuncData} (F : Fun K "_law_box" "_law_box" s_law_box f fd) (hm : mg "_law_box" = some (.ref f)) : Fc P w K mg base "_law_box" s_law_box ["_law_cells_here", "_law_k"] 1 c_law_box := by
  have sc := sc_law_box
  refine fc_of F hm sc (fun os μ Φ h => ?_) fun cdv A outer s H E os μ Φ hr h => ?_
  · obtain ⟨cs, k, rfl, _⟩ := h
    rfl
  · obtain ⟨cs, k, rfl, hk, q⟩ := h
    refine dss_cons (ds_set 2 sc.nd rfl (.inl rfl) (de_ix (fun _ _ => rfl) (de_var 0 rfl (.inl rfl) rfl (de_var 1 rfl (.inl rfl) rfl ⟨_, _, _, .lst _, rfl, atI_iL hk, ?_⟩))))
    refine dss_one (ds_ret (de_lstO (da_cons (de_mul (de_abs B rfl (de_var 2 rfl (.inl rfl) rfl ⟨_, rfl, de_int1 B rfl (de_ge (de_abs B rfl (de_var 2 rfl (.inl rfl) rfl ⟨_, rfl, de_pow (de_int (de_int ⟨_, _, rfl, rfl, ⟨by decide, by decide, by decide⟩, ⟨_, _, rfl, rfl, .inr ⟨_, rfl, ⟨_, _, rfl, rfl, .inr c01, da_cons (de_add (de_add (de_mod (de_var 2 rfl (.inl rfl) rfl (de_int ⟨_, _, rfl, rfl, by decide, de_mul (de_int (de_var 1 rfl (.inl rfl) rfl ⟨_, _, rfl, rfl, .inl ⟨by decide, by decide⟩, .inl ⟨_, _, rfl, rfl, de_int (.inl ⟨_, _, rfl, rfl, da_cons (de_int (da_nil ⟨lz rfl, fun b hb => q b _ _ hb⟩))⟩)⟩⟩))⟩)))))⟩⟩⟩⟩))⟩)))⟩))))))

theorem sc_law_cells : FnScope ["_law_script", "_law_utmost", "_law_cells_here", "_law_k", "_law_cell"] ["_law_script", "_law_utmost"] (defScope s_law_cells) := ⟨rfl, rfl, rfl, by decide +kernel, rfl, by decide +kernel, by decide +kernel⟩
def c_law_cells (K : PySem.W.Frag) : Ct := fun os μ Φ => ∃ (ns : List Int) (u : Nat), os = [.scr K ns, .im (.int (u : Int))] ∧ 0 < u ∧ u ≤ 1000 ∧ ns.length ≤ 63 ∧ ∀ cs : List Int, cs ≠ [] → cs.length ≤ u → Φ (.im (.list (iL cs))) μ
theorem f_law_cells (B : Bt mg) {f : Addr} {fd : FuncData} (F : Fun K "_law_cells" "_law_cells" s_law_cells f fd) (hm : mg "_law_cells" = some (.ref f)) : Fc P w K mg base "_law_cells" s_law_cells ["_law_script", "_law_utmost"] 1 (c_law_cells K) := by
  have sc := sc_law_cells
  refine fc_of F hm sc (fun os μ Φ h => ?_) fun cdv A outer s H E os μ Φ hr h => ?_
  · obtain ⟨ns, u, rfl, _⟩ := h
    rfl
  · obtain ⟨ns, u, rfl, u0, u1, hn, q⟩ := h
    refine dss_cons (ds_set 2 sc.nd rfl (.inl rfl) (de_orL (de_listO B rfl (de_slS (de_var 0 rfl (.inl rfl) rfl (de_var 1 rfl (.inl rfl) rfl ⟨_, rfl, ⟨_, rfl, ⟨_, .lst _, fun p hp => ?_⟩⟩⟩))))))
    rw [cutI_to]
    have go : ∀ (p : Addr) (μ1 : Mu) (cs : List Int), Sub μ μ1 → μ p = none → μ1 p = some ((iL cs).map OV.im) → cs ≠ [] → cs.length ≤ u → (u < ns.length → cs.length = u) →
        DSs (cxOf CX0 P w K mg base ["_law_script", "_law_utmost", "_law_cells_here", "_law_k", "_law_cell"] "_law_cells" (defScope s_law_cells) f cdv A outer s H E).nox (defBody s_law_cells).tail [some (.scr K ns), some (.im (.int (u : Int))), some (.own p), none, none] μ1 { nx := fun _ μ' => Φ (.im .none) μ', rt := Φ } := by
      intro p μ1 cs hs hp h1 hc hcl hcu
      refine dss_cons (ds_for (.tp [3, 4]) PassesOwn.never rfl (pg_tup rfl (pgs_cons (pg_name (i := 3) sc.nd rfl (.inl rfl)) (pgs_cons (pg_name (i := 4) sc.nd rfl (.inl rfl)) pgs_nil))) (di_en B rfl (de_slS (de_var 0 rfl (.inl rfl) rfl (de_var 1 rfl (.inl rfl) rfl ⟨_, rfl, de_int ⟨_, rfl, ⟨_, rfl, ⟨_, .lst, ?_⟩⟩⟩⟩)))))
      refine ⟨fun i ρ' μ' => ∃ cs' x y, ρ' = [some (.scr K ns), some (.im (.int (u : Int))), some (.own p), x, y] ∧ Sub μ μ' ∧ μ' p = some ((iL cs').map OV.im) ∧ cs'.length = cs.length, ⟨cs, none, none, rfl, hs, h1, rfl⟩, fun _ _ _ _ => trivial, fun i z ρ' μ' hz hP => ?_, fun ρ' μ' hP => ?_⟩
      · obtain ⟨cs', x, y, rfl, hs', hp', hl⟩ := hP
        obtain ⟨d, hd, rfl⟩ := prs_at hz
        obtain ⟨c, hc1, rfl⟩ := iL_get hd
        have hi := (List.getElem?_eq_some_iff.mp hc1).1
        have hlen := cutI_len ns u 63
        have hi' : i < (cutI ns (some (u : Int)) (some ((63 : Nat) : Int))).length := hi
        have hul : cs'.length = u := by rw [hl]; exact hcu (by omega)
        refine ⟨_, rfl, ?_⟩
        have em : ((i : Int) % (u : Int)) = ((i % u : Nat) : Int) := by omega
        have hm' : i % u < cs'.length := by rw [hul]; exact Nat.mod_lt _ u0
        have hix : ixN ((iL cs').map OV.im).length ((i : Int) % (u : Int)) = some (i % u) := by
          rw [em]
          exact ixN_nat (by rw [List.length_map, List.length_map]; exact hm')
        refine dss_one (ds_sub (de_add (de_ix (fun _ _ => rfl) (de_var 2 rfl (.inl rfl) rfl (de_mod (de_var 3 rfl (.inl rfl) rfl (de_var 1 rfl (.inl rfl) rfl ⟨_, _, rfl, rfl, by omega, ⟨_, _, _, .own hp', rfl, (by rw [em]; exact atI_iL hm'), de_mul (de_var 4 rfl (.inl rfl) rfl (de_add (de_var 3 rfl (.inl rfl) rfl (de_int (.inl ⟨_, _, rfl, rfl, ⟨_, _, rfl, rfl, .inr ⟨by omega, by omega⟩, .inl ⟨_, _, rfl, rfl, de_var 2 rfl (.inl rfl) rfl (de_mod (de_var 3 rfl (.inl rfl) rfl (de_var 1 rfl (.inl rfl) rfl ⟨_, _, rfl, rfl, by omega, ⟨_, _, _, _, rfl, rfl, hp', hix, ?_⟩⟩)))⟩⟩⟩)))))⟩⟩)))))) (hsub := pg_sub pwe pwe set_list))
        refine ⟨cs'.set (i % u) (cs'[i % u] + c * ((i : Int) + 2)), _, _, rfl, fun a l e => ?_, ?_, by rw [List.length_set, hl]⟩
        · rw [put_ne (ne_own e hp)]
          exact hs' a l e
        · rw [put_same, ← List.map_set, ← List.map_set]
      · obtain ⟨cs', x, y, rfl, hs', hp', hl⟩ := hP
        refine dss_frz (i := 2) rfl hp' (dss_drop (μ' := μ) (fun a l e => ?_) (dss_one (ds_ret (de_var 2 rfl (.inl rfl) rfl (q cs' ?_ ?_)))))
        · show (if a = p then none else μ' a) = some l
          rw [if_neg (ne_own e hp)]
          exact hs' a l e
        · intro e
          rw [e] at hl
          exact hc (List.length_eq_zero_iff.mp hl.symm)
        · omega
    by_cases hne : ns.take u = []
    · refine ⟨[], ?_, ?_⟩
      · rw [hne]
        exact .own put_same
      · rw [if_neg (by simp)]
        refine de_one (de_lstO (da_cons (de_int (da_nil ⟨lz rfl, fun p2 hp2 => ?_⟩))))
        have hp3 : μ p2 = none := by
          cases z : μ p2 with
          | none => rfl
          | some l =>
            rw [put_ne (ne_own z hp), z] at hp2
            cases hp2
        refine go p2 _ [0] (fun a l e => ?_) hp3 put_same (by simp) (by simp; omega) fun hu => ?_
        · rw [put_ne (ne_own e hp3), put_ne (ne_own e hp)]
          exact e
        · have := congrArg List.length hne
          rw [List.length_take, List.length_nil] at this
          omega
    · refine ⟨iL (ns.take u), .own put_same, ?_⟩
      rw [if_pos (by simpa using hne)]
      refine go p _ (ns.take u) (fun a l e => ?_) hp put_same hne (by rw [List.length_take]; omega) fun hu => by rw [List.length_take]; omega
      rw [put_ne (ne_own e hp)]
      exact e

-- LEVEL 8
abbrev N_law_right : List Str := ["_law_box_here", "_law_tour_here", "_law_span_here", "_law_folk", "_law_crowd_here"]
theorem sc_law_right : FnScope N_law_right ["_law_box_here"] (defScope s_law_right) := ⟨rfl, rfl, rfl, by decide +kernel, rfl, by decide +kernel, by decide +kernel⟩
def c_law_right : Ct := fun os μ Φ => ∃ (b : Addr) (p q t : Int), os = [.own b] ∧ μ b = some (bx p q t) ∧ ∀ p' t', Φ (.im (.bool true)) (μ.put b (bx p' q t'))
theorem f_law_right (B : Bt mg) (F_law_scene : Fc P w K mg base "_law_scene" s_law_scene ["_law_box_here", "_law_most"] 4 c_law_scene) (F_law_tour : Fc P w K mg base "_law_tour" s_law_tour ["_law_box_here", "_law_span_here", "_law_most"] 3 c_law_tour) (F_law_lists_right : Fc P w K mg base "_law_lists_right" s_law_lists_right ["_law_span_here", "_law_crowd_here", "_law_tour_here"] 6 c_law_lists_right) {f : Addr} {fd : FuncData} (F : Fun K "_law_right" "_law_right" s_law_right f fd) (hm : mg "_law_right" = some (.ref f)) : Fc P w K mg base "_law_right" s_law_right ["_law_box_here"] 7 c_law_right := by
  have sc := sc_law_right
  refine fc_of F hm sc (fun os μ Φ h => ?_) fun cdv A outer s H E os μ Φ hr h => ?_
  · obtain ⟨b, p, q, t, rfl, _⟩ := h
    rfl
  · obtain ⟨b, p, q, t, rfl, hb, k0⟩ := h
    refine dss_cons (ds_asg (.tp [2, 3, 4]) (pg_tup rfl (pgs_cons (pg_name (i := 2) sc.nd rfl (.inl rfl)) (pgs_cons (pg_name (i := 3) sc.nd rfl (.inl rfl)) (pgs_cons (pg_name (i := 4) sc.nd rfl (.inl rfl)) pgs_nil)))) (de_call F_law_scene (hr.mono (by decide)) rfl (fun _ _ _ _ _ _ us hl => match us, hl with | [_, _], _ => rfl) (da_cons (de_var 0 rfl (.inl rfl) rfl (da_cons (de_int (da_nil ⟨b, 10, p, q, t, rfl, hb, by decide, by decide, fun n k ns p1 t1 n0 n1 k1 k2 tb hl => ⟨_, rfl, ?_⟩⟩)))))))
    refine dss_cons (ds_for (.nm 1) PassesOwn.never rfl (pg_name (i := 1) sc.nd rfl (.inl rfl)) (di_tup (de_tup (da_cons (de_lst (da_nil ⟨[], rfl, lz rfl, da_cons (de_call F_law_tour (hr.mono (by decide)) rfl (fun _ _ _ _ _ _ us hl => match us, hl with | [_, _, _], _ => rfl) (da_cons (de_var 0 rfl (.inl rfl) rfl (da_cons (de_var 2 rfl (.inl rfl) rfl (da_cons (de_int (da_nil ⟨b, n, 40, p1, q, t1, rfl, put_same, by omega, by omega, by decide, fun c1 p2 t2 r1 l1 => ?_⟩))))))))⟩))))))
    rw [put_put]
    refine da_cons (de_call F_law_tour (hr.mono (by decide)) rfl (fun _ _ _ _ _ _ us hl => match us, hl with | [_, _, _], _ => rfl) (da_cons (de_var 0 rfl (.inl rfl) rfl (da_cons (de_var 2 rfl (.inl rfl) rfl (da_cons (de_int (da_nil ⟨b, n, 12, p2, q, t2, rfl, put_same, by omega, by omega, by decide, fun c2 p3 t3 r2 l2 => da_nil ⟨[_, _, _], rfl, lz rfl, ⟨_, rfl, ?_⟩⟩⟩))))))))
    rw [put_put]
    have hne : ns ≠ [] := fun e => by
      rw [e] at hl
      simp at hl
      omega
    refine ⟨fun i ρ' μ' => ∃ x, ρ' = [some (.own b), x, some (.im (.int n)), some (.im (.int k)), some (.im (.tuple (iL ns)))] ∧ μ' = μ.put b (bx p3 q t3), ⟨none, rfl, rfl⟩, fun _ _ _ _ => trivial, fun i z ρ' μ' hz hP => ?_, fun ρ' μ' hP => ?_⟩
    · obtain ⟨x, rfl, rfl⟩ := hP
      have hz : ([PyData.list (iL []), .list (iL c1), .list (iL c2)].map OV.im)[i]? = some z := hz
      have hcs : ∃ cs, z = .im (.list (iL cs)) ∧ InR n cs ∧ cs.length ≤ 40 := by
        match i, hz with
        | 0, hz =>
          cases hz
          exact ⟨[], rfl, fun _ h => absurd h List.not_mem_nil, by decide⟩
        | 1, hz =>
          cases hz
          exact ⟨c1, rfl, r1, l1⟩
        | 2, hz =>
          cases hz
          exact ⟨c2, rfl, r2, by omega⟩
        | i + 3, hz => simp at hz
      obtain ⟨cs, rfl, hcr, hcl⟩ := hcs
      refine ⟨_, rfl, ?_⟩
      refine dss_one (ds_if (dt_not (dt_val (de_call F_law_lists_right (hr.mono (by decide)) rfl (fun _ _ _ _ _ _ us hl => match us, hl with | [_, _, _], _ => rfl) (da_cons (de_var 2 rfl (.inl rfl) rfl (da_cons (de_var 4 rfl (.inl rfl) rfl (da_cons (de_var 1 rfl (.inl rfl) rfl (da_nil ⟨n, ns, cs, rfl, ⟨⟨tb, hne, by omega, by omega, by omega, by omega, hcr⟩, by omega, by omega⟩, ⟨_, rfl, ?_⟩⟩)))))))))))
      exact iteF (dss_nil ⟨_, rfl, rfl⟩)
    · obtain ⟨x, rfl, rfl⟩ := hP
      exact dss_one (ds_ret (de_bl (k0 p3 t3)))
abbrev N_law : List Str := ["_law_script", "_law_cells_here", "_law_k", "_law_box_here", "_law_crowd_here", "_law_turn"]
theorem sc_law : FnScope N_law ["_law_script"] (defScope s_law) := ⟨rfl, rfl, rfl, by decide +kernel, rfl, by decide +kernel, by decide +kernel⟩
theorem f_law (B : Bt mg) (F_law_cells : Fc P w K mg base "_law_cells" s_law_cells ["_law_script", "_law_utmost"] 1 (c_law_cells K)) (F_law_box : Fc P w K mg base "_law_box" s_law_box ["_law_cells_here", "_law_k"] 1 c_law_box) (F_law_crowd : Fc P w K mg base "_law_crowd" s_law_crowd ["_law_box_here", "_law_span_here", "_law_folk"] 3 c_law_crowd) (F_law_lists_right : Fc P w K mg base "_law_lists_right" s_law_lists_right ["_law_span_here", "_law_crowd_here", "_law_tour_here"] 6 c_law_lists_right) (F_law_take : Fc P w K mg base "_law_take" s_law_take ["_law_box_here", "_law_below"] 1 c_law_take) (F_law_right : Fc P w K mg base "_law_right" s_law_right ["_law_box_here"] 7 c_law_right) {f : Addr} {fd : FuncData} (F : Fun K "law" "law" s_law f fd) : FnG P w K mg base CX0 8 f fd ["_law_script"] (spOf (c_law K)) := by
  have sc := sc_law
  refine fg_of F sc (fun os μ Φ h => ?_) fun cdv A outer s H E os μ Φ hr h => ?_
  · obtain ⟨ns, rfl, _⟩ := h
    rfl
  · obtain ⟨ns, rfl, hn, k⟩ := h
    refine dss_cons (ds_set 1 sc.nd rfl (.inl rfl) (de_call F_law_cells (hr.mono (by omega)) rfl (fun _ _ _ _ _ _ us hl => match us, hl with | [_, _], _ => rfl) (da_cons (de_var 0 rfl (.inl rfl) rfl (da_cons (de_int (da_nil ⟨ns, 3, rfl, by decide, by decide, hn, fun cs hc hcl => ?_⟩)))))))
    refine dss_cons (ds_for (.nm 2) PassesOwn.never rfl (pg_name (i := 2) sc.nd rfl (.inl rfl)) (di_range1 B rfl (de_len B rfl (de_var 1 rfl (.inl rfl) rfl ⟨_, .lst _, ⟨_, rfl, by omega, ?_, ?_⟩⟩))))
    · rw [List.length_map, List.length_map]
      omega
    refine ⟨fun i ρ' μ' => ∃ x y, ρ' = [some (.scr K ns), some (.im (.list (iL cs))), x, y, none, none], ⟨none, none, rfl⟩, fun _ _ _ _ => trivial, fun i z ρ' μ' hz hP => ?_, fun ρ' μ' hP => ?_⟩
    · obtain ⟨x, y, rfl⟩ := hP
      have hi : i < cs.length := by simpa using (List.getElem?_eq_some_iff.mp hz).1
      simp only [List.length_map, Int.toNat_natCast, List.getElem?_map, List.getElem?_range hi, Option.map_some, Option.some.injEq] at hz
      subst hz
      refine ⟨_, rfl, ?_⟩
      refine dss_cons (ds_set 3 sc.nd rfl (.inr rfl) (de_call F_law_box (hr.mono (by omega)) rfl (fun _ _ _ _ _ _ us hl => match us, hl with | [_, _], _ => rfl) (da_cons (de_var 1 rfl (.inl rfl) rfl (da_cons (de_var 2 rfl (.inl rfl) rfl (da_nil ⟨cs, i, rfl, hi, fun b p q hb => ?_⟩)))))))
      refine dss_one (ds_if (dt_not (dt_val (de_all B rfl rfl (de_lc (own := [("_law_turn", 5)]) (.nm 5) rfl sc.nd (blkOk_by (N := N_law) (sc := defScope s_law) (by decide +kernel)) (by decide) (fun _ _ _ _ _ => pg_name (i := 5) sc.nd rfl (.inl rfl)) (di_range1 B rfl (de_int ⟨_, rfl, by decide, by decide, ?_⟩)))))))
      refine ⟨fun i acc μ' => acc = (List.replicate i (PyData.bool true)).map .im ∧ ∃ p t, μ' b = some (bx p q t), by decide, ⟨rfl, p, 0, put_same⟩, fun _ _ _ _ _ _ => trivial, fun acc μ2 h => ?_, fun i acc μ2 o ho h => ?_⟩
      · obtain ⟨rfl, _⟩ := h
        refine ⟨_, rfl, List.replicate 3 true, .im _, true, rfl, ?_⟩
        exact iteF (dss_nil ⟨_, _, rfl⟩)
      · obtain ⟨rfl, p1, t1, h1⟩ := h
        refine ⟨_, rfl, fun Dl hDl => ?_⟩
        have nbD := ne_own h1 hDl
        dsimp only [DTb]
        rw [if_pos rfl]
        intro s1 H1 C1 cl1 fp1
        refine de_call F_law_right hr rfl (fun _ _ _ _ _ _ us hl => match us, hl with | [_], _ => rfl) (da_cons (de_v 3 rfl (da_nil ⟨b, p1, q, t1, rfl, (put_ne nbD).trans h1, fun p2 t2 => ?_⟩)))
        refine ⟨μ2.put b (bx p2 q t2), put_comm (fun e => nbD e.symm), ?_, ?_, p2, t2, put_same⟩
        · rw [put_ne (fun e => nbD e.symm)]
          exact hDl
        · rw [List.replicate_succ', List.map_append]
          rfl
    · obtain ⟨x, y, rfl⟩ := hP
      refine dss_cons (ds_set 3 sc.nd rfl (.inr rfl) (de_call F_law_box (hr.mono (by omega)) rfl (fun _ _ _ _ _ _ us hl => match us, hl with | [_, _], _ => rfl) (da_cons (de_var 1 rfl (.inl rfl) rfl (da_cons (de_int (da_nil ⟨cs, 0, rfl, List.length_pos_iff.mpr hc, fun b p q hb => ?_⟩)))))))
      refine dss_cons (ds_set 4 sc.nd rfl (.inl rfl) (de_call F_law_crowd (hr.mono (by omega)) rfl (fun _ _ _ _ _ _ us hl => match us, hl with | [_, _, _], _ => rfl) (da_cons (de_var 3 rfl (.inr (.inl rfl)) rfl (da_cons (de_int (da_cons (de_add (de_int (de_call F_law_take (hr.mono (by omega)) rfl (fun _ _ _ _ _ _ us hl => match us, hl with | [_, _], _ => rfl) (da_cons (de_var 3 rfl (.inr (.inl rfl)) rfl (da_cons (de_int (da_nil ⟨b, 9, p, q, 0, rfl, put_same, by decide, by decide, fun r p1 t1 r0 r1 => .inl ⟨_, _, rfl, rfl, ?_⟩⟩)))))))))))))))
      rw [put_put]
      obtain ⟨j, rfl⟩ : ∃ j : Nat, r = (j : Int) := ⟨r.toNat, by omega⟩
      refine da_nil ⟨b, 10, 1 + j, p1, q, t1, by rw [show ((1 + j : Nat) : Int) = 1 + (j : Int) by omega]; rfl, put_same, by decide, by decide, by omega, fun ts p2 t2 tb hl => ?_⟩
      rw [put_put]
      refine dss_one (ds_ret (de_call F_law_lists_right (hr.mono (by omega)) rfl (fun _ _ _ _ _ _ us hl => match us, hl with | [_, _, _], _ => rfl) (da_cons (de_int (da_cons (de_var 4 rfl (.inl rfl) rfl (da_cons (de_lc (own := [("_law_turn", 5)]) (.nm 5) rfl sc.nd (blkOk_by (N := N_law) (sc := defScope s_law) (by decide +kernel)) (by decide) (fun _ _ _ _ _ => pg_name (i := 5) sc.nd rfl (.inl rfl)) (di_range1 B rfl (de_int ⟨_, rfl, by decide, by decide, ?_⟩))))))))))
      refine lc_ints (b := b) (q := q) (fun x => 0 ≤ x ∧ x < ((10 : Nat) : Int)) put_same (by decide) (fun _ => trivial) (fun tr p3 t3 htl htm => ⟨_, rfl, ?_⟩) fun i o ho => ⟨_, rfl, fun μ' p t hb' s1 H1 C1 cl1 fp1 => ?_⟩
      · have htl : tr.length = 120 := htl
        refine da_nil ⟨10, ts, tr, rfl, ⟨⟨tb, fun e => ?_, by decide, by decide, by omega, by omega, htm⟩, by omega, by omega⟩, k _⟩
        rw [e] at hl
        simp at hl
        omega
      · exact de_call F_law_take (hr.mono (by omega)) rfl (fun _ _ _ _ _ _ us hl => match us, hl with | [_, _], _ => rfl) (da_cons (de_v 3 rfl (da_cons (de_int (da_nil ⟨b, _, p, q, t, rfl, hb', by decide, by decide, fun r p1 t1 r0 r1 => ⟨r, p1, t1, rfl, ⟨r0, r1⟩, rfl⟩⟩)))))


end
/-! ### what the top leaves -/
theorem all_mk {l : PySem.W.OpenLaw} {w : World} {K : PySem.W.Frag} {h : Heap} {mg : Str → Option Value} {fa : Addr} (X : K.In h) (G : h.Ns mainGlobals mg) (hfa : mg "law" = some (.ref fa))
    {f0 : Addr} {od0 an0 : Option Addr} {sl0 : Array (Option Value)} {oc0 kV0 dc0 pm0 cd0 ct0 : Value} (a0 : PySem.W.nsIn K mainGlobals "mover" = some (some (.ref f0))) (l0 : K.lookup f0 = some ⟨oc0, od0, .func (PySem.W.fnOf "mover" "mover" (defArgs s_mover) (defBody s_mover) (defScope s_mover) .none kV0 dc0 pm0 an0 cd0 ct0), sl0⟩) (c0 : PySem.W.codeIn K cd0 "mover" = true) (k0 : PySem.W.keepIn K (.ref f0) = true)
    {f1 : Addr} {od1 an1 : Option Addr} {sl1 : Array (Option Value)} {oc1 kV1 dc1 pm1 cd1 ct1 : Value} (a1 : PySem.W.nsIn K mainGlobals "seats_called" = some (some (.ref f1))) (l1 : K.lookup f1 = some ⟨oc1, od1, .func (PySem.W.fnOf "seats_called" "seats_called" (defArgs s_seats_called) (defBody s_seats_called) (defScope s_seats_called) .none kV1 dc1 pm1 an1 cd1 ct1), sl1⟩) (c1 : PySem.W.codeIn K cd1 "seats_called" = true) (k1 : PySem.W.keepIn K (.ref f1) = true)
    {f2 : Addr} {od2 an2 : Option Addr} {sl2 : Array (Option Value)} {oc2 kV2 dc2 pm2 cd2 ct2 : Value} (a2 : PySem.W.nsIn K mainGlobals "seats_along" = some (some (.ref f2))) (l2 : K.lookup f2 = some ⟨oc2, od2, .func (PySem.W.fnOf "seats_along" "seats_along" (defArgs s_seats_along) (defBody s_seats_along) (defScope s_seats_along) .none kV2 dc2 pm2 an2 cd2 ct2), sl2⟩) (c2 : PySem.W.codeIn K cd2 "seats_along" = true) (k2 : PySem.W.keepIn K (.ref f2) = true)
    {f3 : Addr} {od3 an3 : Option Addr} {sl3 : Array (Option Value)} {oc3 kV3 dc3 pm3 cd3 ct3 : Value} (a3 : PySem.W.nsIn K mainGlobals "as_table" = some (some (.ref f3))) (l3 : K.lookup f3 = some ⟨oc3, od3, .func (PySem.W.fnOf "as_table" "as_table" (defArgs s_as_table) (defBody s_as_table) (defScope s_as_table) .none kV3 dc3 pm3 an3 cd3 ct3), sl3⟩) (c3 : PySem.W.codeIn K cd3 "as_table" = true) (k3 : PySem.W.keepIn K (.ref f3) = true)
    {f4 : Addr} {od4 an4 : Option Addr} {sl4 : Array (Option Value)} {oc4 kV4 dc4 pm4 cd4 ct4 : Value} (a4 : PySem.W.nsIn K mainGlobals "table_after" = some (some (.ref f4))) (l4 : K.lookup f4 = some ⟨oc4, od4, .func (PySem.W.fnOf "table_after" "table_after" (defArgs s_table_after) (defBody s_table_after) (defScope s_table_after) .none kV4 dc4 pm4 an4 cd4 ct4), sl4⟩) (c4 : PySem.W.codeIn K cd4 "table_after" = true) (k4 : PySem.W.keepIn K (.ref f4) = true)
    {f5 : Addr} {od5 an5 : Option Addr} {sl5 : Array (Option Value)} {oc5 kV5 dc5 pm5 cd5 ct5 : Value} (a5 : PySem.W.nsIn K mainGlobals "tables_along" = some (some (.ref f5))) (l5 : K.lookup f5 = some ⟨oc5, od5, .func (PySem.W.fnOf "tables_along" "tables_along" (defArgs s_tables_along) (defBody s_tables_along) (defScope s_tables_along) .none kV5 dc5 pm5 an5 cd5 ct5), sl5⟩) (c5 : PySem.W.codeIn K cd5 "tables_along" = true) (k5 : PySem.W.keepIn K (.ref f5) = true)
    {f6 : Addr} {od6 an6 : Option Addr} {sl6 : Array (Option Value)} {oc6 kV6 dc6 pm6 cd6 ct6 : Value} (a6 : PySem.W.nsIn K mainGlobals "idle_calls" = some (some (.ref f6))) (l6 : K.lookup f6 = some ⟨oc6, od6, .func (PySem.W.fnOf "idle_calls" "idle_calls" (defArgs s_idle_calls) (defBody s_idle_calls) (defScope s_idle_calls) .none kV6 dc6 pm6 an6 cd6 ct6), sl6⟩) (c6 : PySem.W.codeIn K cd6 "idle_calls" = true) (k6 : PySem.W.keepIn K (.ref f6) = true)
    {f7 : Addr} {od7 an7 : Option Addr} {sl7 : Array (Option Value)} {oc7 kV7 dc7 pm7 cd7 ct7 : Value} (a7 : PySem.W.nsIn K mainGlobals "steps" = some (some (.ref f7))) (l7 : K.lookup f7 = some ⟨oc7, od7, .func (PySem.W.fnOf "steps" "steps" (defArgs s_steps) (defBody s_steps) (defScope s_steps) .none kV7 dc7 pm7 an7 cd7 ct7), sl7⟩) (c7 : PySem.W.codeIn K cd7 "steps" = true) (k7 : PySem.W.keepIn K (.ref f7) = true)
    {f8 : Addr} {od8 an8 : Option Addr} {sl8 : Array (Option Value)} {oc8 kV8 dc8 pm8 cd8 ct8 : Value} (a8 : PySem.W.nsIn K mainGlobals "seats_after" = some (some (.ref f8))) (l8 : K.lookup f8 = some ⟨oc8, od8, .func (PySem.W.fnOf "seats_after" "seats_after" (defArgs s_seats_after) (defBody s_seats_after) (defScope s_seats_after) .none kV8 dc8 pm8 an8 cd8 ct8), sl8⟩) (c8 : PySem.W.codeIn K cd8 "seats_after" = true) (k8 : PySem.W.keepIn K (.ref f8) = true)
    {f9 : Addr} {od9 an9 : Option Addr} {sl9 : Array (Option Value)} {oc9 kV9 dc9 pm9 cd9 ct9 : Value} (a9 : PySem.W.nsIn K mainGlobals "_law_box" = some (some (.ref f9))) (l9 : K.lookup f9 = some ⟨oc9, od9, .func (PySem.W.fnOf "_law_box" "_law_box" (defArgs s_law_box) (defBody s_law_box) (defScope s_law_box) .none kV9 dc9 pm9 an9 cd9 ct9), sl9⟩) (c9 : PySem.W.codeIn K cd9 "_law_box" = true) (k9 : PySem.W.keepIn K (.ref f9) = true)
    {f10 : Addr} {od10 an10 : Option Addr} {sl10 : Array (Option Value)} {oc10 kV10 dc10 pm10 cd10 ct10 : Value} (a10 : PySem.W.nsIn K mainGlobals "_law_take" = some (some (.ref f10))) (l10 : K.lookup f10 = some ⟨oc10, od10, .func (PySem.W.fnOf "_law_take" "_law_take" (defArgs s_law_take) (defBody s_law_take) (defScope s_law_take) .none kV10 dc10 pm10 an10 cd10 ct10), sl10⟩) (c10 : PySem.W.codeIn K cd10 "_law_take" = true) (k10 : PySem.W.keepIn K (.ref f10) = true)
    {f11 : Addr} {od11 an11 : Option Addr} {sl11 : Array (Option Value)} {oc11 kV11 dc11 pm11 cd11 ct11 : Value} (a11 : PySem.W.nsIn K mainGlobals "_law_cells" = some (some (.ref f11))) (l11 : K.lookup f11 = some ⟨oc11, od11, .func (PySem.W.fnOf "_law_cells" "_law_cells" (defArgs s_law_cells) (defBody s_law_cells) (defScope s_law_cells) .none kV11 dc11 pm11 an11 cd11 ct11), sl11⟩) (c11 : PySem.W.codeIn K cd11 "_law_cells" = true) (k11 : PySem.W.keepIn K (.ref f11) = true)
    {f12 : Addr} {od12 an12 : Option Addr} {sl12 : Array (Option Value)} {oc12 kV12 dc12 pm12 cd12 ct12 : Value} (a12 : PySem.W.nsIn K mainGlobals "_law_of" = some (some (.ref f12))) (l12 : K.lookup f12 = some ⟨oc12, od12, .func (PySem.W.fnOf "_law_of" "_law_of" (defArgs s_law_of) (defBody s_law_of) (defScope s_law_of) .none kV12 dc12 pm12 an12 cd12 ct12), sl12⟩) (c12 : PySem.W.codeIn K cd12 "_law_of" = true) (k12 : PySem.W.keepIn K (.ref f12) = true)
    {f13 : Addr} {od13 an13 : Option Addr} {sl13 : Array (Option Value)} {oc13 kV13 dc13 pm13 cd13 ct13 : Value} (a13 : PySem.W.nsIn K mainGlobals "_law_strewn" = some (some (.ref f13))) (l13 : K.lookup f13 = some ⟨oc13, od13, .func (PySem.W.fnOf "_law_strewn" "_law_strewn" (defArgs s_law_strewn) (defBody s_law_strewn) (defScope s_law_strewn) .none kV13 dc13 pm13 an13 cd13 ct13), sl13⟩) (c13 : PySem.W.codeIn K cd13 "_law_strewn" = true) (k13 : PySem.W.keepIn K (.ref f13) = true)
    {f14 : Addr} {od14 an14 : Option Addr} {sl14 : Array (Option Value)} {oc14 kV14 dc14 pm14 cd14 ct14 : Value} (a14 : PySem.W.nsIn K mainGlobals "_law_same" = some (some (.ref f14))) (l14 : K.lookup f14 = some ⟨oc14, od14, .func (PySem.W.fnOf "_law_same" "_law_same" (defArgs s_law_same) (defBody s_law_same) (defScope s_law_same) .none kV14 dc14 pm14 an14 cd14 ct14), sl14⟩) (c14 : PySem.W.codeIn K cd14 "_law_same" = true) (k14 : PySem.W.keepIn K (.ref f14) = true)
    {f15 : Addr} {od15 an15 : Option Addr} {sl15 : Array (Option Value)} {oc15 kV15 dc15 pm15 cd15 ct15 : Value} (a15 : PySem.W.nsIn K mainGlobals "_law_span" = some (some (.ref f15))) (l15 : K.lookup f15 = some ⟨oc15, od15, .func (PySem.W.fnOf "_law_span" "_law_span" (defArgs s_law_span) (defBody s_law_span) (defScope s_law_span) .none kV15 dc15 pm15 an15 cd15 ct15), sl15⟩) (c15 : PySem.W.codeIn K cd15 "_law_span" = true) (k15 : PySem.W.keepIn K (.ref f15) = true)
    {f16 : Addr} {od16 an16 : Option Addr} {sl16 : Array (Option Value)} {oc16 kV16 dc16 pm16 cd16 ct16 : Value} (a16 : PySem.W.nsIn K mainGlobals "_law_crowd" = some (some (.ref f16))) (l16 : K.lookup f16 = some ⟨oc16, od16, .func (PySem.W.fnOf "_law_crowd" "_law_crowd" (defArgs s_law_crowd) (defBody s_law_crowd) (defScope s_law_crowd) .none kV16 dc16 pm16 an16 cd16 ct16), sl16⟩) (c16 : PySem.W.codeIn K cd16 "_law_crowd" = true) (k16 : PySem.W.keepIn K (.ref f16) = true)
    {f17 : Addr} {od17 an17 : Option Addr} {sl17 : Array (Option Value)} {oc17 kV17 dc17 pm17 cd17 ct17 : Value} (a17 : PySem.W.nsIn K mainGlobals "_law_tour" = some (some (.ref f17))) (l17 : K.lookup f17 = some ⟨oc17, od17, .func (PySem.W.fnOf "_law_tour" "_law_tour" (defArgs s_law_tour) (defBody s_law_tour) (defScope s_law_tour) .none kV17 dc17 pm17 an17 cd17 ct17), sl17⟩) (c17 : PySem.W.codeIn K cd17 "_law_tour" = true) (k17 : PySem.W.keepIn K (.ref f17) = true)
    {f18 : Addr} {od18 an18 : Option Addr} {sl18 : Array (Option Value)} {oc18 kV18 dc18 pm18 cd18 ct18 : Value} (a18 : PySem.W.nsIn K mainGlobals "_law_pushed" = some (some (.ref f18))) (l18 : K.lookup f18 = some ⟨oc18, od18, .func (PySem.W.fnOf "_law_pushed" "_law_pushed" (defArgs s_law_pushed) (defBody s_law_pushed) (defScope s_law_pushed) .none kV18 dc18 pm18 an18 cd18 ct18), sl18⟩) (c18 : PySem.W.codeIn K cd18 "_law_pushed" = true) (k18 : PySem.W.keepIn K (.ref f18) = true)
    {f19 : Addr} {od19 an19 : Option Addr} {sl19 : Array (Option Value)} {oc19 kV19 dc19 pm19 cd19 ct19 : Value} (a19 : PySem.W.nsIn K mainGlobals "_law_table" = some (some (.ref f19))) (l19 : K.lookup f19 = some ⟨oc19, od19, .func (PySem.W.fnOf "_law_table" "_law_table" (defArgs s_law_table) (defBody s_law_table) (defScope s_law_table) .none kV19 dc19 pm19 an19 cd19 ct19), sl19⟩) (c19 : PySem.W.codeIn K cd19 "_law_table" = true) (k19 : PySem.W.keepIn K (.ref f19) = true)
    {f20 : Addr} {od20 an20 : Option Addr} {sl20 : Array (Option Value)} {oc20 kV20 dc20 pm20 cd20 ct20 : Value} (a20 : PySem.W.nsIn K mainGlobals "_law_scene" = some (some (.ref f20))) (l20 : K.lookup f20 = some ⟨oc20, od20, .func (PySem.W.fnOf "_law_scene" "_law_scene" (defArgs s_law_scene) (defBody s_law_scene) (defScope s_law_scene) .none kV20 dc20 pm20 an20 cd20 ct20), sl20⟩) (c20 : PySem.W.codeIn K cd20 "_law_scene" = true) (k20 : PySem.W.keepIn K (.ref f20) = true)
    {f21 : Addr} {od21 an21 : Option Addr} {sl21 : Array (Option Value)} {oc21 kV21 dc21 pm21 cd21 ct21 : Value} (a21 : PySem.W.nsIn K mainGlobals "_law_due" = some (some (.ref f21))) (l21 : K.lookup f21 = some ⟨oc21, od21, .func (PySem.W.fnOf "_law_due" "_law_due" (defArgs s_law_due) (defBody s_law_due) (defScope s_law_due) .none kV21 dc21 pm21 an21 cd21 ct21), sl21⟩) (c21 : PySem.W.codeIn K cd21 "_law_due" = true) (k21 : PySem.W.keepIn K (.ref f21) = true)
    {f22 : Addr} {od22 an22 : Option Addr} {sl22 : Array (Option Value)} {oc22 kV22 dc22 pm22 cd22 ct22 : Value} (a22 : PySem.W.nsIn K mainGlobals "_law_lists_right" = some (some (.ref f22))) (l22 : K.lookup f22 = some ⟨oc22, od22, .func (PySem.W.fnOf "_law_lists_right" "_law_lists_right" (defArgs s_law_lists_right) (defBody s_law_lists_right) (defScope s_law_lists_right) .none kV22 dc22 pm22 an22 cd22 ct22), sl22⟩) (c22 : PySem.W.codeIn K cd22 "_law_lists_right" = true) (k22 : PySem.W.keepIn K (.ref f22) = true)
    {f23 : Addr} {od23 an23 : Option Addr} {sl23 : Array (Option Value)} {oc23 kV23 dc23 pm23 cd23 ct23 : Value} (a23 : PySem.W.nsIn K mainGlobals "_law_right" = some (some (.ref f23))) (l23 : K.lookup f23 = some ⟨oc23, od23, .func (PySem.W.fnOf "_law_right" "_law_right" (defArgs s_law_right) (defBody s_law_right) (defScope s_law_right) .none kV23 dc23 pm23 an23 cd23 ct23), sl23⟩) (c23 : PySem.W.codeIn K cd23 "_law_right" = true) (k23 : PySem.W.keepIn K (.ref f23) = true)
    {f24 : Addr} {od24 an24 : Option Addr} {sl24 : Array (Option Value)} {oc24 kV24 dc24 pm24 cd24 ct24 : Value} (a24 : PySem.W.nsIn K mainGlobals "law" = some (some (.ref f24))) (l24 : K.lookup f24 = some ⟨oc24, od24, .func (PySem.W.fnOf "law" "law" (defArgs s_law) (defBody s_law) (defScope s_law) .none kV24 dc24 pm24 an24 cd24 ct24), sl24⟩) (c24 : PySem.W.codeIn K cd24 "law" = true) (k24 : PySem.W.keepIn K (.ref f24) = true)
    (z_len : PySem.W.nsIn K mainGlobals "len" = some none)
    (z_range : PySem.W.nsIn K mainGlobals "range" = some none)
    (z_list : PySem.W.nsIn K mainGlobals "list" = some none)
    (z_tuple : PySem.W.nsIn K mainGlobals "tuple" = some none)
    (z_sorted : PySem.W.nsIn K mainGlobals "sorted" = some none)
    (z_abs : PySem.W.nsIn K mainGlobals "abs" = some none)
    (z_int : PySem.W.nsIn K mainGlobals "int" = some none)
    (z_str : PySem.W.nsIn K mainGlobals "str" = some none)
    (z_repr : PySem.W.nsIn K mainGlobals "repr" = some none)
    (z_all : PySem.W.nsIn K mainGlobals "all" = some none)
    (z_any : PySem.W.nsIn K mainGlobals "any" = some none)
    (z_max : PySem.W.nsIn K mainGlobals "max" = some none)
    (z_min : PySem.W.nsIn K mainGlobals "min" = some none)
    (z_sum : PySem.W.nsIn K mainGlobals "sum" = some none)
    (z_enumerate : PySem.W.nsIn K mainGlobals "enumerate" = some none)
    (z_zip : PySem.W.nsIn K mainGlobals "zip" = some none)
    (z_isinstance : PySem.W.nsIn K mainGlobals "isinstance" = some none)
    (z_bool : PySem.W.nsIn K mainGlobals "bool" = some none)
    : ∃ fd : FuncData, (∀ (s : Shared) (v : Value), BindsTo s fd ⟨[v], []⟩ [("_law_script", v)]) ∧ ∀ base : Heap, K.In base → base.Ns mainGlobals mg → FnG l.prog w K mg base CX0 8 fa fd ["_law_script"] (spOf (c_law K)) := by
  have e := hfa.symm.trans (PySem.W.mg_of X G a24)
  cases e
  have B : Bt mg := ⟨PySem.W.mg_none_of X G z_len, PySem.W.mg_none_of X G z_range, PySem.W.mg_none_of X G z_list, PySem.W.mg_none_of X G z_tuple, PySem.W.mg_none_of X G z_sorted, PySem.W.mg_none_of X G z_abs, PySem.W.mg_none_of X G z_int, PySem.W.mg_none_of X G z_str, PySem.W.mg_none_of X G z_repr, PySem.W.mg_none_of X G z_all, PySem.W.mg_none_of X G z_any, PySem.W.mg_none_of X G z_max, PySem.W.mg_none_of X G z_min, PySem.W.mg_none_of X G z_sum, PySem.W.mg_none_of X G z_enumerate, PySem.W.mg_none_of X G z_zip, PySem.W.mg_none_of X G z_isinstance, PySem.W.mg_none_of X G z_bool⟩
  have G_law_cells := fun base : Heap => f_law_cells (P := l.prog) (w := w) (base := base) B (fun_mk (st := s_law_cells) l11 c11 k11) (PySem.W.mg_of X G a11)
  have G_law_box := fun base : Heap => f_law_box (P := l.prog) (w := w) (base := base) B (fun_mk (st := s_law_box) l9 c9 k9) (PySem.W.mg_of X G a9)
  have G_law_take := fun base : Heap => f_law_take (P := l.prog) (w := w) (base := base)  (fun_mk (st := s_law_take) l10 c10 k10) (PySem.W.mg_of X G a10)
  have G_law_strewn := fun base : Heap => f_law_strewn (P := l.prog) (w := w) (base := base) B (G_law_take base) (fun_mk (st := s_law_strewn) l13 c13 k13) (PySem.W.mg_of X G a13)
  have G_law_crowd := fun base : Heap => f_law_crowd (P := l.prog) (w := w) (base := base) B (G_law_take base) (G_law_strewn base) (fun_mk (st := s_law_crowd) l16 c16 k16) (PySem.W.mg_of X G a16)
  have G_law_pushed := fun base : Heap => f_law_pushed (P := l.prog) (w := w) (base := base) B (fun_mk (st := s_law_pushed) l18 c18 k18) (PySem.W.mg_of X G a18)
  have G_law_table := fun base : Heap => f_law_table (P := l.prog) (w := w) (base := base) B (fun_mk (st := s_law_table) l19 c19 k19) (PySem.W.mg_of X G a19)
  have G_law_due := fun base : Heap => f_law_due (P := l.prog) (w := w) (base := base) B (G_law_pushed base) (G_law_table base) (fun_mk (st := s_law_due) l21 c21 k21) (PySem.W.mg_of X G a21)
  have G_as_table := fun base : Heap => f_as_table (P := l.prog) (w := w) (base := base) B (fun_mk (st := s_as_table) l3 c3 k3) (PySem.W.mg_of X G a3)
  have G_mover := fun base : Heap => f_mover (P := l.prog) (w := w) (base := base) B (fun_mk (st := s_mover) l0 c0 k0) (PySem.W.mg_of X G a0)
  have G_seats_called := fun base : Heap => f_seats_called (P := l.prog) (w := w) (base := base) B (G_mover base) (fun_mk (st := s_seats_called) l1 c1 k1) (PySem.W.mg_of X G a1)
  have G_seats_along := fun base : Heap => f_seats_along (P := l.prog) (w := w) (base := base) B (G_seats_called base) (fun_mk (st := s_seats_along) l2 c2 k2) (PySem.W.mg_of X G a2)
  have G2_seats_along := fun base : Heap => f2_seats_along (P := l.prog) (w := w) (base := base) B (G_seats_called base) (fun_mk (st := s_seats_along) l2 c2 k2) (PySem.W.mg_of X G a2)
  have G_tables_along := fun base : Heap => f_tables_along (P := l.prog) (w := w) (base := base) (G_as_table base) (G_seats_along base) (fun_mk (st := s_tables_along) l5 c5 k5) (PySem.W.mg_of X G a5)
  have G_idle_calls := fun base : Heap => f_idle_calls (P := l.prog) (w := w) (base := base) B (G_seats_along base) (fun_mk (st := s_idle_calls) l6 c6 k6) (PySem.W.mg_of X G a6)
  have G_law_same := fun base : Heap => f_law_same (P := l.prog) (w := w) (base := base) B (fun_mk (st := s_law_same) l14 c14 k14) (PySem.W.mg_of X G a14)
  have G_steps := fun base : Heap => f_steps (P := l.prog) (w := w) (base := base) B (G_seats_along base) (fun_mk (st := s_steps) l7 c7 k7) (PySem.W.mg_of X G a7)
  have G_seats_after := fun base : Heap => f_seats_after (P := l.prog) (w := w) (base := base) (G2_seats_along base) (fun_mk (st := s_seats_after) l8 c8 k8) (PySem.W.mg_of X G a8)
  have G_table_after := fun base : Heap => f_table_after (P := l.prog) (w := w) (base := base) (G_as_table base) (G_seats_after base) (fun_mk (st := s_table_after) l4 c4 k4) (PySem.W.mg_of X G a4)
  have G_law_lists_right := fun base : Heap => f_law_lists_right (P := l.prog) (w := w) (base := base) B (G_law_due base) (G_tables_along base) (G_idle_calls base) (G_law_same base) (G_steps base) (G_seats_after base) (G_table_after base) (fun_mk (st := s_law_lists_right) l22 c22 k22) (PySem.W.mg_of X G a22)
  have G_law_span := fun base : Heap => f_law_span (P := l.prog) (w := w) (base := base) (G_law_take base) (fun_mk (st := s_law_span) l15 c15 k15) (PySem.W.mg_of X G a15)
  have G_law_scene := fun base : Heap => f_law_scene (P := l.prog) (w := w) (base := base) (G_law_span base) (G_law_take base) (G_law_crowd base) (fun_mk (st := s_law_scene) l20 c20 k20) (PySem.W.mg_of X G a20)
  have G_law_of := fun base : Heap => f_law_of (P := l.prog) (w := w) (base := base) B (G_law_take base) (fun_mk (st := s_law_of) l12 c12 k12) (PySem.W.mg_of X G a12)
  have G_law_tour := fun base : Heap => f_law_tour (P := l.prog) (w := w) (base := base) B (G_law_take base) (G_law_of base) (fun_mk (st := s_law_tour) l17 c17 k17) (PySem.W.mg_of X G a17)
  have G_law_right := fun base : Heap => f_law_right (P := l.prog) (w := w) (base := base) B (G_law_scene base) (G_law_tour base) (G_law_lists_right base) (fun_mk (st := s_law_right) l23 c23 k23) (PySem.W.mg_of X G a23)
  exact ⟨_, fun s v => .of_eq rfl, fun base _ _ => f_law B (G_law_cells base) (G_law_box base) (G_law_crowd base) (G_law_lists_right base) (G_law_take base) (G_law_right base) (fun_mk (st := s_law) l24 c24 k24)⟩
end Nx
open PySem PySem.W PyProof.Rows
set_option maxHeartbeats 0 in
theorem PySem.Challenge.cw_nextstands_k03_lists_of_calls_holds : PySem.Challenge.rw_nextstands_k03_lists_of_calls.Holds := by
  w_on; o_law; k_head; (case hw => w_witness2)
  k_fill
  refine Nx.walk_G (l := PySem.Challenge.rw_nextstands_k03_lists_of_calls) (n := 63) (k := 8) (x := "_law_script") (sp := fun K => Nx.spOf (Nx.c_law K)) rfl (by decide) rfl ⟨⟨rfl, by decide, by decide⟩, rfl⟩ (fun w h Y => PySem.W.kIn_of Y) ?F (fun K H a ns hl _ hS => Nx.law_sp K H a ns hl hS)
  case F =>
    intro w mg fa h KX G hmg
    refine' Nx.all_mk KX G hmg ?a0 ?l0 ?c0 ?k0 ?a1 ?l1 ?c1 ?k1 ?a2 ?l2 ?c2 ?k2 ?a3 ?l3 ?c3 ?k3 ?a4 ?l4 ?c4 ?k4 ?a5 ?l5 ?c5 ?k5 ?a6 ?l6 ?c6 ?k6 ?a7 ?l7 ?c7 ?k7 ?a8 ?l8 ?c8 ?k8 ?a9 ?l9 ?c9 ?k9 ?a10 ?l10 ?c10 ?k10 ?a11 ?l11 ?c11 ?k11 ?a12 ?l12 ?c12 ?k12 ?a13 ?l13 ?c13 ?k13 ?a14 ?l14 ?c14 ?k14 ?a15 ?l15 ?c15 ?k15 ?a16 ?l16 ?c16 ?k16 ?a17 ?l17 ?c17 ?k17 ?a18 ?l18 ?c18 ?k18 ?a19 ?l19 ?c19 ?k19 ?a20 ?l20 ?c20 ?k20 ?a21 ?l21 ?c21 ?k21 ?a22 ?l22 ?c22 ?k22 ?a23 ?l23 ?c23 ?k23 ?a24 ?l24 ?c24 ?k24 ?z_len ?z_range ?z_list ?z_tuple ?z_sorted ?z_abs ?z_int ?z_str ?z_repr ?z_all ?z_any ?z_max ?z_min ?z_sum ?z_enumerate ?z_zip ?z_isinstance ?z_bool
    (case a0 => k_is); (case l0 => k_is); (case c0 => k_is); (case k0 => k_is); (case a1 => k_is); (case l1 => k_is); (case c1 => k_is); (case k1 => k_is); (case a2 => k_is); (case l2 => k_is); (case c2 => k_is); (case k2 => k_is); (case a3 => k_is); (case l3 => k_is); (case c3 => k_is); (case k3 => k_is); (case a4 => k_is); (case l4 => k_is); (case c4 => k_is); (case k4 => k_is); (case a5 => k_is); (case l5 => k_is); (case c5 => k_is); (case k5 => k_is); (case a6 => k_is); (case l6 => k_is); (case c6 => k_is); (case k6 => k_is); (case a7 => k_is); (case l7 => k_is); (case c7 => k_is); (case k7 => k_is); (case a8 => k_is); (case l8 => k_is); (case c8 => k_is); (case k8 => k_is); (case a9 => k_is); (case l9 => k_is); (case c9 => k_is); (case k9 => k_is); (case a10 => k_is); (case l10 => k_is); (case c10 => k_is); (case k10 => k_is); (case a11 => k_is); (case l11 => k_is); (case c11 => k_is); (case k11 => k_is); (case a12 => k_is); (case l12 => k_is); (case c12 => k_is); (case k12 => k_is); (case a13 => k_is); (case l13 => k_is); (case c13 => k_is); (case k13 => k_is); (case a14 => k_is); (case l14 => k_is); (case c14 => k_is); (case k14 => k_is); (case a15 => k_is); (case l15 => k_is); (case c15 => k_is); (case k15 => k_is); (case a16 => k_is); (case l16 => k_is); (case c16 => k_is); (case k16 => k_is); (case a17 => k_is); (case l17 => k_is); (case c17 => k_is); (case k17 => k_is); (case a18 => k_is); (case l18 => k_is); (case c18 => k_is); (case k18 => k_is); (case a19 => k_is); (case l19 => k_is); (case c19 => k_is); (case k19 => k_is); (case a20 => k_is); (case l20 => k_is); (case c20 => k_is); (case k20 => k_is); (case a21 => k_is); (case l21 => k_is); (case c21 => k_is); (case k21 => k_is); (case a22 => k_is); (case l22 => k_is); (case c22 => k_is); (case k22 => k_is); (case a23 => k_is); (case l23 => k_is); (case c23 => k_is); (case k23 => k_is); (case a24 => k_is); (case l24 => k_is); (case c24 => k_is); (case k24 => k_is); (case z_len => k_is); (case z_range => k_is); (case z_list => k_is); (case z_tuple => k_is); (case z_sorted => k_is); (case z_abs => k_is); (case z_int => k_is); (case z_str => k_is); (case z_repr => k_is); (case z_all => k_is); (case z_any => k_is); (case z_max => k_is); (case z_min => k_is); (case z_sum => k_is); (case z_enumerate => k_is); (case z_zip => k_is); (case z_isinstance => k_is); (case z_bool => k_is)
