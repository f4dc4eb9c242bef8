import PyProof.Rows.All
import Wide.All
import OpenK.AllK
import Wide.FinOn
import HandS.ForMost
import HandS.Walk
import HandS.Deep
import HandS.Flow
import HandS.SortInts
import HandS.Zip
import HandS.Conv
import HandS.Wide
import HandS.RaiseMore
import HandS.TupAny
import HandS.Style
import KE.GoesNew
import HandS.IsInst
import HandS.TupMul
import HandS.NoneIn
import HandS.SetFor
import HandS.Dict
import HandS.TupLen
import HandS.TupSets
import HandS.Strs
import KE.KIndexOf
import PySem.Challenge.RW_nextstands_k76_whole_turned_round_the_ta
set_option Elab.async false
set_option linter.all false
set_option maxRecDepth 100000
set_option maxHeartbeats 4000000
namespace Nx
open PySem PySem.Spec PyProof.Rows L2
def WE (X : Cx) (e : Expr) : TE := fun σ H Q => ∀ pins s, Inv X pins σ H s → wpAny (model X.prog X.w) X.A (eval e X.env) (EP X pins σ Q) X.xe s
def WT (X : Cx) (e : Expr) : TT := fun σ H Q => ∀ pins s, Inv X pins σ H s → wpAny (model X.prog X.w) X.A (isTrue e X.env (eval e X.env)) (TP X pins σ Q) X.xe s
def WA (X : Cx) (es : List Expr) : TA := fun σ H Q => ∀ pos pins s, Inv X pins σ H s → wpAny (model X.prog X.w) X.A (spliced (backTo pos (starEach es X.env))) (AP X pins σ Q) X.xe s
def WK (X : Cx) (ks : List Keyword) : TA := fun σ H Q => ∀ pos pins s, Inv X pins σ H s → wpAny (model X.prog X.w) X.A (evalAll ((backToKw pos (keywordEach ks X.env)).map (·.2))) (AP X pins σ Q) X.xe s
def WS (X : Cx) (st : Stmt) : TS := fun D σ H => ∀ pins s, Inv X pins σ H s → wpAny (model X.prog X.w) X.A (exec st X.env) (SP X pins D) X.xe s
def WSs (X : Cx) (st : List Stmt) : TS := fun D σ H => ∀ pins s, Inv X pins σ H s → wpAny (model X.prog X.w) X.A (execs st X.env) (SP X pins D) X.xe s
section
variable {X : Cx} {e : Expr} {es : List Expr} {ks : List Keyword} {st : Stmt} {ss : List Stmt}
theorem pwe : PE X e (WE X e) := ⟨fun pins s _ _ _ I h => h pins s I⟩
theorem pwt : PT X e (WT X e) := ⟨fun pins s _ _ _ I h => h pins s I⟩
theorem pwa : PA X es (WA X es) := ⟨fun pos pins s _ _ _ I h => h pos pins s I⟩
theorem pws : PS X st (WS X st) := ⟨fun pins s _ _ _ I h => h pins s I⟩
theorem pwss : PSs X ss (WSs X ss) := ⟨fun pins s _ _ _ I h => h pins s I⟩
variable {σ : L2.St} {H : Hp}
theorem WE.of {t : TE} {Q : VK} (h : PE X e t) (q : t σ H Q) : WE X e σ H Q := fun pins s I => h.run pins s σ H Q I q
theorem WT.of {t : TT} {Q : Bool → Hp → Prop} (h : PT X e t) (q : t σ H Q) : WT X e σ H Q := fun pins s I => h.run pins s σ H Q I q
theorem WA.of {t : TA} {Q : List V → Hp → Prop} (h : PA X es t) (q : t σ H Q) : WA X es σ H Q := fun pos pins s I => h.run pos pins s σ H Q I q
theorem WK.of {t : TA} {Q : List V → Hp → Prop} (h : PK X ks t) (q : t σ H Q) : WK X ks σ H Q := fun pos pins s I => h.run pos pins s σ H Q I q
theorem WS.of {t : TS} {D : Ends} (h : PS X st t) (q : t D σ H) : WS X st D σ H := fun pins s I => h.run pins s σ H D I q
theorem WSs.of {t : TS} {D : Ends} (h : PSs X ss t) (q : t D σ H) : WSs X ss D σ H := fun pins s I => h.run pins s σ H D I q
end
def Ex (H H' : Hp) : Prop := ∀ a o, H a = some o → H' a = some o
theorem Ex.refl (H : Hp) : Ex H H := fun _ _ h => h
theorem Ex.trans {H H1 H2 : Hp} (a : Ex H H1) (b : Ex H1 H2) : Ex H H2 := fun x o h => b x o (a x o h)
theorem Ex.new {H : Hp} {p : Addr} {o : HO} (h : H p = none) : Ex H (upd H p o) := fun a u e => by
  rw [upd_ne (ne_of_none e h)]
  exact e
theorem Ex.free {H H' : Hp} {p : Addr} (e : Ex H H') (h : H' p = none) : H p = none := by
  cases h1 : H p with
  | none => rfl
  | some o =>
    rw [e p o h1] at h
    cases h
def fzOn : Bool := true
def TupAt (H : Hp) (a : Addr) (xs : List V) : Prop := H a = some (.tup xs) ∨ (fzOn = true ∧ ∃ o : Obj, o.dict = none ∧ H a = some (.frz o (.tup xs)))
theorem TupAt.mono {H H' : Hp} (e : Ex H H') {a : Addr} {xs : List V} (h : TupAt H a xs) : TupAt H' a xs := by
  rcases h with h | ⟨z, o, d, h⟩
  · exact .inl (e _ _ h)
  · exact .inr ⟨z, o, d, e _ _ h⟩
theorem TupAt.sq {H : Hp} {a : Addr} {xs : List V} (h : TupAt H a xs) {K : PySem.W.Frag} : SqT K H a xs := by
  rcases h with h | ⟨_, o, _, h⟩
  · exact .inl (.inl h)
  · exact .inl (.inr ⟨o, h⟩)
theorem TupAt.new {H : Hp} {p : Addr} {xs : List V} : TupAt (upd H p (.tup xs)) p xs := .inl upd_same
theorem TupAt.some {H : Hp} {a : Addr} {xs : List V} (h : TupAt H a xs) : ∃ o, H a = Option.some o := by
  rcases h with h | ⟨_, o, _, h⟩
  · exact ⟨_, h⟩
  · exact ⟨_, h⟩
mutual
inductive Dv (H : Hp) : V → PyData → Prop
  | non : Dv H .non .none
  | bl (b : Bool) : Dv H (.bl b) (.bool b)
  | int (i : Int) : Dv H (.int i) (.int i)
  | str (x : Str) : Dv H (.str x) (.str x)
  | lst {a : Addr} {xs : List V} {ds : List PyData} : H a = some (.lst xs) → DvA H xs ds → Dv H (.ref a) (.list ds)
  | tup {a : Addr} {xs : List V} {ds : List PyData} : TupAt H a xs → DvA H xs ds → Dv H (.ref a) (.tuple ds)
inductive DvA (H : Hp) : List V → List PyData → Prop
  | nil : DvA H [] []
  | cons {v : V} {vs : List V} {d : PyData} {ds : List PyData} : Dv H v d → DvA H vs ds → DvA H (v :: vs) (d :: ds)
end
section
variable {H H' : Hp}
mutual
theorem Dv.mono (e : Ex H H') : ∀ {v : V} {d : PyData}, Dv H v d → Dv H' v d
  | _, _, .non => .non
  | _, _, .bl b => .bl b
  | _, _, .int i => .int i
  | _, _, .str x => .str x
  | _, _, .lst h hs => .lst (e _ _ h) (DvA.mono e hs)
  | _, _, .tup h hs => .tup (h.mono e) (DvA.mono e hs)
theorem DvA.mono (e : Ex H H') : ∀ {vs : List V} {ds : List PyData}, DvA H vs ds → DvA H' vs ds
  | _, _, .nil => .nil
  | _, _, .cons h hs => .cons (Dv.mono e h) (DvA.mono e hs)
end
mutual
theorem Dv.dp {K : PySem.W.Frag} : ∀ {v : V} {d : PyData}, Dv H v d → Dp K H v d
  | _, _, .non => .non
  | _, _, .bl b => .bl b
  | _, _, .int i => .int i
  | _, _, .str x => .str x
  | _, _, .lst h hs => .lst (.inl (.inl h)) (DvA.dp hs)
  | _, _, .tup h hs => .tup h.sq (DvA.dp hs)
theorem DvA.dp {K : PySem.W.Frag} : ∀ {vs : List V} {ds : List PyData}, DvA H vs ds → DpAll K H vs ds
  | _, _, .nil => .nil
  | _, _, .cons h hs => .cons (Dv.dp h) (DvA.dp hs)
end
theorem DvA.length : ∀ {vs : List V} {ds : List PyData}, DvA H vs ds → vs.length = ds.length
  | _, _, .nil => rfl
  | _, _, .cons _ hs => by rw [List.length_cons, List.length_cons, DvA.length hs]
theorem DvA.get : ∀ {vs : List V} {ds : List PyData} {i : Nat} {d : PyData}, DvA H vs ds → ds[i]? = some d → ∃ v, vs[i]? = some v ∧ Dv H v d
  | _, _, _, _, .nil, e => by simp at e
  | _, _, 0, _, .cons h _, e => by
    simp at e
    subst e
    exact ⟨_, rfl, h⟩
  | _, _, i + 1, d, .cons _ hs, e => by
    obtain ⟨v, h1, h2⟩ := DvA.get (i := i) hs (by simpa using e)
    exact ⟨v, by simpa using h1, h2⟩
theorem DvA.getV : ∀ {vs : List V} {ds : List PyData} {i : Nat} {v : V}, DvA H vs ds → vs[i]? = some v → ∃ d, ds[i]? = some d ∧ Dv H v d
  | _, _, _, _, .nil, e => by simp at e
  | _, _, 0, _, .cons h _, e => by
    simp at e
    subst e
    exact ⟨_, rfl, h⟩
  | _, _, i + 1, d, .cons _ hs, e => by
    obtain ⟨v, h1, h2⟩ := DvA.getV (i := i) hs (by simpa using e)
    exact ⟨v, by simpa using h1, h2⟩
theorem DvA.append : ∀ {vs ws : List V} {ds es : List PyData}, DvA H vs ds → DvA H ws es → DvA H (vs ++ ws) (ds ++ es)
  | _, _, _, _, .nil, s => s
  | _, _, _, _, .cons h t, s => .cons h (DvA.append t s)
theorem DvA.take : ∀ {vs : List V} {ds : List PyData} (n : Nat), DvA H vs ds → DvA H (vs.take n) (ds.take n)
  | _, _, 0, _ => .nil
  | _, _, _ + 1, .nil => .nil
  | _, _, n + 1, .cons r t => .cons r (DvA.take n t)
theorem DvA.drop : ∀ {vs : List V} {ds : List PyData} (n : Nat), DvA H vs ds → DvA H (vs.drop n) (ds.drop n)
  | _, _, 0, r => r
  | _, _, _ + 1, .nil => .nil
  | _, _, n + 1, .cons _ t => DvA.drop n t
theorem DvA.ints : ∀ (ns : List Int) {vs : List V}, DvA H vs (ns.map PyData.int) → vs = ns.map V.int
  | [], _, .nil => rfl
  | n :: ns, _, .cons (.int _) t => by rw [DvA.ints ns t]; rfl
theorem DvA.of_ints : ∀ (ns : List Int), DvA H (ns.map V.int) (ns.map PyData.int)
  | [] => .nil
  | n :: ns => .cons (.int n) (DvA.of_ints ns)
end
inductive OV where
  | im (d : PyData) | own (a : Addr) | scr (K : PySem.W.Frag) (ns : List Int) | pr (a : Addr) (d : PyData) | tpl (ns : List Int)
def RO (G : Hp) (v : V) : OV → Prop
  | .im d => Dv G v d
  | .own a => v = .ref a
  | .scr K ns => ∃ a, v = .ref a ∧ SqL K G a (ns.map V.int)
  | .pr a d => ∃ t v2, v = .ref t ∧ G t = some (.tup [.ref a, v2]) ∧ Dv G v2 d
  | .tpl ns => fzOn = true ∧ ∃ (a : Addr) (ob : Obj), v = .ref a ∧ ob.dict = none ∧ G a = some (.frz ob (.tup (ns.map V.int)))
abbrev ROs (G : Hp) : List V → List OV → Prop := Paired (RO G)
theorem sql_mono {K : PySem.W.Frag} {G G' : Hp} (e : Ex G G') {a : Addr} {xs : List V} (h : SqL K G a xs) : SqL K G' a xs := by
  rcases h with (h | ⟨o, h⟩) | h
  · exact .inl (.inl (e _ _ h))
  · exact .inl (.inr ⟨o, e _ _ h⟩)
  · exact .inr h
theorem RO.mono {G G' : Hp} (e : Ex G G') {v : V} : ∀ {o : OV}, RO G v o → RO G' v o
  | .im _, h => Dv.mono e h
  | .own _, h => h
  | .scr _ _, ⟨a, h1, h2⟩ => ⟨a, h1, sql_mono e h2⟩
  | .pr _ _, ⟨t, v2, h1, h2, h3⟩ => ⟨t, v2, h1, e _ _ h2, h3.mono e⟩
  | .tpl _, ⟨z, a, ob, h1, h2, h3⟩ => ⟨z, a, ob, h1, h2, e _ _ h3⟩
theorem ROs.mono {G G' : Hp} (e : Ex G G') : ∀ {vs : List V} {os : List OV}, ROs G vs os → ROs G' vs os
  | _, _, .nil => .nil
  | _, _, .cons h t => .cons (h.mono e) (ROs.mono e t)
theorem ROs.length {G : Hp} {vs : List V} {os : List OV} (h : ROs G vs os) : vs.length = os.length := Paired.length h
theorem ROs.ims {G : Hp} : ∀ {vs : List V} {ds : List PyData}, ROs G vs (ds.map .im) → DvA G vs ds
  | _, [], .nil => .nil
  | _, _ :: _, .cons h t => .cons h (ROs.ims t)
theorem ROs.of_ims {G : Hp} : ∀ {vs : List V} {ds : List PyData}, DvA G vs ds → ROs G vs (ds.map .im)
  | _, _, .nil => .nil
  | _, _, .cons h t => .cons h (ROs.of_ims t)
theorem ROs.append {G : Hp} : ∀ {vs ws : List V} {os ps : List OV}, ROs G vs os → ROs G ws ps → ROs G (vs ++ ws) (os ++ ps)
  | _, _, _, _, .nil, s => s
  | _, _, _, _, .cons h t, s => .cons h (ROs.append t s)
theorem ROs.get {G : Hp} : ∀ {vs : List V} {os : List OV} {i : Nat} {o : OV}, ROs G vs os → os[i]? = some o → ∃ v, vs[i]? = some v ∧ RO G v o
  | _, _, _, _, .nil, e => by simp at e
  | _, _, 0, _, .cons h _, e => by
    simp at e
    subst e
    exact ⟨_, rfl, h⟩
  | _, _, i + 1, d, .cons _ hs, e => by
    obtain ⟨v, h1, h2⟩ := ROs.get (i := i) hs (by simpa using e)
    exact ⟨v, by simpa using h1, h2⟩
theorem ROs.getV {G : Hp} : ∀ {vs : List V} {os : List OV} {i : Nat} {v : V}, ROs G vs os → vs[i]? = some v → ∃ o, os[i]? = some o ∧ RO G v o
  | _, _, _, _, .nil, e => by simp at e
  | _, _, 0, _, .cons h _, e => by
    simp at e
    subst e
    exact ⟨_, rfl, h⟩
  | _, _, i + 1, d, .cons _ hs, e => by
    obtain ⟨v, h1, h2⟩ := ROs.getV (i := i) hs (by simpa using e)
    exact ⟨v, by simpa using h1, h2⟩
theorem ROs.set {G : Hp} {v : V} {o : OV} (r : RO G v o) : ∀ {vs : List V} {os : List OV} (i : Nat), ROs G vs os → ROs G (vs.set i v) (os.set i o)
  | _, _, _, .nil => .nil
  | _, _, 0, .cons _ t => .cons r t
  | _, _, i + 1, .cons q t => .cons q (ROs.set r i t)
theorem ROs.erase {G : Hp} : ∀ {vs : List V} {os : List OV} (i : Nat), ROs G vs os → ROs G (vs.eraseIdx i) (os.eraseIdx i)
  | _, _, _, .nil => .nil
  | _, _, 0, .cons _ t => t
  | _, _, i + 1, .cons q t => .cons q (ROs.erase i t)
theorem ROs.take {G : Hp} : ∀ {vs : List V} {ds : List OV} (n : Nat), ROs G vs ds → ROs G (vs.take n) (ds.take n)
  | _, _, 0, _ => .nil
  | _, _, _ + 1, .nil => .nil
  | _, _, n + 1, .cons r t => .cons r (ROs.take n t)
theorem ROs.drop {G : Hp} : ∀ {vs : List V} {ds : List OV} (n : Nat), ROs G vs ds → ROs G (vs.drop n) (ds.drop n)
  | _, _, 0, r => r
  | _, _, _ + 1, .nil => .nil
  | _, _, n + 1, .cons _ t => ROs.drop n t
theorem ROs.snoc {G : Hp} {vs : List V} {os : List OV} {v : V} {o : OV} (h : ROs G vs os) (r : RO G v o) : ROs G (vs ++ [v]) (os ++ [o]) := h.append (.cons r .nil)
theorem ROs.reverse {G : Hp} : ∀ {vs : List V} {os : List OV}, ROs G vs os → ROs G vs.reverse os.reverse
  | _, _, .nil => .nil
  | _, _, .cons h t => by
    rw [List.reverse_cons, List.reverse_cons]
    exact (ROs.reverse t).snoc h
abbrev Mu := Addr → Option (List OV)
def Mu.put (μ : Mu) (a : Addr) (l : List OV) : Mu := fun b => if b = a then some l else μ b
def Mu.del (μ : Mu) (a : Addr) : Mu := fun b => if b = a then none else μ b
theorem put_same {μ : Mu} {a : Addr} {l : List OV} : μ.put a l a = some l := if_pos rfl
theorem put_ne {μ : Mu} {a b : Addr} {l : List OV} (h : b ≠ a) : μ.put a l b = μ b := if_neg h
theorem put_put {μ : Mu} {a : Addr} {l m : List OV} : (μ.put a l).put a m = μ.put a m := by
  funext b
  unfold Mu.put
  split <;> rfl
structure RM (G H : Hp) (μ : Mu) : Prop where
  ex : Ex G H
  own : ∀ a l, μ a = some l → G a = none ∧ ∃ vs, H a = some (.lst vs) ∧ ROs G vs l
abbrev Rho := List (Option OV)
structure RV (G : Hp) (ρ : Rho) (σ : L2.St) : Prop where
  len : σ.length = ρ.length
  get : ∀ (i : Nat) o, ρ[i]? = some (some o) → ∃ v, σ[i]? = some (some v) ∧ RO G v o
section
variable {G G' H H' : Hp} {μ : Mu} {ρ : Rho} {σ : L2.St}
theorem RV.mono (h : RV G ρ σ) (e : Ex G G') : RV G' ρ σ := ⟨h.len, fun i o q => let ⟨v, a, b⟩ := h.get i o q; ⟨v, a, b.mono e⟩⟩
theorem RV.set (h : RV G ρ σ) {i : Nat} {v : V} {o : OV} (r : RO G v o) : RV G (ρ.set i (some o)) (σ.set i (some v)) := by
  refine ⟨by rw [List.length_set, List.length_set, h.len], fun j p q => ?_⟩
  by_cases e : i = j
  · subst e
    by_cases hl : i < ρ.length
    · rw [List.getElem?_set_self hl] at q
      cases q
      exact ⟨v, List.getElem?_set_self (by rw [h.len]; exact hl), r⟩
    · rw [List.getElem?_eq_none (by rw [List.length_set]; omega)] at q
      cases q
  · rw [List.getElem?_set_ne e] at q ⊢
    exact h.get j p q
theorem RV.wipe (h : RV G ρ σ) : ∀ (vs : List Nat), RV G (vs.foldr (fun v r => r.set v none) ρ) (L2.wipe σ vs)
  | [] => h
  | v :: vs => by
    have ih := RV.wipe h vs
    refine ⟨by show ((L2.wipe σ vs).set v none).length = _; rw [List.length_set, ih.len, List.foldr_cons, List.length_set], fun j p q => ?_⟩
    rw [List.foldr_cons] at q
    by_cases e : v = j
    · subst e
      by_cases hl : v < (vs.foldr (fun v r => r.set v none) ρ).length
      · rw [List.getElem?_set_self hl] at q
        cases q
      · rw [List.getElem?_eq_none (by rw [List.length_set]; omega)] at q
        cases q
    · rw [List.getElem?_set_ne e] at q
      obtain ⟨v', a, b⟩ := ih.get j p q
      refine ⟨v', ?_, b⟩
      show ((L2.wipe σ vs).set v none)[j]? = _
      rw [List.getElem?_set_ne e]
      exact a
theorem RM.fresh (r : RM G H μ) {p : Addr} (h : H p = none) : μ p = none := by
  cases q : μ p with
  | none => rfl
  | some l =>
    obtain ⟨_, vs, e, _⟩ := r.own p l q
    rw [h] at e
    cases e
theorem RM.lay (r : RM G H μ) {p : Addr} {o : HO} (h : H p = none) : RM (upd G p o) (upd H p o) μ := by
  refine ⟨fun a u e => ?_, fun a l q => ?_⟩
  · by_cases ha : a = p
    · subst ha
      rw [upd_same] at e ⊢
      exact e
    · rw [upd_ne ha] at e ⊢
      exact r.ex a u e
  · obtain ⟨g, vs, e, w⟩ := r.own a l q
    have ha : a ≠ p := ne_of_none e h
    refine ⟨by rw [upd_ne ha]; exact g, vs, by rw [upd_ne ha]; exact e, w.mono (Ex.new (r.ex.free h))⟩
theorem RM.new (r : RM G H μ) {p : Addr} {vs : List V} {l : List OV} (h : H p = none) (w : ROs G vs l) : RM G (upd H p (.lst vs)) (μ.put p l) := by
  refine ⟨r.ex.trans (Ex.new h), fun a m q => ?_⟩
  by_cases ha : a = p
  · subst ha
    rw [put_same] at q
    cases q
    exact ⟨r.ex.free h, vs, upd_same, w⟩
  · rw [put_ne ha] at q
    obtain ⟨g, us, e, w⟩ := r.own a m q
    exact ⟨g, us, by rw [upd_ne ha]; exact e, w⟩
theorem RM.chg (r : RM G H μ) {p : Addr} {vs : List V} {l m : List OV} (h : μ p = some m) (w : ROs G vs l) : RM G (upd H p (.lst vs)) (μ.put p l) := by
  obtain ⟨g0, us0, e0, _⟩ := r.own p m h
  refine ⟨fun a u e => ?_, fun a m q => ?_⟩
  · rw [upd_ne (ne_of_none e g0)]
    exact r.ex a u e
  · by_cases ha : a = p
    · subst ha
      rw [put_same] at q
      cases q
      exact ⟨g0, vs, upd_same, w⟩
    · rw [put_ne ha] at q
      obtain ⟨g, us, e, w⟩ := r.own a m q
      exact ⟨g, us, by rw [upd_ne ha]; exact e, w⟩
theorem RM.frz (r : RM G H μ) {p : Addr} {ds : List PyData} (h : μ p = some (ds.map .im)) : ∃ vs, H p = some (.lst vs) ∧ G p = none ∧ DvA G vs ds ∧ RM (upd G p (.lst vs)) H (μ.del p) := by
  obtain ⟨g0, vs, e0, w⟩ := r.own p _ h
  refine ⟨vs, e0, g0, ROs.ims w, fun a u e => ?_, fun a m q => ?_⟩
  · by_cases ha : a = p
    · subst ha
      rw [upd_same] at e
      cases e
      exact e0
    · rw [upd_ne ha] at e
      exact r.ex a u e
  · by_cases ha : a = p
    · subst ha
      rw [show μ.del a a = none from if_pos rfl] at q
      cases q
    · rw [show μ.del p a = μ a from if_neg ha] at q
      obtain ⟨g, us, e, w⟩ := r.own a m q
      exact ⟨by rw [upd_ne ha]; exact g, us, e, w.mono (Ex.new g0)⟩
theorem RM.drop (r : RM G H μ) {μ' : Mu} (h : ∀ a l, μ' a = some l → μ a = some l) : RM G H μ' := ⟨r.ex, fun a l q => r.own a l (h a l q)⟩
end
end Nx
namespace Nx
open PySem PySem.Spec PyProof.Rows L2
def Fin (G : Hp) (Φ : OV → Mu → Prop) (Q : VK) : Prop := ∀ v o μ' G' H', Φ o μ' → Ex G G' → RM G' H' μ' → RO G' v o → Q v H'
theorem Fin.later {G G' : Hp} {Φ : OV → Mu → Prop} {Q : VK} (f : Fin G Φ Q) (e : Ex G G') : Fin G' Φ Q := fun v o μ' G2 H' h e2 => f v o μ' G2 H' h (e.trans e2)
def DE (X : Cx) (e : Expr) (ρ : Rho) (μ : Mu) (Φ : OV → Mu → Prop) : Prop := ∀ G H σ, RM G H μ → RV G ρ σ → ∀ Q : VK, Fin G Φ Q → WE X e σ H Q
def DT (X : Cx) (e : Expr) (ρ : Rho) (μ : Mu) (Φ : Bool → Mu → Prop) : Prop := ∀ G H σ, RM G H μ → RV G ρ σ → ∀ Q : Bool → Hp → Prop, (∀ b μ' G' H', Φ b μ' → Ex G G' → RM G' H' μ' → Q b H') → WT X e σ H Q
def DA (X : Cx) (es : List Expr) (ρ : Rho) (μ : Mu) (Φ : List OV → Mu → Prop) : Prop := ∀ G H σ, RM G H μ → RV G ρ σ → ∀ Q : List V → Hp → Prop, (∀ vs os μ' G' H', Φ os μ' → Ex G G' → RM G' H' μ' → ROs G' vs os → Q vs H') → WA X es σ H Q
structure DEnds where
  nx : Rho → Mu → Prop
  rt : OV → Mu → Prop
  bk : Rho → Mu → Prop := fun _ _ => False
  ct : Rho → Mu → Prop := fun _ _ => False
def FinS (G : Hp) (P : Rho → Mu → Prop) (Q : L2.St → Hp → Prop) : Prop := ∀ ρ' μ' G' H' σ', P ρ' μ' → Ex G G' → RM G' H' μ' → RV G' ρ' σ' → Q σ' H'
theorem FinS.later {G G' : Hp} {P : Rho → Mu → Prop} {Q : L2.St → Hp → Prop} (f : FinS G P Q) (e : Ex G G') : FinS G' P Q := fun ρ' μ' G2 H' σ' h e2 => f ρ' μ' G2 H' σ' h (e.trans e2)
structure FinE (G : Hp) (D : DEnds) (E : Ends) : Prop where
  nx : FinS G D.nx E.nx
  rt : Fin G D.rt E.rt
  bk : FinS G D.bk E.bk
  ct : FinS G D.ct E.ct
theorem FinE.later {G G' : Hp} {D : DEnds} {E : Ends} (f : FinE G D E) (e : Ex G G') : FinE G' D E := ⟨f.nx.later e, f.rt.later e, f.bk.later e, f.ct.later e⟩
def DS (X : Cx) (st : Stmt) (ρ : Rho) (μ : Mu) (D : DEnds) : Prop := ∀ G H σ, RM G H μ → RV G ρ σ → ∀ E : Ends, FinE G D E → WS X st E σ H
def DSs (X : Cx) (ss : List Stmt) (ρ : Rho) (μ : Mu) (D : DEnds) : Prop := ∀ G H σ, RM G H μ → RV G ρ σ → ∀ E : Ends, FinE G D E → WSs X ss E σ H
section
variable {X : Cx} {a b c e : Expr} {es : List Expr} {ρ : Rho} {μ : Mu} {Φ : OV → Mu → Prop} {pos : Pos}
theorem DE.imp {Ψ : OV → Mu → Prop} (h : DE X e ρ μ Φ) (k : ∀ o μ', Φ o μ' → Ψ o μ') : DE X e ρ μ Ψ := fun G H σ r v Q f => h G H σ r v Q fun v o μ' G' H' q => f v o μ' G' H' (k o μ' q)
theorem DT.imp {Φ Ψ : Bool → Mu → Prop} (h : DT X e ρ μ Φ) (k : ∀ o μ', Φ o μ' → Ψ o μ') : DT X e ρ μ Ψ := fun G H σ r v Q f => h G H σ r v Q fun o μ' G' H' q => f o μ' G' H' (k o μ' q)
theorem DA.imp {Φ Ψ : List OV → Mu → Prop} (h : DA X es ρ μ Φ) (k : ∀ o μ', Φ o μ' → Ψ o μ') : DA X es ρ μ Ψ := fun G H σ r v Q f => h G H σ r v Q fun v o μ' G' H' q => f v o μ' G' H' (k o μ' q)
theorem DSs.imp {ss : List Stmt} {D D' : DEnds} (h : DSs X ss ρ μ D) (k1 : ∀ r m, D.nx r m → D'.nx r m) (k2 : ∀ o m, D.rt o m → D'.rt o m) (k3 : ∀ r m, D.bk r m → D'.bk r m) (k4 : ∀ r m, D.ct r m → D'.ct r m) : DSs X ss ρ μ D' :=
  fun G H σ r v E f => h G H σ r v E ⟨fun ρ' μ' G' H' σ' q => f.nx ρ' μ' G' H' σ' (k1 _ _ q), fun v o μ' G' H' q => f.rt v o μ' G' H' (k2 _ _ q), fun ρ' μ' G' H' σ' q => f.bk ρ' μ' G' H' σ' (k3 _ _ q), fun ρ' μ' G' H' σ' q => f.ct ρ' μ' G' H' σ' (k4 _ _ q)⟩
theorem DS.imp {ss : Stmt} {D D' : DEnds} (h : DS X ss ρ μ D) (k1 : ∀ r m, D.nx r m → D'.nx r m) (k2 : ∀ o m, D.rt o m → D'.rt o m) (k3 : ∀ r m, D.bk r m → D'.bk r m) (k4 : ∀ r m, D.ct r m → D'.ct r m) : DS X ss ρ μ D' :=
  fun G H σ r v E f => h G H σ r v E ⟨fun ρ' μ' G' H' σ' q => f.nx ρ' μ' G' H' σ' (k1 _ _ q), fun v o μ' G' H' q => f.rt v o μ' G' H' (k2 _ _ q), fun ρ' μ' G' H' σ' q => f.bk ρ' μ' G' H' σ' (k3 _ _ q), fun ρ' μ' G' H' σ' q => f.ct ρ' μ' G' H' σ' (k4 _ _ q)⟩
theorem de_frz {ds : List PyData} {p : Addr} (h : DE X e ρ μ fun o μ' => ∃ p ds, o = .own p ∧ μ' p = some (ds.map .im) ∧ Φ (.im (.list ds)) (μ'.del p)) : DE X e ρ μ Φ := fun G H σ r v Q f =>
  h G H σ r v Q fun v o μ' G' H' q e m ro => by
    obtain ⟨p, ds, rfl, hp, q⟩ := q
    obtain ⟨vs, e0, g0, w, m'⟩ := m.frz hp
    have ro : v = .ref p := ro
    subst ro
    exact f _ _ _ _ _ q (e.trans (Ex.new g0)) m' (Dv.lst upd_same (w.mono (Ex.new g0)))
theorem de_var (i : Nat) {x : Str} {o : OV} (hN : X.N[i]? = some x) (hv : Vis X.env.scope x) (hρ : ρ[i]? = some (some o)) (h : Φ o μ) (hd : (x == ("__debug__" : Str)) = false := by decide) (hcd : (x == ("__classdict__" : Str)) = false := by decide) : DE X (.Name x pos) ρ μ Φ := fun G H σ r v Q f => by
  obtain ⟨u, h1, h2⟩ := v.get i o hρ
  exact WE.of (pe_var hN hv hd hcd) ⟨u, h1, f u o μ G H h (Ex.refl G) r h2⟩
theorem de_int {i : Int} {j : Nat} (h : Φ (.im (.int i)) μ) : DE X (.Constant (.int i) j pos) ρ μ Φ := fun G H σ r v Q f => WE.of pe_int (f _ _ _ _ _ h (Ex.refl G) r (Dv.int i))
theorem de_bl {i : Bool} {j : Nat} (h : Φ (.im (.bool i)) μ) : DE X (.Constant (.bool i) j pos) ρ μ Φ := fun G H σ r v Q f => WE.of pe_bl (f _ _ _ _ _ h (Ex.refl G) r (Dv.bl i))
theorem de_non {j : Nat} (h : Φ (.im .none) μ) : DE X (.Constant .none j pos) ρ μ Φ := fun G H σ r v Q f => WE.of pe_non (f _ _ _ _ _ h (Ex.refl G) r Dv.non)
def OpD (r : R2) (x y : OV) (μ : Mu) (Φ : OV → Mu → Prop) : Prop := ∀ G H vx vy, RM G H μ → RO G vx x → RO G vy y → ∀ Q : VK, Fin G Φ Q → r vx vy H Q
theorem de_op {op : Operator} {r : R2} (ho : OpR X (binaryOp op) r) (h : DE X a ρ μ fun x μ1 => DE X b ρ μ1 fun y μ2 => OpD r x y μ2 Φ) : DE X (.BinOp a op b pos) ρ μ Φ := fun G H σ m v Q f =>
  WE.of (pe_op ho pwe pwe) (h G H σ m v _ fun vx x μ1 G1 H1 q1 e1 m1 r1 => q1 G1 H1 σ m1 (v.mono e1) _ fun vy y μ2 G2 H2 q2 e2 m2 r2 => q2 G2 H2 vx vy m2 (r1.mono e2) r2 Q (f.later (e1.trans e2)))
theorem de_cmp {op : CmpOp} {r : R2} (ho : OpR X (compareOp op) r) (hm : behindInMarks op b = false) (h : DE X a ρ μ fun x μ1 => DE X b ρ μ1 fun y μ2 => OpD r x y μ2 Φ) : DE X (.Compare a [op] [b] pos) ρ μ Φ := fun G H σ m v Q f =>
  WE.of (pe_cmpR ho pwe pwe hm) (h G H σ m v _ fun vx x μ1 G1 H1 q1 e1 m1 r1 => q1 G1 H1 σ m1 (v.mono e1) _ fun vy y μ2 G2 H2 q2 e2 m2 r2 => q2 G2 H2 vx vy m2 (r1.mono e2) r2 Q (f.later (e1.trans e2)))
theorem dt_cmp {Φ : Bool → Mu → Prop} {op : CmpOp} {r : R2} (ho : OpR X (compareOp op) r) (hm : behindInMarks op b = false) (h : DE X a ρ μ fun x μ1 => DE X b ρ μ1 fun y μ2 => OpD r x y μ2 fun z μ3 => ∃ k, z = .im (.bool k) ∧ Φ k μ3) : DT X (.Compare a [op] [b] pos) ρ μ Φ := fun G H σ m v Q f =>
  WT.of (pt_cmpR ho pwe pwe hm) (h G H σ m v _ fun vx x μ1 G1 H1 q1 e1 m1 r1 => q1 G1 H1 σ m1 (v.mono e1) _ fun vy y μ2 G2 H2 q2 e2 m2 r2 => q2 G2 H2 vx vy m2 (r1.mono e2) r2 _ fun vz z μ3 G3 H3 q3 e3 m3 r3 => by
    obtain ⟨k, rfl, q⟩ := q3
    cases r3
    exact ⟨k, rfl, f k μ3 G3 H3 q ((e1.trans e2).trans e3) m3⟩)
theorem od_I0 {g : Int → Int → Int} {i j : Int} (h : Φ (.im (.int (g i j))) μ) : OpD (rI0 fun i j => .int (g i j)) (.im (.int i)) (.im (.int j)) μ Φ := fun G H vx vy m rx ry Q f => by
  cases rx
  cases ry
  exact ⟨i, j, rfl, rfl, f _ _ μ G H h (Ex.refl G) m (Dv.int _)⟩
theorem od_B0 {g : Int → Int → Bool} {i j : Int} (h : Φ (.im (.bool (g i j))) μ) : OpD (rI0 fun i j => .bl (g i j)) (.im (.int i)) (.im (.int j)) μ Φ := fun G H vx vy m rx ry Q f => by
  cases rx
  cases ry
  exact ⟨i, j, rfl, rfl, f _ _ μ G H h (Ex.refl G) m (Dv.bl _)⟩
theorem od_I {C : Int → Int → Prop} {g : Int → Int → Int} {i j : Int} (hc : C i j) (h : Φ (.im (.int (g i j))) μ) : OpD (rI C fun i j => .int (g i j)) (.im (.int i)) (.im (.int j)) μ Φ := fun G H vx vy m rx ry Q f => by
  cases rx
  cases ry
  exact ⟨i, j, rfl, rfl, hc, f _ _ μ G H h (Ex.refl G) m (Dv.int _)⟩
theorem OpD.or {r r' : R2} {x y : OV} (h : OpD r x y μ Φ ∨ OpD r' x y μ Φ) : OpD (fun x y H Q => r x y H Q ∨ r' x y H Q) x y μ Φ := fun G H vx vy m rx ry Q f => by
  rcases h with h | h
  · exact .inl (h G H vx vy m rx ry Q f)
  · exact .inr (h G H vx vy m rx ry Q f)
def AddD (x y : OV) (μ : Mu) (Φ : OV → Mu → Prop) : Prop :=
  (∃ i j, x = .im (.int i) ∧ y = .im (.int j) ∧ Φ (.im (.int (i + j))) μ) ∨
  (∃ xs ys, x = .im (.list xs) ∧ y = .im (.list ys) ∧ xs.length + ys.length ≤ 100000 ∧ Φ (.im (.list (xs ++ ys))) μ) ∨
  (∃ x' y', x = .im (.str x') ∧ y = .im (.str y') ∧ x'.length + y'.length ≤ 100000 ∧ Φ (.im (.str (x' ++ y'))) μ)
theorem od_cat {xs ys : List PyData} (hz : xs.length + ys.length ≤ 100000) (h : Φ (.im (.list (xs ++ ys))) μ) : OpD rCat (.im (.list xs)) (.im (.list ys)) μ Φ := fun G H vx vy m rx ry Q f => by
  cases rx with
  | lst h1 w1 =>
    cases ry with
    | lst h2 w2 =>
      refine ⟨_, _, _, _, rfl, rfl, m.ex _ _ h1, m.ex _ _ h2, by rw [w1.length, w2.length]; exact Nat.le_trans hz (by decide), fun p hp => ?_⟩
      have n := m.ex.free hp
      exact f _ _ μ _ _ h (Ex.new n) (m.lay hp) (Dv.lst upd_same ((w1.append w2).mono (Ex.new n)))
theorem de_add (h : DE X a ρ μ fun x μ1 => DE X b ρ μ1 fun y μ2 => AddD x y μ2 Φ) : DE X (.BinOp a .Add b pos) ρ μ Φ := by
  refine de_op ((op_add.or op_cat).or op_add_str) (h.imp fun x μ1 h1 => h1.imp fun y μ2 h2 => ?_)
  rcases h2 with ⟨i, j, rfl, rfl, q⟩ | ⟨xs, ys, rfl, rfl, hz, q⟩ | ⟨xs, ys, rfl, rfl, hz, q⟩
  · exact .or (.inl (.or (.inl (od_I0 q))))
  · exact .or (.inl (.or (.inr (od_cat hz q))))
  · refine .or (.inr fun G H vx vy m rx ry Q f => ?_)
    cases rx
    cases ry
    exact ⟨_, _, rfl, rfl, Nat.le_trans hz (by decide), f _ _ _ _ _ q (Ex.refl G) m (Dv.str _)⟩
theorem de_mod (h : DE X a ρ μ fun x μ1 => DE X b ρ μ1 fun y μ2 => ∃ i j, x = .im (.int i) ∧ y = .im (.int j) ∧ 0 < j ∧ Φ (.im (.int (i % j))) μ2) : DE X (.BinOp a .Mod b pos) ρ μ Φ := by
  refine de_op op_mod (h.imp fun x μ1 h1 => h1.imp fun y μ2 h2 => ?_)
  obtain ⟨i, j, rfl, rfl, hj, q⟩ := h2
  exact od_I hj q
theorem de_fdiv (h : DE X a ρ μ fun x μ1 => DE X b ρ μ1 fun y μ2 => ∃ i j, x = .im (.int i) ∧ y = .im (.int j) ∧ CDiv i j ∧ Φ (.im (.int (i / j))) μ2) : DE X (.BinOp a .FloorDiv b pos) ρ μ Φ := by
  refine de_op op_fdiv (h.imp fun x μ1 h1 => h1.imp fun y μ2 h2 => ?_)
  obtain ⟨i, j, rfl, rfl, hj, q⟩ := h2
  exact od_I hj q
theorem de_mul (h : DE X a ρ μ fun x μ1 => DE X b ρ μ1 fun y μ2 => ∃ i j, x = .im (.int i) ∧ y = .im (.int j) ∧ CMul i j ∧ Φ (.im (.int (i * j))) μ2) : DE X (.BinOp a .Mult b pos) ρ μ Φ := by
  refine de_op op_mul (h.imp fun x μ1 h1 => h1.imp fun y μ2 h2 => ?_)
  obtain ⟨i, j, rfl, rfl, hj, q⟩ := h2
  exact od_I hj q
theorem de_pow (h : DE X a ρ μ fun x μ1 => DE X b ρ μ1 fun y μ2 => ∃ i j, x = .im (.int i) ∧ y = .im (.int j) ∧ CPow i j ∧ Φ (.im (.int (i ^ j.toNat))) μ2) : DE X (.BinOp a .Pow b pos) ρ μ Φ := by
  refine de_op op_pow (h.imp fun x μ1 h1 => h1.imp fun y μ2 h2 => ?_)
  obtain ⟨i, j, rfl, rfl, hj, q⟩ := h2
  exact od_I hj q
theorem de_neg (h : DE X a ρ μ fun x μ1 => ∃ i, x = .im (.int i) ∧ Φ (.im (.int (-i))) μ1) : DE X (.UnaryOp .USub a pos) ρ μ Φ := fun G H σ m v Q f =>
  WE.of (pe_un un_neg pwe) (h G H σ m v _ fun vx x μ1 G1 H1 q1 e1 m1 r1 => by
    obtain ⟨i, rfl, q⟩ := q1
    cases r1
    exact ⟨i, rfl, f _ _ _ _ _ q e1 m1 (Dv.int _)⟩)
inductive RdD (μ : Mu) : OV → PyData → Prop
  | im (d : PyData) : RdD μ (.im d) d
  | own {a : Addr} {ds : List PyData} : μ a = some (ds.map .im) → RdD μ (.own a) (.list ds)
theorem RdD.at {G H : Hp} {μ : Mu} (m : RM G H μ) {v : V} {o : OV} {d : PyData} (h : RdD μ o d) (r : RO G v o) : Dv H v d := by
  cases h with
  | im d => exact Dv.mono m.ex r
  | own h =>
    have r : v = _ := r
    subst r
    obtain ⟨_, vs, e, w⟩ := m.own _ _ h
    exact .lst e ((ROs.ims w).mono m.ex)
def CmpI (p : Int → Int → Bool) (Φ : OV → Mu → Prop) (x y : OV) (μ : Mu) : Prop := ∃ i j, x = .im (.int i) ∧ y = .im (.int j) ∧ Φ (.im (.bool (p i j))) μ
theorem de_ge (h : DE X a ρ μ fun x μ1 => DE X b ρ μ1 fun y μ2 => CmpI (fun i j => decide (j ≤ i)) Φ x y μ2) : DE X (.Compare a [.GtE] [b] pos) ρ μ Φ :=
  de_cmp op_ge (nomark _) (h.imp fun x μ1 h1 => h1.imp fun y μ2 ⟨i, j, e1, e2, q⟩ => by subst e1 e2; exact od_B0 q)
def CmpB (Φ : Bool → Mu → Prop) : OV → Mu → Prop := fun z μ3 => ∃ k, z = .im (.bool k) ∧ Φ k μ3
theorem dt_gt {Φ : Bool → Mu → Prop} (h : DE X a ρ μ fun x μ1 => DE X b ρ μ1 fun y μ2 => ∃ i j, x = .im (.int i) ∧ y = .im (.int j) ∧ Φ (decide (j < i)) μ2) : DT X (.Compare a [.Gt] [b] pos) ρ μ Φ :=
  dt_cmp op_gt (nomark _) (h.imp fun x μ1 h1 => h1.imp fun y μ2 ⟨i, j, e1, e2, q⟩ => by subst e1 e2; exact od_B0 ⟨_, rfl, q⟩)
theorem od_eq {x y : OV} {d e : PyData} (hx : RdD μ x d) (hy : RdD μ y e) (sd : SeqAt.shaped d = true) (se : SeqAt.shaped e = true) (h : Φ (.im (.bool (PyData.eqv d e))) μ) : OpD (rEqD X.K) x y μ Φ := fun G H vx vy m rx ry Q f =>
  ⟨d, e, (hx.at m rx).dp, (hy.at m ry).dp, sd, se, f _ _ _ _ _ h (Ex.refl G) m (Dv.bl _)⟩
theorem od_ne {x y : OV} {d e : PyData} (hx : RdD μ x d) (hy : RdD μ y e) (sd : SeqAt.shaped d = true) (se : SeqAt.shaped e = true) (h : Φ (.im (.bool (!PyData.eqv d e))) μ) : OpD (rNeD X.K) x y μ Φ := fun G H vx vy m rx ry Q f =>
  ⟨d, e, (hx.at m rx).dp, (hy.at m ry).dp, sd, se, f _ _ _ _ _ h (Ex.refl G) m (Dv.bl _)⟩
end
end Nx
namespace Nx
open PySem PySem.Spec PyProof.Rows L2
section
variable {X : Cx} {a b c e : Expr} {es rest : List Expr} {ρ : Rho} {μ : Mu} {Φ : OV → Mu → Prop} {pos : Pos}
theorem op_eqI : OpR X (compareOp .Eq) (rI0 fun i j => .bl (decide (i = j))) := opB0 fun i j t u s Q E q => eq_int (by rw [Bool.beq_eq_decide_eq]; exact q)
theorem op_neI : OpR X (compareOp .NotEq) (rI0 fun i j => .bl (!decide (i = j))) := opB0 fun i j t u s Q E q => ne_int (by rw [bne, Bool.beq_eq_decide_eq]; exact q)
theorem dec_strD {a b : Str} : decide (V.str a = V.str b) = decide (a = b) := by
  by_cases h : a = b
  · subst h
    simp
  · have h' : ¬ V.str a = V.str b := fun e => h (V.str.inj e)
    simp [h]
theorem od_eqS {a b : Str} (h : Φ (.im (.bool (decide (a = b)))) μ) : OpD rEq (.im (.str a)) (.im (.str b)) μ Φ := fun G H vx vy m rx ry Q f => by
  cases rx
  cases ry
  refine ⟨rfl, ?_⟩
  rw [dec_strD]
  exact f _ _ _ _ _ h (Ex.refl G) m (Dv.bl _)
theorem od_neS {a b : Str} (h : Φ (.im (.bool (!decide (a = b)))) μ) : OpD rNe (.im (.str a)) (.im (.str b)) μ Φ := fun G H vx vy m rx ry Q f => by
  cases rx
  cases ry
  refine ⟨rfl, ?_⟩
  rw [dec_strD]
  exact f _ _ _ _ _ h (Ex.refl G) m (Dv.bl _)
def isNon : OV → Bool
  | .im .none => true
  | _ => false
theorem isNon_at {G : Hp} {v : V} : ∀ {o : OV}, RO G v o → decide (v = .non) = isNon o
  | .own a, h => by
    have h : v = .ref a := h
    subst h
    rfl
  | .scr K ns, h => by
    obtain ⟨a, rfl, _⟩ := h
    rfl
  | .pr p d, h => by
    obtain ⟨t, v2, rfl, _⟩ := h
    rfl
  | .tpl ns, h => by
    obtain ⟨_, a, ob, rfl, _⟩ := h
    rfl
  | .im d, h => by
    have h : Dv G v d := h
    cases h <;> rfl
theorem od_isN {x y : OV} (hy : y = .im .none) (h : Φ (.im (.bool (isNon x))) μ) : OpD (fun x y H Q => y = .non ∧ Q (.bl (decide (x = .non))) H) x y μ Φ := fun G H vx vy m rx ry Q f => by
  subst hy
  cases ry
  refine ⟨rfl, ?_⟩
  rw [isNon_at rx]
  exact f _ _ _ _ _ h (Ex.refl G) m (Dv.bl _)
theorem od_notN {x y : OV} (hy : y = .im .none) (h : Φ (.im (.bool (!isNon x))) μ) : OpD (fun x y H Q => y = .non ∧ Q (.bl (!decide (x = .non))) H) x y μ Φ := fun G H vx vy m rx ry Q f => by
  subst hy
  cases ry
  refine ⟨rfl, ?_⟩
  rw [isNon_at rx]
  exact f _ _ _ _ _ h (Ex.refl G) m (Dv.bl _)
theorem de_isN {j : Nat} {p' : Pos} (h : DE X a ρ μ fun x μ1 => Φ (.im (.bool (isNon x))) μ1) : DE X (.Compare a [.Is] [.Constant .none j p'] pos) ρ μ Φ :=
  de_cmp op_isN (nomark _) (h.imp fun x μ1 h1 => de_non (od_isN rfl h1))
theorem dt_notN {j : Nat} {p' : Pos} {Φ : Bool → Mu → Prop} (h : DE X a ρ μ fun x μ1 => Φ (!isNon x) μ1) : DT X (.Compare a [.IsNot] [.Constant .none j p'] pos) ρ μ Φ :=
  dt_cmp op_notN (nomark _) (h.imp fun x μ1 h1 => de_non (od_notN rfl ⟨_, rfl, h1⟩))
theorem de_chain {op op' : CmpOp} {p p' : Int → Int → Bool} (ho : OpR X (compareOp op) (rI0 fun i j => .bl (p i j))) (ho' : OpR X (compareOp op') (rI0 fun i j => .bl (p' i j)))
    (h : DE X a ρ μ fun x μ1 => DE X b ρ μ1 fun y μ2 => ∃ i j, x = .im (.int i) ∧ y = .im (.int j) ∧ if p i j = true then DE X c ρ μ2 fun z μ3 => ∃ k, z = .im (.int k) ∧ Φ (.im (.bool (p' j k))) μ3 else Φ (.im (.bool false)) μ2)
    (hm : lastMarks [op, op'] [b, c] = false := by with_unfolding_all rfl) : DE X (.Compare a [op, op'] [b, c] pos) ρ μ Φ := fun G H σ m v Q f =>
  WE.of (pe_chain ho ho' pwe pwe pwe hm) (h G H σ m v _ fun vx x μ1 G1 H1 q1 e1 m1 r1 => q1 G1 H1 σ m1 (v.mono e1) _ fun vy y μ2 G2 H2 q2 e2 m2 r2 => by
    obtain ⟨i, j, rfl, rfl, q⟩ := q2
    cases r1
    cases r2
    refine ⟨i, j, rfl, rfl, _, rfl, ?_⟩
    split at q
    · rename_i hp
      rw [if_pos hp]
      refine q G2 H2 σ m2 (v.mono (e1.trans e2)) _ fun vz z μ3 G3 H3 q3 e3 m3 r3 => ?_
      obtain ⟨k, rfl, q⟩ := q3
      cases r3
      exact ⟨j, k, rfl, rfl, f _ _ _ _ _ q ((e1.trans e2).trans e3) m3 (Dv.bl _)⟩
    · rename_i hp
      rw [if_neg hp]
      exact f _ _ _ _ _ q (e1.trans e2) m2 (Dv.bl _))
def WW (X : Cx) (e : Expr) : TT := fun σ H Q => ∀ whole pins s, Inv X pins σ H s → wpAny (model X.prog X.w) X.A (isTrue e X.env whole) (TP X pins σ Q) X.xe s
theorem pww : PW X e (WW X e) := ⟨fun whole pins s _ _ _ I h => h whole pins s I⟩
theorem WW.of {t : TT} {σ : L2.St} {H : Hp} {Q : Bool → Hp → Prop} (h : PW X e t) (q : t σ H Q) : WW X e σ H Q := fun whole pins s I => h.run whole pins s σ H Q I q
def DW (X : Cx) (e : Expr) (ρ : Rho) (μ : Mu) (Φ : Bool → Mu → Prop) : Prop := ∀ G H σ, RM G H μ → RV G ρ σ → ∀ Q : Bool → Hp → Prop, (∀ b μ' G' H', Φ b μ' → Ex G G' → RM G' H' μ' → Q b H') → WW X e σ H Q
variable {Ψ : Bool → Mu → Prop}
theorem dt_val (h : DE X e ρ μ (CmpB Ψ)) (he : ∀ whole, isTrue e X.env whole = (do let v ← whole; standAt e.pos; holding [v] (truthy v)) := by intro _; rfl) : DT X e ρ μ Ψ := fun G H σ m v Q f =>
  WT.of (pt_val pwe he) (h G H σ m v _ fun vx x μ1 G1 H1 q1 e1 m1 r1 => by
    obtain ⟨k, rfl, q⟩ := q1
    cases r1
    exact ⟨k, rfl, f _ _ _ _ q e1 m1⟩)
theorem dt_not (h : DT X a ρ μ fun k μ1 => Ψ (!k) μ1) : DT X (.UnaryOp .Not a pos) ρ μ Ψ := fun G H σ m v Q f =>
  WT.of (pt_not pwt) (h G H σ m v _ fun k μ1 G1 H1 q1 e1 m1 => f _ _ _ _ q1 e1 m1)
theorem DW.dt (h : DW X e ρ μ Ψ) : DT X e ρ μ Ψ := fun G H σ m v Q f pins s I => h G H σ m v Q f _ pins s I
theorem dw_or1 (h : DT X a ρ μ Ψ) : DW X (.BoolOp .Or [a] pos) ρ μ Ψ := fun G H σ m v Q f => WW.of (pw_or1 pwt) (h G H σ m v Q f)
theorem dw_or (h : DT X a ρ μ fun k μ1 => if k = true then Ψ true μ1 else DW X (.BoolOp .Or (b :: rest) pos) ρ μ1 Ψ) : DW X (.BoolOp .Or (a :: b :: rest) pos) ρ μ Ψ := fun G H σ m v Q f =>
  WW.of (pw_or pwt pww) (h G H σ m v _ fun k μ1 G1 H1 q1 e1 m1 => by
    dsimp only at q1
    split at q1
    · rename_i hk
      subst hk
      rw [if_pos rfl]
      exact f _ _ _ _ q1 e1 m1
    · rename_i hk
      rw [if_neg hk]
      exact q1 G1 H1 σ m1 (v.mono e1) Q fun k μ2 G2 H2 q2 e2 m2 => f _ _ _ _ q2 (e1.trans e2) m2)
theorem de_one {op} (h : DE X a ρ μ Φ) : DE X (.BoolOp op [a] pos) ρ μ Φ := fun G H σ m v Q f => WE.of (pe_one pwe) (h G H σ m v Q f)
theorem de_ifExp (h : DT X c ρ μ fun k μ1 => if k = true then DE X a ρ μ1 Φ else DE X b ρ μ1 Φ) : DE X (.IfExp c a b pos) ρ μ Φ := fun G H σ m v Q f =>
  WE.of (pe_ifExp pwt pwe pwe) (h G H σ m v _ fun k μ1 G1 H1 q1 e1 m1 => by
    dsimp only at q1
    split at q1
    · rename_i hk
      rw [if_pos hk]
      exact q1 G1 H1 σ m1 (v.mono e1) Q (f.later e1)
    · rename_i hk
      rw [if_neg hk]
      exact q1 G1 H1 σ m1 (v.mono e1) Q (f.later e1))
theorem de_orL (h : DE X a ρ μ fun x μ1 => ∃ ds, RdD μ1 x (.list ds) ∧ if ds ≠ [] then Φ x μ1 else DE X (.BoolOp .Or (b :: rest) pos) ρ μ1 Φ) : DE X (.BoolOp .Or (a :: b :: rest) pos) ρ μ Φ := fun G H σ m v Q f =>
  WE.of (pe_orT pwe pwe) (h G H σ m v _ fun vx x μ1 G1 H1 q1 e1 m1 r1 => by
    obtain ⟨ds, hd, q⟩ := q1
    have d := hd.at m1 r1
    generalize hdd : PyData.list ds = dd at d
    cases d with
    | lst h1 w =>
      cases hdd
      refine ⟨_, .inl ⟨_, .inl (.inl h1), rfl⟩, ?_⟩
      by_cases hn : ds = []
      · rw [if_neg (by simp [hn])] at q
        subst hn
        cases w
        rw [if_neg (by simp)]
        exact q G1 H1 σ m1 (v.mono e1) Q (f.later e1)
      · rw [if_pos hn] at q
        rw [if_pos (by
          cases w with
          | nil => exact absurd rfl hn
          | cons _ _ => rfl)]
        exact f _ _ _ _ _ q e1 m1 r1
    | _ => cases hdd)
end
end Nx
namespace Nx
open PySem PySem.Spec PyProof.Rows L2
section
variable {X : Cx} {a b c e : Expr} {es rest : List Expr} {ρ : Rho} {μ : Mu} {Φ : OV → Mu → Prop} {Λ : List OV → Mu → Prop} {pos : Pos}
theorem da_nil (h : Λ [] μ) : DA X [] ρ μ Λ := fun G H σ m v Q f => WA.of pa_nil (f [] [] μ G H h (Ex.refl G) m .nil)
theorem da_cons (h : DE X e ρ μ fun x μ1 => DA X es ρ μ1 fun xs μ2 => Λ (x :: xs) μ2) (hs : starEach (e :: es) X.env = (false, eval e X.env) :: starEach es X.env := by rfl) : DA X (e :: es) ρ μ Λ := fun G H σ m v Q f =>
  WA.of (pa_cons pwe pwa hs) (h G H σ m v _ fun vx x μ1 G1 H1 q1 e1 m1 r1 => q1 G1 H1 σ m1 (v.mono e1) _ fun vs xs μ2 G2 H2 q2 e2 m2 r2 => f _ _ _ _ _ q2 (e1.trans e2) m2 (.cons (r1.mono e2) r2))
theorem sz {n : Nat} (h : n ≤ 100000) : n ≤ sizeLine := Nat.le_trans h (by decide)
theorem de_lst (h : DA X es ρ μ fun os μ1 => ∃ ds, os = ds.map .im ∧ ds.length ≤ 100000 ∧ Φ (.im (.list ds)) μ1) : DE X (.List es pos) ρ μ Φ := fun G H σ m v Q f =>
  WE.of (pe_lst pwa) (h G H σ m v _ fun vs os μ1 G1 H1 q1 e1 m1 r1 => by
    obtain ⟨ds, rfl, hz, q⟩ := q1
    refine ⟨by rw [r1.length, List.length_map]; exact sz hz, fun p hp => ?_⟩
    have n := m1.ex.free hp
    exact f _ _ _ _ _ q (e1.trans (Ex.new n)) (m1.lay hp) (Dv.lst upd_same (r1.ims.mono (Ex.new n))))
theorem de_lstO (h : DA X es ρ μ fun os μ1 => os.length ≤ 100000 ∧ ∀ p, μ1 p = none → Φ (.own p) (μ1.put p os)) : DE X (.List es pos) ρ μ Φ := fun G H σ m v Q f =>
  WE.of (pe_lst pwa) (h G H σ m v _ fun vs os μ1 G1 H1 q1 e1 m1 r1 => by
    obtain ⟨hz, q⟩ := q1
    refine ⟨by rw [r1.length]; exact sz hz, fun p hp => ?_⟩
    exact f _ _ _ _ _ (q p (m1.fresh hp)) e1 (m1.new hp r1) rfl)
theorem de_tup {x1} (h : DA X es ρ μ fun os μ1 => ∃ ds, os = ds.map .im ∧ ds.length ≤ 100000 ∧ Φ (.im (.tuple ds)) μ1) : DE X (.Tuple es x1 pos) ρ μ Φ := fun G H σ m v Q f =>
  WE.of (pe_tup pwa) (h G H σ m v _ fun vs os μ1 G1 H1 q1 e1 m1 r1 => by
    obtain ⟨ds, rfl, hz, q⟩ := q1
    refine ⟨by rw [r1.length, List.length_map]; exact sz hz, fun p hp => ?_⟩
    have n := m1.ex.free hp
    exact f _ _ _ _ _ q (e1.trans (Ex.new n)) (m1.lay hp) (Dv.tup (.inl upd_same) (r1.ims.mono (Ex.new n))))
inductive SqD (μ : Mu) : OV → List OV → Prop
  | lst (ds : List PyData) : SqD μ (.im (.list ds)) (ds.map .im)
  | tup (ds : List PyData) : SqD μ (.im (.tuple ds)) (ds.map .im)
  | own {a : Addr} {l : List OV} : μ a = some l → SqD μ (.own a) l
theorem SqD.at {G H : Hp} (m : RM G H μ) {v : V} {o : OV} {l : List OV} (h : SqD μ o l) (r : RO G v o) : ∃ a xs, v = .ref a ∧ (H a = some (.lst xs) ∨ TupAt H a xs) ∧ ROs G xs l := by
  cases h with
  | lst ds =>
    have r : Dv G v (.list ds) := r
    cases r with
    | lst h w => exact ⟨_, _, rfl, .inl (m.ex _ _ h), ROs.of_ims w⟩
  | tup ds =>
    have r : Dv G v (.tuple ds) := r
    cases r with
    | tup h w => exact ⟨_, _, rfl, .inr (h.mono m.ex), ROs.of_ims w⟩
  | own h =>
    have r : v = _ := r
    subst r
    obtain ⟨_, vs, e, w⟩ := m.own _ _ h
    exact ⟨_, vs, rfl, .inl e, w⟩
theorem sq_or {K : PySem.W.Frag} {H : Hp} {a : Addr} {xs : List V} (h : H a = some (.lst xs) ∨ TupAt H a xs) : SqL K H a xs ∨ SqT K H a xs := by
  rcases h with h | h
  · exact .inl (.inl (.inl h))
  · exact .inr h.sq
theorem ROs.at {G : Hp} {xs : List V} {l : List OV} {i : Int} {o : OV} (w : ROs G xs l) (h : atI l i = some o) : ∃ v, atI xs i = some v ∧ RO G v o := by
  unfold atI at h ⊢
  rw [w.length]
  cases q : ixN l.length i with
  | none =>
    rw [q] at h
    cases h
  | some j =>
    rw [q] at h
    obtain ⟨v, h1, h2⟩ := ROs.get w (show l[j]? = some o from h)
    exact ⟨v, h1, h2⟩
theorem de_ix (hs : PlainIx b) (h : DE X a ρ μ fun x μ1 => DE X b ρ μ1 fun y μ2 => ∃ l i o, SqD μ2 x l ∧ y = .im (.int i) ∧ atI l i = some o ∧ Φ o μ2) : DE X (.Subscript a b pos) ρ μ Φ := fun G H σ m v Q f =>
  WE.of (pe_ix (ix_list.or ix_tup) pwe pwe hs) (h G H σ m v _ fun vx x μ1 G1 H1 q1 e1 m1 r1 => q1 G1 H1 σ m1 (v.mono e1) _ fun vy y μ2 G2 H2 q2 e2 m2 r2 => by
    obtain ⟨l, i, o, hx, rfl, ho, q⟩ := q2
    cases r2
    obtain ⟨p, xs, rfl, hp, w⟩ := hx.at m2 (r1.mono e2)
    obtain ⟨u, h1, h2⟩ := w.at ho
    have fin := f u o μ2 G2 H2 q (e1.trans e2) m2 h2
    rcases hp with hp | hp
    · exact .inl ⟨p, xs, i, u, rfl, rfl, .inl (.inl hp), h1, fin⟩
    · exact .inr ⟨p, xs, i, u, rfl, rfl, hp.sq, h1, fin⟩)
theorem atI_im {ds : List PyData} {i : Int} {d : PyData} (h : atI ds i = some d) : atI (ds.map OV.im) i = some (.im d) := by
  unfold atI at h ⊢
  rw [List.length_map]
  cases q : ixN ds.length i with
  | none =>
    rw [q] at h
    cases h
  | some j =>
    rw [q] at h
    have h : ds[j]? = some d := h
    show (ds.map OV.im)[j]? = _
    rw [List.getElem?_map, h]
    rfl
def DO (X : Cx) (e : Option Expr) (ρ : Rho) (μ : Mu) (Φ : Option Int → Mu → Prop) : Prop :=
  match e with
  | none => Φ none μ
  | some e => DE X e ρ μ fun x μ1 => ∃ i, x = .im (.int i) ∧ Φ (some i) μ1
def cutO (xs : List OV) (lo hi : Option Int) : List OV := (xs.drop (HT.sIx xs.length 0 lo)).take (HT.sIx xs.length xs.length hi - HT.sIx xs.length 0 lo)
def cutD (xs : List PyData) (lo hi : Option Int) : List PyData := (xs.drop (HT.sIx xs.length 0 lo)).take (HT.sIx xs.length xs.length hi - HT.sIx xs.length 0 lo)
theorem ROs.cut {G : Hp} {xs : List V} {l : List OV} (w : ROs G xs l) (lo hi : Option Int) : ROs G (cutV xs lo hi) (cutO l lo hi) := by
  unfold cutV cutO
  rw [w.length]
  exact (w.drop _).take _
theorem cutO_im (ds : List PyData) (lo hi : Option Int) : cutO (ds.map .im) lo hi = (cutD ds lo hi).map .im := by
  unfold cutO cutD
  rw [List.length_map, List.map_take, List.map_drop]
def WO (X : Cx) (lo : Option Expr) : TO := fun σ H R => match lo with
  | none => R none H
  | some e => WE X e σ H fun x H1 => ∃ i, x = .int i ∧ R (some i) H1
theorem pwo {lo : Option Expr} : PO X lo (WO X lo) := by
  cases lo with
  | none => exact po_none
  | some e => exact po_some pwe
theorem DO.run {lo : Option Expr} {Ψ : Option Int → Mu → Prop} {G H : Hp} {σ : L2.St} {R : Option Int → Hp → Prop} (h : DO X lo ρ μ Ψ) (m : RM G H μ) (v : RV G ρ σ) (k : ∀ o μ1 G1 H1, Ψ o μ1 → Ex G G1 → RM G1 H1 μ1 → R o H1) : WO X lo σ H R := by
  cases lo with
  | none => exact k _ _ _ _ h (Ex.refl G) m
  | some e =>
    refine h G H σ m v _ fun vx x μ1 G1 H1 q1 e1 m1 r1 => ?_
    obtain ⟨i, rfl, q⟩ := q1
    cases r1
    exact ⟨i, rfl, k _ _ _ _ q e1 m1⟩
def cutI (ns : List Int) (lo hi : Option Int) : List Int := (ns.drop (HT.sIx ns.length 0 lo)).take (HT.sIx ns.length ns.length hi - HT.sIx ns.length 0 lo)
theorem cutI_V (ns : List Int) (lo hi : Option Int) : cutV (ns.map V.int) lo hi = (cutI ns lo hi).map V.int := by
  unfold cutV cutI
  rw [List.length_map, List.map_take, List.map_drop]
theorem de_slS {lo hi : Option Expr} {p2 : Pos} (h : DE X e ρ μ fun x μ1 => DO X lo ρ μ1 fun l μ2 => DO X hi ρ μ2 fun u μ3 => ∃ ns, x = .scr X.K ns ∧ Φ (.im (.list ((cutI ns l u).map .int))) μ3) : DE X (.Subscript e (.Slice lo hi none p2) pos) ρ μ Φ := fun G H σ m v Q f =>
  WE.of (pe_slice sl_list pwe pwo pwo) (h G H σ m v _ fun vx x μ1 G1 H1 q1 e1 m1 r1 => q1.run m1 (v.mono e1) fun l μ2 G2 H2 q2 e2 m2 => q2.run m2 (v.mono (e1.trans e2)) fun u μ3 G3 H3 q3 e3 m3 => by
    obtain ⟨ns, rfl, q⟩ := q3
    obtain ⟨a, rfl, ha⟩ := r1
    refine ⟨_, _, rfl, sql_mono (e2.trans (e3.trans m3.ex)) ha, fun p hp => ?_⟩
    have n := m3.ex.free hp
    rw [cutI_V]
    exact f _ _ _ _ _ q (((e1.trans e2).trans e3).trans (Ex.new n)) (m3.lay hp) (Dv.lst upd_same (DvA.of_ints _)))
theorem de_rev {k : Nat} {p1 p2 p3 : Pos} (h : DE X e ρ μ fun x μ1 => ∃ ds, x = .im (.list ds) ∧ Φ (.im (.list ds.reverse)) μ1) : DE X (.Subscript e (.Slice none none (some (.UnaryOp .USub (.Constant (.int 1) k p1) p2)) p3) pos) ρ μ Φ := fun G H σ m v Q f =>
  WE.of (pe_revL pwe) (h G H σ m v _ fun vx x μ1 G1 H1 q1 e1 m1 r1 => by
    obtain ⟨ds, rfl, q⟩ := q1
    cases r1 with
    | lst h1 w1 =>
      refine ⟨_, _, rfl, .inl (.inl (m1.ex _ _ h1)), fun p hp => ?_⟩
      have n := m1.ex.free hp
      have w2 := (ROs.of_ims w1).reverse
      rw [← List.map_reverse] at w2
      exact f _ _ _ _ _ q (e1.trans (Ex.new n)) (m1.lay hp) (Dv.lst upd_same (w2.ims.mono (Ex.new n))))
end
end Nx
namespace Nx
open PySem PySem.Spec PyProof.Rows L2
structure Rm (k : Nat) (A : Around) : Prop where
  room : Room k A
  gds : A.guards = some []
theorem Rm.mono {j k : Nat} {A : Around} (r : Rm k A) (h : j ≤ k) : Rm j A := ⟨r.room.mono h, r.gds⟩
structure FnG (P : Program) (w : World) (K : PySem.W.Frag) (mg : Str → Option Value) (base : Heap) (CX : CXT) (k : Nat) (f : Addr) (fd : FuncData) (ps : List Str) (sp : Sp) : Prop where
  len : ∀ vs H Q E, sp vs H Q E → vs.length = ps.length
  run : ∀ A outer s H args us vs Q E, Rm k A → Env0 P w K mg base A outer s H → BindsTo s fd args (ps.zip us) → Vals vs us → sp vs H Q E → codeAny (model P w) A (.call (.ref f) args) (CR CX outer P w H s Q E) s
theorem FnG.mono {P : Program} {w : World} {K : PySem.W.Frag} {mg : Str → Option Value} {base : Heap} {CX : CXT} {j k : Nat} {f : Addr} {fd : FuncData} {ps : List Str} {sp : Sp} (F : FnG P w K mg base CX j f fd ps sp) (h : j ≤ k) : FnG P w K mg base CX k f fd ps sp :=
  ⟨F.len, fun A outer s H args us vs Q E r => F.run A outer s H args us vs Q E (r.mono h)⟩
section
variable {P : Program} {w : World} {K : PySem.W.Frag} {mg : Str → Option Value} {base : Heap} {CX : CXT}
theorem fng_of {k : Nat} {f : Addr} {x q : Str} {st : Stmt} {fd : FuncData} {N ps : List Str} {sp : Sp} (F : Fun K x q st f fd) (S : FnScope N ps (defScope st)) (len : ∀ vs H Q E, sp vs H Q E → vs.length = ps.length)
    (body : ∀ (cdv : Value) A outer s H vs Q E, Rm k (A.deeper (envOfC q (defScope st) s.heap.objs.size f cdv)) → sp vs H Q E →
      WSs (cxOf CX P w K mg base N q (defScope st) f cdv A outer s H E) (defBody st) { nx := fun _ H' => Q .non H', rt := Q } (start N vs) H) : FnG P w K mg base CX (k + 1) f fd ps sp := by
  obtain ⟨oc, od, kV, doc, pm, an, cdv, ct, osl, rfl, lk, hcd⟩ := F.ex
  constructor
  · exact len
  intro A outer s H args us vs Q E hr e0 hb r hsp
  have inH : ∀ b o, base.get? b = some o → s.heap.get? b = some o := fun b o e => (e0.bs b o e).1
  have KX : K.In s.heap := e0.mod.kin.keeps inH
  have nolim : s.heap.NoLimit := e0.mod.nolimit.keeps inH
  have kinds : ∀ y ∈ ps.zip us, (defScope st).names.lookup y.1 = some .local ∨
      ((defScope st).names.lookup y.1 = some .cell ∧ ((cellsFrom (s.heap.objs.size + 1) (defScope st).names []).lookup y.1).isSome = true) := by
    rintro ⟨n, v⟩ hy
    rcases S.par n (List.of_mem_zip hy).1 with z | z
    · exact Or.inl z
    · exact Or.inr ⟨z, PySem.W.cellsFrom_some _ _ _ (Or.inl z)⟩
  apply codeAny_call_function hr.room.depth (KX _ _ lk) rfl S.co S.gen rfl (PySem.W.codeRec_of KX hcd)
  apply hb _ _ _ _
  apply wpAny_newFunctionEnv_cells S.kind kinds
  intro env he s1 y
  subst he
  refine ⟨nolim.keeps y.toInCall.keep, codeAny_func ?_⟩
  have go := body cdv A outer s H vs Q E ⟨hr.room.deeper _, hr.gds⟩ hsp
  have I : Inv (cxOf CX P w K mg base N q (defScope st) f cdv A outer s H E) [] (start N vs) H s1 := inv_start S hr.room.hd e0 (len _ _ _ _ hsp) r y
  refine wpAny_mono (go [] s1 I) (fun fl s' hs => ?_) (fun _ _ z => z)
  cases fl with
  | ret u =>
    obtain ⟨v, σ', H', J, rv, z⟩ := hs
    exact ⟨v, H', J.os, J.bare, J.base, J.hok, rv, z⟩
  | next =>
    obtain ⟨σ', H', J, z⟩ := hs
    exact ⟨V.non, H', J.os, J.bare, J.base, J.hok, rfl, z⟩
  | brk =>
    obtain ⟨_, _, _, z⟩ := hs
    exact z.elim
  | cont =>
    obtain ⟨_, _, _, z⟩ := hs
    exact z.elim
end
section
variable {X : Cx} {CX : CXT} {k : Nat} {f : Addr} {fd : FuncData} {ps : List Str} {sp : Sp} {E : XK}
theorem run_g {pins : List (Addr × Obj)} {σ : L2.St} {H : Hp} {s : Shared} {Q : VK} {args : Args} {us : List Value} {vs : List V} (F : FnG X.prog X.w X.K X.mg X.base CX k f fd ps sp) (hr : Rm k X.A) (hx : Passes CX X E)
    (I : Inv X pins σ H s) (hb : BindsTo s fd args (ps.zip us)) (r : Vals vs us) (h : sp vs H Q E) : wpAny (model X.prog X.w) X.A (call (.ref f) args.pos args.kw) (EP X pins σ Q) X.xe s := by
  refine wpAny_call (codeAny_mono (F.run X.A X.stack s H args us vs Q E hr I.env0 hb r h) fun z s' hq => ?_)
  match z, hq with
  | .error e, hq => exact hx pins σ H s e s' I hq
  | .ok (.ret u), hq => exact I.after hq
end
abbrev Ct := List OV → Mu → (OV → Mu → Prop) → Prop
def spOf (C : Ct) : Sp := fun vs H Q _ => ∃ os μ G Φ, RM G H μ ∧ ROs G vs os ∧ C os μ Φ ∧ Fin G Φ Q
structure Fc (P : Program) (w : World) (K : PySem.W.Frag) (mg : Str → Option Value) (base : Heap) (x : Str) (st : Stmt) (ps : List Str) (k : Nat) (C : Ct) : Prop where
  ex : ∃ f fd, Fun K x x st f fd ∧ mg x = some (.ref f) ∧ FnG P w K mg base CX0 k f fd ps (spOf C)
section
variable {P : Program} {w : World} {K : PySem.W.Frag} {mg : Str → Option Value} {base : Heap}
theorem rv_start {G : Hp} {N : List Str} {vs : List V} {os : List OV} (r : ROs G vs os) : RV G (os.map some ++ List.replicate (N.length - os.length) none) (start N vs) := by
  unfold L2.start
  refine ⟨by simp only [List.length_append, List.length_map, List.length_replicate, r.length], fun i o h => ?_⟩
  by_cases hi : i < os.length
  · rw [List.getElem?_append_left (by simpa using hi), List.getElem?_map] at h
    have h : os[i]? = some o := by
      cases q : os[i]? with
      | none =>
        rw [q] at h
        cases h
      | some z =>
        rw [q] at h
        cases h
        rfl
    obtain ⟨v, h1, h2⟩ := ROs.get r h
    refine ⟨v, ?_, h2⟩
    rw [List.getElem?_append_left (by rw [List.length_map, r.length]; exact hi), List.getElem?_map, h1]
    rfl
  · rw [List.getElem?_append_right (by simpa using hi), List.getElem?_replicate] at h
    split at h <;> cases h
theorem fc_of {k : Nat} {f : Addr} {x : Str} {st : Stmt} {fd : FuncData} {N ps : List Str} {C : Ct} (F : Fun K x x st f fd) (hm : mg x = some (.ref f)) (S : FnScope N ps (defScope st)) (len : ∀ os μ Φ, C os μ Φ → os.length = ps.length)
    (body : ∀ (cdv : Value) A outer s H E os μ Φ, Rm k (A.deeper (envOfC x (defScope st) s.heap.objs.size f cdv)) → C os μ Φ →
      DSs (cxOf CX0 P w K mg base N x (defScope st) f cdv A outer s H E).nox (defBody st) (os.map some ++ List.replicate (N.length - os.length) none) μ { nx := fun _ μ' => Φ (.im .none) μ', rt := Φ }) : Fc P w K mg base x st ps (k + 1) C := by
  refine ⟨⟨f, fd, F, hm, fng_of F S (fun vs H Q E h => ?_) fun cdv A outer s H vs Q E hr h => ?_⟩⟩
  · obtain ⟨os, μ, G, Φ, _, r, c, _⟩ := h
    rw [r.length]
    exact len _ _ _ c
  · obtain ⟨os, μ, G, Φ, m, r, c, fin⟩ := h
    refine WSs.of (PSs.nox pwss) (body cdv A outer s H E os μ Φ hr c G H _ m (rv_start r) _ ⟨fun ρ' μ' G' H' σ' q e m' _ => fin _ _ _ _ _ q e m' Dv.non, fin, fun _ _ _ _ _ q => q.elim, fun _ _ _ _ _ q => q.elim⟩)
theorem Fc.mono {j k : Nat} {x : Str} {st : Stmt} {ps : List Str} {C : Ct} (F : Fc P w K mg base x st ps j C) (h : j ≤ k) : Fc P w K mg base x st ps k C := by
  obtain ⟨f, fd, a, b, c⟩ := F.ex
  exact ⟨⟨f, fd, a, b, c.mono h⟩⟩
end
section
variable {X : Cx} {a b c e : Expr} {es rest : List Expr} {ρ : Rho} {μ : Mu} {Φ : OV → Mu → Prop} {pos p : Pos} {x : Str} {st : Stmt} {ps : List Str} {k : Nat} {C : Ct}
theorem passE {X : Cx} : Passes CX0 X fun _ _ _ => False := fun _ _ _ _ _ _ _ h => h.elim
theorem de_call (F : Fc X.prog X.w X.K X.mg X.base x st ps k C) (hr : Rm k X.A) (hg : Gl X x)
    (hb : ∀ (kV doc pm : Value) (an : Option Addr) (cdv ct : Value) (us : List Value), us.length = ps.length → bindArgs (PySem.W.fnOf x x (defArgs st) (defBody st) (defScope st) .none kV doc pm an cdv ct) ⟨us, []⟩ = pure (ps.zip us))
    (h : DA X (e :: es) ρ μ fun os μ1 => C os μ1 Φ) (hdb : (x == ("__debug__" : Str)) = false := by decide) (he : starEach (e :: es) X.env = (false, eval e X.env) :: starEach es X.env := by rfl) (hpl : (backTo pos (starEach es X.env)).any (·.1) = false := by rfl) :
    DE X (.Call (.Name x p) (e :: es) [] pos) ρ μ Φ := fun G H σ m v Q f pins s I => by
  obtain ⟨fa, fd, FF, hm, FG⟩ := F.ex
  refine wpAny_Call_Name_kw (ld_glob I hg hm ?_ hdb)
  have hargs : WA X (e :: es) σ H fun vs H1 => spOf C vs H1 Q fun _ _ _ => False := h G H σ m v _ fun vs os μ1 G1 H1 q1 e1 m1 r1 => ⟨os, μ1, G1, Φ, m1, r1, q1, f.later e1⟩
  refine PySem.W.callWith_K (h₀ := X.base) I.ok.mod.kin FF.kp (thn (hargs pos pins s I) fun us s1 ⟨vs, H1, I1, r, q⟩ => ⟨I1.kIn, ?_⟩) he hpl
  refine run_g (args := ⟨us, []⟩) FG hr passE I1 ?_ r q
  obtain ⟨oc, od, kV, doc, pm, an, cdv, ct, osl, rfl, lk, hcd⟩ := FF.ex
  exact .of_eq (hb kV doc pm an cdv ct us (by rw [← r.length]; exact FG.len _ _ _ _ q))
def pick {α : Type} (ix : List Nat) (l : List α) : List α := ix.filterMap fun i => l[i]?
end
end Nx
namespace Nx
open PySem PySem.Spec PyProof.Rows L2
mutual
inductive DR (μ : Mu) : OV → PyData → Prop
  | im (d : PyData) : DR μ (.im d) d
  | own {a : Addr} {l : List OV} {ds : List PyData} : μ a = some l → DRs μ l ds → DR μ (.own a) (.list ds)
inductive DRs (μ : Mu) : List OV → List PyData → Prop
  | nil : DRs μ [] []
  | cons {o : OV} {os : List OV} {d : PyData} {ds : List PyData} : DR μ o d → DRs μ os ds → DRs μ (o :: os) (d :: ds)
end
theorem DRs.ims {μ : Mu} : ∀ ds : List PyData, DRs μ (ds.map .im) ds
  | [] => .nil
  | d :: ds => .cons (.im d) (DRs.ims ds)
mutual
theorem DR.at {G H : Hp} {μ : Mu} (m : RM G H μ) : ∀ {v : V} {o : OV} {d : PyData}, DR μ o d → RO G v o → Dv H v d
  | _, _, _, .im d, r => Dv.mono m.ex r
  | v, _, _, .own (a := a) h hs, r => by
    have r : v = .ref a := r
    subst r
    obtain ⟨_, vs, e, w⟩ := m.own _ _ h
    exact .lst e (DRs.at m hs w)
theorem DRs.at {G H : Hp} {μ : Mu} (m : RM G H μ) : ∀ {vs : List V} {os : List OV} {ds : List PyData}, DRs μ os ds → ROs G vs os → DvA H vs ds
  | _, _, _, .nil, .nil => .nil
  | _, _, _, .cons h hs, .cons r rs => .cons (DR.at m h r) (DRs.at m hs rs)
end
structure Bt (mg : Str → Option Value) : Prop where
  len : mg "len" = none
  range : mg "range" = none
  list : mg "list" = none
  tuple : mg "tuple" = none
  sorted : mg "sorted" = none
  abs : mg "abs" = none
  int : mg "int" = none
  str : mg "str" = none
  repr : mg "repr" = none
  all : mg "all" = none
  any : mg "any" = none
  max : mg "max" = none
  min : mg "min" = none
  sum : mg "sum" = none
  enumerate : mg "enumerate" = none
  zip : mg "zip" = none
  isinstance : mg "isinstance" = none
  bool : mg "bool" = none
  set : mg "set" = none
  dict : mg "dict" = none
section
variable {X : Cx} {a b c e : Expr} {es rest : List Expr} {ρ : Rho} {μ : Mu} {Φ : OV → Mu → Prop} {pos p : Pos} {x : Str}
abbrev CR1 := List V → Hp → VK → Prop
def CallD (r : CR1) (os : List OV) (μ : Mu) (Φ : OV → Mu → Prop) : Prop := ∀ G H vs, RM G H μ → ROs G vs os → ∀ Q : VK, Fin G Φ Q → r vs H Q
theorem de_callB {id : String} {r : CR1} (hc : CallR X (.builtin id) r) (hg : Gl X x) (hm : X.mg x = none) (hv : bootBuiltins x = some (.builtin id)) (h : DA X (e :: es) ρ μ fun os μ1 => CallD r os μ1 Φ) (hn : x ≠ "__name__" := by decide) (hdb : (x == ("__debug__" : Str)) = false := by decide)
    (he : starEach (e :: es) X.env = (false, eval e X.env) :: starEach es X.env := by rfl) (hpl : (backTo pos (starEach es X.env)).any (·.1) = false := by rfl) : DE X (.Call (.Name x p) (e :: es) [] pos) ρ μ Φ := fun G H σ m v Q f =>
  WE.of (pe_callB hc hg hm hv pwa hn hdb he hpl) (h G H σ m v _ fun vs os μ1 G1 H1 q1 e1 m1 r1 => q1 G1 H1 vs m1 r1 Q (f.later e1))
theorem de_callT {T : String} {r : CR1} (hc : CallR X (.type T) r) (hg : Gl X x) (hm : X.mg x = none) (hv : bootBuiltins x = some (.type T)) (h : DA X (e :: es) ρ μ fun os μ1 => CallD r os μ1 Φ) (hn : x ≠ "__name__" := by decide) (hdb : (x == ("__debug__" : Str)) = false := by decide)
    (he : starEach (e :: es) X.env = (false, eval e X.env) :: starEach es X.env := by rfl) (hpl : (backTo pos (starEach es X.env)).any (·.1) = false := by rfl) : DE X (.Call (.Name x p) (e :: es) [] pos) ρ μ Φ := fun G H σ m v Q f =>
  WE.of (pe_callTy hc hg hm hv pwa hn hdb he hpl) (h G H σ m v _ fun vs os μ1 G1 H1 q1 e1 m1 r1 => q1 G1 H1 vs m1 r1 Q (f.later e1))
theorem ro1 {G : Hp} {vs : List V} {o : OV} (r : ROs G vs [o]) : ∃ v, vs = [v] ∧ RO G v o := by
  cases r with
  | cons r t =>
    cases t
    exact ⟨_, rfl, r⟩
theorem de_len (B : Bt X.mg) (hg : Gl X "len") (h : DE X e ρ μ fun o μ1 => ∃ l, SqD μ1 o l ∧ Φ (.im (.int (l.length : Nat))) μ1) (he : starEach [e] X.env = (false, eval e X.env) :: starEach [] X.env := by rfl) (hpl : (backTo pos (starEach [] X.env)).any (·.1) = false := by rfl) : DE X (.Call (.Name "len" p) [e] [] pos) ρ μ Φ :=
  de_callB call_len_seq hg B.len PySem.boot_len (he := he) (hpl := hpl) (da_cons (hs := he) (h.imp fun o μ1 ⟨l, hl, q⟩ => da_nil fun G H vs m r Q f => by
    obtain ⟨v, rfl, r1⟩ := ro1 r
    obtain ⟨a, xs, rfl, hx, w⟩ := hl.at m r1
    refine ⟨a, xs, rfl, sq_or hx, ?_⟩
    rw [w.length]
    exact f _ _ _ _ _ q (Ex.refl G) m (Dv.int _)))
theorem de_abs (B : Bt X.mg) (hg : Gl X "abs") (h : DE X e ρ μ fun o μ1 => ∃ i, o = .im (.int i) ∧ Φ (.im (.int (if i < 0 then -i else i))) μ1) (he : starEach [e] X.env = (false, eval e X.env) :: starEach [] X.env := by rfl) (hpl : (backTo pos (starEach [] X.env)).any (·.1) = false := by rfl) : DE X (.Call (.Name "abs" p) [e] [] pos) ρ μ Φ :=
  de_callB call_abs hg B.abs PyProof.Rows.boot_abs (he := he) (hpl := hpl) (da_cons (hs := he) (h.imp fun o μ1 ⟨i, ho, q⟩ => da_nil fun G H vs m r Q f => by
    obtain ⟨v, rfl, r1⟩ := ro1 r
    subst ho
    cases r1
    exact ⟨i, rfl, f _ _ _ _ _ q (Ex.refl G) m (Dv.int _)⟩))
theorem de_int1 (B : Bt X.mg) (hg : Gl X "int") (h : DE X e ρ μ fun o μ1 => (∃ i, o = .im (.int i) ∧ Φ (.im (.int i)) μ1) ∨ ∃ k, o = .im (.bool k) ∧ Φ (.im (.int (if k then 1 else 0))) μ1) (he : starEach [e] X.env = (false, eval e X.env) :: starEach [] X.env := by rfl) (hpl : (backTo pos (starEach [] X.env)).any (·.1) = false := by rfl) : DE X (.Call (.Name "int" p) [e] [] pos) ρ μ Φ :=
  de_callT call_int1 hg B.int PyProof.Rows.boot_int (he := he) (hpl := hpl) (da_cons (hs := he) (h.imp fun o μ1 hq => da_nil fun G H vs m r Q f => by
    obtain ⟨v, rfl, r1⟩ := ro1 r
    rcases hq with ⟨i, rfl, q⟩ | ⟨k, rfl, q⟩
    · cases r1
      exact .inl ⟨i, rfl, f _ _ _ _ _ q (Ex.refl G) m (Dv.int _)⟩
    · cases r1
      exact .inr ⟨k, rfl, f _ _ _ _ _ q (Ex.refl G) m (Dv.int _)⟩))
theorem de_list (B : Bt X.mg) (hg : Gl X "list") (h : DE X e ρ μ fun o μ1 => ∃ ds, SqD μ1 o (ds.map .im) ∧ Φ (.im (.list ds)) μ1) (he : starEach [e] X.env = (false, eval e X.env) :: starEach [] X.env := by rfl) (hpl : (backTo pos (starEach [] X.env)).any (·.1) = false := by rfl) : DE X (.Call (.Name "list" p) [e] [] pos) ρ μ Φ :=
  de_callT call_list_of hg B.list PyProof.Rows.boot_list (he := he) (hpl := hpl) (da_cons (hs := he) (h.imp fun o μ1 ⟨ds, hl, q⟩ => da_nil fun G H vs m r Q f => by
    obtain ⟨v, rfl, r1⟩ := ro1 r
    obtain ⟨a, xs, rfl, hx, w⟩ := hl.at m r1
    refine ⟨a, xs, rfl, sq_or hx, fun l hl => ?_⟩
    have n := m.ex.free hl
    exact f _ _ _ _ _ q (Ex.new n) (m.lay hl) (Dv.lst upd_same (w.ims.mono (Ex.new n)))))
theorem de_listO (B : Bt X.mg) (hg : Gl X "list") (h : DE X e ρ μ fun o μ1 => ∃ l, SqD μ1 o l ∧ ∀ p, μ1 p = none → Φ (.own p) (μ1.put p l)) (he : starEach [e] X.env = (false, eval e X.env) :: starEach [] X.env := by rfl) (hpl : (backTo pos (starEach [] X.env)).any (·.1) = false := by rfl) : DE X (.Call (.Name "list" p) [e] [] pos) ρ μ Φ :=
  de_callT call_list_of hg B.list PyProof.Rows.boot_list (he := he) (hpl := hpl) (da_cons (hs := he) (h.imp fun o μ1 ⟨ds, hl, q⟩ => da_nil fun G H vs m r Q f => by
    obtain ⟨v, rfl, r1⟩ := ro1 r
    obtain ⟨a, xs, rfl, hx, w⟩ := hl.at m r1
    refine ⟨a, xs, rfl, sq_or hx, fun l hl => ?_⟩
    exact f _ _ _ _ _ (q l (m.fresh hl)) (Ex.refl G) (m.new hl w) rfl))
theorem de_tuple (B : Bt X.mg) (hg : Gl X "tuple") (h : DE X e ρ μ fun o μ1 => ∃ ds, SqD μ1 o (ds.map .im) ∧ Φ (.im (.tuple ds)) μ1) (he : starEach [e] X.env = (false, eval e X.env) :: starEach [] X.env := by rfl) (hpl : (backTo pos (starEach [] X.env)).any (·.1) = false := by rfl) : DE X (.Call (.Name "tuple" p) [e] [] pos) ρ μ Φ :=
  de_callT call_tuple_of hg B.tuple PyProof.Rows.boot_tuple (he := he) (hpl := hpl) (da_cons (hs := he) (h.imp fun o μ1 ⟨ds, hl, q⟩ => da_nil fun G H vs m r Q f => by
    obtain ⟨v, rfl, r1⟩ := ro1 r
    generalize hll : ds.map OV.im = ll at hl
    cases hl with
    | tup ds' =>
      have e12 : ds = ds' := by
        have := congrArg (List.map fun o => match o with | OV.im d => d | _ => PyData.none) hll
        simpa [List.map_map, Function.comp_def] using this
      subst e12
      have rr : Dv G v (.tuple ds) := r1
      cases rr with
      | tup h1 w1 => exact ⟨_, _, rfl, .inr ⟨(h1.mono m.ex).sq, f _ _ _ _ _ q (Ex.refl G) m (Dv.tup h1 w1)⟩⟩
    | lst ds' =>
      have hsq : SqD μ1 (.im (.list ds')) (ds.map .im) := by rw [hll]; exact .lst ds'
      obtain ⟨a, xs, rfl, hx, w⟩ := hsq.at m r1
      have hx : H a = some (.lst xs) := by
        rcases hx with z | z
        · exact z
        · have rr : Dv G (.ref a) (.list ds') := r1
          cases rr with
          | lst h1 _ =>
            have := m.ex _ _ h1
            rcases z with z | ⟨_, _, _, z⟩ <;> (rw [z] at this; cases this)
      refine ⟨a, xs, rfl, .inl ⟨.inl (.inl hx), fun l hl => ?_⟩⟩
      have n := m.ex.free hl
      exact f _ _ _ _ _ q (Ex.new n) (m.lay hl) (Dv.tup (.inl upd_same) (w.ims.mono (Ex.new n)))
    | own ho =>
      obtain ⟨_, xs, hx, w⟩ := m.own _ _ ho
      have rr : v = .ref _ := r1
      subst rr
      rw [← hll] at w
      refine ⟨_, xs, rfl, .inl ⟨.inl (.inl hx), fun l hl => ?_⟩⟩
      have n := m.ex.free hl
      exact f _ _ _ _ _ q (Ex.new n) (m.lay hl) (Dv.tup (.inl upd_same) (w.ims.mono (Ex.new n)))))
def srt (ns : List Int) : List Int := ns.mergeSort (fun a b => decide (a ≤ b))
theorem srt_perm (ns : List Int) : (srt ns).Perm ns := List.mergeSort_perm ns _
theorem srt_pw (ns : List Int) : (srt ns).Pairwise (· ≤ ·) := by
  have h := List.pairwise_mergeSort (le := fun a b : Int => decide (a ≤ b)) (fun a b c h1 h2 => by
    simp only [decide_eq_true_eq] at *
    omega) (fun a b => by
    simp only [Bool.or_eq_true, decide_eq_true_eq]
    omega) ns
  exact h.imp fun {a b} h => by simpa using h
theorem srt_eq {ns ms : List Int} (hp : ms.Perm ns) (hw : ms.Pairwise (· ≤ ·)) : ms = srt ns :=
  (hp.trans (srt_perm ns).symm).eq_of_pairwise (fun x y _ _ h1 h2 => Int.le_antisymm h1 h2) hw (srt_pw ns)
theorem de_sorted (B : Bt X.mg) (hg : Gl X "sorted") (h : DE X e ρ μ fun o μ1 => ∃ ns : List Int, RdD μ1 o (.list (ns.map .int)) ∧ Φ (.im (.list ((srt ns).map .int))) μ1) (he : starEach [e] X.env = (false, eval e X.env) :: starEach [] X.env := by rfl) (hpl : (backTo pos (starEach [] X.env)).any (·.1) = false := by rfl) : DE X (.Call (.Name "sorted" p) [e] [] pos) ρ μ Φ :=
  de_callB cr_sortedI hg B.sorted PyProof.Rows.boot_sorted (he := he) (hpl := hpl) (da_cons (hs := he) (h.imp fun o μ1 ⟨ns, hd, q⟩ => da_nil fun G H vs m r Q f => by
    obtain ⟨v, rfl, r1⟩ := ro1 r
    have d := hd.at m r1
    generalize hdd : PyData.list (ns.map .int) = dd at d
    cases d with
    | lst h1 w =>
      cases hdd
      have e1 := w.ints
      subst e1
      refine ⟨_, ns, rfl, .inl (.inl h1), fun ns' p hp hw hn => ?_⟩
      rw [srt_eq hp hw]
      have n := m.ex.free hn
      exact f _ _ _ _ _ q (Ex.new n) (m.lay hn) (Dv.lst upd_same ((DvA.of_ints _).mono (Ex.new n)))
    | _ => cases hdd))
end
end Nx
namespace Nx
open PySem PySem.Spec PyProof.Rows L2
structure Itd where
  its : List OV
  ok : Mu → Prop
def Gives (J : It) (D : Itd) (G1 : Hp) : Prop := ∃ Gd Y, Walk J D.its.length Gd Y ∧ (∀ G' H' μ', Ex G1 G' → RM G' H' μ' → D.ok μ' → Gd H') ∧
  ∀ i H' x H2 G' μ', Ex G1 G' → RM G' H' μ' → D.ok μ' → Y i H' x H2 → i < D.its.length → ∃ G2 o, Ex G' G2 ∧ RM G2 H2 μ' ∧ D.its[i]? = some o ∧ RO G2 x o
def DI (X : Cx) (tg iter : Expr) (ρ : Rho) (μ : Mu) (Ψ : Itd → Mu → Prop) : Prop := ∃ wi, PI X tg iter wi ∧ ∀ G H σ, RM G H μ → RV G ρ σ → ∀ R : It → Hp → Prop, (∀ J D μ1 G1 H1, Ψ D μ1 → Ex G G1 → RM G1 H1 μ1 → Gives J D G1 → R J H1) → wi σ H R
section
variable {X : Cx} {tg e e2 : Expr} {ρ : Rho} {μ : Mu} {Ψ : Itd → Mu → Prop} {p pos : Pos}
theorem DI.imp {iter : Expr} {Ψ' : Itd → Mu → Prop} (h : DI X tg iter ρ μ Ψ) (k : ∀ D μ', Ψ D μ' → Ψ' D μ') : DI X tg iter ρ μ Ψ' := by
  obtain ⟨wi, a, b⟩ := h
  exact ⟨wi, a, fun G H σ m v R f => b G H σ m v R fun J D μ1 G1 H1 q => f J D μ1 G1 H1 (k _ _ q)⟩
theorem gives_list {K : PySem.W.Frag} {a : Addr} {xs : List V} {ds : List PyData} {G : Hp} (h : G a = some (.lst xs)) (w : DvA G xs ds) : Gives (Itl K a) ⟨ds.map .im, fun _ => True⟩ G := by
  refine ⟨fun H => SqL K H a xs, YAt xs, ?_, fun G' H' μ' e m _ => .inl (.inl (m.ex _ _ (e _ _ h))), fun i H' x H2 G' μ' e m _ y _ => ?_⟩
  · show Walk _ (ds.map OV.im).length _ _
    rw [List.length_map, ← w.length]
    exact walk_list
  · obtain ⟨rfl, hx⟩ := y
    obtain ⟨d, h1, h2⟩ := w.getV hx
    exact ⟨G', .im d, Ex.refl _, m, by rw [List.getElem?_map, h1]; rfl, h2.mono e⟩
theorem gives_tup {K : PySem.W.Frag} {a : Addr} {xs : List V} {ds : List PyData} {G : Hp} (h : TupAt G a xs) (w : DvA G xs ds) : Gives (Itt K a) ⟨ds.map .im, fun _ => True⟩ G := by
  refine ⟨fun H => SqT K H a xs, YAt xs, ?_, fun G' H' μ' e m _ => ((h.mono e).mono m.ex).sq, fun i H' x H2 G' μ' e m _ y _ => ?_⟩
  · show Walk _ (ds.map OV.im).length _ _
    rw [List.length_map, ← w.length]
    exact walk_tup
  · obtain ⟨rfl, hx⟩ := y
    obtain ⟨d, h1, h2⟩ := w.getV hx
    exact ⟨G', .im d, Ex.refl _, m, by rw [List.getElem?_map, h1]; rfl, h2.mono e⟩
theorem gives_range {lo : Int} {n : Nat} {G : Hp} : Gives (Itr lo n) ⟨(List.range n).map fun (k : Nat) => .im (.int (lo + (k : Int))), fun _ => True⟩ G := by
  refine ⟨fun _ => True, YFn fun i => .int (lo + i), ?_, fun _ _ _ _ _ _ => trivial, fun i H' x H2 G' μ' e m _ y hi => ?_⟩
  · show Walk _ ((List.range n).map _).length _ _
    rw [List.length_map, List.length_range]
    exact walk_range
  · obtain ⟨rfl, rfl⟩ := y
    have hi : i < n := by simpa using hi
    exact ⟨G', .im (.int (lo + (i : Int))), Ex.refl _, m, by rw [List.getElem?_map, List.getElem?_range hi]; rfl, Dv.int _⟩
theorem di_range1 (B : Bt X.mg) (hg : Gl X "range") (h : DE X e ρ μ fun o μ1 => ∃ j : Int, o = .im (.int j) ∧ -100000 ≤ j ∧ j ≤ 100000 ∧ Ψ ⟨(List.range j.toNat).map fun (k : Nat) => .im (.int (k : Int)), fun _ => True⟩ μ1)
    (he : starEach [e] X.env = (false, eval e X.env) :: starEach [] X.env := by rfl) : DI X tg (.Call (.Name "range" p) [e] [] pos) ρ μ Ψ :=
  ⟨_, pi_range1 hg B.range pwa (hs := by rw [he]; rfl), fun G H σ m v R f => (da_cons (Λ := fun os μ1 => ∃ j : Int, os = [.im (.int j)] ∧ -100000 ≤ j ∧ j ≤ 100000 ∧ Ψ ⟨(List.range j.toNat).map fun (k : Nat) => .im (.int (k : Int)), fun _ => True⟩ μ1)
      (h.imp fun o μ1 ⟨j, ho, h1, h2, q⟩ => da_nil ⟨j, by rw [ho], h1, h2, q⟩) he) G H σ m v _ fun vs os μ1 G1 H1 q1 e1 m1 r1 => by
    obtain ⟨j, rfl, h1, h2, q⟩ := q1
    obtain ⟨u, rfl, ru⟩ := ro1 r1
    cases ru
    exact ⟨j, rfl, by omega, by omega, f _ _ _ _ _ q e1 m1 (by have := gives_range (lo := 0) (n := j.toNat) (G := G1); simpa only [Int.zero_add] using this)⟩⟩
def prs (xs ys : List PyData) : List PyData := (xs.zip ys).map fun q => .tuple [q.1, q.2]
theorem prs_get {xs ys : List PyData} {i : Nat} {x y : PyData} (h1 : xs[i]? = some x) (h2 : ys[i]? = some y) : (prs xs ys)[i]? = some (.tuple [x, y]) := by
  unfold prs
  rw [List.getElem?_map, List.getElem?_zip_eq_some (z := (x, y)) |>.mpr ⟨h1, h2⟩]
  rfl
def nums (n : Nat) : List PyData := (List.range n).map fun (k : Nat) => PyData.int (k : Int)
theorem nums_get {n i : Nat} (h : i < n) : (nums n)[i]? = some (.int (i : Int)) := by
  unfold nums
  rw [List.getElem?_map, List.getElem?_range h]
  rfl
theorem pair_new {G H' : Hp} {μ' : Mu} {T : Addr} {x y : V} {d e : PyData} (m : RM G H' μ') (hT : H' T = none) (h1 : Dv G x d) (h2 : Dv G y e) : Ex G (upd G T (.tup [x, y])) ∧ RM (upd G T (.tup [x, y])) (upd H' T (.tup [x, y])) μ' ∧ RO (upd G T (.tup [x, y])) (.ref T) (.im (.tuple [d, e])) := by
  have n := m.ex.free hT
  exact ⟨Ex.new n, m.lay hT, Dv.tup (.inl upd_same) (.cons (h1.mono (Ex.new n)) (.cons (h2.mono (Ex.new n)) .nil))⟩
end
def setAll (ρ : Rho) : List Nat → List PyData → Rho
  | i :: is, d :: ds => setAll (ρ.set i (some (.im d))) is ds
  | _, _ => ρ
inductive Tgt where
  | nm (i : Nat) | tp (is : List Nat)
def Tgt.put : Tgt → OV → Rho → Option Rho
  | .nm i, o, ρ => some (ρ.set i (some o))
  | .tp is, .im (.tuple ds), ρ => if ds.length = is.length then some (setAll ρ is ds) else none
  | .tp _, _, _ => none
def gNames : List Nat → TGs
  | [] => gNil
  | i :: is => gCons (gName i) (gNames is)
def TgtG (K : PySem.W.Frag) : Tgt → TG
  | .nm i => gName i
  | .tp is => gTup K is.length (gNames is)
theorem names_run {G H : Hp} {Q : L2.St → Hp → Prop} : ∀ (is : List Nat) {xs : List V} {ds : List PyData} {ρ : Rho} {σ : L2.St}, RV G ρ σ → DvA G xs ds → ds.length = is.length → (∀ σ', RV G (setAll ρ is ds) σ' → Q σ' H) → gNames is xs σ H Q
  | [], _, _, _, _, w, .nil, _, q => ⟨rfl, q _ w⟩
  | i :: is, _, _, _, _, w, .cons hd tl, hl, q => ⟨_, _, rfl, names_run is (w.set (o := .im _) hd) tl (by simpa using hl) q⟩
  | i :: is, _, _, _, _, w, .nil, hl, q => by cases hl
theorem tgt_run {K : PySem.W.Frag} {t : Tgt} {G H : Hp} {μ : Mu} {v : V} {o : OV} {ρ ρ' : Rho} {σ : L2.St} {Q : L2.St → Hp → Prop} (m : RM G H μ) (r : RO G v o) (w : RV G ρ σ) (h : t.put o ρ = some ρ') (q : ∀ σ', RV G ρ' σ' → Q σ' H) : TgtG K t v σ H Q := by
  cases t with
  | nm i =>
    cases h
    exact q _ (w.set r)
  | tp is =>
    cases o with
    | own a => cases h
    | scr K ns => cases h
    | pr p d => cases h
    | tpl ns => cases h
    | im d =>
      cases d with
      | tuple ds =>
        have h : (if ds.length = is.length then some (setAll ρ is ds) else none) = some ρ' := h
        split at h
        · rename_i hl
          cases h
          have r : Dv G v (.tuple ds) := r
          cases r with
          | tup h1 w1 => exact ⟨_, _, rfl, (h1.mono m.ex).sq, by rw [w1.length, hl], names_run is w w1 hl q⟩
        · cases h
      | _ => cases h
end Nx
namespace Nx
open PySem PySem.Spec PyProof.Rows L2
def Tgt.slots : Tgt → List Nat
  | .nm i => [i]
  | .tp is => is
theorem wipe_set {σ : L2.St} {x : Option V} {j : Nat} : ∀ {vs : List Nat}, j ∈ vs → L2.wipe (σ.set j x) vs = L2.wipe σ vs
  | [], h => nomatch h
  | v :: vs, h => by
    show (L2.wipe (σ.set j x) vs).set v none = (L2.wipe σ vs).set v none
    rcases List.mem_cons.mp h with e | e
    · subst e
      have comm : ∀ (ws : List Nat), (L2.wipe (σ.set j x) ws).set j none = (L2.wipe σ ws).set j none := by
        intro ws
        induction ws with
        | nil => exact List.set_set _
        | cons w ws ih =>
          show ((L2.wipe (σ.set j x) ws).set w none).set j none = ((L2.wipe σ ws).set w none).set j none
          by_cases hw : w = j
          · subst hw
            rw [List.set_set, List.set_set]
            exact ih
          · rw [List.set_comm _ _ hw, List.set_comm _ _ hw, ih]
      exact comm vs
    · rw [wipe_set e]
theorem wipe_idem (σ : L2.St) (vs : List Nat) : L2.wipe (L2.wipe σ vs) vs = L2.wipe σ vs := by
  have go : ∀ (ws : List Nat) (τ : L2.St), (∀ i ∈ ws, i ∈ vs) → L2.wipe (L2.wipe τ ws) vs = L2.wipe τ vs := by
    intro ws
    induction ws with
    | nil => intro τ _; rfl
    | cons w ws ih =>
      intro τ h
      show L2.wipe ((L2.wipe τ ws).set w none) vs = _
      rw [wipe_set (h w (List.mem_cons_self ..))]
      exact ih τ fun i hi => h i (List.mem_cons_of_mem _ hi)
  exact go vs σ fun _ h => h
theorem names_runW {G H : Hp} {Q : L2.St → Hp → Prop} (vs : List Nat) : ∀ (is : List Nat) {xs : List V} {ds : List PyData} {ρ : Rho} {σ : L2.St}, (∀ i ∈ is, i ∈ vs) → RV G ρ σ → DvA G xs ds → ds.length = is.length → (∀ σ', RV G (setAll ρ is ds) σ' → L2.wipe σ' vs = L2.wipe σ vs → Q σ' H) → gNames is xs σ H Q
  | [], _, _, _, _, _, w, .nil, _, q => ⟨rfl, q _ w rfl⟩
  | i :: is, _, _, _, _, hs, w, .cons hd tl, hl, q => ⟨_, _, rfl, names_runW vs is (fun j hj => hs j (List.mem_cons_of_mem _ hj)) (w.set (o := .im _) hd) tl (by simpa using hl) fun σ' r e => q σ' r (e.trans (wipe_set (hs i (List.mem_cons_self ..))))⟩
  | i :: is, _, _, _, _, _, w, .nil, hl, q => by cases hl
theorem tgt_runW {K : PySem.W.Frag} {t : Tgt} {G H : Hp} {μ : Mu} {v : V} {o : OV} {ρ ρ' : Rho} {σ : L2.St} {Q : L2.St → Hp → Prop} (vs : List Nat) (hs : ∀ i ∈ t.slots, i ∈ vs) (m : RM G H μ) (r : RO G v o) (w : RV G ρ σ) (h : t.put o ρ = some ρ') (q : ∀ σ', RV G ρ' σ' → L2.wipe σ' vs = L2.wipe σ vs → Q σ' H) : TgtG K t v σ H Q := by
  cases t with
  | nm i =>
    cases h
    exact q _ (w.set r) (wipe_set (hs i (List.mem_cons_self ..)))
  | tp is =>
    cases o with
    | own a => cases h
    | scr K ns => cases h
    | pr p d => cases h
    | tpl ns => cases h
    | im d =>
      cases d with
      | tuple ds =>
        have h : (if ds.length = is.length then some (setAll ρ is ds) else none) = some ρ' := h
        split at h
        · rename_i hl
          cases h
          have r : Dv G v (.tuple ds) := r
          cases r with
          | tup h1 w1 => exact ⟨_, _, rfl, (h1.mono m.ex).sq, by rw [w1.length, hl], names_runW vs is hs w w1 hl q⟩
        · cases h
      | _ => cases h
def wipeR (ρ : Rho) (vs : List Nat) : Rho := vs.foldr (fun v r => r.set v none) ρ
theorem RV.wipeV {G : Hp} {ρ : Rho} {σ : L2.St} (h : RV G ρ σ) (vs : List Nat) : RV G (wipeR ρ vs) (L2.wipe σ vs) := h.wipe vs
theorem del_put {μ : Mu} {a : Addr} {l : List OV} (h : μ a = none) : (μ.put a l).del a = μ := by
  funext b
  unfold Mu.put Mu.del
  by_cases e : b = a
  · rw [if_pos e, e, h]
  · rw [if_neg e]
    show (if b = a then some l else μ b) = μ b
    rw [if_neg e]
section
variable {X : Cx} {tg iter elt : Expr} {ifs : List Expr} {scope : Scope} {ρ : Rho} {μ : Mu} {Φ : OV → Mu → Prop} {pos : Pos}
abbrev Blk (X : Cx) (scope : Scope) (s : Shared) (H : Hp) (C : Addr) (cl : List (Str × Addr)) (fp : List Addr) : Cx := X.blk s H scope (compEnvC scope cl C X.env) fp
def DEb (X : Cx) (scope : Scope) (e : Expr) (ρ : Rho) (μ : Mu) (Φ : OV → Mu → Prop) : Prop := ∀ s H C cl fp, DE (Blk X scope s H C cl fp) e ρ μ Φ
def DTb (X : Cx) (scope : Scope) (ifs : List Expr) (ρ : Rho) (μ : Mu) (Φ : Bool → Mu → Prop) : Prop := match ifs with
  | [] => Φ true μ
  | [c] => ∀ s H C cl fp, DT (Blk X scope s H C cl fp) c ρ μ Φ
  | _ => False
def WTb (X : Cx) (scope : Scope) (ifs : List Expr) : TT := match ifs with
  | [] => tYes
  | [c] => fun σ H Q => ∀ s H0 C cl fp, WT (Blk X scope s H0 C cl fp) c σ H Q
  | _ => fun _ _ _ => False
theorem pwtb (s : Shared) (H : Hp) (C : Addr) (cl : List (Str × Addr)) (fp : List Addr) : PTs (Blk X scope s H C cl fp) ifs (WTb X scope ifs) := by
  match ifs with
  | [] => exact pts_nil
  | [c] => exact pts_one ⟨fun pins s' σ H' Q I h => h s H C cl fp pins s' I⟩
  | _ :: _ :: _ => exact ⟨fun _ _ _ _ _ _ h => h.elim⟩
theorem DTb.run {G H : Hp} {σ : L2.St} {Ψ : Bool → Mu → Prop} (h : DTb X scope ifs ρ μ Ψ) (m : RM G H μ) (v : RV G ρ σ) {Q : Bool → Hp → Prop} (f : ∀ b μ' G' H', Ψ b μ' → Ex G G' → RM G' H' μ' → Q b H') : WTb X scope ifs σ H Q := by
  match ifs, h with
  | [], h => exact f _ _ _ _ h (Ex.refl G) m
  | [c], h => exact fun s H0 C cl fp => h s H0 C cl fp G H σ m v Q f
def LcD (X : Cx) (scope : Scope) (ifs : List Expr) (elt : Expr) (t : Tgt) (vs : List Nat) (ρ : Rho) (D : Itd) (μ1 : Mu) (done : List OV → Mu → Prop) : Prop :=
  ∃ Pv : Nat → List OV → Mu → Prop, D.its.length ≤ 50000 ∧ Pv 0 [] μ1 ∧ (∀ i acc μ' Dl, Pv i acc μ' → μ' Dl = none → D.ok (μ'.put Dl acc)) ∧ (∀ acc μ', Pv D.its.length acc μ' → done acc μ') ∧
    ∀ i acc μ' o, D.its[i]? = some o → Pv i acc μ' → ∃ ρ', t.put o (wipeR ρ vs) = some ρ' ∧ ∀ Dl, μ' Dl = none →
      DTb X scope ifs ρ' (μ'.put Dl acc) fun k μ2 => if k = true then DEb X scope elt ρ' μ2 fun o' μ3 => ∃ μ4, μ3 = μ4.put Dl acc ∧ μ4 Dl = none ∧ Pv (i + 1) (acc ++ [o']) μ4 else ∃ μ4, μ2 = μ4.put Dl acc ∧ μ4 Dl = none ∧ Pv (i + 1) acc μ4
def WEb (X : Cx) (scope : Scope) (elt : Expr) : TE := fun σ H Q => ∀ s H0 C cl fp, WE (Blk X scope s H0 C cl fp) elt σ H Q
theorem lc_run {own : List (Str × Nat)} {t : Tgt} (hs : ∀ i ∈ t.slots, i ∈ own.map (·.2)) {G : Hp} {σ : L2.St} (v : RV G ρ σ) {J : It} {D : Itd} {μ1 : Mu} {G1 H1 : Hp} {done : List OV → Mu → Prop} {Qd : Addr → Hp → Prop}
    (h : LcD X scope ifs elt t (own.map (·.2)) ρ D μ1 done) (e1 : Ex G G1) (m1 : RM G1 H1 μ1) (gv : Gives J D G1) (fin : ∀ Dl acc μ' G' H', done acc μ' → μ' Dl = none → Ex G1 G' → RM G' H' (μ'.put Dl acc) → Qd Dl H') (Dl : Addr) (hD : H1 Dl = none) :
    ∃ W : Nat → Nat → Hp → Prop, (∃ m, W 0 m (upd H1 Dl (.lst []))) ∧ ∀ i m H, W i m H →
      (J.stop i H ∧ Qd Dl H) ∨ (J.go i H ∧ ∃ Nx : Hp → Prop, (∀ H', Nx H' → ∃ m', m' < m ∧ W (i + 1) m' H') ∧ ∀ x H', J.yld i H x H' → TgtG X.K t x (L2.wipe σ (own.map (·.2))) H' fun σ2 H2 => L2.wipe σ2 (own.map (·.2)) = L2.wipe σ (own.map (·.2)) ∧ WTb X scope ifs σ2 H2 fun b H3 =>
        if b = true then WEb X scope elt σ2 H3 fun y H4 => ∃ acc, H4 Dl = some (.lst acc) ∧ acc.length < sizeLine ∧ Nx (upd H4 Dl (.lst (acc ++ [y]))) else Nx H3) := by
  obtain ⟨Pv, hn, h0, hok, hdone, step⟩ := h
  obtain ⟨Gd, Y, wk, hG, hY⟩ := gv
  refine lc_it wk (Qd := Qd Dl) (fun i H => ∃ acc μ' G', acc.length ≤ i ∧ Pv i acc μ' ∧ μ' Dl = none ∧ Ex G1 G' ∧ RM G' H (μ'.put Dl acc)) ⟨[], μ1, G1, Nat.le_refl _, h0, m1.fresh hD, Ex.refl _, m1.new hD .nil⟩ ?_ ?_ ?_
  · rintro i H _ ⟨acc, μ', G', _, p, n, e, m⟩
    exact hG G' H _ e m (hok i acc μ' Dl p n)
  · rintro i x H H' hi ⟨acc, μ', G', hl, p, n, e, m⟩ y
    obtain ⟨G2, o, e2, m2, ho, r2⟩ := hY i H x H' G' _ e m (hok i acc μ' Dl p n) y hi
    obtain ⟨ρ', hp, hb⟩ := step i acc μ' o ho p
    have v2 : RV G2 (wipeR ρ (own.map (·.2))) (L2.wipe σ (own.map (·.2))) := (v.mono ((e1.trans e).trans e2)).wipeV _
    refine tgt_runW (own.map (·.2)) hs m2 r2 v2 hp fun σ' v3 hw => ⟨hw.trans (wipe_idem _ _), (hb Dl n).run m2 v3 fun b μ3 G3 H3 q3 e3 m3 => ?_⟩
    cases b with
    | true =>
      rw [if_pos rfl] at q3 ⊢
      intro s H0 C cl fp
      refine q3 s H0 C cl fp G3 H3 σ' m3 (v3.mono e3) _ fun vy o' μ4 G4 H4 q4 e4 m4 r4 => ?_
      obtain ⟨μ5, rfl, n5, p5⟩ := q4
      obtain ⟨g5, accv, h5, w5⟩ := m4.own Dl acc put_same
      refine ⟨accv, h5, by rw [w5.length]; exact Nat.lt_of_lt_of_le (show acc.length < 100000 by omega) (by decide), acc ++ [o'], μ5, G4, by rw [List.length_append]; exact Nat.succ_le_succ hl, p5, n5, ((e.trans e2).trans e3).trans e4, ?_⟩
      have m5 := m4.chg (p := Dl) put_same (w5.snoc r4)
      rw [put_put] at m5
      exact m5
    | false =>
      rw [if_neg (by decide)] at q3 ⊢
      obtain ⟨μ5, rfl, n5, p5⟩ := q3
      exact ⟨acc, μ5, G3, Nat.le_succ_of_le hl, p5, n5, (e.trans e2).trans e3, m3⟩
  · rintro H ⟨acc, μ', G', hl, p, n, e, m⟩
    exact fin Dl acc μ' G' H (hdone acc μ' p) n e m
theorem pweb (s : Shared) (H : Hp) (C : Addr) (cl : List (Str × Addr)) (fp : List Addr) : PE (Blk X scope s H C cl fp) elt (WEb X scope elt) := ⟨fun pins s' σ H' Q I h => h s H C cl fp pins s' I⟩
theorem de_lcO {own : List (Str × Nat)} (t : Tgt) (hc : X.calm = true) (hN : X.N.Nodup) (ok : BlkOk X.N X.env.scope scope own) (hs : ∀ i ∈ t.slots, i ∈ own.map (·.2))
    (hg : ∀ s H C cl fp, PG (Blk X scope s H C cl fp) tg (TgtG X.K t)) (h : DI X tg iter ρ μ fun D μ1 => LcD X scope ifs elt t (own.map (·.2)) ρ D μ1 fun acc μ' => ∀ p, μ' p = none → Φ (.own p) (μ'.put p acc))
    (hf : ∀ x, foldedSetIterable iter X.env x = pure x := by intro _; rfl) : DE X (.ListComp elt [⟨tg, iter, ifs, 0⟩] scope pos) ρ μ Φ := by
  obtain ⟨wi, pi, run⟩ := h
  intro G H σ m v Q f
  refine WE.of (pe_lc (own := own) hc hN pi ok hg (fun s H C cl fp => pwtb s H C cl fp) (fun s H C cl fp => pweb s H C cl fp) hf) (run G H σ m v _ fun J D μ1 G1 H1 q e1 m1 gv Dl hD => ?_)
  exact lc_run hs v q e1 m1 gv (Qd := fun Dl H => Q (.ref Dl) H) (fun Dl acc μ' G' H' d n e m' => f _ _ _ _ _ (d Dl n) (e1.trans e) m' rfl) Dl hD
theorem de_lc {own : List (Str × Nat)} (t : Tgt) (hc : X.calm = true) (hN : X.N.Nodup) (ok : BlkOk X.N X.env.scope scope own) (hs : ∀ i ∈ t.slots, i ∈ own.map (·.2))
    (hg : ∀ s H C cl fp, PG (Blk X scope s H C cl fp) tg (TgtG X.K t)) (h : DI X tg iter ρ μ fun D μ1 => LcD X scope ifs elt t (own.map (·.2)) ρ D μ1 fun acc μ' => ∃ ds, acc = ds.map .im ∧ Φ (.im (.list ds)) μ')
    (hf : ∀ x, foldedSetIterable iter X.env x = pure x := by intro _; rfl) : DE X (.ListComp elt [⟨tg, iter, ifs, 0⟩] scope pos) ρ μ Φ := by
  refine de_frz (ds := []) (p := 0) (de_lcO t hc hN ok hs hg (h.imp fun D μ1 hL => ?_) hf)
  obtain ⟨Pv, a, b, c, d, e⟩ := hL
  refine ⟨Pv, a, b, c, fun acc μ' p q hq => ?_, e⟩
  obtain ⟨ds, rfl, z⟩ := d acc μ' p
  exact ⟨q, ds, rfl, put_same, by rw [del_put hq]; exact z⟩
def Xt (μ μ' : Mu) : Prop := ∀ a l, μ a = some l → μ' a = some l
theorem Xt.put {μ : Mu} {p : Addr} {l : List OV} (h : μ p = none) : Xt μ (μ.put p l) := fun a m e => by
  rw [put_ne (fun z => by rw [z, h] at e; cases e)]
  exact e
end
end Nx
namespace Nx
open PySem PySem.Spec PyProof.Rows L2
section
variable {X : Cx} {a b c e o : Expr} {es : List Expr} {st : Stmt} {ss : List Stmt} {ρ : Rho} {μ : Mu} {D : DEnds} {Φ : OV → Mu → Prop} {pos : Pos}
theorem dss_nil (h : D.nx ρ μ) : DSs X [] ρ μ D := fun G H σ m v E f => WSs.of pss_nil (f.nx ρ μ G H σ h (Ex.refl G) m v)
theorem dss_one (h : DS X st ρ μ D) : DSs X [st] ρ μ D := fun G H σ m v E f => WSs.of (pss_one pws) (h G H σ m v E f)
theorem dss_cons (h : DS X st ρ μ { D with nx := fun ρ' μ' => DSs X ss ρ' μ' D }) : DSs X (st :: ss) ρ μ D := fun G H σ m v E f =>
  WSs.of (pss_cons pws pwss) (h G H σ m v _ ⟨fun ρ' μ' G' H' σ' q e m' v' => q G' H' σ' m' v' E (f.later e), f.rt, f.bk, f.ct⟩)
theorem ds_expr (h : DE X e ρ μ fun _ μ1 => D.nx ρ μ1) (hs : swapsWith e none pos.line X.env = pure false := by rfl) : DS X (.Expr e pos) ρ μ D := fun G H σ m v E f =>
  WS.of (ps_expr pwe hs) (h G H σ m v _ fun vx x μ1 G1 H1 q1 e1 m1 r1 => f.nx _ _ _ _ _ q1 e1 m1 (v.mono e1))
theorem ds_ret (h : DE X e ρ μ D.rt) : DS X (.Return (some e) pos) ρ μ D := fun G H σ m v E f => WS.of (ps_ret pwe) (h G H σ m v _ f.rt)
theorem ds_if {s1 s2 : List Stmt} (h : DT X c ρ μ fun k μ1 => if k = true then DSs X s1 ρ μ1 D else DSs X s2 ρ μ1 D) : DS X (.If c s1 s2 pos) ρ μ D := fun G H σ m v E f =>
  WS.of (ps_if pwt pwss pwss) (h G H σ m v _ fun k μ1 G1 H1 q e1 m1 => by
    dsimp only at q
    split at q
    · rename_i hk
      rw [if_pos hk]
      exact q G1 H1 σ m1 (v.mono e1) E (f.later e1)
    · rename_i hk
      rw [if_neg hk]
      exact q G1 H1 σ m1 (v.mono e1) E (f.later e1))
theorem ds_set (i : Nat) {x : Str} {p' : Pos} (hN : X.N.Nodup) (hi : X.N[i]? = some x) (hx : Loc X.env.scope x) (h : DE X e ρ μ fun z μ1 => D.nx (ρ.set i (some z)) μ1) (hs : swapsWith e (some (.Name x p')) pos.line X.env = pure false := by rfl)
    (hf : X.fn x = true ∨ X.env.scope.names.lookup x = some .local := by first | exact .inl rfl | exact .inr rfl | assumption) : DS X (.Assign [.Name x p'] e pos) ρ μ D := fun G H σ m v E f =>
  WS.of (ps_set hN hi hx pwe hs hf) (h G H σ m v _ fun vx z μ1 G1 H1 q1 e1 m1 r1 => f.nx _ _ _ _ _ q1 e1 m1 ((v.mono e1).set r1))
theorem ds_asg (t : Tgt) {tg : Expr} (hg : PG X tg (TgtG X.K t)) (h : DE X e ρ μ fun z μ1 => ∃ ρ', t.put z ρ = some ρ' ∧ D.nx ρ' μ1) (hs : swapsWithSole [tg] e pos.line X.env = pure false := by rfl) (hw : swappedStores [tg] e X.env = pure none := by rfl)
    (h1 : (assignEach [tg] X.env).map (·.2) = [assign tg X.env] := by rfl) : DS X (.Assign [tg] e pos) ρ μ D := fun G H σ m v E f =>
  WS.of (ps_asg pwe hg hs hw h1) (h G H σ m v _ fun vx z μ1 G1 H1 ⟨ρ', hp, q1⟩ e1 m1 r1 => tgt_run m1 r1 (v.mono e1) hp fun σ' v' => f.nx _ _ _ _ _ q1 e1 m1 v')
theorem ds_par (i j : Nat) {x y : Str} {px py pt : Pos} {kt k2 pt2} (hc : X.calm = true) (hN : X.N.Nodup) (hi : X.N[i]? = some x) (hj : X.N[j]? = some y) (hij : i ≠ j)
    (hx : X.env.scope.names.lookup x = some .local) (hy : X.env.scope.names.lookup y = some .local) (hw : swappedStores [.Tuple [.Name x px, .Name y py] kt pt] (.Tuple [a, b] k2 pt2) X.env = pure (some [x, y]))
    (h : DA X [a, b] ρ μ fun os μ1 => ∃ u v, os = [u, v] ∧ D.nx ((ρ.set i (some u)).set j (some v)) μ1)
    (hs : swapsWithSole [.Tuple [.Name x px, .Name y py] kt pt] (.Tuple [a, b] k2 pt2) pos.line X.env = pure false := by rfl) : DS X (.Assign [.Tuple [.Name x px, .Name y py] kt pt] (.Tuple [a, b] k2 pt2) pos) ρ μ D := fun G H σ m v E f =>
  WS.of (ps_par hc hN hi hj hij hx hy pwa hw hs) (h G H σ m v _ fun vs os μ1 G1 H1 q1 e1 m1 r1 => by
    obtain ⟨u, w, rfl, q⟩ := q1
    cases r1 with
    | cons r1 t1 =>
      obtain ⟨z, rfl, r2⟩ := ro1 t1
      exact ⟨_, _, rfl, f.nx _ _ _ _ _ q e1 m1 (((v.mono e1).set r1).set r2)⟩)
theorem ds_sub {p' : Pos} (h : DE X e ρ μ fun z μ1 => DE X a ρ μ1 fun x μ2 => DE X b ρ μ2 fun y μ3 => ∃ (p : Addr) (l : List OV) (i : Int) (j : Nat), x = .own p ∧ y = .im (.int i) ∧ μ3 p = some l ∧ ixN l.length i = some j ∧ D.nx ρ (μ3.put p (l.set j z))) (hs : swapsWithSole [.Subscript a b p'] e pos.line X.env = pure false := by rfl)
    (hw : swappedStores [.Subscript a b p'] e X.env = pure none := by rfl) (h1 : (assignEach [.Subscript a b p'] X.env).map (·.2) = [assign (.Subscript a b p') X.env] := by rfl) (hsub : PG X (.Subscript a b p') (gSub (WE X a) (WE X b) rSetL)) : DS X (.Assign [.Subscript a b p'] e pos) ρ μ D := fun G H σ m v E f =>
  WS.of (ps_asg pwe hsub hs hw h1) (h G H σ m v _ fun vz z μ1 G1 H1 q1 e1 m1 r1 => q1 G1 H1 σ m1 (v.mono e1) _ fun vx x μ2 G2 H2 q2 e2 m2 r2 => q2 G2 H2 σ m2 (v.mono (e1.trans e2)) _ fun vy y μ3 G3 H3 q3 e3 m3 r3 => by
    obtain ⟨p, l, i, j, rfl, rfl, hp, hj, q⟩ := q3
    have r2 : vx = .ref p := r2
    subst r2
    cases r3
    obtain ⟨g, vs, hv, w⟩ := m3.own _ _ hp
    refine ⟨p, vs, i, j, rfl, rfl, hv, by rw [w.length]; exact hj, ?_⟩
    exact f.nx _ _ _ _ _ q ((e1.trans e2).trans e3) (m3.chg hp (w.set (r1.mono (e2.trans e3)) j)) (v.mono ((e1.trans e2).trans e3)))
theorem ds_for (t : Tgt) {tg iter : Expr} {body : List Stmt} (hp : PassesOwn (model X.prog X.w) X.A X.env X.xe) (hc : X.calm = true) (hg : PG X tg (TgtG X.K t))
    (h : DI X tg iter ρ μ fun I μ1 => ∃ Pv : Nat → Rho → Mu → Prop, Pv 0 ρ μ1 ∧ (∀ i ρ' μ', Pv i ρ' μ' → I.ok μ') ∧ (∀ (i : Nat) (z : OV) ρ' μ', I.its[i]? = some z → Pv i ρ' μ' → ∃ ρ2, t.put z ρ' = some ρ2 ∧ DSs X body ρ2 μ' { D with nx := Pv (i + 1), ct := Pv (i + 1), bk := D.nx }) ∧ ∀ ρ' μ', Pv I.its.length ρ' μ' → D.nx ρ' μ')
    (hs : ∀ x, foldedSetIterable iter X.env x = pure x := by intro _; rfl) : DS X (.For tg iter body [] pos) ρ μ D := by
  obtain ⟨wi, pi, run⟩ := h
  intro G H σ m v E f
  refine WS.of (ps_for hp hc pi hg pwss hs) (run G H σ m v _ fun J I μ1 G1 H1 q e1 m1 gv => ?_)
  obtain ⟨Pv, h0, hok, step, hd⟩ := q
  obtain ⟨Gd, Y, wk, hG, hY⟩ := gv
  refine for_it wk (D := E) (fun i σ' H' => ∃ ρ' μ' G', Pv i ρ' μ' ∧ Ex G1 G' ∧ RM G' H' μ' ∧ RV G' ρ' σ') ⟨ρ, μ1, G1, h0, Ex.refl _, m1, v.mono e1⟩ ?_ ?_ ?_
  · rintro i σ' H' _ ⟨ρ', μ', G', p, e, m', v'⟩
    exact hG G' H' μ' e m' (hok _ _ _ p)
  · rintro i x σ' H' H2 hi ⟨ρ', μ', G', p, e, m', v'⟩ y
    obtain ⟨G2, z, e2, m2, hz, r2⟩ := hY i H' x H2 G' μ' e m' (hok _ _ _ p) y hi
    obtain ⟨ρ2, hp2, hb⟩ := step i z ρ' μ' hz p
    refine tgt_run m2 r2 (v'.mono e2) hp2 fun σ2 v2 => ?_
    have e02 := (e1.trans e).trans e2
    refine hb G2 H2 σ2 m2 v2 _ ⟨fun ρ3 μ3 G3 H3 σ3 p3 e3 m3 v3 => ⟨ρ3, μ3, G3, p3, (e.trans e2).trans e3, m3, v3⟩, f.rt.later e02, f.nx.later e02, fun ρ3 μ3 G3 H3 σ3 p3 e3 m3 v3 => ⟨ρ3, μ3, G3, p3, (e.trans e2).trans e3, m3, v3⟩⟩
  · rintro σ' H' ⟨ρ', μ', G', p, e, m', v'⟩
    exact f.nx _ _ _ _ _ (hd _ _ p) (e1.trans e) m' v'
theorem ds_while {body : List Stmt} (hp : PassesOwn (model X.prog X.w) X.A X.env X.xe) (W : Nat → Rho → Mu → Prop) (m0 : Nat) (h0 : W m0 ρ μ)
    (hs : ∀ n ρ' μ', W n ρ' μ' → DT X c ρ' μ' fun k μ1 => if k = true then DSs X body ρ' μ1 { D with nx := fun ρ2 μ2 => ∃ n', n' < n ∧ W n' ρ2 μ2, ct := fun ρ2 μ2 => ∃ n', n' < n ∧ W n' ρ2 μ2, bk := D.nx } else D.nx ρ' μ1) : DS X (.While c body [] pos) ρ μ D := fun G H σ m v E f => by
  refine WS.of (ps_while hp pwt pwss) ⟨fun n σ' H' => ∃ ρ' μ' G', W n ρ' μ' ∧ Ex G G' ∧ RM G' H' μ' ∧ RV G' ρ' σ', ⟨m0, ρ, μ, G, h0, Ex.refl _, m, v⟩, ?_⟩
  rintro n σ' H' ⟨ρ', μ', G', w, e, m', v'⟩
  refine hs n ρ' μ' w G' H' σ' m' v' _ fun k μ1 G1 H1 q e1 m1 => ?_
  dsimp only at q
  cases k with
  | true =>
    rw [if_pos rfl] at q ⊢
    refine ⟨fun σ2 H2 => ∃ n', n' < n ∧ ∃ ρ' μ' G', W n' ρ' μ' ∧ Ex G G' ∧ RM G' H2 μ' ∧ RV G' ρ' σ2, fun σ2 H2 z => z, ?_⟩
    have e01 := e.trans e1
    refine q G1 H1 σ' m1 (v'.mono e1) _ ⟨?_, f.rt.later e01, f.nx.later e01, ?_⟩
    · rintro ρ3 μ3 G3 H3 σ3 ⟨n', hn, p3⟩ e3 m3 v3
      exact ⟨n', hn, ρ3, μ3, G3, p3, e01.trans e3, m3, v3⟩
    · rintro ρ3 μ3 G3 H3 σ3 ⟨n', hn, p3⟩ e3 m3 v3
      exact ⟨n', hn, ρ3, μ3, G3, p3, e01.trans e3, m3, v3⟩
  | false =>
    rw [if_neg (by decide)] at q ⊢
    exact f.nx _ _ _ _ _ q (e.trans e1) m1 (v'.mono e1)
theorem ds_setLc {own : List (Str × Nat)} (t : Tgt) (i : Nat) {y : Str} {py spos : Pos} {tg iter elt : Expr} {ifs : List Expr} {scope : Scope} (hc : X.calm = true) (hN : X.N.Nodup) (hy : X.N[i]? = some y) (hyl : X.env.scope.names.lookup y = some .local)
    (hsw : swapsWith (.ListComp elt [⟨tg, iter, ifs, 0⟩] scope pos) (some (.Name y py)) spos.line X.env = pure true) (ok : BlkOk X.N X.env.scope scope own) (hs : ∀ i ∈ t.slots, i ∈ own.map (·.2))
    (hg : ∀ s H C cl fp, PG (Blk X scope s H C cl fp) tg (TgtG X.K t)) (h : DI X tg iter ρ μ fun I μ1 => LcD X scope ifs elt t (own.map (·.2)) ρ I μ1 fun acc μ' => ∃ ds, acc = ds.map .im ∧ D.nx (ρ.set i (some (.im (.list ds)))) μ')
    (hf : ∀ x, foldedSetIterable iter X.env x = pure x := by intro _; rfl) : DS X (.Assign [.Name y py] (.ListComp elt [⟨tg, iter, ifs, 0⟩] scope pos) spos) ρ μ D := by
  obtain ⟨wi, pi, run⟩ := h
  intro G H σ m v E f
  refine WS.of (ps_setLc (own := own) hc hN hy hyl hsw pi ok hg (fun s H C cl fp => pwtb s H C cl fp) (fun s H C cl fp => pweb s H C cl fp) hf) (run G H σ m v _ fun J I μ1 G1 H1 q e1 m1 gv Dl hD => ?_)
  refine lc_run hs v q e1 m1 gv (Qd := fun Dl H => E.nx (σ.set i (some (.ref Dl))) H) (fun Dl acc μ' G' H' d n e m' => ?_) Dl hD
  obtain ⟨ds, rfl, z⟩ := d
  obtain ⟨vs, e0, g0, w, m2⟩ := m'.frz (p := Dl) put_same
  rw [del_put n] at m2
  exact f.nx _ _ _ _ _ z ((e1.trans e).trans (Ex.new g0)) m2 ((v.mono ((e1.trans e).trans (Ex.new g0))).set (o := .im _) (Dv.lst upd_same (w.mono (Ex.new g0))))
variable {apos cpos : Pos}
theorem de_append (h : DE X o ρ μ fun x μ1 => ∃ p l, x = .own p ∧ μ1 p = some l ∧ DE X e ρ μ1 fun y μ2 => ∃ l2, μ2 p = some l2 ∧ l2.length < 100000 ∧ Φ (.im .none) (μ2.put p (l2 ++ [y])))
    (hbase : attributeBase o "append" X.env (eval o X.env) = eval o X.env := by rfl)
    (hfew : ((backTo cpos (starEach [e] X.env)).all (fun x => !x.1) && (backToKw cpos (keywordEach [] X.env)).all (fun x => x.1.isSome) && decide ([e].length + ([] : List Keyword).length + (if ([] : List Keyword).isEmpty then 0 else 1) < 30)) = true := by rfl)
    (hline : (apos.endLine == cpos.line) = true := by rfl) (hs : starEach [e] X.env = (false, eval e X.env) :: starEach [] X.env := by rfl) (hplain : (backTo cpos (starEach [] X.env)).any (·.1) = false := by rfl) :
    DE X (.Call (.Attribute o "append" apos) [e] [] cpos) ρ μ Φ := fun G H σ m v Q f =>
  WE.of (pe_bm PySem.F.plainAttrs_list PySem.F.slot_list_append PySem.F.type_list_append mt_append pwe pwa hbase hfew hline hs hplain) (h G H σ m v _ fun vx x μ1 G1 H1 q1 e1 m1 r1 => by
    obtain ⟨p, l, rfl, hp, q⟩ := q1
    have r1 : vx = .ref p := r1
    subst r1
    obtain ⟨_, vs1, hv1, _⟩ := m1.own _ _ hp
    refine ⟨.inl ⟨rfl, _, .inl (.inl hv1)⟩, ?_⟩
    refine (da_cons (Λ := fun os μ2 => ∃ y l2, os = [y] ∧ μ2 p = some l2 ∧ l2.length < 100000 ∧ Φ (.im .none) (μ2.put p (l2 ++ [y]))) (q.imp fun y μ2 ⟨l2, a1, a2, a3⟩ => da_nil ⟨y, l2, rfl, a1, a2, a3⟩) hs) G1 H1 σ m1 (v.mono e1) _ fun vs os μ2 G2 H2 q2 e2 m2 r2 => ?_
    obtain ⟨y, l2, rfl, hp2, hz, q⟩ := q2
    obtain ⟨u, rfl, ru⟩ := ro1 r2
    obtain ⟨_, ws, hw, ww⟩ := m2.own _ _ hp2
    exact ⟨p, ws, u, rfl, rfl, hw, by rw [ww.length]; exact Nat.lt_of_lt_of_le hz (by decide), f _ _ _ _ _ q (e1.trans e2) (m2.chg hp2 (ww.snoc ru)) Dv.non⟩)
theorem de_popAt (h : DE X o ρ μ fun x μ1 => ∃ p l, x = .own p ∧ μ1 p = some l ∧ DE X e ρ μ1 fun y μ2 => ∃ (l2 : List OV) (i : Nat) (z : OV), y = .im (.int (i : Int)) ∧ i < 100000 ∧ μ2 p = some l2 ∧ l2[i]? = some z ∧ Φ z (μ2.put p (l2.eraseIdx i)))
    (hbase : attributeBase o "pop" X.env (eval o X.env) = eval o X.env := by rfl)
    (hfew : ((backTo cpos (starEach [e] X.env)).all (fun x => !x.1) && (backToKw cpos (keywordEach [] X.env)).all (fun x => x.1.isSome) && decide ([e].length + ([] : List Keyword).length + (if ([] : List Keyword).isEmpty then 0 else 1) < 30)) = true := by rfl)
    (hline : (apos.endLine == cpos.line) = true := by rfl) (hs : starEach [e] X.env = (false, eval e X.env) :: starEach [] X.env := by rfl) (hplain : (backTo cpos (starEach [] X.env)).any (·.1) = false := by rfl) :
    DE X (.Call (.Attribute o "pop" apos) [e] [] cpos) ρ μ Φ := fun G H σ m v Q f =>
  WE.of (pe_bm PySem.F.plainAttrs_list PySem.F.slot_list_pop PySem.F.type_list_pop mt_popAt pwe pwa hbase hfew hline hs hplain) (h G H σ m v _ fun vx x μ1 G1 H1 q1 e1 m1 r1 => by
    obtain ⟨p, l, rfl, hp, q⟩ := q1
    have r1 : vx = .ref p := r1
    subst r1
    obtain ⟨_, vs1, hv1, _⟩ := m1.own _ _ hp
    refine ⟨.inl ⟨rfl, _, .inl (.inl hv1)⟩, ?_⟩
    refine (da_cons (Λ := fun os μ2 => ∃ (l2 : List OV) (i : Nat) (z : OV), os = [.im (.int (i : Int))] ∧ i < 100000 ∧ μ2 p = some l2 ∧ l2[i]? = some z ∧ Φ z (μ2.put p (l2.eraseIdx i))) (q.imp fun y μ2 ⟨l2, i, z, a0, a1, a2, a3, a4⟩ => da_nil ⟨l2, i, z, by rw [a0], a1, a2, a3, a4⟩) hs) G1 H1 σ m1 (v.mono e1) _ fun vs os μ2 G2 H2 q2 e2 m2 r2 => ?_
    obtain ⟨l2, i, z, rfl, hi, hp2, hz, q⟩ := q2
    obtain ⟨u, rfl, ru⟩ := ro1 r2
    cases ru
    obtain ⟨_, ws, hw, ww⟩ := m2.own _ _ hp2
    obtain ⟨y, hy, ry⟩ := ROs.get ww hz
    have hil : i < ws.length := (List.getElem?_eq_some_iff.mp hy).1
    refine ⟨p, ws, i, i, y, rfl, rfl, hw, by omega, by omega, ?_, hy, f _ _ _ _ _ q (e1.trans e2) (m2.chg hp2 (ww.erase i)) ry⟩
    exact (atI_get (i := (i : Int)) (xs := ws) (v := y) (atI_nat hy)).elim fun j hj => by
      have e3 : j = i := by
        have h1 := hj.1
        unfold seqIndex? at h1
        split at h1 <;> simp_all <;> omega
      rw [e3] at hj
      exact hj.1)
end
end Nx
namespace Nx
open PySem PySem.Spec PyProof.Rows L2
def ItO (k : Bool) (h : Heap) (it a : Addr) (i : Nat) : Prop := if k then h.IsListIter it a i else h.IsTupleIter it a i
def SrO (k : Bool) (h : Heap) (a : Addr) (its : Array Value) : Prop := if k then h.IsList a its else h.IsTuple a its
def SqK : Bool → Hp → Addr → List V → Prop
  | true, H, a, xs => H a = some (.lst xs)
  | false, H, a, xs => TupAt H a xs
theorem SqK.mono {H H' : Hp} (e : Ex H H') {k : Bool} {a : Addr} {xs : List V} (h : SqK k H a xs) : SqK k H' a xs := by
  cases k
  · exact TupAt.mono e h
  · exact e _ _ h
theorem SqK.ne {H : Hp} {k : Bool} {a b : Addr} {xs : List V} (h : SqK k H a xs) (h' : H b = none) : a ≠ b := by
  cases k
  · obtain ⟨o, q⟩ := TupAt.some h
    exact ne_of_none q h'
  · exact ne_of_none h h'
def itOb (k : Bool) (a : Addr) : Obj := { cls := .type (if k then "list_iterator" else "tuple_iterator"), data := .fields #[.ref a, .int 0 0] }
theorem draws (k : Bool) {prog : Program} {w : World} {A : Around} (hh : A.handled = none) (it a : Addr) (hne : a ≠ it) (its : Array Value) : Draws prog w A it [it, a] its.size (fun i v => its[i]? = some v) (fun i h => ItO k h it a i ∧ SrO k h a its) := by
  cases k
  · exact Draws.tuple hh it a hne its
  · exact Draws.list hh it a hne its
theorem begins (k : Bool) (a : Addr) (its : Array Value) : Begins (.ref a) (itOb k a) fun h => SrO k h a its := by
  cases k
  · exact begins_tuple a its
  · exact begins_list a its
theorem ItO.new {k : Bool} {h : Heap} {it a : Addr} (e : h.get? it = some (itOb k a)) : ItO k h it a 0 := by
  cases k
  · exact ⟨_, e, rfl, rfl⟩
  · exact ⟨_, e, rfl, rfl⟩
theorem ItO.keep {k : Bool} {h h' : Heap} {it a : Addr} {i : Nat} (x : ItO k h it a i) (e : ∀ o, h.get? it = some o → h'.get? it = some o) : ItO k h' it a i := by
  cases k
  · obtain ⟨o, h1, h2, h3⟩ := x
    exact ⟨o, e o h1, h2, h3⟩
  · obtain ⟨o, h1, h2, h3⟩ := x
    exact ⟨o, e o h1, h2, h3⟩
theorem ItO.obj {k : Bool} {h : Heap} {it a : Addr} {i : Nat} (x : ItO k h it a i) : ∃ o, h.get? it = some o ∧ ∀ v, o.data ≠ .cell v := by
  cases k
  · obtain ⟨o, h1, h2, h3⟩ := x
    exact ⟨o, h1, fun v q => by rw [h3] at q; cases q⟩
  · obtain ⟨o, h1, h2, h3⟩ := x
    exact ⟨o, h1, fun v q => by rw [h3] at q; cases q⟩
theorem SqK.at {X : Cx} {pins : List (Addr × Obj)} {σ : L2.St} {H : Hp} {s : Shared} {k : Bool} {a : Addr} {xs : List V} (I : Inv X pins σ H s) (h : SqK k H a xs) : ∃ its : List Value, Vals xs its ∧ SrO k s.heap a its.toArray := by
  cases k
  · obtain ⟨its, rv, t, _⟩ := I.tuple (X := X) (xs := xs) (a := a) (TupAt.sq h)
    exact ⟨its, rv, t⟩
  · obtain ⟨its, rv, p, _⟩ := I.list (X := X) (xs := xs) (a := a) (.inl (.inl h))
    exact ⟨its, rv, p.isList⟩
theorem mem2 {b e it : Addr} (h : b ∈ [e, it]) : b = e ∨ b = it := by simpa using h
def Jen (k : Bool) (a : Addr) (xs : List V) : It :=
  ⟨fun i H => i < xs.length ∧ SqK k H a xs, fun i H v H' => ∃ T x, v = .ref T ∧ H T = none ∧ H' = upd H T (.tup [.int (i : Nat), x]) ∧ xs[i]? = some x, fun i H => i = xs.length ∧ SqK k H a xs⟩
theorem turn_en {P : Program} {w : World} {K : PySem.W.Frag} {elts : List Expr} {kk : Nat} {tpos : Pos} (k : Bool) (a e it : Addr) (xs : List V) (hei : e ≠ it) :
    Turn P w K (.Tuple elts kk tpos) (Jen k a xs) [e, it] e (fun i h => (∃ old, IsEnum h e it ((i : Nat) : Int) old) ∧ ItO k h it a i) where
  mem := by simp
  obj := fun i h st b hb => by
    obtain ⟨⟨old, he⟩, hi⟩ := st
    rcases mem2 hb with z | z
    · rw [z]
      exact ⟨_, he, fun v q => nomatch q⟩
    · rw [z]
      exact hi.obj
  keep := fun i h h' st kp => by
    obtain ⟨⟨old, he⟩, hi⟩ := st
    exact ⟨⟨old, kp e (by simp) _ he⟩, hi.keep fun o q => kp it (by simp) o q⟩
  item := by
    intro X hP hw hK hc i pins s σ H E I hf st hg
    subst hP hw hK
    obtain ⟨⟨old, he⟩, hit⟩ := st
    obtain ⟨hi, hq⟩ := hg
    obtain ⟨its, rv, hs⟩ := hq.at I
    have na : ∀ b ∈ [e, it], a ≠ b := fun b hb => SqK.ne hq (hf b hb).1
    have W := GoesN.enumFrom (elts := elts) (x1 := kk) (pos := tpos) (A := X.A) 0 (draws (prog := X.prog) (w := X.w) (A := X.A.in1) k (I.ok.hd hc) it a (na it (by simp)) its.toArray) e hei (by
      intro hm
      rcases mem2 hm with z | z
      · exact hei z
      · exact na e (by simp) z.symm) (by simp)
    have hl := rv.length
    refine W.goes i s _ E (by simp; omega) ⟨⟨old, by rw [Int.zero_add]; exact he⟩, hit, hs⟩ fun v h' tk hY st' hk _ => ?_
    obtain ⟨T, t, x, rfl, hT, hx, hTu⟩ := hY
    obtain ⟨⟨old', he'⟩, hit', _⟩ := st'
    have hx' : its[i]? = some x := by simpa using hx
    obtain ⟨y, hy⟩ : ∃ y, xs[i]? = some y := ⟨_, List.getElem?_eq_getElem hi⟩
    obtain ⟨u, hu, ru⟩ := rv.get hy
    rw [hx'] at hu
    cases hu
    have new : ObjOk X.prog X.w (upd H T (.tup [.int (i : Nat), y])) h' T (.tup [.int (i : Nat), y]) :=
      ⟨by show 2 ≤ sizeLine; decide, [.int (0 + (i : Int)) t, x], .cons ⟨t, by rw [Int.zero_add]⟩ (.cons ru .nil), hTu⟩
    have hTn := I.hok.fresh hT
    refine ⟨.ref T, _, I.turnedNew (t' := tk) (ch := [e, it]) hk hf hT new, rfl, ⟨T, y, rfl, hTn, rfl, hy⟩, ⟨⟨old', ?_⟩, hit'⟩, fun b hb => ?_⟩
    · rw [Int.zero_add] at he'
      exact he'
    · have hb' : b ≠ T := fun z => by
        obtain ⟨o, ho, _⟩ : ∃ o, s.heap.get? b = some o ∧ ∀ v, o.data ≠ .cell v := by
          rcases mem2 hb with z | z
          · rw [z]
            exact ⟨_, he, fun v q => nomatch q⟩
          · rw [z]
            exact hit.obj
        have := Heap.lt_size ho
        rw [z] at this
        exact absurd hT (Nat.not_le.mpr this)
      rw [upd_ne hb']
      exact (hf b hb).1
  done := by
    intro X hP hw hK hc i pins s σ H E I hf st hg
    subst hP hw hK
    obtain ⟨⟨old, he⟩, hit⟩ := st
    obtain ⟨rfl, hq⟩ := hg
    obtain ⟨its, rv, hs⟩ := hq.at I
    have na : ∀ b ∈ [e, it], a ≠ b := fun b hb => SqK.ne hq (hf b hb).1
    have W := GoesN.enumFrom (elts := elts) (x1 := kk) (pos := tpos) (A := X.A) 0 (draws (prog := X.prog) (w := X.w) (A := X.A.in1) k (I.ok.hd hc) it a (na it (by simp)) its.toArray) e hei (by
      intro hm
      rcases mem2 hm with z | z
      · exact hei z
      · exact na e (by simp) z.symm) (by simp)
    have hl := rv.length
    have hn : its.toArray.size = xs.length := by simp; omega
    refine W.stops s _ E (by rw [hn]; exact ⟨⟨old, by rw [Int.zero_add]; exact he⟩, hit, hs⟩) fun h' tk hk _ => ?_
    exact I.turnedL hk hf
  self := fun A i s Q E st h => let ⟨⟨_, he⟩, _⟩ := st; wpAny_pyIter_enum he h
set_option maxHeartbeats 1000000 in
theorem meets_en {v : Value} {o : Obj} {Hs : Heap → Prop} (B : Begins v o Hs) :
    Meets (Builtin.«enumerate.__new__» ⟨[.type "enumerate", v], []⟩) (fun _ R s => Hs s.heap ∧
      R (.ok (.ret (.ref (s.heap.push o).objs.size))) { s with heap := (s.heap.push o).push { cls := .type "enumerate", data := .fields #[.none, .bool false, .ref s.heap.objs.size, rawInt 0, .none, .none] } }) :=
  .of_wp fun prog w A R s h => by
    obtain ⟨hp, g, d, tk, os⟩ := s
    obtain ⟨h1, h⟩ := h
    have sub := sub_enumerate
    have it1 : ∀ {A' : Around} {E : Value → Shared → Prop} {Q : Value → Shared → Prop}, Q (.ref hp.objs.size) ⟨hp.push o, g, d, tk, os⟩ → wpAny (model prog w) A' (pyIter v) Q E ⟨hp, g, d, tk, os⟩ := fun q => B.iter prog w _ _ ⟨hp, g, d, tk, os⟩ _ h1 q
    wp_walk using it1
    refine wpAny_stack_any fun st => wpAny_pure ?_
    split
    · rename_i c _ _ _ _ _
      cases (c == Value.type "enumerate") <;> (wp_walk using it1; exact ⟨_, rfl, h⟩)
    · wp_walk using it1
      exact ⟨_, rfl, h⟩
theorem call_en {prog : Program} {w : World} {A : Around} {E : Value → Shared → Prop} {s : Shared} {v : Value} {o : Obj} {Hs : Heap → Prop} {Q : Value → Shared → Prop} (B : Begins v o Hs) (h1 : Hs s.heap)
    (h : ∀ h', IsEnum h' (s.heap.objs.size + 1) s.heap.objs.size 0 .none → h'.get? s.heap.objs.size = some o → (∀ b o, s.heap.get? b = some o → h'.get? b = some o) → Q (.ref (s.heap.objs.size + 1)) { s with heap := h' }) : wpAny (model prog w) A (call (.type "enumerate") [v]) Q E s := by
  refine callType_new F.called_enumerate (by decide) (F.typeCall_enumerate_1 _) (F.newCall_enumerate_1 _) (fun obj => F.args_object_init_2 obj _) F.entry_enumerate_new (meets_en B) ⟨h1, ?_⟩
  have hz : (s.heap.push o).objs.size = s.heap.objs.size + 1 := Heap.size_push ..
  rw [hz]
  have he := Heap.get?_push_size (s.heap.push o) (o := { cls := .type "enumerate", data := .fields #[.none, .bool false, .ref s.heap.objs.size, rawInt 0, .none, .none] }) rfl
  rw [hz] at he
  exact ⟨⟨_, he, rfl⟩, h _ he (Heap.get?_push_of_some _ (Heap.get?_push_size _ B.free)) fun b o x => Heap.get?_push_of_some _ (Heap.get?_push_of_some _ x)⟩
def iEn (ta : TA) : TI := fun σ H R => ta σ H fun vs H1 => ∃ k a xs, vs = [.ref a] ∧ SqK k H1 a xs ∧ R (Jen k a xs) H1
theorem pi_en {X : Cx} {e : Expr} {ta : TA} {p pos tpos : Pos} {elts : List Expr} {kk : Nat} (hg : Gl X "enumerate") (hm : X.mg "enumerate" = none) (ha : PA X [e] ta) (hs : starEach [e] X.env = [(false, eval e X.env)]) :
    PI X (.Tuple elts kk tpos) (.Call (.Name "enumerate" p) [e] [] pos) (iEn ta) := by
  constructor
  intro pins s σ H R I h
  refine Call_ (ld_blt I hg hm boot_enumerate (PyProof.Rows.callWith_type1 (thn (ha.run pos pins s σ H _ I h) fun us s1 ⟨vs, H1, I1, r1, q1⟩ => ?_) hs rfl))
  obtain ⟨k, a, xs, rfl, hq, q⟩ := q1
  obtain rfl := r1.ref1
  obtain ⟨its, rv, hsr⟩ := hq.at I1
  refine call_en (begins k a its.toArray) hsr fun h' he hit hk => wpAny_pyIter_enum he ?_
  refine ⟨s1.heap.objs.size + 1, [s1.heap.objs.size + 1, s1.heap.objs.size], _, _, H1, rfl, I1.kept (t' := s1.toks) hk, turn_en k a (s1.heap.objs.size + 1) s1.heap.objs.size xs (Nat.succ_ne_self _), ⟨⟨.none, he⟩, ItO.new hit⟩, fun b hb => ?_, q⟩
  have hle : s1.heap.objs.size ≤ b := by
    rcases mem2 hb with z | z
    · rw [z]; exact Nat.le_add_right _ _
    · rw [z]; exact Nat.le_refl _
  exact I1.fpOk hle (I1.hok.fresh hle)
theorem walk_en {k : Bool} {a : Addr} {xs : List V} : Walk (Jen k a xs) xs.length (fun H => SqK k H a xs) (YPair (fun i => some (.int (i : Nat))) (fun i => xs[i]?)) :=
  ⟨fun i H hi q => ⟨hi, q⟩, fun H q => ⟨rfl, q⟩, fun i H v H' _ q ⟨T, x, h1, h2, h3, h4⟩ => ⟨T, .int (i : Nat), x, h1, h2, h3, rfl, h4⟩⟩
inductive Seq (ds : List PyData) : OV → Prop
  | lst : Seq ds (.im (.list ds))
  | tup : Seq ds (.im (.tuple ds))
theorem Seq.at {G : Hp} {v : V} {o : OV} {ds : List PyData} (h : Seq ds o) (r : RO G v o) : ∃ k a xs, v = .ref a ∧ SqK k G a xs ∧ DvA G xs ds := by
  cases h with
  | lst =>
    have r : Dv G v (.list ds) := r
    cases r with
    | lst h1 w => exact ⟨true, _, _, rfl, h1, w⟩
  | tup =>
    have r : Dv G v (.tuple ds) := r
    cases r with
    | tup h1 w => exact ⟨false, _, _, rfl, h1, w⟩
section
variable {X : Cx} {tg e e2 e3 : Expr} {ρ : Rho} {μ : Mu} {Ψ : Itd → Mu → Prop} {p pos : Pos}
theorem di_en {elts : List Expr} {kk : Nat} {tpos : Pos} (B : Bt X.mg) (hg : Gl X "enumerate") (h : DE X e ρ μ fun o μ1 => ∃ ds, Seq ds o ∧ Ψ ⟨(prs (nums ds.length) ds).map .im, fun _ => True⟩ μ1)
    (he : starEach [e] X.env = (false, eval e X.env) :: starEach [] X.env := by rfl) (he2 : starEach [e] X.env = [(false, eval e X.env)] := by rfl) : DI X (.Tuple elts kk tpos) (.Call (.Name "enumerate" p) [e] [] pos) ρ μ Ψ :=
  ⟨_, pi_en hg B.enumerate pwa he2, fun G H σ m v R f => (da_cons (Λ := fun os μ1 => ∃ o ds, os = [o] ∧ Seq ds o ∧ Ψ ⟨(prs (nums ds.length) ds).map .im, fun _ => True⟩ μ1)
      (h.imp fun o μ1 ⟨ds, ho, q⟩ => da_nil ⟨o, ds, rfl, ho, q⟩) he) G H σ m v _ fun vs os μ1 G1 H1 q1 e1 m1 r1 => by
    obtain ⟨o, ds, rfl, hd, q⟩ := q1
    obtain ⟨u, rfl, ru⟩ := ro1 r1
    obtain ⟨k, a, xs, rfl, hq, w⟩ := hd.at ru
    refine ⟨k, a, xs, rfl, hq.mono m1.ex, f _ _ _ _ _ q e1 m1 ?_⟩
    have hlen : ((prs (nums ds.length) ds).map OV.im).length = ds.length := by simp [prs, nums]
    refine ⟨fun H => SqK k H a xs, YPair (fun i => some (.int (i : Nat))) (fun i => xs[i]?), ?_, fun G' H' μ' e m _ => (hq.mono e).mono m.ex, fun i H' x H2 G' μ' e m _ y hi => ?_⟩
    · show Walk _ ((prs (nums ds.length) ds).map OV.im).length _ _
      rw [hlen, ← w.length]
      exact walk_en
    · obtain ⟨T, x1, y1, rfl, hT, rfl, h1, h2⟩ := y
      cases h1
      obtain ⟨d, h3, h4⟩ := w.getV h2
      have hi : i < ds.length := by rw [← hlen]; exact hi
      obtain ⟨a1, a2, a3⟩ := pair_new m hT (Dv.int (i : Int)) (h4.mono e)
      exact ⟨_, .im (.tuple [.int (i : Int), d]), a1, a2, by rw [List.getElem?_map, prs_get (nums_get hi) h3]; rfl, a3⟩⟩
end
end Nx
namespace Nx
open PySem PySem.Spec PyProof.Rows L2
def Jz2 (k1 k2 : Bool) (a1 a2 : Addr) (xs ys : List V) : It :=
  ⟨fun i H => i < min xs.length ys.length ∧ SqK k1 H a1 xs ∧ SqK k2 H a2 ys, fun i H v H' => ∃ T x y, v = .ref T ∧ H T = none ∧ H' = upd H T (.tup [x, y]) ∧ xs[i]? = some x ∧ ys[i]? = some y, fun i H => i = min xs.length ys.length ∧ SqK k1 H a1 xs ∧ SqK k2 H a2 ys⟩
def tnz2 (k1 k2 : Bool) (z TI TO i1 i2 a1 a2 : Addr) (i : Nat) (h : Heap) : Prop := IsZip h z TI TO .none ∧ IsTupOf2 h TI (.ref i1) (.ref i2) ∧ (∃ x y, IsTupOf2 h TO x y) ∧ ItO k1 h i1 a1 i ∧ ItO k2 h i2 a2 i
theorem turn_z2 {P : Program} {w : World} {K : PySem.W.Frag} {elts : List Expr} {kk : Nat} {tpos : Pos} (k1 k2 : Bool) (a1 a2 z TI TO i1 i2 : Addr) (xs ys : List V) (hd : [z, TI, TO, i1, i2].Nodup) :
    Turn P w K (.Tuple elts kk tpos) (Jz2 k1 k2 a1 a2 xs ys) [z, TI, TO, i1, i2] z (tnz2 k1 k2 z TI TO i1 i2 a1 a2) := by
  have obj : ∀ i h, tnz2 k1 k2 z TI TO i1 i2 a1 a2 i h → ∀ b ∈ [z, TI, TO, i1, i2], ∃ o, h.get? b = some o ∧ ∀ v, o.data ≠ .cell v := by
    rintro i h ⟨h1, h2, ⟨x, y, h3⟩, h4, h5⟩ b hb
    simp only [List.mem_cons, List.not_mem_nil, or_false] at hb
    rcases hb with rfl | rfl | rfl | rfl | rfl
    · exact ⟨_, h1, fun v q => nomatch q⟩
    · exact ⟨_, h2, fun v q => nomatch q⟩
    · exact ⟨_, h3, fun v q => nomatch q⟩
    · exact h4.obj
    · exact h5.obj
  have goes : ∀ (X : Cx) (i : Nat) (pins : List (Addr × Obj)) (s : Shared) (σ : L2.St) (H : Hp), X.prog = P → X.w = w → X.calm = true → Inv X pins σ H s → (∀ b ∈ [z, TI, TO, i1, i2], FpOk X pins H b) → SqK k1 H a1 xs → SqK k2 H a2 ys →
      ∃ (its jts : List Value), Vals xs its ∧ Vals ys jts ∧ SrO k1 s.heap a1 its.toArray ∧ SrO k2 s.heap a2 jts.toArray ∧ GoesN P w X.A (.Tuple elts kk tpos) z (z :: TI :: TO :: ([i1, a1] ++ [i2, a2])) [z, TO, i1, i2] (min its.toArray.size jts.toArray.size)
        (fun i h₀ v h => ∃ T x y, v = .ref T ∧ h₀.objs.size ≤ T ∧ its.toArray[i]? = some x ∧ jts.toArray[i]? = some y ∧ h.IsTuple T #[x, y])
        (fun i h => IsZip h z TI TO .none ∧ IsTupOf2 h TI (.ref i1) (.ref i2) ∧ (∃ a1 a2, IsTupOf2 h TO a1 a2) ∧ (ItO k1 h i1 a1 i ∧ SrO k1 h a1 its.toArray) ∧ (ItO k2 h i2 a2 i ∧ SrO k2 h a2 jts.toArray)) := by
    intro X i pins s σ H hP hw hc I hf q1 q2
    subst hP hw
    obtain ⟨its, rv, hs1⟩ := q1.at I
    obtain ⟨jts, rw_, hs2⟩ := q2.at I
    have n1 : ∀ b ∈ [z, TI, TO, i1, i2], a1 ≠ b := fun b hb => SqK.ne q1 (hf b hb).1
    have n2 : ∀ b ∈ [z, TI, TO, i1, i2], a2 ≠ b := fun b hb => SqK.ne q2 (hf b hb).1
    have m1 := n1 z (by simp)
    have m3 := n1 TO (by simp)
    have m4 := n1 i1 (by simp)
    have m5 := n1 i2 (by simp)
    have l1 := n2 z (by simp)
    have l3 := n2 TO (by simp)
    have l4 := n2 i1 (by simp)
    have l5 := n2 i2 (by simp)
    simp only [List.nodup_cons, List.mem_cons, List.not_mem_nil, or_false, not_or, List.nodup_nil, and_true, not_false_eq_true] at hd
    obtain ⟨⟨d1, d2, d3, d4⟩, ⟨d5, d6, d7⟩, ⟨d8, d9⟩, d10⟩ := hd
    refine ⟨its, jts, rv, rw_, hs1, hs2, GoesN.zip2 ?_ (draws (A := X.A.in1) k1 (I.ok.hd hc) i1 a1 m4 its.toArray) (draws (A := X.A.in1) k2 (I.ok.hd hc) i2 a2 l5 jts.toArray)⟩
    exact { TIz := fun e => d1 e.symm, TOz := fun e => d2 e.symm, TITO := d5, TIi1 := d6, mem1 := by simp, zf1 := by simp; exact ⟨d3, fun e => m1 e.symm⟩, Tf1 := by simp; exact ⟨d8, fun e => m3 e.symm⟩, TIi2 := d7, mem2 := by simp,
            zf2 := by simp; exact ⟨d4, fun e => l1 e.symm⟩, Tf2 := by simp; exact ⟨d9, fun e => l3 e.symm⟩, sep1_2 := by simp; exact ⟨d10, fun e => l4 e.symm⟩, sep2_1 := by simp; exact ⟨fun e => d10 e.symm, fun e => m5 e.symm⟩ }
  have keepF : ∀ {h h' : Heap} {b : Addr}, b ∉ [z, TI, TO, i1, i2] → b ∉ [z, TO, i1, i2] := fun {h h' b} hb hm => hb (by
    simp only [List.mem_cons, List.not_mem_nil, or_false] at hm ⊢
    rcases hm with e | e | e | e
    · exact .inl e
    · exact .inr (.inr (.inl e))
    · exact .inr (.inr (.inr (.inl e)))
    · exact .inr (.inr (.inr (.inr e))))
  constructor
  · simp
  · exact obj
  · rintro i h h' ⟨h1, h2, ⟨x, y, h3⟩, h4, h5⟩ kp
    exact ⟨kp z (by simp) _ h1, kp TI (by simp) _ h2, ⟨x, y, kp TO (by simp) _ h3⟩, h4.keep (kp i1 (by simp)), h5.keep (kp i2 (by simp))⟩
  · intro X hP hw hK hc i pins s σ H E I hf st hg
    obtain ⟨hi, q1, q2⟩ := hg
    obtain ⟨its, jts, rv, rw_, hs1, hs2, W⟩ := goes X i pins s σ H hP hw hc I hf q1 q2
    subst hP hw hK
    obtain ⟨h1, h2, h3, h4, h5⟩ := id st
    have hl := rv.length
    have hl2 := rw_.length
    refine W.goes i s _ E (by simp; omega) ⟨h1, h2, h3, ⟨h4, hs1⟩, h5, hs2⟩ fun v h' tk hY st' hk _ => ?_
    obtain ⟨T, x, y, rfl, hT, hx, hy, hTu⟩ := hY
    obtain ⟨g1, g2, g3, ⟨g4, _⟩, g5, _⟩ := st'
    obtain ⟨x', hx'⟩ : ∃ y, xs[i]? = some y := ⟨_, List.getElem?_eq_getElem (by omega)⟩
    obtain ⟨y', hy'⟩ : ∃ y, ys[i]? = some y := ⟨_, List.getElem?_eq_getElem (by omega)⟩
    obtain ⟨u, hu, ru⟩ := rv.get hx'
    obtain ⟨u2, hu2, ru2⟩ := rw_.get hy'
    have ex : u = x := by
      have : its[i]? = some x := by simpa using hx
      rw [this] at hu
      exact (Option.some.inj hu).symm
    have ey : u2 = y := by
      have : jts[i]? = some y := by simpa using hy
      rw [this] at hu2
      exact (Option.some.inj hu2).symm
    subst ex ey
    have new : ObjOk X.prog X.w (upd H T (.tup [x', y'])) h' T (.tup [x', y']) := ⟨by show 2 ≤ sizeLine; decide, [u, u2], .cons ru (.cons ru2 .nil), hTu⟩
    refine ⟨.ref T, _, I.turnedNew (t' := tk) (ch := [z, TI, TO, i1, i2]) (fun b o hb => hk b o (keepF (h := h') (h' := h') hb)) hf hT new, rfl, ⟨T, x', y', rfl, I.hok.fresh hT, rfl, hx', hy'⟩, ⟨g1, g2, g3, g4, g5⟩, fun b hb => ?_⟩
    obtain ⟨o, ho, _⟩ := obj i _ st b hb
    have hb' : b ≠ T := fun e => by
      have := Heap.lt_size ho
      rw [e] at this
      exact absurd hT (Nat.not_le.mpr this)
    rw [upd_ne hb']
    exact (hf b hb).1
  · intro X hP hw hK hc i pins s σ H E I hf st hg
    obtain ⟨rfl, q1, q2⟩ := hg
    obtain ⟨its, jts, rv, rw_, hs1, hs2, W⟩ := goes X 0 pins s σ H hP hw hc I hf q1 q2
    subst hP hw hK
    obtain ⟨h1, h2, h3, h4, h5⟩ := id st
    have hl := rv.length
    have hl2 := rw_.length
    have hn : min its.toArray.size jts.toArray.size = min xs.length ys.length := by simp; omega
    refine W.stops s _ E (by rw [hn]; exact ⟨h1, h2, h3, ⟨h4, hs1⟩, h5, hs2⟩) fun h' tk hk _ => ?_
    exact I.turnedL (fun b o hb => hk b o (keepF (h := h') (h' := h') hb)) hf
  · rintro A i s Q E ⟨h1, _⟩ h
    exact wpAny_pyIter_zip h1 h
def iZ2 (ta : TA) : TI := fun σ H R => ta σ H fun vs H1 => ∃ k1 k2 a1 a2 xs ys, vs = [.ref a1, .ref a2] ∧ SqK k1 H1 a1 xs ∧ SqK k2 H1 a2 ys ∧ R (Jz2 k1 k2 a1 a2 xs ys) H1
theorem pi_z2 {X : Cx} {e e2 : Expr} {ta : TA} {p pos tpos : Pos} {elts : List Expr} {kk : Nat} (hg : Gl X "zip") (hm : X.mg "zip" = none) (ha : PA X [e, e2] ta) (hs : starEach [e, e2] X.env = (false, eval e X.env) :: starEach [e2] X.env) (hs2 : (backTo pos (starEach [e2] X.env)).any (·.1) = false) :
    PI X (.Tuple elts kk tpos) (.Call (.Name "zip" p) [e, e2] [] pos) (iZ2 ta) := by
  constructor
  intro pins s σ H R I h
  refine Call_ (ld_blt I hg hm boot_zip (PyProof.Rows.callWith_type1 (thn (ha.run pos pins s σ H _ I h) fun us s1 ⟨vs, H1, I1, r1, q1⟩ => ?_) hs hs2))
  obtain ⟨k1, k2, a1, a2, xs, ys, rfl, hq1, hq2, q⟩ := q1
  obtain ⟨u, u2, rfl, ru, ru2⟩ := r1.two
  cases ru
  cases ru2
  obtain ⟨its, rv, hs1⟩ := hq1.at I1
  obtain ⟨jts, rw_, hs2⟩ := hq2.at I1
  refine zip_begins2 (begins k1 a1 its.toArray) (begins k2 a2 jts.toArray) hs1 hs2 fun h' hz hTI hTO ho1 ho2 _ hk => wpAny_pyIter_zip hz ?_
  refine ⟨s1.heap.objs.size + 4, [s1.heap.objs.size + 4, s1.heap.objs.size + 2, s1.heap.objs.size + 3, s1.heap.objs.size, s1.heap.objs.size + 1], _, _, H1, rfl, I1.kept (t' := s1.toks) hk, turn_z2 k1 k2 a1 a2 _ _ _ _ _ xs ys ?_, ⟨hz, hTI, ⟨_, _, hTO⟩, ItO.new ho1, ItO.new ho2⟩, fun b hb => ?_, q⟩
  · simp only [List.nodup_cons, List.mem_cons, List.not_mem_nil, or_false, not_or, List.nodup_nil, and_true, not_false_eq_true]
    refine ⟨⟨?_, ?_, ?_, ?_⟩, ⟨?_, ?_, ?_⟩, ⟨?_, ?_⟩, ?_⟩ <;> (intro e; have e : (_ : Nat) = _ := e; omega)
  · have hle : s1.heap.objs.size ≤ b := by
      simp only [List.mem_cons, List.not_mem_nil, or_false] at hb
      rcases hb with z | z | z | z | z <;> (subst z; first | exact Nat.le_refl _ | exact Nat.le_add_right _ _)
    exact I1.fpOk hle (I1.hok.fresh hle)
theorem walk_z2 {k1 k2 : Bool} {a1 a2 : Addr} {xs ys : List V} : Walk (Jz2 k1 k2 a1 a2 xs ys) (min xs.length ys.length) (fun H => SqK k1 H a1 xs ∧ SqK k2 H a2 ys) (YPair (fun i => xs[i]?) (fun i => ys[i]?)) :=
  ⟨fun i H hi q => ⟨hi, q⟩, fun H q => ⟨rfl, q⟩, fun i H v H' _ q y => y⟩
section
variable {X : Cx} {tg e e2 e3 : Expr} {ρ : Rho} {μ : Mu} {Ψ : Itd → Mu → Prop} {p pos : Pos}
theorem di_zip2 {elts : List Expr} {kk : Nat} {tpos : Pos} (B : Bt X.mg) (hg : Gl X "zip") (h : DE X e ρ μ fun o μ1 => DE X e2 ρ μ1 fun o2 μ2 => ∃ ds es, Seq ds o ∧ Seq es o2 ∧ Ψ ⟨(prs ds es).map .im, fun _ => True⟩ μ2)
    (he : starEach [e, e2] X.env = (false, eval e X.env) :: starEach [e2] X.env := by rfl) (he2 : starEach [e2] X.env = (false, eval e2 X.env) :: starEach [] X.env := by rfl) (hpl : (backTo pos (starEach [e2] X.env)).any (·.1) = false := by rfl) : DI X (.Tuple elts kk tpos) (.Call (.Name "zip" p) [e, e2] [] pos) ρ μ Ψ :=
  ⟨_, pi_z2 hg B.zip pwa he hpl, fun G H σ m v R f => (da_cons (Λ := fun os μ1 => ∃ o o2 ds es, os = [o, o2] ∧ Seq ds o ∧ Seq es o2 ∧ Ψ ⟨(prs ds es).map .im, fun _ => True⟩ μ1)
      (h.imp fun o μ1 h2 => da_cons (h2.imp fun o2 μ2 ⟨ds, es, h3, h4, q⟩ => da_nil ⟨o, o2, ds, es, rfl, h3, h4, q⟩) he2) he) G H σ m v _ fun vs os μ1 G1 H1 q1 e1 m1 r1 => by
    obtain ⟨o, o2, ds, es, rfl, hd, hd2, q⟩ := q1
    cases r1 with
    | cons r1 t1 =>
      obtain ⟨u, rfl, ru⟩ := ro1 t1
      obtain ⟨k1, a1, xs, rfl, hq1, w1⟩ := hd.at r1
      obtain ⟨k2, a2, ys, rfl, hq2, w2⟩ := hd2.at ru
      refine ⟨k1, k2, a1, a2, xs, ys, rfl, hq1.mono m1.ex, hq2.mono m1.ex, f _ _ _ _ _ q e1 m1 ?_⟩
      have hlen : ((prs ds es).map OV.im).length = min xs.length ys.length := by simp [prs, w1.length, w2.length]
      refine ⟨fun H => SqK k1 H a1 xs ∧ SqK k2 H a2 ys, YPair (fun i => xs[i]?) (fun i => ys[i]?), (by show Walk _ ((prs ds es).map OV.im).length _ _; rw [hlen]; exact walk_z2), fun G' H' μ' e m _ => ⟨(hq1.mono e).mono m.ex, (hq2.mono e).mono m.ex⟩, fun i H' x H2 G' μ' e m _ y hi => ?_⟩
      obtain ⟨T, x1, y1, rfl, hT, rfl, h1, h2⟩ := y
      obtain ⟨d, h3, h4⟩ := w1.getV h1
      obtain ⟨d2, h5, h6⟩ := w2.getV h2
      obtain ⟨b1, b2, b3⟩ := pair_new m hT (h4.mono e) (h6.mono e)
      exact ⟨_, .im (.tuple [d, d2]), b1, b2, by rw [List.getElem?_map, prs_get h3 h5]; rfl, b3⟩⟩
end
end Nx
namespace Nx
open PySem PySem.Spec PyProof.Rows L2
def Jz3 (k1 k2 k3 : Bool) (a1 a2 a3 : Addr) (xs ys zs : List V) : It :=
  ⟨fun i H => i < min (min xs.length ys.length) zs.length ∧ SqK k1 H a1 xs ∧ SqK k2 H a2 ys ∧ SqK k3 H a3 zs, fun i H v H' => ∃ T x y u, v = .ref T ∧ H T = none ∧ H' = upd H T (.tup [x, y, u]) ∧ xs[i]? = some x ∧ ys[i]? = some y ∧ zs[i]? = some u,
    fun i H => i = min (min xs.length ys.length) zs.length ∧ SqK k1 H a1 xs ∧ SqK k2 H a2 ys ∧ SqK k3 H a3 zs⟩
def tnz3 (k1 k2 k3 : Bool) (z TI TO i1 i2 i3 a1 a2 a3 : Addr) (i : Nat) (h : Heap) : Prop := IsZip h z TI TO .none ∧ IsTupOf3 h TI (.ref i1) (.ref i2) (.ref i3) ∧ (∃ x y u, IsTupOf3 h TO x y u) ∧ ItO k1 h i1 a1 i ∧ ItO k2 h i2 a2 i ∧ ItO k3 h i3 a3 i
theorem turn_z3 {P : Program} {w : World} {K : PySem.W.Frag} {elts : List Expr} {kk : Nat} {tpos : Pos} (k1 k2 k3 : Bool) (a1 a2 a3 z TI TO i1 i2 i3 : Addr) (xs ys zs : List V) (hd : [z, TI, TO, i1, i2, i3].Nodup) :
    Turn P w K (.Tuple elts kk tpos) (Jz3 k1 k2 k3 a1 a2 a3 xs ys zs) [z, TI, TO, i1, i2, i3] z (tnz3 k1 k2 k3 z TI TO i1 i2 i3 a1 a2 a3) := by
  have obj : ∀ i h, tnz3 k1 k2 k3 z TI TO i1 i2 i3 a1 a2 a3 i h → ∀ b ∈ [z, TI, TO, i1, i2, i3], ∃ o, h.get? b = some o ∧ ∀ v, o.data ≠ .cell v := by
    rintro i h ⟨h1, h2, ⟨x, y, u, h3⟩, h4, h5, h6⟩ b hb
    simp only [List.mem_cons, List.not_mem_nil, or_false] at hb
    rcases hb with rfl | rfl | rfl | rfl | rfl | rfl
    · exact ⟨_, h1, fun v q => nomatch q⟩
    · exact ⟨_, h2, fun v q => nomatch q⟩
    · exact ⟨_, h3, fun v q => nomatch q⟩
    · exact h4.obj
    · exact h5.obj
    · exact h6.obj
  have goes : ∀ (X : Cx) (pins : List (Addr × Obj)) (s : Shared) (σ : L2.St) (H : Hp), X.prog = P → X.w = w → X.calm = true → Inv X pins σ H s → (∀ b ∈ [z, TI, TO, i1, i2, i3], FpOk X pins H b) → SqK k1 H a1 xs → SqK k2 H a2 ys → SqK k3 H a3 zs →
      ∃ (its jts uts : List Value), Vals xs its ∧ Vals ys jts ∧ Vals zs uts ∧ SrO k1 s.heap a1 its.toArray ∧ SrO k2 s.heap a2 jts.toArray ∧ SrO k3 s.heap a3 uts.toArray ∧ GoesN P w X.A (.Tuple elts kk tpos) z (z :: TI :: TO :: ([i1, a1] ++ [i2, a2] ++ [i3, a3])) [z, TO, i1, i2, i3] (min (min its.toArray.size jts.toArray.size) uts.toArray.size)
        (fun i h₀ v h => ∃ T x y u, v = .ref T ∧ h₀.objs.size ≤ T ∧ its.toArray[i]? = some x ∧ jts.toArray[i]? = some y ∧ uts.toArray[i]? = some u ∧ h.IsTuple T #[x, y, u])
        (fun i h => IsZip h z TI TO .none ∧ IsTupOf3 h TI (.ref i1) (.ref i2) (.ref i3) ∧ (∃ a1 a2 a3, IsTupOf3 h TO a1 a2 a3) ∧ (ItO k1 h i1 a1 i ∧ SrO k1 h a1 its.toArray) ∧ (ItO k2 h i2 a2 i ∧ SrO k2 h a2 jts.toArray) ∧ (ItO k3 h i3 a3 i ∧ SrO k3 h a3 uts.toArray)) := by
    intro X pins s σ H hP hw hc I hf q1 q2 q3
    subst hP hw
    obtain ⟨its, rv, hs1⟩ := q1.at I
    obtain ⟨jts, rw_, hs2⟩ := q2.at I
    obtain ⟨uts, ru_, hs3⟩ := q3.at I
    have n1 : ∀ b ∈ [z, TI, TO, i1, i2, i3], a1 ≠ b := fun b hb => SqK.ne q1 (hf b hb).1
    have n2 : ∀ b ∈ [z, TI, TO, i1, i2, i3], a2 ≠ b := fun b hb => SqK.ne q2 (hf b hb).1
    have n3 : ∀ b ∈ [z, TI, TO, i1, i2, i3], a3 ≠ b := fun b hb => SqK.ne q3 (hf b hb).1
    simp only [List.nodup_cons, List.mem_cons, List.not_mem_nil, or_false, not_or, List.nodup_nil, and_true, not_false_eq_true] at hd
    obtain ⟨⟨d1, d2, d3, d4, d5⟩, ⟨d6, d7, d8, d9⟩, ⟨d10, d11, d12⟩, ⟨d13, d14⟩, d15⟩ := hd
    refine ⟨its, jts, uts, rv, rw_, ru_, hs1, hs2, hs3, GoesN.zip3 ?_ (draws (A := X.A.in1) k1 (I.ok.hd hc) i1 a1 (n1 i1 (by simp)) its.toArray) (draws (A := X.A.in1) k2 (I.ok.hd hc) i2 a2 (n2 i2 (by simp)) jts.toArray) (draws (A := X.A.in1) k3 (I.ok.hd hc) i3 a3 (n3 i3 (by simp)) uts.toArray)⟩
    have no : ∀ {c i a : Addr}, c ≠ i → a ≠ c → c ∉ [i, a] := fun {c i a} p q hm => by
      rcases mem2 hm with e | e
      · exact p e
      · exact q e.symm
    exact { TIz := fun e => d1 e.symm, TOz := fun e => d2 e.symm, TITO := d6, TIi1 := d7, mem1 := by simp, zf1 := no d3 (n1 z (by simp)), Tf1 := no d10 (n1 TO (by simp)), TIi2 := d8, mem2 := by simp,
            zf2 := no d4 (n2 z (by simp)), Tf2 := no d11 (n2 TO (by simp)), TIi3 := d9, mem3 := by simp, zf3 := no d5 (n3 z (by simp)), Tf3 := no d12 (n3 TO (by simp)), sep1_2 := no d13 (n2 i1 (by simp)), sep1_3 := no d14 (n3 i1 (by simp)),
            sep2_1 := no (fun e => d13 e.symm) (n1 i2 (by simp)), sep2_3 := no d15 (n3 i2 (by simp)), sep3_1 := no (fun e => d14 e.symm) (n1 i3 (by simp)), sep3_2 := no (fun e => d15 e.symm) (n2 i3 (by simp)) }
  have keepF : ∀ {b : Addr}, b ∉ [z, TI, TO, i1, i2, i3] → b ∉ [z, TO, i1, i2, i3] := fun {b} hb hm => hb (by
    simp only [List.mem_cons, List.not_mem_nil, or_false] at hm ⊢
    rcases hm with e | e | e | e | e
    · exact .inl e
    · exact .inr (.inr (.inl e))
    · exact .inr (.inr (.inr (.inl e)))
    · exact .inr (.inr (.inr (.inr (.inl e))))
    · exact .inr (.inr (.inr (.inr (.inr e)))))
  have pickV : ∀ {xs : List V} {its : List Value} {i : Nat} {x : Value}, Vals xs its → i < xs.length → its.toArray[i]? = some x → ∃ x', xs[i]? = some x' ∧ RelV x' x := by
    intro xs its i x rv hi hx
    obtain ⟨x', hx'⟩ : ∃ y, xs[i]? = some y := ⟨_, List.getElem?_eq_getElem hi⟩
    obtain ⟨u, hu, ru⟩ := rv.get hx'
    have : its[i]? = some x := by simpa using hx
    rw [this] at hu
    cases hu
    exact ⟨x', hx', ru⟩
  constructor
  · simp
  · exact obj
  · rintro i h h' ⟨h1, h2, ⟨x, y, u, h3⟩, h4, h5, h6⟩ kp
    exact ⟨kp z (by simp) _ h1, kp TI (by simp) _ h2, ⟨x, y, u, kp TO (by simp) _ h3⟩, h4.keep (kp i1 (by simp)), h5.keep (kp i2 (by simp)), h6.keep (kp i3 (by simp))⟩
  · intro X hP hw hK hc i pins s σ H E I hf st hg
    obtain ⟨hi, q1, q2, q3⟩ := hg
    obtain ⟨its, jts, uts, rv, rw_, ru_, hs1, hs2, hs3, W⟩ := goes X pins s σ H hP hw hc I hf q1 q2 q3
    subst hP hw hK
    obtain ⟨h1, h2, h3, h4, h5, h6⟩ := id st
    have hl := rv.length
    have hl2 := rw_.length
    have hl3 := ru_.length
    refine W.goes i s _ E (by simp; omega) ⟨h1, h2, h3, ⟨h4, hs1⟩, ⟨h5, hs2⟩, h6, hs3⟩ fun v h' tk hY st' hk _ => ?_
    obtain ⟨T, x, y, u, rfl, hT, hx, hy, hu, hTu⟩ := hY
    obtain ⟨g1, g2, g3, ⟨g4, _⟩, ⟨g5, _⟩, g6, _⟩ := st'
    obtain ⟨x', hx', rx⟩ := pickV rv (by omega) hx
    obtain ⟨y', hy', ry⟩ := pickV rw_ (by omega) hy
    obtain ⟨u', hu', ru⟩ := pickV ru_ (by omega) hu
    have new : ObjOk X.prog X.w (upd H T (.tup [x', y', u'])) h' T (.tup [x', y', u']) := ⟨by show 3 ≤ sizeLine; decide, [x, y, u], .cons rx (.cons ry (.cons ru .nil)), hTu⟩
    refine ⟨.ref T, _, I.turnedNew (t' := tk) (ch := [z, TI, TO, i1, i2, i3]) (fun b o hb => hk b o (keepF hb)) hf hT new, rfl, ⟨T, x', y', u', rfl, I.hok.fresh hT, rfl, hx', hy', hu'⟩, ⟨g1, g2, g3, g4, g5, g6⟩, fun b hb => ?_⟩
    obtain ⟨o, ho, _⟩ := obj i _ st b hb
    have hb' : b ≠ T := fun e => by
      have := Heap.lt_size ho
      rw [e] at this
      exact absurd hT (Nat.not_le.mpr this)
    rw [upd_ne hb']
    exact (hf b hb).1
  · intro X hP hw hK hc i pins s σ H E I hf st hg
    obtain ⟨rfl, q1, q2, q3⟩ := hg
    obtain ⟨its, jts, uts, rv, rw_, ru_, hs1, hs2, hs3, W⟩ := goes X pins s σ H hP hw hc I hf q1 q2 q3
    subst hP hw hK
    obtain ⟨h1, h2, h3, h4, h5, h6⟩ := id st
    have hl := rv.length
    have hl2 := rw_.length
    have hl3 := ru_.length
    have hn : min (min its.toArray.size jts.toArray.size) uts.toArray.size = min (min xs.length ys.length) zs.length := by simp; omega
    refine W.stops s _ E (by rw [hn]; exact ⟨h1, h2, h3, ⟨h4, hs1⟩, ⟨h5, hs2⟩, h6, hs3⟩) fun h' tk hk _ => ?_
    exact I.turnedL (fun b o hb => hk b o (keepF hb)) hf
  · rintro A i s Q E ⟨h1, _⟩ h
    exact wpAny_pyIter_zip h1 h
def iZ3 (ta : TA) : TI := fun σ H R => ta σ H fun vs H1 => ∃ k1 k2 k3 a1 a2 a3 xs ys zs, vs = [.ref a1, .ref a2, .ref a3] ∧ SqK k1 H1 a1 xs ∧ SqK k2 H1 a2 ys ∧ SqK k3 H1 a3 zs ∧ R (Jz3 k1 k2 k3 a1 a2 a3 xs ys zs) H1
theorem pi_z3 {X : Cx} {e e2 e3 : Expr} {ta : TA} {p pos tpos : Pos} {elts : List Expr} {kk : Nat} (hg : Gl X "zip") (hm : X.mg "zip" = none) (ha : PA X [e, e2, e3] ta) (hs : starEach [e, e2, e3] X.env = (false, eval e X.env) :: starEach [e2, e3] X.env) (hs2 : (backTo pos (starEach [e2, e3] X.env)).any (·.1) = false) :
    PI X (.Tuple elts kk tpos) (.Call (.Name "zip" p) [e, e2, e3] [] pos) (iZ3 ta) := by
  constructor
  intro pins s σ H R I h
  refine Call_ (ld_blt I hg hm boot_zip (PyProof.Rows.callWith_type1 (thn (ha.run pos pins s σ H _ I h) fun us s1 ⟨vs, H1, I1, r1, q1⟩ => ?_) hs hs2))
  obtain ⟨k1, k2, k3, a1, a2, a3, xs, ys, zs, rfl, hq1, hq2, hq3, q⟩ := q1
  cases r1 with
  | cons ru t1 =>
    obtain ⟨u2, u3, rfl, ru2, ru3⟩ := Vals.two t1
    cases ru
    cases ru2
    cases ru3
    obtain ⟨its, rv, hs1⟩ := hq1.at I1
    obtain ⟨jts, rw_, hs2⟩ := hq2.at I1
    obtain ⟨uts, ru_, hs3⟩ := hq3.at I1
    refine zip_begins3 (begins k1 a1 its.toArray) (begins k2 a2 jts.toArray) (begins k3 a3 uts.toArray) hs1 hs2 hs3 fun h' hz hTI hTO ho1 ho2 ho3 _ hk => wpAny_pyIter_zip hz ?_
    refine ⟨s1.heap.objs.size + 5, [s1.heap.objs.size + 5, s1.heap.objs.size + 3, s1.heap.objs.size + 4, s1.heap.objs.size, s1.heap.objs.size + 1, s1.heap.objs.size + 2], _, _, H1, rfl, I1.kept (t' := s1.toks) hk, turn_z3 k1 k2 k3 a1 a2 a3 _ _ _ _ _ _ xs ys zs ?_, ⟨hz, hTI, ⟨_, _, _, hTO⟩, ItO.new ho1, ItO.new ho2, ItO.new ho3⟩, fun b hb => ?_, q⟩
    · simp only [List.nodup_cons, List.mem_cons, List.not_mem_nil, or_false, not_or, List.nodup_nil, and_true, not_false_eq_true]
      refine ⟨⟨?_, ?_, ?_, ?_, ?_⟩, ⟨?_, ?_, ?_, ?_⟩, ⟨?_, ?_, ?_⟩, ⟨?_, ?_⟩, ?_⟩ <;> (intro e; have e : (_ : Nat) = _ := e; omega)
    · have hle : s1.heap.objs.size ≤ b := by
        simp only [List.mem_cons, List.not_mem_nil, or_false] at hb
        rcases hb with z | z | z | z | z | z <;> (subst z; first | exact Nat.le_refl _ | exact Nat.le_add_right _ _)
      exact I1.fpOk hle (I1.hok.fresh hle)
def trs (xs ys zs : List PyData) : List PyData := (xs.zip (ys.zip zs)).map fun q => .tuple [q.1, q.2.1, q.2.2]
theorem trs_get {xs ys zs : List PyData} {i : Nat} {x y z : PyData} (h1 : xs[i]? = some x) (h2 : ys[i]? = some y) (h3 : zs[i]? = some z) : (trs xs ys zs)[i]? = some (.tuple [x, y, z]) := by
  unfold trs
  rw [List.getElem?_map, List.getElem?_zip_eq_some (z := (x, (y, z))) |>.mpr ⟨h1, List.getElem?_zip_eq_some (z := (y, z)) |>.mpr ⟨h2, h3⟩⟩]
  rfl
section
variable {X : Cx} {tg e e2 e3 : Expr} {ρ : Rho} {μ : Mu} {Ψ : Itd → Mu → Prop} {Φ : OV → Mu → Prop} {p pos : Pos}
theorem di_zip3 {elts : List Expr} {kk : Nat} {tpos : Pos} (B : Bt X.mg) (hg : Gl X "zip") (h : DE X e ρ μ fun o μ1 => DE X e2 ρ μ1 fun o2 μ2 => DE X e3 ρ μ2 fun o3 μ3 => ∃ ds es fs, Seq ds o ∧ Seq es o2 ∧ Seq fs o3 ∧ Ψ ⟨(trs ds es fs).map .im, fun _ => True⟩ μ3)
    (he : starEach [e, e2, e3] X.env = (false, eval e X.env) :: starEach [e2, e3] X.env := by rfl) (he2 : starEach [e2, e3] X.env = (false, eval e2 X.env) :: starEach [e3] X.env := by rfl) (he3 : starEach [e3] X.env = (false, eval e3 X.env) :: starEach [] X.env := by rfl) (hpl : (backTo pos (starEach [e2, e3] X.env)).any (·.1) = false := by rfl) : DI X (.Tuple elts kk tpos) (.Call (.Name "zip" p) [e, e2, e3] [] pos) ρ μ Ψ :=
  ⟨_, pi_z3 hg B.zip pwa he hpl, fun G H σ m v R f => (da_cons (Λ := fun os μ1 => ∃ o o2 o3 ds es fs, os = [o, o2, o3] ∧ Seq ds o ∧ Seq es o2 ∧ Seq fs o3 ∧ Ψ ⟨(trs ds es fs).map .im, fun _ => True⟩ μ1)
      (h.imp fun o μ1 h2 => da_cons (h2.imp fun o2 μ2 h3 => da_cons (h3.imp fun o3 μ3 ⟨ds, es, fs, h4, h5, h6, q⟩ => da_nil ⟨o, o2, o3, ds, es, fs, rfl, h4, h5, h6, q⟩) he3) he2) he) G H σ m v _ fun vs os μ1 G1 H1 q1 e1 m1 r1 => by
    obtain ⟨o, o2, o3, ds, es, fs, rfl, hd, hd2, hd3, q⟩ := q1
    cases r1 with
    | cons r1 t1 =>
      cases t1 with
      | cons r2 t2 =>
        obtain ⟨u, rfl, r3⟩ := ro1 t2
        obtain ⟨k1, a1, xs, rfl, hq1, w1⟩ := hd.at r1
        obtain ⟨k2, a2, ys, rfl, hq2, w2⟩ := hd2.at r2
        obtain ⟨k3, a3, zs, rfl, hq3, w3⟩ := hd3.at r3
        refine ⟨k1, k2, k3, a1, a2, a3, xs, ys, zs, rfl, hq1.mono m1.ex, hq2.mono m1.ex, hq3.mono m1.ex, f _ _ _ _ _ q e1 m1 ?_⟩
        have hlen : ((trs ds es fs).map OV.im).length = min (min xs.length ys.length) zs.length := by simp [trs, w1.length, w2.length, w3.length, Nat.min_assoc]
        refine ⟨fun H => SqK k1 H a1 xs ∧ SqK k2 H a2 ys ∧ SqK k3 H a3 zs, fun i H v H' => ∃ T x y u, v = .ref T ∧ H T = none ∧ H' = upd H T (.tup [x, y, u]) ∧ xs[i]? = some x ∧ ys[i]? = some y ∧ zs[i]? = some u,
          (by show Walk _ ((trs ds es fs).map OV.im).length _ _; rw [hlen]; exact ⟨fun i H hi q => ⟨hi, q⟩, fun H q => ⟨rfl, q⟩, fun i H v H' _ q y => y⟩), fun G' H' μ' e m _ => ⟨(hq1.mono e).mono m.ex, (hq2.mono e).mono m.ex, (hq3.mono e).mono m.ex⟩, fun i H' x H2 G' μ' e m _ y hi => ?_⟩
        obtain ⟨T, x1, y1, z1, rfl, hT, rfl, h1, h2, h3⟩ := y
        obtain ⟨d1, g1, g2⟩ := w1.getV h1
        obtain ⟨d2, g3, g4⟩ := w2.getV h2
        obtain ⟨d3, g5, g6⟩ := w3.getV h3
        have n := m.ex.free hT
        exact ⟨_, .im (.tuple [d1, d2, d3]), Ex.new n, m.lay hT, by rw [List.getElem?_map, trs_get g1 g3 g5]; rfl, Dv.tup (.inl upd_same) (.cons ((g2.mono e).mono (Ex.new n)) (.cons ((g4.mono e).mono (Ex.new n)) (.cons ((g6.mono e).mono (Ex.new n)) .nil)))⟩⟩
theorem dv_list {G H : Hp} {μ : Mu} {v : V} {o : OV} {ds : List PyData} (m : RM G H μ) (hd : RdD μ o (.list ds)) (r : RO G v o) : ∃ a xs, v = .ref a ∧ H a = some (.lst xs) ∧ DvA H xs ds := by
  have d := hd.at m r
  generalize hdd : PyData.list ds = dd at d
  cases d with
  | lst h1 w => cases hdd; exact ⟨_, _, rfl, h1, w⟩
  | _ => cases hdd
theorem DvA.bls {H : Hp} : ∀ (bs : List Bool) {vs : List V}, DvA H vs (bs.map PyData.bool) → vs = bs.map V.bl
  | [], _, .nil => rfl
  | n :: ns, _, .cons (.bl _) t => by rw [DvA.bls ns t]; rfl
theorem de_all (B : Bt X.mg) (hc : X.calm = true) (hg : Gl X "all") (h : DE X e ρ μ fun o μ1 => ∃ bs : List Bool, RdD μ1 o (.list (bs.map .bool)) ∧ Φ (.im (.bool (bs.all id))) μ1) (he : starEach [e] X.env = (false, eval e X.env) :: starEach [] X.env := by rfl) (hpl : (backTo pos (starEach [] X.env)).any (·.1) = false := by rfl) : DE X (.Call (.Name "all" p) [e] [] pos) ρ μ Φ :=
  de_callB (cr_all hc) hg B.all PyProof.Rows.boot_all (he := he) (hpl := hpl) (da_cons (hs := he) (h.imp fun o μ1 ⟨bs, hd, q⟩ => da_nil fun G H vs m r Q f => by
    obtain ⟨v, rfl, r1⟩ := ro1 r
    obtain ⟨a, xs, rfl, h1, w⟩ := dv_list m hd r1
    exact ⟨a, bs, rfl, .inl (.inl (by rw [← w.bls]; exact h1)), f _ _ _ _ _ q (Ex.refl G) m (Dv.bl _)⟩))
theorem de_sum (B : Bt X.mg) (hc : X.calm = true) (hg : Gl X "sum") (h : DE X e ρ μ fun o μ1 => ∃ ns : List Int, RdD μ1 o (.list (ns.map .int)) ∧ Φ (.im (.int ns.sum)) μ1) (he : starEach [e] X.env = (false, eval e X.env) :: starEach [] X.env := by rfl) (hpl : (backTo pos (starEach [] X.env)).any (·.1) = false := by rfl) : DE X (.Call (.Name "sum" p) [e] [] pos) ρ μ Φ :=
  de_callB (cr_sum hc) hg B.sum PyProof.Rows.boot_sum (he := he) (hpl := hpl) (da_cons (hs := he) (h.imp fun o μ1 ⟨bs, hd, q⟩ => da_nil fun G H vs m r Q f => by
    obtain ⟨v, rfl, r1⟩ := ro1 r
    obtain ⟨a, xs, rfl, h1, w⟩ := dv_list m hd r1
    exact ⟨a, bs, rfl, .inl (.inl (by rw [← w.ints]; exact h1)), f _ _ _ _ _ q (Ex.refl G) m (Dv.int _)⟩))
theorem de_max (B : Bt X.mg) (hc : X.calm = true) (hg : Gl X "max") (h : DE X e ρ μ fun o μ1 => ∃ ns : List Int, RdD μ1 o (.list (ns.map .int)) ∧ 0 < ns.length ∧ ∀ k, k ∈ ns → (∀ y, y ∈ ns → y ≤ k) → Φ (.im (.int k)) μ1) (he : starEach [e] X.env = (false, eval e X.env) :: starEach [] X.env := by rfl) (hpl : (backTo pos (starEach [] X.env)).any (·.1) = false := by rfl) : DE X (.Call (.Name "max" p) [e] [] pos) ρ μ Φ :=
  de_callB (cr_max hc) hg B.max PyProof.Rows.boot_max (he := he) (hpl := hpl) (da_cons (hs := he) (h.imp fun o μ1 ⟨bs, hd, hz, q⟩ => da_nil fun G H vs m r Q f => by
    obtain ⟨v, rfl, r1⟩ := ro1 r
    obtain ⟨a, xs, rfl, h1, w⟩ := dv_list m hd r1
    exact ⟨a, bs, rfl, .inl (.inl (by rw [← w.ints]; exact h1)), hz, fun k hk hm => f _ _ _ _ _ (q k hk hm) (Ex.refl G) m (Dv.int _)⟩))
end
end Nx
namespace Nx
open PySem PySem.Spec PyProof.Rows L2
theorem law_core {P : Program} {w : World} {K : PySem.W.Frag} {mg mb : Str → Option Value} {k : Nat} {fa a : Addr} {fd : FuncData} {x : Str} {sp : Sp} {s : Shared}
    (KX : K.In s.heap) (hns : s.heap.Ns mainGlobals mg) (hb : s.heap.Ns builtinsNs mb) (hbb : ∀ x : Str, x ≠ "__name__" → mb x = bootBuiltins x) (hlim : s.heap.NoLimit) (hgn : s.gens = #[]) (hr : Rm k callerA)
    (F : ∀ base : Heap, K.In base → base.Ns mainGlobals mg → FnG P w K mg base CX0 k fa fd [x] sp) (bind : ∀ (s : Shared) (u : Value), BindsTo s fd ⟨[u], []⟩ [(x, u)])
    (H : Hp) (hO : Only H) (nd : ∀ b o, H b ≠ none → s.heap.get? b = some o → ∀ es ep, o.data ≠ .dict es ep) (hok : HOk P w H s.heap) (hK : ∀ b, H b ≠ none → K.lookup b = none) (hsp : sp [.ref a] H (fun v _ => v = .bl true) fun _ _ _ => False) :
    codeAny (model P w) callerA (.call (.ref fa) ⟨[.ref a], []⟩) (fun r s' => r = .ok (.ret (.bool true)) ∧ OldK s.heap s'.heap ∧ s'.os = s.os ∧ AllBare s'.gens) s := by
  have up : ∀ {b : Addr} {o : Obj}, s.heap.get? b = some o → H b = none → (hidT s.heap H).get? b = some o := fun e n => hidT_get e n
  have nsUp : ∀ {b : Addr} {m : Str → Option Value}, s.heap.Ns b m → (hidT s.heap H).Ns b m := by
    rintro b m ⟨o, es, ep, e, d, r⟩
    refine ⟨o, es, ep, up e ?_, d, r⟩
    cases q : H b with
    | none => rfl
    | some u => exact absurd d (nd b o (by rw [q]; simp) e es ep)
  have inK : K.In (hidT s.heap H) := by
    intro b o e
    refine up (KX b o e) ?_
    cases q : H b with
    | none => rfl
    | some u =>
      have := hK b (by rw [q]; simp)
      rw [e] at this
      cases this
  have lim : (hidT s.heap H).NoLimit := by
    obtain ⟨mc, h1, h2⟩ := hlim
    exact ⟨mc, nsUp h1, h2⟩
  have env0 : Env0 P w K mg (hidT s.heap H) callerA [] s H :=
    { frames := rfl, mod := ⟨inK, nsUp hns, ⟨mb, nsUp hb, hbb⟩, lim⟩, bs := fun b o e => of_hidT e, bsz := Nat.le_of_eq (hidT_size _ _), funs := trivial, frf := (fun b hb => absurd (show b ∈ ([] : List Addr) from hb) (by simp)), hok := hok, bare := .of_eq hgn }
  have run := (F _ inK (nsUp hns)).run callerA [] s H ⟨[.ref a], []⟩ [.ref a] [.ref a] _ _ hr env0 (bind s (.ref a)) (.cons rfl .nil) hsp
  refine codeAny_mono run fun r s' h => ?_
  match r, h with
  | .error e, h => exact h.elim
  | .ok (.ret u), h =>
    obtain ⟨v, H', os, bare, un, hok', r', q⟩ := h
    have q : v = .bl true := q
    subst q
    have r' : u = Value.bool true := r'
    subst r'
    refine ⟨rfl, OldK.of_keep fun b o e => ?_, os, bare⟩
    cases q : H b with
    | none => exact un.keep b o e q (fun z => nomatch z) (by simp)
    | some u =>
      obtain z | ⟨ob, xs, z⟩ := hO b
      · rw [q] at z
        cases z
      · have e1 := (hok b _ z).1
        have e2 := (hok' b _ (un.frzs b ob _ z)).1
        rw [e] at e1
        cases e1
        exact e2
theorem law_end {P : Program} {w : World} {K : PySem.W.Frag} {mg mb : Str → Option Value} {k : Nat} {fa a : Addr} {fd : FuncData} {x : Str} {sp : Sp} {s : Shared} {vs : List Value} {ns : List Int}
    (KX : K.In s.heap) (hns : s.heap.Ns mainGlobals mg) (hb : s.heap.Ns builtinsNs mb) (hbb : ∀ x : Str, x ≠ "__name__" → mb x = bootBuiltins x) (hlim : s.heap.NoLimit) (hgn : s.gens = #[]) (hr : Rm k callerA)
    (F : ∀ base : Heap, K.In base → base.Ns mainGlobals mg → FnG P w K mg base CX0 k fa fd [x] sp) (bind : ∀ (s : Shared) (u : Value), BindsTo s fd ⟨[u], []⟩ [(x, u)])
    (ha : s.heap.get? a = some { cls := .type "list", data := .seq vs.toArray }) (hi : IntsAre vs ns) (hl : ns.length ≤ sizeLine) (hsp : ∀ H : Hp, Only H → SqL K H a (ns.map V.int) → sp [.ref a] H (fun v _ => v = .bl true) fun _ _ _ => False) :
    codeAny (model P w) callerA (.call (.ref fa) ⟨[.ref a], []⟩) (fun r s' => r = .ok (.ret (.bool true)) ∧ OldK s.heap s'.heap ∧ s'.os = s.os ∧ AllBare s'.gens) s := by
  have rv := vals_ints hi
  have lv := hi.length
  cases hk : K.lookup a with
  | some o =>
    have e := KX a o hk
    rw [ha] at e
    cases e
    have hS : SqL K (fun _ => none) a (ns.map V.int) := .inr ⟨_, vs.toArray, _, hk, rfl, rfl, rfl, by rw [List.size_toArray, lv]; exact hl, by simpa using rv⟩
    exact law_core KX hns hb hbb hlim hgn hr F bind (fun _ => none) (fun _ => .inl rfl) (fun b o z => absurd rfl z) (fun b u z => nomatch z) (fun b z => absurd rfl z) (hsp _ (fun _ => .inl rfl) hS)
  | none =>
    let fz : HO := .frz { cls := .type "list", data := .seq vs.toArray } (.lst (ns.map V.int))
    have at_ : ∀ b u, upd (fun _ => none) a fz b = some u → b = a ∧ u = fz := by
      intro b u z
      by_cases e : b = a
      · subst e
        rw [upd_same] at z
        exact ⟨rfl, (Option.some.inj z).symm⟩
      · rw [upd_ne e] at z
        cases z
    have isA : ∀ b, upd (fun _ => none) a fz b ≠ none → b = a := fun b z => by
      cases q : upd (fun _ => none) a fz b with
      | none => exact absurd q z
      | some u => exact (at_ b u q).1
    have hO : Only (upd (fun _ => none) a fz) := fun b => by
      cases q : upd (fun _ => none) a fz b with
      | none => exact .inl rfl
      | some u => exact .inr ⟨_, _, by rw [(at_ b u q).2]⟩
    refine law_core KX hns hb hbb hlim hgn hr F bind (upd (fun _ => none) a fz) hO (fun b o z e es ep d => ?_) (fun b u z => ?_) (fun b z => ?_) (hsp _ hO (.inl (.inr ⟨_, upd_same⟩)))
    · rw [isA b z, ha] at e
      cases e
      cases d
    · obtain ⟨rfl, rfl⟩ := at_ b u z
      exact ⟨ha, by rw [List.length_map]; exact hl, vs, _, rv, ha⟩
    · rw [isA b z]
      exact hk
theorem walk_G {l : PySem.W.OpenLaw} {n k : Nat} {q : Program} {loose : List Str} {XP : (Str → Option Value) → Heap → Prop} {YP : World → Heap → Prop} {d : DefRec} {K : Params → PySem.W.Frag} {sp : PySem.W.Frag → Sp} {x : Str}
    (hn : l.most = some n) (hn2 : n ≤ sizeLine) (hdf : d.params.defaults = []) (hr : Rm k callerA) (hY : ∀ (w : World) (h : Heap), YP w h → (K w.params).In h)
    (F : ∀ (w : World) (mg : Str → Option Value) (fa : Addr) (h : Heap), (K w.params).In h → h.Ns mainGlobals mg → mg d.name = some (.ref fa) →
      ∃ fd : FuncData, (∀ (s : Shared) (u : Value), BindsTo s fd ⟨[u], []⟩ [(x, u)]) ∧ ∀ base : Heap, (K w.params).In base → base.Ns mainGlobals mg → FnG l.prog w (K w.params) mg base CX0 k fa fd [x] (sp (K w.params)))
    (hsp : ∀ (K : PySem.W.Frag) (H : Hp) (a : Addr) (ns : List Int), ns.length ≤ n → Only H → SqL K H a (ns.map V.int) → sp K [.ref a] H (fun v _ => v = .bl true) fun _ _ _ => False) :
    PySem.W.WalkO q loose XP YP l.row.toRowW d [] (fun f vs => PySem.call f vs) := by
  apply Att.attach_call hn hdf
  intro w s₀ s₁ mg mb fa o pm cd doc a vs ns G Y ho hd hcd hmg hobj hints hlen hgn
  have KX := hY w _ Y
  obtain ⟨fd, hb, hF⟩ := F w mg fa _ KX G.T.g hmg
  exact law_end KX G.T.g G.T.b G.T.builtins G.T.nolimit hgn hr hF hb hobj hints (Nat.le_trans hlen hn2) fun H hO hS => hsp _ H a ns hlen hO hS
end Nx
namespace Nx
open PySem PySem.Spec PyProof.Rows L2
def Sub (μ' μ : Mu) : Prop := ∀ a l, μ' a = some l → μ a = some l
theorem Sub.refl (μ : Mu) : Sub μ μ := fun _ _ h => h
section
variable {X : Cx} {e : Expr} {st : Stmt} {ss : List Stmt} {ρ : Rho} {μ μ' : Mu} {D : DEnds} {Φ : OV → Mu → Prop}
theorem dss_drop (h : Sub μ' μ) (k : DSs X ss ρ μ' D) : DSs X ss ρ μ D := fun G H σ m v E f => k G H σ (m.drop h) v E f
theorem dss_frz {i : Nat} {p : Addr} {ds : List PyData} (hi : ρ[i]? = some (some (.own p))) (hp : μ p = some (ds.map .im)) (k : DSs X ss (ρ.set i (some (.im (.list ds)))) (μ.del p) D) : DSs X ss ρ μ D := fun G H σ m v E f => by
  obtain ⟨vs, e0, g0, w, m'⟩ := m.frz hp
  have v2 := (v.mono (Ex.new (o := .lst vs) g0)).set (i := i) (v := .ref p) (o := .im (.list ds)) (Dv.lst upd_same (w.mono (Ex.new g0)))
  obtain ⟨u, hu, ru⟩ := v.get i _ hi
  have ru : u = .ref p := ru
  subst ru
  have e1 : σ.set i (some (.ref p)) = σ := by
    apply List.ext_getElem?
    intro j
    by_cases hj : i = j
    · subst hj
      rw [List.getElem?_set_self (List.getElem?_eq_some_iff.mp hu).1, hu]
    · rw [List.getElem?_set_ne hj]
  rw [e1] at v2
  exact k _ H σ m' v2 E (f.later (Ex.new g0))
end
theorem put_get {μ : Mu} {a b : Addr} {l : List OV} : μ.put a l b = if b = a then some l else μ b := rfl
theorem put_back {μ : Mu} {a : Addr} {l : List OV} (h : μ a = some l) : μ = (μ.del a).put a l ∧ (μ.del a) a = none := by
  refine ⟨?_, if_pos rfl⟩
  funext b
  rw [put_get]
  by_cases e : b = a
  · rw [if_pos e, e, h]
  · rw [if_neg e]
    exact (if_neg e).symm
theorem ne_own {μ : Mu} {a b : Addr} {l : List OV} (h : μ a = some l) (n : μ b = none) : a ≠ b := fun e => by
  rw [e, n] at h
  cases h
theorem lz {n : Nat} (h : Nat.ble n 100000 = true) : n ≤ 100000 := Nat.le_of_ble_eq_true h
theorem c01 {k : Bool} : -(2 ^ 64 : Int) < (if k = true then 1 else 0) ∧ (if k = true then (1 : Int) else 0) < 2 ^ 64 := by cases k <;> decide
theorem ixN_nat {n j : Nat} (h : j < n) : ixN n (j : Int) = some j := by
  unfold ixN
  rw [if_pos (by omega), if_pos (by omega), Int.toNat_natCast]
theorem cutI_to (ns : List Int) (u : Nat) : cutI ns none (some (u : Int)) = ns.take u := by
  unfold cutI
  rw [HT.sIx_none, HT.sIx_nat, List.drop_zero, Nat.sub_zero]
  exact List.take_eq_take_iff.mpr (by omega)
theorem cutI_len (ns : List Int) (u v : Nat) : (cutI ns (some (u : Int)) (some (v : Int))).length ≤ ns.length - u := by
  unfold cutI
  rw [HT.sIx_nat, HT.sIx_nat, List.length_take, List.length_drop]
  omega
theorem cutD_to (ns : List PyData) (u : Nat) : cutD ns none (some (u : Int)) = ns.take u := by
  unfold cutD
  rw [HT.sIx_none, HT.sIx_nat, List.drop_zero, Nat.sub_zero]
  exact List.take_eq_take_iff.mpr (by omega)
theorem cutD_from (ns : List PyData) (u : Nat) : cutD ns (some (u : Int)) none = ns.drop u := by
  unfold cutD
  rw [HT.sIx_none, HT.sIx_nat]
  by_cases h : u ≤ ns.length
  · rw [Nat.min_eq_left h]
    exact List.take_of_length_le (by rw [List.length_drop]; omega)
  · rw [Nat.min_eq_right (by omega), List.drop_length, List.drop_of_length_le (by omega)]
    simp
theorem prs_at {ds : List PyData} {i : Nat} {z : OV} (h : ((prs (nums ds.length) ds).map OV.im)[i]? = some z) : ∃ d, ds[i]? = some d ∧ z = .im (.tuple [.int (i : Int), d]) := by
  have hi : i < ds.length := by
    have := (List.getElem?_eq_some_iff.mp h).1
    simpa [prs, nums] using this
  rw [List.getElem?_map, prs_get (nums_get hi) (List.getElem?_eq_getElem hi)] at h
  cases h
  exact ⟨_, List.getElem?_eq_getElem hi, rfl⟩
theorem erase_map {α β : Type} (f : α → β) : ∀ (l : List α) (j : Nat), (l.map f).eraseIdx j = (l.eraseIdx j).map f
  | [], _ => rfl
  | _ :: _, 0 => rfl
  | a :: l, j + 1 => by
    show f a :: (l.map f).eraseIdx j = f a :: (l.eraseIdx j).map f
    rw [erase_map f l j]
theorem erase_perm {α : Type} : ∀ (l : List α) (j : Nat) (h : j < l.length), ([l[j]] ++ l.eraseIdx j).Perm l
  | [], _, h => nomatch h
  | _ :: _, 0, _ => List.Perm.refl _
  | a :: l, j + 1, h => by
    have ih := erase_perm l j (by simpa using h)
    show (l[j]'(by simpa using h) :: a :: l.eraseIdx j).Perm (a :: l)
    exact (List.Perm.swap _ _ _).trans (ih.cons a)
theorem fg_of {P : Program} {w : World} {K : PySem.W.Frag} {mg : Str → Option Value} {base : Heap} {k : Nat} {f : Addr} {x : Str} {st : Stmt} {fd : FuncData} {N ps : List Str} {C : Ct} (F : Fun K x x st f fd) (S : FnScope N ps (defScope st)) (len : ∀ os μ Φ, C os μ Φ → os.length = ps.length)
    (body : ∀ (cdv : Value) A outer s H E os μ Φ, Rm k (A.deeper (envOfC x (defScope st) s.heap.objs.size f cdv)) → C os μ Φ →
      DSs (cxOf CX0 P w K mg base N x (defScope st) f cdv A outer s H E).nox (defBody st) (os.map some ++ List.replicate (N.length - os.length) none) μ { nx := fun _ μ' => Φ (.im .none) μ', rt := Φ }) : FnG P w K mg base CX0 (k + 1) f fd ps (spOf C) := by
  refine fng_of F S (fun vs H Q E h => ?_) fun cdv A outer s H vs Q E hr h => ?_
  · obtain ⟨os, μ, G, Φ, _, r, c, _⟩ := h
    rw [r.length]
    exact len _ _ _ c
  · obtain ⟨os, μ, G, Φ, m, r, c, fin⟩ := h
    refine WSs.of (PSs.nox pwss) (body cdv A outer s H E os μ Φ hr c G H _ m (rv_start r) _ ⟨fun ρ' μ' G' H' σ' q e m' _ => fin _ _ _ _ _ q e m' Dv.non, fin, fun _ _ _ _ _ q => q.elim, fun _ _ _ _ _ q => q.elim⟩)
def c_law (K : PySem.W.Frag) : Ct := fun os μ Φ => ∃ ns : List Int, os = [.scr K ns] ∧ ns.length ≤ 63 ∧ ∀ μ', Φ (.im (.bool true)) μ'
theorem law_sp (K : PySem.W.Frag) (H : Hp) (a : Addr) (ns : List Int) (hn : ns.length ≤ 63) (hS : SqL K H a (ns.map V.int)) : spOf (c_law K) [.ref a] H (fun v _ => v = .bl true) fun _ _ _ => False :=
  ⟨[.scr K ns], fun _ => none, H, fun o _ => o = .im (.bool true), ⟨Ex.refl H, fun _ _ h => nomatch h⟩, .cons ⟨a, rfl, hS⟩ .nil, ⟨ns, rfl, hn, fun _ => rfl⟩, fun v o μ' G' H' h e m r => by
    subst h
    cases r
    rfl⟩
abbrev iL (ns : List Int) : List PyData := ns.map .int
theorem lay_ints : ∀ ns : List Int, PyData.canLayAll0 (iL ns) = true
  | [] => by simp [PyData.canLayAll0]
  | n :: ns => by simp [PyData.canLayAll0, PyData.canLay0, lay_ints ns]
theorem depth_ints : ∀ ns : List Int, PyData.depthAll (iL ns) ≤ 1
  | [] => by simp [PyData.depthAll]
  | n :: ns => by
    have := depth_ints ns
    simp [PyData.depthAll, PyData.depth]
    omega
theorem atI_iL {cs : List Int} {k : Nat} (h : k < cs.length) : atI ((iL cs).map OV.im) (k : Int) = some (.im (.int cs[k])) := by
  apply atI_nat
  rw [List.getElem?_map, List.getElem?_map, List.getElem?_eq_getElem h]
  rfl
theorem iL_get {cs : List Int} {k : Nat} {d : PyData} (h : (iL cs)[k]? = some d) : ∃ c, cs[k]? = some c ∧ d = .int c := by
  rw [List.getElem?_map] at h
  cases q : cs[k]? with
  | none =>
    rw [q] at h
    cases h
  | some c =>
    rw [q] at h
    cases h
    exact ⟨c, rfl, rfl⟩
end Nx
namespace Nx
open PySem PySem.Spec PyProof.Rows L2
def pile : List Str → Nat
  | [] => 0
  | t :: ts => t.length + 2 + pile ts
theorem textFrom_le : ∀ (ts : List Str) (k : Nat) (acc : Str), (textFrom k acc ts).length ≤ acc.length + pile ts
  | [], k, acc => by
    show acc.length ≤ _
    exact Nat.le_add_right _ _
  | t :: r, k, acc => by
    have ih := textFrom_le r (k + 1) (acc ++ (if k > 0 then ", " else "" : String) ++ t)
    have h2 : (Str.ofString (if k > 0 then ", " else "" : String)).length ≤ 2 := by split <;> decide
    rw [Str.length_append, Str.length_append] at ih
    show (textFrom (k + 1) (acc ++ (if k > 0 then ", " else "" : String) ++ t) r).length ≤ acc.length + (t.length + 2 + pile r)
    omega
theorem listText_le (ts : List Str) : (listText ts).length ≤ pile ts + 2 := by
  have h := textFrom_le ts 0 (Str.ofString "[")
  have e1 : (Str.ofString "[").length = 1 := by decide
  have e2 : (Str.ofString "]").length = 1 := by decide
  show (textFrom 0 (Str.ofString "[") ts ++ Str.ofString "]").length ≤ _
  rw [Str.length_append, e2]
  omega
theorem join_le : ∀ ts : List Str, (Str.join ", " ts).length ≤ pile ts
  | [] => by decide
  | [x] => by
    show x.length ≤ x.length + 2 + 0
    omega
  | x :: y :: r => by
    have ih := join_le (y :: r)
    have e : (Str.ofString ", ").length = 2 := by decide
    show (x ++ Str.ofString ", " ++ Str.join ", " (y :: r)).length ≤ x.length + 2 + pile (y :: r)
    rw [Str.length_append, Str.length_append, e]
    omega
theorem tupleText_le (ts : List Str) : (tupleText ts).length ≤ pile ts + 3 := by
  have h := join_le ts
  have e1 : (Str.ofString "(").length = 1 := by decide
  have e2 : (Str.ofString (if ts.length == 1 then ",)" else ")" : String)).length ≤ 2 := by split <;> decide
  show (Str.ofString "(" ++ Str.join ", " ts ++ Str.ofString (if ts.length == 1 then ",)" else ")" : String)).length ≤ _
  rw [Str.length_append, Str.length_append, e1]
  omega
structure Sd (k w : Nat) (d : PyData) : Prop where
  sh : d.showable = true
  nd : d.hasDict = false
  dp : d.depth ≤ k
  ln : d.shown.length ≤ w
structure SdA (k w : Nat) (ds : List PyData) : Prop where
  sh : PyData.showableAll ds = true
  nd : PyData.hasDictAll ds = false
  dp : PyData.depthAll ds ≤ k
  ln : pile (PyData.shownAll ds) ≤ w
theorem Sd.mono {k w k' w' : Nat} {d : PyData} (h : Sd k w d) (hk : k ≤ k') (hw : w ≤ w') : Sd k' w' d := ⟨h.sh, h.nd, Nat.le_trans h.dp hk, Nat.le_trans h.ln hw⟩
theorem SdA.mono {k w k' w' : Nat} {d : List PyData} (h : SdA k w d) (hk : k ≤ k') (hw : w ≤ w') : SdA k' w' d := ⟨h.sh, h.nd, Nat.le_trans h.dp hk, Nat.le_trans h.ln hw⟩
theorem Sd.none : Sd 0 4 .none := ⟨by simp [PyData.showable], by simp [PyData.hasDict], by simp [PyData.depth], by simp only [PyData.shown]; decide⟩
theorem Sd.bool (b : Bool) : Sd 0 5 (.bool b) := ⟨by simp [PyData.showable], by simp [PyData.hasDict], by simp [PyData.depth], by simp only [PyData.shown]; cases b <;> decide⟩
theorem log_small {n : Nat} (h : n < 10 ^ 60) : n.log2 < 1920 := by
  by_cases h0 : n = 0
  · subst h0
    decide
  · exact (Nat.log2_lt h0).mpr (Nat.lt_of_lt_of_le h (Nat.le_trans (show 10 ^ 60 ≤ 2 ^ 200 by decide) (Nat.pow_le_pow_right (by decide) (by decide))))
theorem Sd.int {i : Int} (h : i.natAbs < 10 ^ 60) : Sd 0 61 (.int i) := by
  refine ⟨by simp only [PyData.showable]; exact decide_eq_true (log_small h), by simp [PyData.hasDict], by simp [PyData.depth], ?_⟩
  simp only [PyData.shown]
  have := int_text_length_le10 (a := i) (k := 60) (by decide) h
  show (Str.ofString (toString i)).length ≤ 61
  rw [PySem.ofString_length]
  exact this
theorem SdA.nil : SdA 0 0 [] := ⟨by simp [PyData.showableAll], by simp [PyData.hasDictAll], by simp [PyData.depthAll], by simp [PyData.shownAll, pile]⟩
theorem SdA.cons {k w k' w' : Nat} {d : PyData} {ds : List PyData} (h : Sd k w d) (t : SdA k' w' ds) : SdA (max k k') (w + 2 + w') (d :: ds) := by
  refine ⟨by simp [PyData.showableAll, h.sh, t.sh], by simp [PyData.hasDictAll, h.nd, t.nd], ?_, ?_⟩
  · have := h.dp
    have := t.dp
    simp only [PyData.depthAll]
    omega
  · have := h.ln
    have := t.ln
    simp only [PyData.shownAll, pile]
    omega
theorem Sd.list {k w : Nat} {ds : List PyData} (h : SdA k w ds) : Sd (k + 1) (w + 2) (.list ds) := by
  refine ⟨by simp only [PyData.showable]; exact h.sh, by simp only [PyData.hasDict]; exact h.nd, by simp only [PyData.depth]; exact Nat.succ_le_succ h.dp, ?_⟩
  simp only [PyData.shown]
  exact Nat.le_trans (listText_le _) (Nat.add_le_add_right h.ln 2)
theorem Sd.tuple {k w : Nat} {ds : List PyData} (h : SdA k w ds) : Sd (k + 1) (w + 3) (.tuple ds) := by
  refine ⟨by simp only [PyData.showable]; exact h.sh, by simp only [PyData.hasDict]; exact h.nd, by simp only [PyData.depth]; exact Nat.succ_le_succ h.dp, ?_⟩
  simp only [PyData.shown]
  exact Nat.le_trans (tupleText_le _) (Nat.add_le_add_right h.ln 3)
theorem SdA.all {k w : Nat} : ∀ {ds : List PyData}, (∀ d ∈ ds, Sd k w d) → SdA k ((w + 2) * ds.length) ds
  | [], _ => SdA.nil.mono (Nat.zero_le _) (Nat.zero_le _)
  | d :: ds, h => by
    have t := SdA.all fun d hd => h d (List.mem_cons_of_mem _ hd)
    refine (SdA.cons (h d (List.mem_cons_self ..)) t).mono (by omega) ?_
    rw [List.length_cons, Nat.mul_add, Nat.mul_one]
    omega
theorem SdA.ints {ns : List Int} (h : ∀ i ∈ ns, i.natAbs < 10 ^ 60) : SdA 0 (63 * ns.length) (iL ns) := by
  have := SdA.all (k := 0) (w := 61) (ds := iL ns) fun d hd => by
    obtain ⟨i, hi, rfl⟩ := List.mem_map.mp hd
    exact Sd.int (h i hi)
  rw [List.length_map] at this
  exact this
theorem shaped_of {k w : Nat} {d : PyData} (hl : d.canLay0 = true) (h : d.depth ≤ 64) : SeqAt.shaped d = true := by
  show (d.canLay0 && decide (d.depth ≤ 64)) = true
  rw [hl, decide_eq_true h]
  rfl
theorem shaped_tuple_ints (ns : List Int) : SeqAt.shaped (.tuple (iL ns)) = true := by
  refine shaped_of (k := 0) (w := 0) (by simp only [PyData.canLay0]; exact lay_ints ns) ?_
  have := depth_ints ns
  simp only [PyData.depth]
  omega
theorem eqvAll_ints : ∀ ns ms : List Int, PyData.eqvAll (iL ns) (iL ms) = decide (ns = ms)
  | [], [] => by simp [PyData.eqvAll]
  | [], m :: ms => by simp [PyData.eqvAll]
  | n :: ns, [] => by simp [PyData.eqvAll]
  | n :: ns, m :: ms => by
    have ih := eqvAll_ints ns ms
    show (PyData.eqv (.int n) (.int m) && PyData.eqvAll (iL ns) (iL ms)) = _
    rw [ih]
    show ((n == m) && _) = _
    by_cases h1 : n = m
    · subst h1
      simp
    · simp [h1]
theorem eqv_tuple_ints (ns ms : List Int) : PyData.eqv (.tuple (iL ns)) (.tuple (iL ms)) = decide (ns = ms) := by
  simp only [PyData.eqv]
  exact eqvAll_ints ns ms
end Nx
namespace Nx
open PySem PySem.Spec PyProof.Rows L2
def Jsq (K : PySem.W.Frag) (k : Bool) (a : Addr) : It := if k then Itl K a else Itt K a
def iSq (K : PySem.W.Frag) (tl : TE) : TI := fun σ H R => tl σ H fun x H1 => ∃ k a xs, x = .ref a ∧ SqK k H1 a xs ∧ R (Jsq K k a) H1
theorem pi_sq {X : Cx} {tg l : Expr} {tl : TE} (hl : PE X l tl) : PI X tg l (iSq X.K tl) := by
  constructor
  intro pins s σ H R I h
  refine thn (hl.run pins s σ H _ I h) fun v s1 ⟨x, H1, I1, r1, k, a, xs, e, hq, q⟩ => ?_
  subst e
  cases r1
  obtain ⟨its, rv, hs⟩ := hq.at I1
  refine (begins k a its.toArray).iter _ _ _ _ s1 _ hs ?_
  have fp : ∀ b ∈ [s1.heap.objs.size], FpOk X pins H1 b := fun b hb => by
    rw [List.mem_singleton.mp hb]
    exact I1.fpOk (Nat.le_refl _) (I1.hok.fresh (Nat.le_refl _))
  have I2 : Inv X pins σ H1 { s1 with heap := s1.heap.push (itOb k a) } := I1.kept (t' := s1.toks) fun b o e => Heap.get?_push_of_some _ e
  cases k with
  | true => exact ⟨s1.heap.objs.size, [s1.heap.objs.size], _, _, H1, rfl, I2, turn_list a _, ⟨_, Heap.get?_push_size _ rfl, rfl, rfl⟩, fp, q⟩
  | false => exact ⟨s1.heap.objs.size, [s1.heap.objs.size], _, _, H1, rfl, I2, turn_tuple a _, ⟨_, Heap.get?_push_size _ rfl, rfl, rfl⟩, fp, q⟩
theorem di_seq {X : Cx} {tg e : Expr} {ρ : Rho} {μ : Mu} {Ψ : Itd → Mu → Prop} (h : DE X e ρ μ fun o μ1 => ∃ ds, Seq ds o ∧ Ψ ⟨ds.map .im, fun _ => True⟩ μ1) : DI X tg e ρ μ Ψ :=
  ⟨_, pi_sq pwe, fun G H σ m v R f => h G H σ m v _ fun vx x μ1 G1 H1 q1 e1 m1 r1 => by
    obtain ⟨ds, hd, q⟩ := q1
    obtain ⟨k, a, xs, rfl, hq, w⟩ := hd.at r1
    refine ⟨k, a, xs, rfl, hq.mono m1.ex, f _ _ _ _ _ q e1 m1 ?_⟩
    cases k with
    | true => exact gives_list hq w
    | false => exact gives_tup hq w⟩
theorem ll {n : Nat} (h : Nat.ble (n + 1) 100000 = true) : n < 100000 := Nat.le_of_ble_eq_true h
theorem Seq.sq {μ : Mu} {ds : List PyData} {o : OV} (h : Seq ds o) : SqD μ o (ds.map .im) := by
  cases h with
  | lst => exact .lst ds
  | tup => exact .tup ds
end Nx
namespace Nx
open PySem PySem.Spec PyProof.Rows L2
theorem Gives.ok {J : It} {its : List OV} {ok1 ok2 : Mu → Prop} {G : Hp} (h : Gives J ⟨its, ok1⟩ G) (hi : ∀ μ, ok2 μ → ok1 μ) : Gives J ⟨its, ok2⟩ G := by
  obtain ⟨Gd, Y, wk, h1, h2⟩ := h
  exact ⟨Gd, Y, wk, fun G' H' μ' e m o => h1 G' H' μ' e m (hi _ o), fun i H' x H2 G' μ' e m o y hl => h2 i H' x H2 G' μ' e m (hi _ o) y hl⟩
theorem SqD.sub {μ μ' : Mu} {o : OV} {l : List OV} (h : SqD μ o l) (s : ∀ a l, μ a = some l → μ' a = some l) : SqD μ' o l := by
  cases h with
  | lst => exact .lst _
  | tup => exact .tup _
  | own h => exact .own (s _ _ h)
theorem SqD.put {μ : Mu} {o : OV} {l l' : List OV} {p : Addr} (h : SqD μ o l) (hp : μ p = none) : SqD (μ.put p l') o l := h.sub fun a m e => (put_ne (ne_own e hp)).trans e
end Nx
namespace Nx
open PySem PySem.Spec PyProof.Rows L2
def dTy : PyData → String
  | .none => "NoneType"
  | .bool _ => "bool"
  | .int _ => "int"
  | .str _ => "str"
  | .list _ => "list"
  | .tuple _ => "tuple"
  | .dict _ => "dict"
inductive TyD (μ : Mu) : OV → String → Prop
  | im (d : PyData) : TyD μ (.im d) (dTy d)
  | own {a : Addr} {l : List OV} : μ a = some l → TyD μ (.own a) "list"
theorem TyD.at {K : PySem.W.Frag} {G H : Hp} {μ : Mu} {o : OV} {T : String} {v : V} (h : TyD μ o T) (m : RM G H μ) (r : RO G v o) : TyX K H v (.type T) := by
  cases h with
  | im d =>
    cases r with
    | non => exact .base .non
    | bl b => exact .base (.bl b)
    | int i => exact .base (.int i)
    | str x => exact .base (.str x)
    | lst h1 w => exact .base (.lst (m.ex _ _ h1))
    | tup h1 w =>
      rcases h1.mono m.ex with h1 | ⟨_, o, _, h1⟩
      · exact .base (.tup h1)
      · exact .fTuple h1
  | own h =>
    have r : v = .ref _ := r
    subst r
    obtain ⟨_, vs, e, w⟩ := m.own _ _ h
    exact .base (.lst e)
section
variable {X : Cx} {e : Expr} {ρ : Rho} {μ : Mu} {Φ : OV → Mu → Prop} {pos p p2 : Pos} {x : Str}
theorem de_isi {T : String} (B : Bt X.mg) (hg : Gl X "isinstance") (hg2 : Gl X x) (hm : X.mg x = none) (hv : bootBuiltins x = some (.type T)) (h : DE X e ρ μ fun o μ1 => ∃ n b, TyD μ1 o n ∧ kitB n T = some b ∧ Φ (.im (.bool b)) μ1)
    (hn : x ≠ "__name__" := by decide) (hdb : (x == ("__debug__" : Str)) = false := by decide) (he : starEach [e, .Name x p2] X.env = (false, eval e X.env) :: starEach [.Name x p2] X.env := by rfl) (he2 : starEach [.Name x p2] X.env = (false, eval (.Name x p2) X.env) :: starEach [] X.env := by rfl)
    (hpl : (backTo pos (starEach [.Name x p2] X.env)).any (·.1) = false := by rfl) : DE X (.Call (.Name "isinstance" p) [e, .Name x p2] [] pos) ρ μ Φ := fun G H σ m v Q f =>
  WE.of (pe_callB call_isi hg B.isinstance rfl (pa_cons pwe (pa_cons (pe_bltn (v := .ty T) hg2 hm hv rfl hn hdb) pa_nil he2) he) (by decide) (by decide) he hpl) (h G H σ m v _ fun vx o μ1 G1 H1 q1 e1 m1 r1 => by
    obtain ⟨n, b, ht, hk, q⟩ := q1
    exact ⟨vx, .ty T, .type n, .type T, b, rfl, .ty T, ht.at m1 r1, kit_ty hk, f _ _ _ _ _ q e1 m1 (Dv.bl b)⟩)
variable {a b : Expr}
end
end Nx
namespace Nx
open PySem PySem.Spec PyProof.Rows L2
end Nx
namespace Nx
open PySem PySem.Spec PyProof.Rows L2
inductive Tree (α : Type) where
  | ret (a : α) | fail | draw (n : Nat) (k : Nat → Tree α)
namespace Tree
variable {α β γ : Type}
def bind : Tree α → (α → Tree β) → Tree β
  | ret a, f => f a
  | fail, _ => fail
  | draw n k, f => draw n fun r => bind (k r) f
def All : Tree α → (α → Prop) → Prop
  | ret a, Q => Q a
  | fail, _ => False
  | draw n k, Q => ∀ r, r < n → All (k r) Q
theorem all_bind {f : α → Tree β} {Q : β → Prop} : ∀ {t : Tree α}, (bind t f).All Q ↔ t.All fun a => (f a).All Q
  | ret a => Iff.rfl
  | fail => Iff.rfl
  | draw n k => ⟨fun h r hr => all_bind.mp (h r hr), fun h r hr => all_bind.mpr (h r hr)⟩
theorem All.imp {Q R : α → Prop} (k : ∀ a, Q a → R a) : ∀ {t : Tree α}, t.All Q → t.All R
  | ret a, h => k a h
  | fail, h => h
  | draw n f, h => fun r hr => All.imp k (h r hr)
end Tree
def liftO {α : Type} : Option α → Tree α
  | some a => .ret a
  | none => .fail
theorem lift_all {α : Type} {Q : α → Prop} : ∀ {o : Option α}, (liftO o).All Q → ∃ a, o = some a ∧ Q a
  | some a, h => ⟨a, rfl, h⟩
  | none, h => h.elim
section
variable {α β σ : Type}
def mapT (f : α → Tree β) : List α → Tree (List β)
  | [] => .ret []
  | x :: xs => (f x).bind fun y => (mapT f xs).bind fun ys => .ret (y :: ys)
def pickT (f : α → Tree (Option β)) : List α → Tree (List β)
  | [] => .ret []
  | x :: xs => (f x).bind fun o => (pickT f xs).bind fun ys => .ret (match o with | some y => y :: ys | none => ys)
theorem mapT_ret {f : α → Tree β} {g : α → β} : ∀ {xs : List α}, (∀ x ∈ xs, f x = .ret (g x)) → mapT f xs = .ret (xs.map g)
  | [], _ => rfl
  | x :: xs, h => by
    rw [mapT, h x (List.mem_cons_self ..), mapT_ret (g := g) fun y hy => h y (List.mem_cons_of_mem _ hy)]
    rfl
theorem pickT_ret {f : α → Tree (Option β)} {g : α → Option β} : ∀ {xs : List α}, (∀ x ∈ xs, f x = .ret (g x)) → pickT f xs = .ret (xs.filterMap g)
  | [], _ => rfl
  | x :: xs, h => by
    rw [pickT, h x (List.mem_cons_self ..), pickT_ret (g := g) fun y hy => h y (List.mem_cons_of_mem _ hy)]
    show Tree.ret _ = _
    rw [List.filterMap_cons]
    cases g x <;> rfl
theorem mapT_map {γ : Type} (f : β → Tree γ) (g : α → β) : ∀ xs : List α, mapT f (xs.map g) = mapT (fun x => f (g x)) xs
  | [] => rfl
  | x :: xs => by rw [List.map_cons, mapT, mapT, mapT_map f g xs]
theorem pickT_map {γ : Type} (f : β → Tree (Option γ)) (g : α → β) : ∀ xs : List α, pickT f (xs.map g) = pickT (fun x => f (g x)) xs
  | [] => rfl
  | x :: xs => by rw [List.map_cons, pickT, pickT, pickT_map f g xs]
end
def bx (p q t : Int) : List OV := [.im (.int p), .im (.int q), .im (.int t)]
inductive W where
  | d (x : PyData) | own (ds : List PyData) | bx | tpl (ns : List Int)
abbrev Env := List (Option W)
inductive Out where
  | nx (E : Env) | rt (v : PyData) | bk (E : Env) | ct (E : Env)
structure Bs (b : Addr) (μ μ' : Mu) : Prop where
  old : ∀ a l, a ≠ b → μ a = some l → μ' a = some l
  box : ∀ p q t, μ b = some (bx p q t) → ∃ p' q' t', μ' b = some (bx p' q' t')
theorem Bs.refl (b : Addr) (μ : Mu) : Bs b μ μ := ⟨fun _ _ _ h => h, fun p q t h => ⟨p, q, t, h⟩⟩
theorem Bs.trans {b : Addr} {μ μ1 μ2 : Mu} (h : Bs b μ μ1) (k : Bs b μ1 μ2) : Bs b μ μ2 :=
  ⟨fun a l n e => k.old a l n (h.old a l n e), fun p q t e => let ⟨p1, q1, t1, e1⟩ := h.box p q t e; k.box p1 q1 t1 e1⟩
theorem Bs.put {b p : Addr} {μ : Mu} {l : List OV} (h : μ p = none) : Bs b μ (μ.put p l) :=
  ⟨fun a m _ e => (put_ne (ne_own e h)).trans e, fun u q t e => ⟨u, q, t, (put_ne (ne_own e h)).trans e⟩⟩
theorem Bs.set {b : Addr} {μ : Mu} {p q t : Int} : Bs b μ (μ.put b (bx p q t)) := ⟨fun a l n e => (put_ne n).trans e, fun _ _ _ _ => ⟨p, q, t, put_same⟩⟩
theorem Bs.sub {b : Addr} {μ μ' μ2 : Mu} (h : Bs b μ μ') (k : ∀ a l, μ' a = some l → (μ a).isSome = true ∨ a = b → μ2 a = some l) : Bs b μ μ2 :=
  ⟨fun a l n e => k a l (h.old a l n e) (.inl (by rw [e]; rfl)), fun p q t e => let ⟨p', q', t', e'⟩ := h.box p q t e; ⟨p', q', t', k b _ e' (.inr rfl)⟩⟩
def RW (b : Addr) (μ0 μ : Mu) : W → OV → Prop
  | .d x, o => o = .im x
  | .bx, o => o = .own b
  | .tpl ns, o => o = .tpl ns
  | .own ds, o => ∃ p, o = .own p ∧ p ≠ b ∧ μ0 p = none ∧ μ p = some (ds.map .im)
structure Rel (b : Addr) (μ0 : Mu) (E : Env) (ρ : Rho) (μ : Mu) : Prop where
  len : ρ.length = E.length
  bxs : ∃ p q t, μ b = some (bx p q t)
  bx0 : ∃ p q t, μ0 b = some (bx p q t)
  ext : Bs b μ0 μ
  get : ∀ (i : Nat) w, E[i]? = some (some w) → ∃ o, ρ[i]? = some (some o) ∧ RW b μ0 μ w o
  inj : ∀ (i j : Nat) ds es p, E[i]? = some (some (.own ds)) → E[j]? = some (some (.own es)) → ρ[i]? = some (some (.own p)) → ρ[j]? = some (some (.own p)) → i = j
section
variable {b : Addr} {μ0 μ μ' : Mu} {E : Env} {ρ : Rho}
theorem Rel.step (R : Rel b μ0 E ρ μ) (s : Bs b μ μ') : Rel b μ0 E ρ μ' := by
  obtain ⟨p, q, t, hb⟩ := R.bxs
  refine ⟨R.len, s.box p q t hb, R.bx0, R.ext.trans s, fun i w e => ?_, R.inj⟩
  obtain ⟨o, h1, h2⟩ := R.get i w e
  refine ⟨o, h1, ?_⟩
  cases w with
  | d x => exact h2
  | bx => exact h2
  | tpl _ => exact h2
  | own ds =>
    obtain ⟨p, a1, a2, a3, a4⟩ := h2
    exact ⟨p, a1, a2, a3, s.old _ _ a2 a4⟩
theorem get_set {α : Type} {l : List (Option α)} {i j : Nat} {x y : α} (h : (l.set i (some x))[j]? = some (some y)) : (i = j ∧ x = y ∧ i < l.length) ∨ (i ≠ j ∧ l[j]? = some (some y)) := by
  by_cases e : i = j
  · subst e
    by_cases hl : i < l.length
    · rw [List.getElem?_set_self hl] at h
      cases h
      exact .inl ⟨rfl, rfl, hl⟩
    · rw [List.getElem?_eq_none (by rw [List.length_set]; omega)] at h
      cases h
  · rw [List.getElem?_set_ne e] at h
    exact .inr ⟨e, h⟩
theorem Rel.setD (R : Rel b μ0 E ρ μ) (i : Nat) (x : PyData) : Rel b μ0 (E.set i (some (.d x))) (ρ.set i (some (.im x))) μ := by
  refine ⟨by rw [List.length_set, List.length_set, R.len], R.bxs, R.bx0, R.ext, fun j w e => ?_, fun j k ds es p e1 e2 h1 h2 => ?_⟩
  · rcases get_set e with ⟨rfl, rfl, hl⟩ | ⟨n, e⟩
    · exact ⟨_, List.getElem?_set_self (by rw [R.len]; exact hl), rfl⟩
    · obtain ⟨o, a1, a2⟩ := R.get j w e
      exact ⟨o, by rw [List.getElem?_set_ne n]; exact a1, a2⟩
  · rcases get_set e1 with ⟨_, h, _⟩ | ⟨n1, e1⟩
    · cases h
    rcases get_set e2 with ⟨_, h, _⟩ | ⟨n2, e2⟩
    · cases h
    rw [List.getElem?_set_ne n1] at h1
    rw [List.getElem?_set_ne n2] at h2
    exact R.inj j k ds es p e1 e2 h1 h2
theorem Rel.setO (R : Rel b μ0 E ρ μ) (i : Nat) {p : Addr} {ds : List PyData} (hp : μ p = none) : Rel b μ0 (E.set i (some (.own ds))) (ρ.set i (some (.own p))) (μ.put p (ds.map .im)) := by
  obtain ⟨u, q, t, hb⟩ := R.bxs
  have nb : p ≠ b := fun e => by rw [e, hb] at hp; cases hp
  have h0 : μ0 p = none := by
    cases z : μ0 p with
    | none => rfl
    | some l =>
      rw [R.ext.old p l nb z] at hp
      cases hp
  have R' := R.step (Bs.put (b := b) (l := ds.map .im) hp)
  refine ⟨by rw [List.length_set, List.length_set, R.len], R'.bxs, R.bx0, R'.ext, fun j w e => ?_, fun j k xs es u e1 e2 h1 h2 => ?_⟩
  · rcases get_set e with ⟨rfl, rfl, hl⟩ | ⟨n, e⟩
    · exact ⟨_, List.getElem?_set_self (by rw [R.len]; exact hl), p, rfl, nb, h0, put_same⟩
    · obtain ⟨o, a1, a2⟩ := R'.get j w e
      exact ⟨o, by rw [List.getElem?_set_ne n]; exact a1, a2⟩
  · have other : ∀ (j : Nat) xs, E[j]? = some (some (.own xs)) → ρ[j]? ≠ some (some (.own p)) := fun j xs e h => by
      obtain ⟨o, a1, u', a2, _, _, a3⟩ := R.get j _ e
      rw [a1, a2] at h
      cases h
      rw [a3] at hp
      cases hp
    rcases get_set e1 with ⟨hj, _, hl⟩ | ⟨n1, e1⟩
    · rcases get_set e2 with ⟨hk, _, _⟩ | ⟨n2, e2⟩
      · exact hj.symm.trans hk
      · rw [← hj, List.getElem?_set_self (by rw [R.len]; exact hl)] at h1
        cases h1
        rw [List.getElem?_set_ne n2] at h2
        exact absurd h2 (other k es e2)
    · rw [List.getElem?_set_ne n1] at h1
      rcases get_set e2 with ⟨hk, _, hl⟩ | ⟨n2, e2⟩
      · rw [← hk, List.getElem?_set_self (by rw [R.len]; exact hl)] at h2
        cases h2
        exact absurd h1 (other j xs e1)
      · rw [List.getElem?_set_ne n2] at h2
        exact R.inj j k xs es u e1 e2 h1 h2
theorem Rel.chg (R : Rel b μ0 E ρ μ) {i : Nat} {p : Addr} {ds es : List PyData} (hi : E[i]? = some (some (.own ds))) (hp : ρ[i]? = some (some (.own p))) : Rel b μ0 (E.set i (some (.own es))) ρ (μ.put p (es.map .im)) := by
  obtain ⟨o, a1, p', a2, nb, h0, hμ⟩ := R.get i _ hi
  rw [hp] at a1
  cases a1
  cases a2
  obtain ⟨u, q, t, hb⟩ := R.bxs
  refine ⟨by rw [List.length_set, R.len], ⟨u, q, t, (put_ne fun e => nb e.symm).trans hb⟩, R.bx0, ⟨fun a l n e => ?_, fun u q t e => ?_⟩, fun j w e => ?_, fun j k xs ys u e1 e2 h1 h2 => ?_⟩
  · rw [put_ne (fun z => by rw [z, h0] at e; cases e)]
    exact R.ext.old a l n e
  · obtain ⟨u', q', t', e'⟩ := R.ext.box u q t e
    exact ⟨u', q', t', (put_ne fun e => nb e.symm).trans e'⟩
  · rcases get_set e with ⟨rfl, rfl, hl⟩ | ⟨n, e⟩
    · exact ⟨_, hp, p, rfl, nb, h0, put_same⟩
    · obtain ⟨o, a1, a2⟩ := R.get j w e
      refine ⟨o, a1, ?_⟩
      cases w with
      | d x => exact a2
      | bx => exact a2
      | tpl _ => exact a2
      | own xs =>
        obtain ⟨u, c1, c2, c3, c4⟩ := a2
        refine ⟨u, c1, c2, c3, ?_⟩
        rw [put_ne]
        · exact c4
        · intro z
          rw [c1, z] at a1
          exact n (R.inj i j ds xs p hi e hp a1)
  · have back : ∀ (j : Nat) xs, (E.set i (some (.own es)))[j]? = some (some (.own xs)) → ∃ ys, E[j]? = some (some (.own ys)) := fun j xs e => by
      rcases get_set e with ⟨rfl, _, _⟩ | ⟨n, e⟩
      · exact ⟨ds, hi⟩
      · exact ⟨xs, e⟩
    obtain ⟨xs', f1⟩ := back j xs e1
    obtain ⟨ys', f2⟩ := back k ys e2
    exact R.inj j k xs' ys' u f1 f2 h1 h2
theorem Rel.frz (R : Rel b μ0 E ρ μ) {i : Nat} {p : Addr} {ds : List PyData} (hi : E[i]? = some (some (.own ds))) (hp : ρ[i]? = some (some (.own p))) : Rel b μ0 (E.set i (some (.d (.list ds)))) (ρ.set i (some (.im (.list ds)))) (μ.del p) := by
  obtain ⟨o, a1, p', a2, nb, h0, hμ⟩ := R.get i _ hi
  rw [hp] at a1
  cases a1
  cases a2
  have dl : ∀ a, a ≠ p → μ.del p a = μ a := fun a n => if_neg n
  obtain ⟨u, q, t, hb⟩ := R.bxs
  refine ⟨by rw [List.length_set, List.length_set, R.len], ⟨u, q, t, (dl b fun e => nb e.symm).trans hb⟩, R.bx0, ⟨fun a l n e => ?_, fun u q t e => ?_⟩, fun j w e => ?_, fun j k xs ys u e1 e2 h1 h2 => ?_⟩
  · rw [dl a (fun z => by rw [z, h0] at e; cases e)]
    exact R.ext.old a l n e
  · obtain ⟨u', q', t', e'⟩ := R.ext.box u q t e
    exact ⟨u', q', t', (dl b fun e => nb e.symm).trans e'⟩
  · rcases get_set e with ⟨rfl, rfl, hl⟩ | ⟨n, e⟩
    · exact ⟨_, List.getElem?_set_self (by rw [R.len]; exact hl), rfl⟩
    · obtain ⟨o, a1, a2⟩ := R.get j w e
      refine ⟨o, by rw [List.getElem?_set_ne n]; exact a1, ?_⟩
      cases w with
      | d x => exact a2
      | bx => exact a2
      | tpl _ => exact a2
      | own xs =>
        obtain ⟨u, c1, c2, c3, c4⟩ := a2
        refine ⟨u, c1, c2, c3, ?_⟩
        rw [dl]
        · exact c4
        · intro z
          rw [c1, z] at a1
          exact n (R.inj i j ds xs p hi e hp a1)
  · rcases get_set e1 with ⟨_, h, _⟩ | ⟨n1, e1⟩
    · cases h
    rcases get_set e2 with ⟨_, h, _⟩ | ⟨n2, e2⟩
    · cases h
    rw [List.getElem?_set_ne n1] at h1
    rw [List.getElem?_set_ne n2] at h2
    exact R.inj j k xs ys u e1 e2 h1 h2
def wipeE (E : Env) (vs : List Nat) : Env := vs.foldr (fun v r => r.set v none) E
theorem Rel.wipe (R : Rel b μ0 E ρ μ) (v : Nat) : Rel b μ0 (E.set v none) (ρ.set v none) μ := by
  have key : ∀ (j : Nat) w, (E.set v none)[j]? = some (some w) → v ≠ j ∧ E[j]? = some (some w) := fun j w e => by
    by_cases h : v = j
    · subst h
      by_cases hl : v < E.length
      · rw [List.getElem?_set_self hl] at e
        cases e
      · rw [List.getElem?_eq_none (by rw [List.length_set]; omega)] at e
        cases e
    · rw [List.getElem?_set_ne h] at e
      exact ⟨h, e⟩
  refine ⟨by rw [List.length_set, List.length_set, R.len], R.bxs, R.bx0, R.ext, fun j w e => ?_, fun j k xs ys u e1 e2 h1 h2 => ?_⟩
  · obtain ⟨n, e⟩ := key j w e
    obtain ⟨o, a1, a2⟩ := R.get j w e
    exact ⟨o, by rw [List.getElem?_set_ne n]; exact a1, a2⟩
  · obtain ⟨n1, e1⟩ := key j _ e1
    obtain ⟨n2, e2⟩ := key k _ e2
    rw [List.getElem?_set_ne n1] at h1
    rw [List.getElem?_set_ne n2] at h2
    exact R.inj j k xs ys u e1 e2 h1 h2
theorem Rel.wipes (R : Rel b μ0 E ρ μ) : ∀ vs : List Nat, Rel b μ0 (wipeE E vs) (wipeR ρ vs) μ
  | [] => R
  | v :: vs => (R.wipes vs).wipe v
def putsE (E : Env) : List Nat → List PyData → Env
  | i :: is, x :: xs => putsE (E.set i (some (.d x))) is xs
  | _, _ => E
def putE : Tgt → PyData → Env → Option Env
  | .nm i, x, E => some (E.set i (some (.d x)))
  | .tp is, .tuple xs, E => if xs.length = is.length then some (putsE E is xs) else none
  | .tp _, _, _ => none
theorem Rel.puts : ∀ (is : List Nat) (xs : List PyData) {E : Env} {ρ : Rho}, Rel b μ0 E ρ μ → Rel b μ0 (putsE E is xs) (setAll ρ is xs) μ
  | [], _, _, _, R => R
  | _ :: _, [], _, _, R => R
  | i :: is, x :: xs, _, _, R => Rel.puts is xs (R.setD i x)
theorem Rel.putT (R : Rel b μ0 E ρ μ) {t : Tgt} {x : PyData} {E' : Env} (h : putE t x E = some E') : ∃ ρ', t.put (.im x) ρ = some ρ' ∧ Rel b μ0 E' ρ' μ := by
  cases t with
  | nm i =>
    cases h
    exact ⟨_, rfl, R.setD i x⟩
  | tp is =>
    cases x with
    | tuple xs =>
      simp only [putE] at h
      split at h
      · rename_i hl
        cases h
        exact ⟨_, if_pos hl, R.puts is xs⟩
      · cases h
    | _ => cases h
end
end Nx
namespace Nx
open PySem PySem.Spec PyProof.Rows L2
abbrev DenE := Env → Tree PyData
abbrev DenB := Env → Tree Bool
abbrev DenL := Env → Tree (List PyData)
abbrev DenS := Env → Tree Out
def wo (b : Addr) : W → OV
  | .d x => .im x
  | .bx => .own b
  | .own _ => .im .none
  | .tpl _ => .im .none
structure SE (b : Addr) (X : Cx) (e : Expr) (f : DenE) : Prop where
  run : ∀ μ0 E ρ μ Φ, Rel b μ0 E ρ μ → (f E).All (fun d => ∀ μ', Bs b μ μ' → Φ (.im d) μ') → DE X e ρ μ Φ
structure ST (b : Addr) (X : Cx) (e : Expr) (f : DenB) : Prop where
  run : ∀ μ0 E ρ μ Φ, Rel b μ0 E ρ μ → (f E).All (fun d => ∀ μ', Bs b μ μ' → Φ d μ') → DT X e ρ μ Φ
structure SW (b : Addr) (X : Cx) (e : Expr) (f : DenB) : Prop where
  run : ∀ μ0 E ρ μ Φ, Rel b μ0 E ρ μ → (f E).All (fun d => ∀ μ', Bs b μ μ' → Φ d μ') → DW X e ρ μ Φ
structure SD (b : Addr) (X : Cx) (es : List Expr) (f : DenL) : Prop where
  run : ∀ μ0 E ρ μ Λ, Rel b μ0 E ρ μ → (f E).All (fun ds => ∀ μ', Bs b μ μ' → Λ (ds.map .im) μ') → DA X es ρ μ Λ
structure SA (b : Addr) (X : Cx) (es : List Expr) (f : Env → Tree (List W)) : Prop where
  run : ∀ μ0 E ρ μ Λ, Rel b μ0 E ρ μ → (f E).All (fun ws => ∀ μ', Bs b μ μ' → Λ (ws.map (wo b)) μ') → DA X es ρ μ Λ
structure SI (b : Addr) (X : Cx) (tg e : Expr) (f : DenL) : Prop where
  run : ∀ μ0 E ρ μ Ψ, Rel b μ0 E ρ μ → (f E).All (fun ds => ∀ μ', Bs b μ μ' → Ψ ⟨ds.map .im, fun _ => True⟩ μ') → DI X tg e ρ μ Ψ
def OutOk (b : Addr) (μ0 : Mu) (D : DEnds) : Out → Prop
  | .nx E => ∀ ρ μ, Rel b μ0 E ρ μ → D.nx ρ μ
  | .bk E => ∀ ρ μ, Rel b μ0 E ρ μ → D.bk ρ μ
  | .ct E => ∀ ρ μ, Rel b μ0 E ρ μ → D.ct ρ μ
  | .rt v => ∀ μ, Bs b μ0 μ → D.rt (.im v) μ
structure SS (b : Addr) (X : Cx) (s : Stmt) (f : DenS) : Prop where
  run : ∀ μ0 E ρ μ D, Rel b μ0 E ρ μ → (f E).All (OutOk b μ0 D) → DS X s ρ μ D
structure SSs (b : Addr) (X : Cx) (ss : List Stmt) (f : DenS) : Prop where
  run : ∀ μ0 E ρ μ D, Rel b μ0 E ρ μ → (f E).All (OutOk b μ0 D) → DSs X ss ρ μ D
def dV (i : Nat) : DenE := fun E => match E[i]? with | some (some (.d x)) => .ret x | _ => .fail
def dC (x : PyData) : DenE := fun _ => .ret x
def d1 (g : PyData → Option PyData) (f : DenE) : DenE := fun E => (f E).bind fun x => liftO (g x)
def d2 (g : PyData → PyData → Option PyData) (f h : DenE) : DenE := fun E => (f E).bind fun x => (h E).bind fun y => liftO (g x y)
def t2 (g : PyData → PyData → Option Bool) (f h : DenE) : DenB := fun E => (f E).bind fun x => (h E).bind fun y => liftO (g x y)
def l0 : DenL := fun _ => .ret []
def lC (f : DenE) (fs : DenL) : DenL := fun E => (f E).bind fun x => (fs E).bind fun xs => .ret (x :: xs)
def small (n : Nat) : Option Unit := if n ≤ 100000 then some () else none
def dL (fs : DenL) : DenE := fun E => (fs E).bind fun xs => (liftO (small xs.length)).bind fun _ => .ret (.list xs)
def dT (fs : DenL) : DenE := fun E => (fs E).bind fun xs => (liftO (small xs.length)).bind fun _ => .ret (.tuple xs)
def aV (i : Nat) : Env → Tree W := fun E => match E[i]? with | some (some (.d x)) => .ret (.d x) | some (some .bx) => .ret .bx | _ => .fail
def aE (f : DenE) : Env → Tree W := fun E => (f E).bind fun x => .ret (.d x)
def a0 : Env → Tree (List W) := fun _ => .ret []
def aC (f : Env → Tree W) (fs : Env → Tree (List W)) : Env → Tree (List W) := fun E => (f E).bind fun x => (fs E).bind fun xs => .ret (x :: xs)
def dCall (F : List W → Tree PyData) (fs : Env → Tree (List W)) : DenE := fun E => (fs E).bind F
def dIf (c : DenB) (f g : DenE) : DenE := fun E => (c E).bind fun k => match k with | true => f E | false => g E
def asB : PyData → Option Bool
  | .bool k => some k
  | _ => none
def truth : PyData → Option Bool
  | .none => some false
  | .bool k => some k
  | .int i => some (i != 0)
  | .list xs => some !xs.isEmpty
  | .tuple xs => some !xs.isEmpty
  | _ => none
def tV (f : DenE) : DenB := fun E => (f E).bind fun x => liftO (asB x)
def tTr (f : DenE) : DenB := fun E => (f E).bind fun x => liftO (truth x)
def tNot (f : DenB) : DenB := fun E => (f E).bind fun k => .ret (!k)
def tAnd (f g : DenB) : DenB := fun E => (f E).bind fun k => match k with | true => g E | false => .ret false
def tOr (f g : DenB) : DenB := fun E => (f E).bind fun k => match k with | true => .ret true | false => g E
def dAnd (f g : DenE) : DenE := fun E => (f E).bind fun x => match x with | .bool true => g E | .bool false => .ret (.bool false) | _ => .fail
def dOr (f g : DenE) : DenE := fun E => (f E).bind fun x => match x with | .bool true => .ret (.bool true) | .bool false => g E | _ => .fail
def few (n : Nat) : Option Unit := if n ≤ 50000 then some () else none
def dLc (t : Tgt) (vs : List Nat) (it : DenL) (elt : DenE) : DenE := fun E => (it E).bind fun xs => (liftO (few xs.length)).bind fun _ =>
  (mapT (fun x => (liftO (putE t x (wipeE E vs))).bind elt) xs).bind fun ys => .ret (.list ys)
def dLf (t : Tgt) (vs : List Nat) (it : DenL) (c : DenB) (elt : DenE) : DenE := fun E => (it E).bind fun xs => (liftO (few xs.length)).bind fun _ =>
  (pickT (fun x => (liftO (putE t x (wipeE E vs))).bind fun E' => (c E').bind fun k => match k with | true => (elt E').bind fun y => .ret (some y) | false => .ret none) xs).bind fun ys => .ret (.list ys)
def sSet (i : Nat) (f : DenE) : DenS := fun E => (f E).bind fun x => .ret (.nx (E.set i (some (.d x))))
def sAsg (t : Tgt) (f : DenE) : DenS := fun E => (f E).bind fun x => (liftO (putE t x E)).bind fun E' => .ret (.nx E')
def sPar (is : List Nat) (fs : DenL) : DenS := fun E => (fs E).bind fun xs => .ret (.nx (putsE E is xs))
def sRet (f : DenE) : DenS := fun E => (f E).bind fun x => .ret (.rt x)
def s0 : DenS := fun E => .ret (.nx E)
def sC (s ss : DenS) : DenS := fun E => (s E).bind fun o => match o with | .nx E' => ss E' | o => .ret o
def sIf (c : DenB) (s1 s2 : DenS) : DenS := fun E => (c E).bind fun k => match k with | true => s1 E | false => s2 E
def sX (f : DenE) : DenS := fun E => (f E).bind fun _ => .ret (.nx E)
def forT (t : Tgt) (body : DenS) : List PyData → Env → Tree Out
  | [], E => .ret (.nx E)
  | x :: xs, E => (liftO (putE t x E)).bind fun E' => (body E').bind fun o => match o with
    | .nx E2 => forT t body xs E2
    | .ct E2 => forT t body xs E2
    | .bk E2 => .ret (.nx E2)
    | .rt v => .ret (.rt v)
def sFor (t : Tgt) (it : DenL) (body : DenS) : DenS := fun E => (it E).bind fun xs => forT t body xs E
def whT (c : DenB) (body : DenS) : Nat → Env → Tree Out
  | 0, _ => .fail
  | n + 1, E => (c E).bind fun k => match k with
    | false => .ret (.nx E)
    | true => (body E).bind fun o => match o with
      | .nx E2 => whT c body n E2
      | .ct E2 => whT c body n E2
      | .bk E2 => .ret (.nx E2)
      | .rt v => .ret (.rt v)
def sWh (n : Nat) (c : DenB) (body : DenS) : DenS := whT c body n
def sOwn (i : Nat) (f : DenE) : DenS := fun E => (f E).bind fun x => match x with | .list xs => .ret (.nx (E.set i (some (.own xs)))) | _ => .fail
def sApp (i : Nat) (f : DenE) : DenS := fun E => match E[i]? with | some (some (.own l)) => (f E).bind fun y => (liftO (small (l.length + 1))).bind fun _ => .ret (.nx (E.set i (some (.own (l ++ [y]))))) | _ => .fail
def frzE (i : Nat) (E : Env) : Env := match E[i]? with | some (some (.own l)) => E.set i (some (.d (.list l))) | _ => E
def sFrz (i : Nat) (ss : DenS) : DenS := fun E => ss (frzE i E)
def outV : Out → Tree PyData
  | .rt v => .ret v
  | .nx _ => .ret .none
  | _ => .fail
section
variable {b : Addr} {X : Cx} {e x y : Expr} {es : List Expr} {f fx fy fz : DenE} {fs : DenL} {pos : Pos}
open Tree
theorem dV_all {i : Nat} {E : Env} {Q : PyData → Prop} (h : (dV i E).All Q) : ∃ d, E[i]? = some (some (.d d)) ∧ Q d := by
  unfold dV at h
  split at h
  · rename_i d hd
    exact ⟨d, hd, h⟩
  · exact h.elim
theorem se_v (i : Nat) {n : Str} (hN : X.N[i]? = some n := by rfl) (hv : Vis X.env.scope n := by first | exact Or.inl rfl | exact Or.inr (Or.inl rfl) | exact Or.inr (Or.inr rfl)) (hd : (n == ("__debug__" : Str)) = false := by decide) (hcd : (n == ("__classdict__" : Str)) = false := by decide) : SE b X (.Name n pos) (dV i) := .mk fun μ0 E ρ μ Φ R h => by
  obtain ⟨d, hd', q⟩ := dV_all h
  obtain ⟨o, h1, h2⟩ := R.get i _ hd'
  cases h2
  exact de_var i hN hv h1 (q μ (Bs.refl b μ)) hd hcd
theorem se_int {i : Int} {j : Nat} : SE b X (.Constant (.int i) j pos) (dC (.int i)) := .mk fun μ0 E ρ μ Φ R h => de_int (h μ (Bs.refl b μ))
theorem se_bl {i : Bool} {j : Nat} : SE b X (.Constant (.bool i) j pos) (dC (.bool i)) := .mk fun μ0 E ρ μ Φ R h => de_bl (h μ (Bs.refl b μ))
theorem se_non {j : Nat} : SE b X (.Constant .none j pos) (dC .none) := .mk fun μ0 E ρ μ Φ R h => de_non (h μ (Bs.refl b μ))
def G1 (g : PyData → Option PyData) (u : OV) (μ : Mu) (Φ : OV → Mu → Prop) : Prop := ∃ d r, u = .im d ∧ g d = some r ∧ Φ (.im r) μ
theorem se_1 {g : PyData → Option PyData} (hx : SE b X x fx) (hop : ∀ ρ μ Φ, (DE X x ρ μ fun u μ1 => G1 g u μ1 Φ) → DE X e ρ μ Φ) : SE b X e (d1 g fx) := .mk fun μ0 E ρ μ Φ R h =>
  hop ρ μ Φ (hx.run μ0 E ρ μ _ R ((all_bind.mp h).imp fun d q μ1 s1 => let ⟨r, hr, q⟩ := lift_all q; ⟨d, r, rfl, hr, q μ1 s1⟩))
def G2 (g : PyData → PyData → Option PyData) (u v : OV) (μ : Mu) (Φ : OV → Mu → Prop) : Prop := ∃ d d' r, u = .im d ∧ v = .im d' ∧ g d d' = some r ∧ Φ (.im r) μ
theorem se_2 {g : PyData → PyData → Option PyData} (hx : SE b X x fx) (hy : SE b X y fy) (hop : ∀ ρ μ Φ, (DE X x ρ μ fun u μ1 => DE X y ρ μ1 fun v μ2 => G2 g u v μ2 Φ) → DE X e ρ μ Φ) : SE b X e (d2 g fx fy) := .mk fun μ0 E ρ μ Φ R h =>
  hop ρ μ Φ (hx.run μ0 E ρ μ _ R ((all_bind.mp h).imp fun d q μ1 s1 => hy.run μ0 E ρ μ1 _ (R.step s1) ((all_bind.mp q).imp fun d' q μ2 s2 => let ⟨r, hr, q⟩ := lift_all q; ⟨d, d', r, rfl, rfl, hr, q μ2 (s1.trans s2)⟩)))
def OkOp (r : R2) (g : PyData → PyData → Option PyData) : Prop := ∀ d d' v μ Φ, g d d' = some v → Φ (.im v) μ → OpD r (.im d) (.im d') μ Φ
theorem se_op {op : Operator} {r : R2} {g : PyData → PyData → Option PyData} (ho : OpR X (binaryOp op) r) (hk : OkOp r g) (hx : SE b X x fx) (hy : SE b X y fy) : SE b X (.BinOp x op y pos) (d2 g fx fy) :=
  se_2 hx hy fun ρ μ Φ h => de_op ho (h.imp fun u μ1 h1 => h1.imp fun v μ2 ⟨d, d', r, e1, e2, hr, q⟩ => by subst e1 e2; exact hk d d' r μ2 Φ hr q)
def OkCmp (r : R2) (g : PyData → PyData → Option Bool) : Prop := ∀ d d' v μ Φ, g d d' = some v → Φ (.im (.bool v)) μ → OpD r (.im d) (.im d') μ Φ
def bD (g : PyData → PyData → Option Bool) (d d' : PyData) : Option PyData := match g d d' with | some k => some (.bool k) | none => none
theorem bD_some {g : PyData → PyData → Option Bool} {d d' r : PyData} (h : bD g d d' = some r) : ∃ k, g d d' = some k ∧ r = .bool k := by
  unfold bD at h
  split at h
  · cases h
    exact ⟨_, ‹_›, rfl⟩
  · cases h
theorem se_cmp {op : CmpOp} {r : R2} {g : PyData → PyData → Option Bool} (ho : OpR X (compareOp op) r) (hm : behindInMarks op y = false) (hk : OkCmp r g) (hx : SE b X x fx) (hy : SE b X y fy) : SE b X (.Compare x [op] [y] pos) (d2 (bD g) fx fy) :=
  se_2 hx hy fun ρ μ Φ h => de_cmp ho hm (h.imp fun u μ1 h1 => h1.imp fun v μ2 ⟨d, d', r, e1, e2, hr, q⟩ => by
    subst e1 e2
    obtain ⟨k, hk', rfl⟩ := bD_some hr
    exact hk d d' k μ2 Φ hk' q)
theorem st_cmp {op : CmpOp} {r : R2} {g : PyData → PyData → Option Bool} (ho : OpR X (compareOp op) r) (hm : behindInMarks op y = false) (hk : OkCmp r g) (hx : SE b X x fx) (hy : SE b X y fy) : ST b X (.Compare x [op] [y] pos) (t2 g fx fy) := .mk fun μ0 E ρ μ Φ R h =>
  dt_cmp ho hm (hx.run μ0 E ρ μ _ R ((all_bind.mp h).imp fun d q μ1 s1 => hy.run μ0 E ρ μ1 _ (R.step s1) ((all_bind.mp q).imp fun d' q μ2 s2 => let ⟨r, hr, q⟩ := lift_all q; hk d d' r μ2 _ hr ⟨r, rfl, q μ2 (s1.trans s2)⟩)))
theorem dt_tru {ρ : Rho} {μ : Mu} {Φ : Bool → Mu → Prop} (h : DE X x ρ μ fun u μ1 => ∃ d k, u = .im d ∧ truth d = some k ∧ Φ k μ1) (he : ∀ whole, isTrue x X.env whole = (do let v ← whole; standAt x.pos; holding [v] (truthy v)) := by intro _; rfl) : DT X x ρ μ Φ := fun G H σ m v Q f =>
  WT.of (pt_truth pwe he) (h G H σ m v _ fun vx u μ1 G1 H1 q1 e1 m1 r1 => by
    obtain ⟨d, k, rfl, hk, q⟩ := q1
    refine ⟨k, ?_, f _ _ _ _ q e1 m1⟩
    have r1 : Dv G1 vx d := r1
    cases r1 with
    | non => cases hk; rfl
    | bl k => cases hk; rfl
    | int i => cases hk; rfl
    | str x => cases hk
    | lst h1 w =>
      cases hk
      exact .inl ⟨_, .inl (.inl (m1.ex _ _ h1)), by cases w <;> rfl⟩
    | tup h1 w =>
      cases hk
      exact .inr (.inl ⟨_, (h1.mono m1.ex).sq, by cases w <;> rfl⟩))
theorem st_tru (hx : SE b X x fx) (he : ∀ whole, isTrue x X.env whole = (do let v ← whole; standAt x.pos; holding [v] (truthy v)) := by intro _; rfl) : ST b X x (tTr fx) := .mk fun μ0 E ρ μ Φ R h =>
  dt_tru (hx.run μ0 E ρ μ _ R ((all_bind.mp h).imp fun d q μ1 s1 => let ⟨k, hk, q⟩ := lift_all q; ⟨d, k, rfl, hk, q μ1 s1⟩)) he
variable {fb gb : DenB} {rest : List Expr}
theorem st_not (hx : ST b X x fb) : ST b X (.UnaryOp .Not x pos) (tNot fb) := .mk fun μ0 E ρ μ Φ R h => dt_not (hx.run μ0 E ρ μ _ R ((all_bind.mp h).imp fun k q => q))
theorem st_w (h : SW b X e fb) : ST b X e fb := .mk fun μ0 E ρ μ Φ R q => (h.run μ0 E ρ μ Φ R q).dt
theorem sw_or1 (h : ST b X x fb) : SW b X (.BoolOp .Or [x] pos) fb := .mk fun μ0 E ρ μ Φ R q => dw_or1 (h.run μ0 E ρ μ Φ R q)
theorem sw_or (h : ST b X x fb) (k : SW b X (.BoolOp .Or (y :: rest) pos) gb) : SW b X (.BoolOp .Or (x :: y :: rest) pos) (tOr fb gb) := .mk fun μ0 E ρ μ Φ R q =>
  dw_or (h.run μ0 E ρ μ _ R ((all_bind.mp q).imp fun v q μ1 s1 => by
    cases v with
    | true =>
      rw [if_pos rfl]
      exact q μ1 s1
    | false =>
      rw [if_neg (by decide)]
      exact k.run μ0 E ρ μ1 _ (R.step s1) (All.imp (fun v q μ2 s2 => q μ2 (s1.trans s2)) q)))
def pNot (d : PyData) : Option PyData := match d with | .bool k => some (.bool !k) | _ => none
theorem se_if (hc : ST b X e fb) (hx : SE b X x fx) (hy : SE b X y fy) : SE b X (.IfExp e x y pos) (dIf fb fx fy) := .mk fun μ0 E ρ μ Φ R q =>
  de_ifExp (hc.run μ0 E ρ μ _ R ((all_bind.mp q).imp fun k q μ1 s1 => by
    cases k with
    | true =>
      rw [if_pos rfl]
      exact hx.run μ0 E ρ μ1 _ (R.step s1) (All.imp (fun v q μ2 s2 => q μ2 (s1.trans s2)) q)
    | false =>
      rw [if_neg (by decide)]
      exact hy.run μ0 E ρ μ1 _ (R.step s1) (All.imp (fun v q μ2 s2 => q μ2 (s1.trans s2)) q)))
theorem sd_nil : SD b X [] l0 := .mk fun μ0 E ρ μ Λ R h => da_nil (h μ (Bs.refl b μ))
theorem sd_cons (hx : SE b X x fx) (ht : SD b X es fs) (hs : starEach (x :: es) X.env = (false, eval x X.env) :: starEach es X.env := by rfl) : SD b X (x :: es) (lC fx fs) := .mk fun μ0 E ρ μ Λ R h =>
  da_cons (hx.run μ0 E ρ μ _ R ((all_bind.mp h).imp fun d q μ1 s1 => ht.run μ0 E ρ μ1 _ (R.step s1) ((all_bind.mp q).imp fun ds q μ2 s2 => q μ2 (s1.trans s2)))) hs
theorem small_le {n : Nat} {Q : Unit → Prop} (h : (liftO (small n)).All Q) : n ≤ 100000 ∧ Q () := by
  obtain ⟨a, h1, h2⟩ := lift_all h
  unfold small at h1
  split at h1
  · exact ⟨‹_›, h2⟩
  · cases h1
theorem few_le {n : Nat} {Q : Unit → Prop} (h : (liftO (few n)).All Q) : n ≤ 50000 ∧ Q () := by
  obtain ⟨a, h1, h2⟩ := lift_all h
  unfold few at h1
  split at h1
  · exact ⟨‹_›, h2⟩
  · cases h1
theorem se_lst (h : SD b X es fs) : SE b X (.List es pos) (dL fs) := .mk fun μ0 E ρ μ Φ R q =>
  de_lst (h.run μ0 E ρ μ _ R ((all_bind.mp q).imp fun ds q μ1 s1 => let ⟨hz, q⟩ := small_le (all_bind.mp q); ⟨ds, rfl, hz, q μ1 s1⟩))
theorem se_tup {k : Nat} (h : SD b X es fs) : SE b X (.Tuple es k pos) (dT fs) := .mk fun μ0 E ρ μ Φ R q =>
  de_tup (h.run μ0 E ρ μ _ R ((all_bind.mp q).imp fun ds q μ1 s1 => let ⟨hz, q⟩ := small_le (all_bind.mp q); ⟨ds, rfl, hz, q μ1 s1⟩))
variable {ga : Env → Tree W} {gs : Env → Tree (List W)}
structure SV (b : Addr) (X : Cx) (e : Expr) (f : Env → Tree W) : Prop where
  run : ∀ μ0 E ρ μ Φ, Rel b μ0 E ρ μ → (f E).All (fun w => ∀ μ', Bs b μ μ' → Φ (wo b w) μ') → DE X e ρ μ Φ
theorem sv_v (i : Nat) {n : Str} (hN : X.N[i]? = some n := by rfl) (hv : Vis X.env.scope n := by first | exact Or.inl rfl | exact Or.inr (Or.inl rfl) | exact Or.inr (Or.inr rfl)) (hd : (n == ("__debug__" : Str)) = false := by decide) (hcd : (n == ("__classdict__" : Str)) = false := by decide) : SV b X (.Name n pos) (aV i) := .mk fun μ0 E ρ μ Φ R h => by
  unfold aV at h
  split at h
  · rename_i d hd'
    obtain ⟨o, h1, h2⟩ := R.get i _ hd'
    cases h2
    exact de_var i hN hv h1 (h μ (Bs.refl b μ)) hd hcd
  · rename_i hd'
    obtain ⟨o, h1, h2⟩ := R.get i _ hd'
    cases h2
    exact de_var i hN hv h1 (h μ (Bs.refl b μ)) hd hcd
  · exact h.elim
theorem sv_e (h : SE b X x fx) : SV b X x (aE fx) := .mk fun μ0 E ρ μ Φ R q => h.run μ0 E ρ μ Φ R ((all_bind.mp q).imp fun d q => q)
theorem sa_nil : SA b X [] a0 := .mk fun μ0 E ρ μ Λ R h => da_nil (h μ (Bs.refl b μ))
theorem sa_cons (hx : SV b X x ga) (ht : SA b X es gs) (hs : starEach (x :: es) X.env = (false, eval x X.env) :: starEach es X.env := by rfl) : SA b X (x :: es) (aC ga gs) := .mk fun μ0 E ρ μ Λ R h =>
  da_cons (hx.run μ0 E ρ μ _ R ((all_bind.mp h).imp fun d q μ1 s1 => ht.run μ0 E ρ μ1 _ (R.step s1) ((all_bind.mp q).imp fun ds q μ2 s2 => q μ2 (s1.trans s2)))) hs
end
end Nx
namespace Nx
open PySem PySem.Spec PyProof.Rows L2
open Tree
def ent : W → W
  | .own _ => .d .none
  | .tpl _ => .d .none
  | w => w
def lenIs {α : Type} (n : Nat) (ws : List α) : Option Unit := if ws.length = n then some () else none
theorem lenIs_all {α : Type} {n : Nat} {ws : List α} {Q : Unit → Prop} (h : (liftO (lenIs n ws)).All Q) : ws.length = n ∧ Q () := by
  obtain ⟨a, h1, h2⟩ := lift_all h
  unfold lenIs at h1
  split at h1
  · exact ⟨‹_›, h2⟩
  · cases h1
def fnF (a n : Nat) (body : DenS) : List W → Tree PyData := fun ws => (liftO (lenIs a ws)).bind fun _ => (body (ws.map (fun w => some (ent w)) ++ List.replicate (n - a) none)).bind outV
def cF (F : List W → Tree PyData) : Ct := fun os μ Φ => ∃ b ws, os = ws.map (wo b) ∧ (∃ p q t, μ b = some (bx p q t)) ∧ (F ws).All (fun d => ∀ μ', Bs b μ μ' → Φ (.im d) μ')
section
variable {P : Program} {w : World} {K : PySem.W.Frag} {mg : Str → Option Value} {base : Heap}
theorem Fc.imp {k : Nat} {x : Str} {st : Stmt} {ps : List Str} {C C' : Ct} (F : Fc P w K mg base x st ps k C) (h : ∀ os μ Φ, C' os μ Φ → C os μ Φ) : Fc P w K mg base x st ps k C' := by
  obtain ⟨f, fd, a, b, c⟩ := F.ex
  refine ⟨⟨f, fd, a, b, ⟨fun vs H Q E ⟨os, μ, G, Φ, m, r, q, fi⟩ => c.len vs H Q E ⟨os, μ, G, Φ, m, r, h _ _ _ q, fi⟩, fun A outer s H args us vs Q E r e b v ⟨os, μ, G, Φ, m, r', q, fi⟩ => c.run A outer s H args us vs Q E r e b v ⟨os, μ, G, Φ, m, r', h _ _ _ q, fi⟩⟩⟩⟩
theorem rel_start {b : Addr} {μ : Mu} {ws : List W} (n : Nat) (hb : ∃ p q t, μ b = some (bx p q t)) : Rel b μ (ws.map (fun w => some (ent w)) ++ List.replicate n none) ((ws.map (wo b)).map some ++ List.replicate n none) μ := by
  have key : ∀ (i : Nat) v, (ws.map (fun w => some (ent w)) ++ List.replicate n none)[i]? = some (some v) → ∃ u, ws[i]? = some u ∧ v = ent u ∧ ((ws.map (wo b)).map some ++ List.replicate n none)[i]? = some (some (wo b u)) := fun i v h => by
    by_cases hi : i < ws.length
    · rw [List.getElem?_append_left (by simpa using hi), List.getElem?_map, List.getElem?_eq_getElem hi] at h
      cases h
      refine ⟨_, List.getElem?_eq_getElem hi, rfl, ?_⟩
      rw [List.getElem?_append_left (by simpa using hi), List.getElem?_map, List.getElem?_map, List.getElem?_eq_getElem hi]
      rfl
    · rw [List.getElem?_append_right (by simpa using hi), List.getElem?_replicate] at h
      split at h <;> cases h
  refine ⟨by simp, hb, hb, Bs.refl b μ, fun i v h => ?_, fun i j ds es p h _ _ _ => ?_⟩
  · obtain ⟨u, hu, rfl, h2⟩ := key i v h
    refine ⟨_, h2, ?_⟩
    cases u <;> rfl
  · obtain ⟨u, hu, e, h2⟩ := key i _ h
    cases u <;> cases e
theorem fc_body0 {k : Nat} {f : Addr} {x : Str} {st : Stmt} {fd : FuncData} {N ps : List Str} {body : DenS} (F : Fun K x x st f fd) (hm : mg x = some (.ref f)) (S : FnScope N ps (defScope st))
    (hB : ∀ (b : Addr) (cdv : Value) A outer s H E, Rm k (A.deeper (envOfC x (defScope st) s.heap.objs.size f cdv)) → SSs b (cxOf CX0 P w K mg base N x (defScope st) f cdv A outer s H E).nox (defBody st) body) : Fc P w K mg base x st ps (k + 1) (cF (fnF ps.length N.length body)) := by
  refine fc_of F hm S (fun os μ Φ h => ?_) fun cdv A outer s H E os μ Φ hr h => ?_
  · obtain ⟨b, ws, rfl, _, h⟩ := h
    rw [List.length_map]
    exact (lenIs_all (all_bind.mp h)).1
  · obtain ⟨b, ws, rfl, hb, h⟩ := h
    obtain ⟨hl, h⟩ := lenIs_all (all_bind.mp h)
    rw [List.length_map, hl]
    refine (hB b cdv A outer s H E hr).run μ _ _ μ _ (rel_start _ hb) ((all_bind.mp h).imp fun o q => ?_)
    cases o with
    | nx E' => exact fun ρ' μ' R => q μ' R.ext
    | rt v => exact fun μ' s => q μ' s
    | bk E' => exact q.elim
    | ct E' => exact q.elim
theorem fc_body {k a n : Nat} {f : Addr} {x : Str} {st : Stmt} {fd : FuncData} {N ps : List Str} (body : DenS) {m : List W → Tree PyData} (hM : m = fnF a n body) (F : Fun K x x st f fd) (hm : mg x = some (.ref f)) (S : FnScope N ps (defScope st)) (ha : ps.length = a) (hn : N.length = n)
    (hB : ∀ (b : Addr) (cdv : Value) A outer s H E, Rm k (A.deeper (envOfC x (defScope st) s.heap.objs.size f cdv)) → SSs b (cxOf CX0 P w K mg base N x (defScope st) f cdv A outer s H E).nox (defBody st) body) : Fc P w K mg base x st ps (k + 1) (cF m) := by
  subst hM ha hn
  exact fc_body0 F hm S hB
end
section
variable {b : Addr} {X : Cx} {e x y z : Expr} {es : List Expr} {f fx fy fz : DenE} {fs : DenL} {pos p : Pos} {ga : Env → Tree W} {gs : Env → Tree (List W)}
theorem se_call {F : List W → Tree PyData} {nm : Str} {st : Stmt} {ps : List Str} {k : Nat} (FC : Fc X.prog X.w X.K X.mg X.base nm st ps k (cF F)) (hr : Rm k X.A) (hg : Gl X nm)
    (hb : ∀ (kV doc pm : Value) (an : Option Addr) (cdv ct : Value) (us : List Value), us.length = ps.length → bindArgs (PySem.W.fnOf nm nm (defArgs st) (defBody st) (defScope st) .none kV doc pm an cdv ct) ⟨us, []⟩ = pure (ps.zip us))
    (ha : SA b X (x :: es) gs) (hdb : (nm == ("__debug__" : Str)) = false := by decide) (he : starEach (x :: es) X.env = (false, eval x X.env) :: starEach es X.env := by rfl) (hpl : (backTo pos (starEach es X.env)).any (·.1) = false := by rfl) : SE b X (.Call (.Name nm p) (x :: es) [] pos) (dCall F gs) := .mk fun μ0 E ρ μ Φ R h =>
  de_call FC hr hg hb (ha.run μ0 E ρ μ _ R ((all_bind.mp h).imp fun ws q μ1 s1 => ⟨b, ws, rfl, (R.step s1).bxs, q.imp fun d q μ2 s2 => q μ2 (s1.trans s2)⟩)) hdb he hpl
def dCallK (m : Nat) (ix : List Nat) (F : List W → Tree PyData) (fs : Env → Tree (List W)) : DenE := fun E => (fs E).bind fun ws => (liftO (lenIs m ws)).bind fun _ => F (pick ix ws)
def items : PyData → Option (List PyData)
  | .list xs => some xs
  | .tuple xs => some xs
  | _ => none
theorem items_seq {d : PyData} {xs : List PyData} (h : items d = some xs) : Seq xs (.im d) := by
  cases d <;> cases h
  · exact .lst
  · exact .tup
def rg1 : PyData → Option (List PyData)
  | .int j => if -100000 ≤ j ∧ j ≤ 100000 then some (nums j.toNat) else none
  | _ => none
def numsF (i : Int) (n : Nat) : List PyData := (List.range n).map fun (k : Nat) => .int (i + (k : Int))
def rg2 : PyData → PyData → Option (List PyData)
  | .int i, .int j => if -100000 ≤ i ∧ i ≤ 100000 ∧ -100000 ≤ j ∧ j ≤ 100000 then some (numsF i (j - i).toNat) else none
  | _, _ => none
def iS (f : DenE) : DenL := fun E => (f E).bind fun x => liftO (items x)
def iR1 (f : DenE) : DenL := fun E => (f E).bind fun x => liftO (rg1 x)
def iR2 (f g : DenE) : DenL := fun E => (f E).bind fun x => (g E).bind fun y => liftO (rg2 x y)
def wEn (f : DenE) : DenL := fun E => (f E).bind fun x => (liftO (items x)).bind fun xs => .ret (prs (nums xs.length) xs)
def wZ2 (f g : DenE) : DenL := fun E => (f E).bind fun x => (g E).bind fun y => (liftO (items x)).bind fun xs => (liftO (items y)).bind fun ys => .ret (prs xs ys)
def wZ3 (f g h : DenE) : DenL := fun E => (f E).bind fun x => (g E).bind fun y => (h E).bind fun z => (liftO (items x)).bind fun xs => (liftO (items y)).bind fun ys => (liftO (items z)).bind fun zs => .ret (trs xs ys zs)
variable {tg : Expr}
theorem si_seq (hx : SE b X x fx) : SI b X tg x (iS fx) := .mk fun μ0 E ρ μ Ψ R h =>
  di_seq (hx.run μ0 E ρ μ _ R ((all_bind.mp h).imp fun d q μ1 s1 => let ⟨xs, hxs, q⟩ := lift_all q; ⟨xs, items_seq hxs, q μ1 s1⟩))
theorem si_r1 (B : Bt X.mg) (hg : Gl X "range") (hx : SE b X x fx) (he : starEach [x] X.env = (false, eval x X.env) :: starEach [] X.env := by rfl) : SI b X tg (.Call (.Name "range" p) [x] [] pos) (iR1 fx) := .mk fun μ0 E ρ μ Ψ R h =>
  di_range1 B hg (hx.run μ0 E ρ μ _ R ((all_bind.mp h).imp fun d q μ1 s1 => by
    obtain ⟨xs, hxs, q⟩ := lift_all q
    cases d with
    | int j =>
      simp only [rg1] at hxs
      split at hxs
      · rename_i hj
        cases hxs
        refine ⟨j, rfl, hj.1, hj.2, ?_⟩
        have := q μ1 s1
        unfold nums at this
        rw [List.map_map] at this
        exact this
      · cases hxs
    | _ => cases hxs)) he
theorem si_en {elts : List Expr} {kk : Nat} {tpos : Pos} (B : Bt X.mg) (hg : Gl X "enumerate") (hx : SE b X x fx) (he : starEach [x] X.env = (false, eval x X.env) :: starEach [] X.env := by rfl) (he2 : starEach [x] X.env = [(false, eval x X.env)] := by rfl) : SI b X (.Tuple elts kk tpos) (.Call (.Name "enumerate" p) [x] [] pos) (wEn fx) := .mk fun μ0 E ρ μ Ψ R h =>
  di_en B hg (hx.run μ0 E ρ μ _ R ((all_bind.mp h).imp fun d q μ1 s1 => let ⟨xs, hxs, q⟩ := lift_all (all_bind.mp q); ⟨xs, items_seq hxs, q μ1 s1⟩)) he he2
theorem si_z2 {elts : List Expr} {kk : Nat} {tpos : Pos} (B : Bt X.mg) (hg : Gl X "zip") (hx : SE b X x fx) (hy : SE b X y fy) (he : starEach [x, y] X.env = (false, eval x X.env) :: starEach [y] X.env := by rfl) (he2 : starEach [y] X.env = (false, eval y X.env) :: starEach [] X.env := by rfl) (hpl : (backTo pos (starEach [y] X.env)).any (·.1) = false := by rfl) : SI b X (.Tuple elts kk tpos) (.Call (.Name "zip" p) [x, y] [] pos) (wZ2 fx fy) := .mk fun μ0 E ρ μ Ψ R h =>
  di_zip2 B hg (hx.run μ0 E ρ μ _ R ((all_bind.mp h).imp fun d q μ1 s1 => hy.run μ0 E ρ μ1 _ (R.step s1) ((all_bind.mp q).imp fun d' q μ2 s2 => by
    obtain ⟨xs, hxs, q⟩ := lift_all (all_bind.mp q)
    obtain ⟨ys, hys, q⟩ := lift_all (all_bind.mp q)
    exact ⟨xs, ys, items_seq hxs, items_seq hys, q μ2 (s1.trans s2)⟩))) he he2 hpl
theorem si_z3 {elts : List Expr} {kk : Nat} {tpos : Pos} (B : Bt X.mg) (hg : Gl X "zip") (hx : SE b X x fx) (hy : SE b X y fy) (hz : SE b X z fz) (he : starEach [x, y, z] X.env = (false, eval x X.env) :: starEach [y, z] X.env := by rfl) (he2 : starEach [y, z] X.env = (false, eval y X.env) :: starEach [z] X.env := by rfl) (he3 : starEach [z] X.env = (false, eval z X.env) :: starEach [] X.env := by rfl) (hpl : (backTo pos (starEach [y, z] X.env)).any (·.1) = false := by rfl) : SI b X (.Tuple elts kk tpos) (.Call (.Name "zip" p) [x, y, z] [] pos) (wZ3 fx fy fz) := .mk fun μ0 E ρ μ Ψ R h =>
  di_zip3 B hg (hx.run μ0 E ρ μ _ R ((all_bind.mp h).imp fun d q μ1 s1 => hy.run μ0 E ρ μ1 _ (R.step s1) ((all_bind.mp q).imp fun d' q μ2 s2 => hz.run μ0 E ρ μ2 _ ((R.step s1).step s2) ((all_bind.mp q).imp fun d3 q μ3 s3 => by
    obtain ⟨xs, hxs, q⟩ := lift_all (all_bind.mp q)
    obtain ⟨ys, hys, q⟩ := lift_all (all_bind.mp q)
    obtain ⟨zs, hzs, q⟩ := lift_all (all_bind.mp q)
    exact ⟨xs, ys, zs, items_seq hxs, items_seq hys, items_seq hzs, q μ3 ((s1.trans s2).trans s3)⟩)))) he he2 he3 hpl
theorem Bs.del {μ μ' : Mu} {D : Addr} (h : Bs b μ μ') (hD : μ D = none) (hb : D ≠ b) : Bs b μ (μ'.del D) :=
  ⟨fun a l n e => (if_neg (ne_own e hD)).trans (h.old a l n e), fun p q t e => let ⟨p', q', t', e'⟩ := h.box p q t e; ⟨p', q', t', (if_neg fun z => hb z.symm).trans e'⟩⟩
variable {iter elt c : Expr} {scope : Scope} {fi : DenL} {fb : DenB}
theorem lc_sound {t : Tgt} {vs : List Nat} {E : Env} {ρ : Rho} {μ μ1 μ0 : Mu} {xs : List PyData} {done : List OV → Mu → Prop} (R : Rel b μ0 E ρ μ) (s1 : Bs b μ μ1) (he : ∀ s H C cl fp, SE b (Blk X scope s H C cl fp) elt fx) (hz : xs.length ≤ 50000)
    (q : (mapT (fun x => (liftO (putE t x (wipeE E vs))).bind fx) xs).All fun ys => ∀ μ', Bs b μ μ' → done (ys.map .im) μ') : LcD X scope [] elt t vs ρ ⟨xs.map .im, fun _ => True⟩ μ1 done := by
  refine ⟨fun i acc μ' => Bs b μ μ' ∧ ∃ ds : List PyData, acc = ds.map .im ∧ (mapT (fun x => (liftO (putE t x (wipeE E vs))).bind fx) (xs.drop i)).All fun ys => ∀ μ'', Bs b μ μ'' → done ((ds ++ ys).map .im) μ'', by simpa using hz, ⟨s1, [], rfl, q⟩, fun _ _ _ _ _ _ => trivial, fun acc μ' ⟨s, ds, ha, h⟩ => ?_, fun i acc μ' o ho ⟨s, ds, ha, h⟩ => ?_⟩
  · rw [List.drop_eq_nil_of_le (by simp)] at h
    have := h μ' s
    rw [List.append_nil] at this
    rw [ha]
    exact this
  · dsimp only at ho
    rw [List.getElem?_map] at ho
    cases hx : xs[i]? with
    | none =>
      rw [hx] at ho
      cases ho
    | some x =>
      rw [hx] at ho
      cases ho
      obtain ⟨hi, rfl⟩ := List.getElem?_eq_some_iff.mp hx
      rw [List.drop_eq_getElem_cons hi, mapT] at h
      obtain ⟨E', hE, h⟩ := lift_all (all_bind.mp (all_bind.mp h))
      obtain ⟨ρ', hp, _⟩ := ((R.step s).wipes vs).putT hE
      refine ⟨ρ', hp, fun Dl hD => ?_⟩
      dsimp only [DTb]
      rw [if_pos rfl]
      intro s' H C cl fp
      have s2 : Bs b μ (μ'.put Dl acc) := s.trans (Bs.put hD)
      obtain ⟨ρ2, hp2, R2⟩ := ((R.step s2).wipes vs).putT hE
      rw [hp] at hp2
      cases hp2
      have nb : Dl ≠ b := fun z => by
        obtain ⟨u, q, t, e⟩ := (R.step s).bxs
        rw [z, e] at hD
        cases hD
      refine (he s' H C cl fp).run μ0 E' ρ' _ _ R2 (h.imp fun y h μ3 s3 => ?_)
      obtain ⟨pb1, pb2⟩ := put_back (s3.old Dl acc nb put_same)
      refine ⟨μ3.del Dl, pb1, pb2, (s2.trans s3).del ?_ nb, ds ++ [y], by rw [ha, List.map_append]; rfl, (all_bind.mp h).imp fun ys h => ?_⟩
      · cases z : μ Dl with
        | none => rfl
        | some l =>
          rw [s.old Dl l nb z] at hD
          cases hD
      · rw [List.append_assoc]
        exact h
theorem se_lc {own : List (Str × Nat)} (t : Tgt) (hc : X.calm = true) (hN : X.N.Nodup) (ok : BlkOk X.N X.env.scope scope own) (hs : ∀ i ∈ t.slots, i ∈ own.map (·.2))
    (hg : ∀ s H C cl fp, PG (Blk X scope s H C cl fp) tg (TgtG X.K t)) (hi : SI b X tg iter fi) (he : ∀ s H C cl fp, SE b (Blk X scope s H C cl fp) elt fx) (hf : ∀ x, foldedSetIterable iter X.env x = pure x := by intro _; rfl) : SE b X (.ListComp elt [⟨tg, iter, [], 0⟩] scope pos) (dLc t (own.map (·.2)) fi fx) := .mk fun μ0 E ρ μ Φ R h =>
  de_lc t hc hN ok hs hg (hi.run μ0 E ρ μ _ R ((all_bind.mp h).imp fun xs q μ1 s1 => by
    obtain ⟨hz, q⟩ := few_le (all_bind.mp q)
    exact lc_sound R s1 he hz ((all_bind.mp q).imp fun ys q μ' s => ⟨ys, rfl, q μ' s⟩))) hf
theorem lf_sound {t : Tgt} {vs : List Nat} {E : Env} {ρ : Rho} {μ μ1 μ0 : Mu} {xs : List PyData} {done : List OV → Mu → Prop} (R : Rel b μ0 E ρ μ) (s1 : Bs b μ μ1) (hcn : ∀ s H C cl fp, ST b (Blk X scope s H C cl fp) c fb) (he : ∀ s H C cl fp, SE b (Blk X scope s H C cl fp) elt fx) (hz : xs.length ≤ 50000)
    (q : (pickT (fun x => (liftO (putE t x (wipeE E vs))).bind fun E' => (fb E').bind fun k => match k with | true => (fx E').bind fun y => .ret (some y) | false => .ret none) xs).All fun ys => ∀ μ', Bs b μ μ' → done (ys.map .im) μ') : LcD X scope [c] elt t vs ρ ⟨xs.map .im, fun _ => True⟩ μ1 done := by
  refine ⟨fun i acc μ' => Bs b μ μ' ∧ ∃ ds : List PyData, acc = ds.map .im ∧ (pickT (fun x => (liftO (putE t x (wipeE E vs))).bind fun E' => (fb E').bind fun k => match k with | true => (fx E').bind fun y => .ret (some y) | false => .ret none) (xs.drop i)).All fun ys => ∀ μ'', Bs b μ μ'' → done ((ds ++ ys).map .im) μ'', by simpa using hz, ⟨s1, [], rfl, q⟩, fun _ _ _ _ _ _ => trivial, fun acc μ' ⟨s, ds, ha, h⟩ => ?_, fun i acc μ' o ho ⟨s, ds, ha, h⟩ => ?_⟩
  · rw [List.drop_eq_nil_of_le (by simp)] at h
    have := h μ' s
    rw [List.append_nil] at this
    rw [ha]
    exact this
  · dsimp only at ho
    rw [List.getElem?_map] at ho
    cases hx : xs[i]? with
    | none =>
      rw [hx] at ho
      cases ho
    | some x =>
      rw [hx] at ho
      cases ho
      obtain ⟨hi, rfl⟩ := List.getElem?_eq_some_iff.mp hx
      rw [List.drop_eq_getElem_cons hi, pickT] at h
      obtain ⟨E', hE, h⟩ := lift_all (all_bind.mp (all_bind.mp h))
      obtain ⟨ρ', hp, _⟩ := ((R.step s).wipes vs).putT hE
      refine ⟨ρ', hp, fun Dl hD => ?_⟩
      have s2 : Bs b μ (μ'.put Dl acc) := s.trans (Bs.put hD)
      obtain ⟨ρ2, hp2, R2⟩ := ((R.step s2).wipes vs).putT hE
      rw [hp] at hp2
      cases hp2
      have nb : Dl ≠ b := fun z => by
        obtain ⟨u, q, t, e⟩ := (R.step s).bxs
        rw [z, e] at hD
        cases hD
      have nD : μ Dl = none := by
        cases z : μ Dl with
        | none => rfl
        | some l =>
          rw [s.old Dl l nb z] at hD
          cases hD
      show ∀ s' H C cl fp, DT _ _ _ _ _
      intro s' H C cl fp
      refine (hcn s' H C cl fp).run μ0 E' ρ' _ _ R2 ((all_bind.mp h).imp fun k h μ3 s3 => ?_)
      cases k with
      | true =>
        rw [if_pos rfl]
        intro s' H C cl fp
        refine (he s' H C cl fp).run μ0 E' ρ' _ _ (R2.step s3) ((all_bind.mp h).imp fun y h μ4 s4 => ?_)
        obtain ⟨pb1, pb2⟩ := put_back ((s3.trans s4).old Dl acc nb put_same)
        refine ⟨μ4.del Dl, pb1, pb2, (s2.trans (s3.trans s4)).del nD nb, ds ++ [y], by rw [ha, List.map_append]; rfl, (all_bind.mp h).imp fun ys h => ?_⟩
        rw [List.append_assoc]
        exact h
      | false =>
        rw [if_neg (by decide)]
        obtain ⟨pb1, pb2⟩ := put_back (s3.old Dl acc nb put_same)
        exact ⟨μ3.del Dl, pb1, pb2, (s2.trans s3).del nD nb, ds, ha, (all_bind.mp h).imp fun ys h => h⟩
end
end Nx
namespace Nx
open PySem PySem.Spec PyProof.Rows L2
open Tree
section
variable {b : Addr} {X : Cx} {e x y z tg iter elt c : Expr} {es : List Expr} {f fx fy fz : DenE} {fs fi : DenL} {fb : DenB} {pos p : Pos} {st : Stmt} {ss : List Stmt} {g h : DenS} {scope : Scope}
theorem ss_nil : SSs b X [] s0 := .mk fun μ0 E ρ μ D R q => dss_nil (q ρ μ R)
theorem ss_one (hs : SS b X st g) : SSs b X [st] g := .mk fun μ0 E ρ μ D R q => dss_one (hs.run μ0 E ρ μ D R q)
theorem ss_cons (hs : SS b X st g) (ht : SSs b X ss h) : SSs b X (st :: ss) (sC g h) := .mk fun μ0 E ρ μ D R q =>
  dss_cons (hs.run μ0 E ρ μ _ R ((all_bind.mp q).imp fun o q => by
    cases o with
    | nx E' => exact fun ρ' μ' R' => ht.run μ0 E' ρ' μ' D R' q
    | rt v => exact q
    | bk E' => exact q
    | ct E' => exact q))
theorem ss_frz (i : Nat) (ht : SSs b X ss h) : SSs b X ss (sFrz i h) := .mk fun μ0 E ρ μ D R q => by
  unfold sFrz frzE at q
  split at q
  · rename_i l hl
    obtain ⟨o, h1, p, rfl, _, _, hp⟩ := R.get i _ hl
    exact dss_frz h1 hp (ht.run μ0 _ _ _ D (R.frz hl h1) q)
  · exact ht.run μ0 E ρ μ D R q
theorem ss_ret (hx : SE b X x fx) : SS b X (.Return (some x) pos) (sRet fx) := .mk fun μ0 E ρ μ D R q =>
  ds_ret (hx.run μ0 E ρ μ _ R ((all_bind.mp q).imp fun d q μ1 s1 => q μ1 (R.ext.trans s1)))
theorem ss_if {s1 s2 : List Stmt} (hc : ST b X c fb) (h1 : SSs b X s1 g) (h2 : SSs b X s2 h) : SS b X (.If c s1 s2 pos) (sIf fb g h) := .mk fun μ0 E ρ μ D R q =>
  ds_if (hc.run μ0 E ρ μ _ R ((all_bind.mp q).imp fun k q μ1 s1 => by
    cases k with
    | true =>
      rw [if_pos rfl]
      exact h1.run μ0 E ρ μ1 D (R.step s1) q
    | false =>
      rw [if_neg (by decide)]
      exact h2.run μ0 E ρ μ1 D (R.step s1) q))
theorem ss_set (i : Nat) {n : Str} {p' : Pos} (hN : X.N.Nodup) (hi : X.N[i]? = some n) (hl : Loc X.env.scope n) (hx : SE b X x fx) (hs : swapsWith x (some (.Name n p')) pos.line X.env = pure false := by rfl)
    (hf : X.fn n = true ∨ X.env.scope.names.lookup n = some .local := by first | exact .inl rfl | exact .inr rfl | assumption) : SS b X (.Assign [.Name n p'] x pos) (sSet i fx) := .mk fun μ0 E ρ μ D R q =>
  ds_set i hN hi hl (hx.run μ0 E ρ μ _ R ((all_bind.mp q).imp fun d q μ1 s1 => q _ μ1 ((R.step s1).setD i d))) hs hf
theorem ss_asg (t : Tgt) (hg : PG X tg (TgtG X.K t)) (hx : SE b X x fx) (hs : swapsWithSole [tg] x pos.line X.env = pure false := by rfl) (hw : swappedStores [tg] x X.env = pure none := by rfl)
    (h1 : (assignEach [tg] X.env).map (·.2) = [assign tg X.env] := by rfl) : SS b X (.Assign [tg] x pos) (sAsg t fx) := .mk fun μ0 E ρ μ D R q =>
  ds_asg t hg (hx.run μ0 E ρ μ _ R ((all_bind.mp q).imp fun d q μ1 s1 => by
    obtain ⟨E', hE, q⟩ := lift_all (all_bind.mp q)
    obtain ⟨ρ', hp, R'⟩ := (R.step s1).putT hE
    exact ⟨ρ', hp, q ρ' μ1 R'⟩)) hs hw h1
theorem lC_all {fx : DenE} {fs : DenL} {E : Env} {Q : List PyData → Prop} (h : (lC fx fs E).All Q) : (fx E).All fun d => (fs E).All fun ds => Q (d :: ds) := (all_bind.mp h).imp fun d q => (all_bind.mp q).imp fun ds q => q
theorem lC_mk {fx : DenE} {fs : DenL} {E : Env} {Q : List PyData → Prop} (h : (fx E).All fun d => (fs E).All fun ds => Q (d :: ds)) : (lC fx fs E).All Q := all_bind.mpr (h.imp fun d q => all_bind.mpr (q.imp fun ds q => q))
theorem ss_par (i j : Nat) {n m : Str} {px py pt : Pos} {kt k2 pt2} (hc : X.calm = true) (hN : X.N.Nodup) (hi : X.N[i]? = some n) (hj : X.N[j]? = some m) (hij : i ≠ j)
    (hx : X.env.scope.names.lookup n = some .local) (hy : X.env.scope.names.lookup m = some .local) (hw : swappedStores [.Tuple [.Name n px, .Name m py] kt pt] (.Tuple [x, y] k2 pt2) X.env = pure (some [n, m]))
    (ha : SD b X [x, y] (lC fx (lC fy l0)))
    (hs : swapsWithSole [.Tuple [.Name n px, .Name m py] kt pt] (.Tuple [x, y] k2 pt2) pos.line X.env = pure false := by rfl) : SS b X (.Assign [.Tuple [.Name n px, .Name m py] kt pt] (.Tuple [x, y] k2 pt2) pos) (sPar [i, j] (lC fx (lC fy l0))) := .mk fun μ0 E ρ μ D R q =>
  ds_par i j hc hN hi hj hij hx hy hw (ha.run μ0 E ρ μ _ R (by
    have q := lC_all (all_bind.mp q)
    refine lC_mk (q.imp fun d q => lC_mk ((lC_all q).imp fun d' q => fun μ1 s1 => ?_))
    exact ⟨_, _, rfl, q _ μ1 (((R.step s1).setD i d).setD j d')⟩)) hs
theorem ss_for {body : List Stmt} (t : Tgt) (hp : PassesOwn (model X.prog X.w) X.A X.env X.xe) (hc : X.calm = true) (hg : PG X tg (TgtG X.K t)) (hi : SI b X tg iter fi) (hb : SSs b X body g)
    (hs : ∀ x, foldedSetIterable iter X.env x = pure x := by intro _; rfl) : SS b X (.For tg iter body [] pos) (sFor t fi g) := .mk fun μ0 E ρ μ D R q =>
  ds_for t hp hc hg (hi.run μ0 E ρ μ _ R ((all_bind.mp q).imp fun xs q μ1 s1 => by
    refine ⟨fun i ρ' μ' => ∃ E', Rel b μ0 E' ρ' μ' ∧ (forT t g (xs.drop i) E').All (OutOk b μ0 D), ⟨E, R.step s1, q⟩, fun _ _ _ _ => trivial, fun i z ρ' μ' hz hP => ?_, fun ρ' μ' hP => ?_⟩
    · obtain ⟨E', R', q⟩ := hP
      dsimp only at hz
      rw [List.getElem?_map] at hz
      cases hx : xs[i]? with
      | none =>
        rw [hx] at hz
        cases hz
      | some x =>
        rw [hx] at hz
        cases hz
        obtain ⟨hi, rfl⟩ := List.getElem?_eq_some_iff.mp hx
        rw [List.drop_eq_getElem_cons hi, forT] at q
        obtain ⟨E2, hE, q⟩ := lift_all (all_bind.mp q)
        obtain ⟨ρ2, hp2, R2⟩ := R'.putT hE
        refine ⟨ρ2, hp2, hb.run μ0 E2 ρ2 μ' _ R2 ((all_bind.mp q).imp fun o q => ?_)⟩
        cases o with
        | nx E3 => exact fun ρ3 μ3 R3 => ⟨E3, R3, q⟩
        | ct E3 => exact fun ρ3 μ3 R3 => ⟨E3, R3, q⟩
        | bk E3 => exact fun ρ3 μ3 R3 => q ρ3 μ3 R3
        | rt v => exact q
    · obtain ⟨E', R', q⟩ := hP
      dsimp only at q
      rw [List.length_map, List.drop_length] at q
      exact q ρ' μ' R')) hs
theorem ss_wh {body : List Stmt} (n : Nat) (hp : PassesOwn (model X.prog X.w) X.A X.env X.xe) (hc : ST b X c fb) (hb : SSs b X body g) : SS b X (.While c body [] pos) (sWh n fb g) := .mk fun μ0 E ρ μ D R q =>
  ds_while hp (fun n ρ' μ' => ∃ E', Rel b μ0 E' ρ' μ' ∧ (whT fb g n E').All (OutOk b μ0 D)) n ⟨E, R, q⟩ fun n ρ' μ' hP => by
    obtain ⟨E', R', q⟩ := hP
    cases n with
    | zero => exact q.elim
    | succ n =>
      refine hc.run μ0 E' ρ' μ' _ R' ((all_bind.mp q).imp fun k q μ1 s1 => ?_)
      cases k with
      | false =>
        rw [if_neg (by decide)]
        exact q ρ' μ1 (R'.step s1)
      | true =>
        rw [if_pos rfl]
        refine hb.run μ0 E' ρ' μ1 _ (R'.step s1) ((all_bind.mp q).imp fun o q => ?_)
        cases o with
        | nx E3 => exact fun ρ3 μ3 R3 => ⟨n, by omega, E3, R3, q⟩
        | ct E3 => exact fun ρ3 μ3 R3 => ⟨n, by omega, E3, R3, q⟩
        | bk E3 => exact fun ρ3 μ3 R3 => q ρ3 μ3 R3
        | rt v => exact q
theorem ss_setLc {own : List (Str × Nat)} (t : Tgt) (i : Nat) {n : Str} {py spos : Pos} (hc : X.calm = true) (hN : X.N.Nodup) (hy : X.N[i]? = some n) (hyl : X.env.scope.names.lookup n = some .local)
    (hsw : swapsWith (.ListComp elt [⟨tg, iter, [], 0⟩] scope pos) (some (.Name n py)) spos.line X.env = pure true) (ok : BlkOk X.N X.env.scope scope own) (hs : ∀ i ∈ t.slots, i ∈ own.map (·.2))
    (hg : ∀ s H C cl fp, PG (Blk X scope s H C cl fp) tg (TgtG X.K t)) (hi : SI b X tg iter fi) (he : ∀ s H C cl fp, SE b (Blk X scope s H C cl fp) elt fx)
    (hf : ∀ x, foldedSetIterable iter X.env x = pure x := by intro _; rfl) : SS b X (.Assign [.Name n py] (.ListComp elt [⟨tg, iter, [], 0⟩] scope pos) spos) (sSet i (dLc t (own.map (·.2)) fi fx)) := .mk fun μ0 E ρ μ D R h =>
  ds_setLc t i hc hN hy hyl hsw ok hs hg (hi.run μ0 E ρ μ _ R ((all_bind.mp (all_bind.mp h)).imp fun xs q μ1 s1 => by
    obtain ⟨hz, q⟩ := few_le (all_bind.mp q)
    exact lc_sound R s1 he hz ((all_bind.mp q).imp fun ys q μ' s => ⟨ys, rfl, q _ μ' ((R.step s).setD i _)⟩))) hf
theorem ss_setLf {own : List (Str × Nat)} (t : Tgt) (i : Nat) {n : Str} {py spos : Pos} (hc : X.calm = true) (hN : X.N.Nodup) (hy : X.N[i]? = some n) (hyl : X.env.scope.names.lookup n = some .local)
    (hsw : swapsWith (.ListComp elt [⟨tg, iter, [c], 0⟩] scope pos) (some (.Name n py)) spos.line X.env = pure true) (ok : BlkOk X.N X.env.scope scope own) (hs : ∀ i ∈ t.slots, i ∈ own.map (·.2))
    (hg : ∀ s H C cl fp, PG (Blk X scope s H C cl fp) tg (TgtG X.K t)) (hi : SI b X tg iter fi) (hcn : ∀ s H C cl fp, ST b (Blk X scope s H C cl fp) c fb) (he : ∀ s H C cl fp, SE b (Blk X scope s H C cl fp) elt fx)
    (hf : ∀ x, foldedSetIterable iter X.env x = pure x := by intro _; rfl) : SS b X (.Assign [.Name n py] (.ListComp elt [⟨tg, iter, [c], 0⟩] scope pos) spos) (sSet i (dLf t (own.map (·.2)) fi fb fx)) := .mk fun μ0 E ρ μ D R h =>
  ds_setLc t i hc hN hy hyl hsw ok hs hg (hi.run μ0 E ρ μ _ R ((all_bind.mp (all_bind.mp h)).imp fun xs q μ1 s1 => by
    obtain ⟨hz, q⟩ := few_le (all_bind.mp q)
    exact lf_sound R s1 hcn he hz ((all_bind.mp q).imp fun ys q μ' s => ⟨ys, rfl, q _ μ' ((R.step s).setD i _)⟩))) hf
structure SO (b : Addr) (X : Cx) (e : Expr) (f : DenE) : Prop where
  run : ∀ μ0 E ρ μ Φ, Rel b μ0 E ρ μ → (f E).All (fun d => ∃ ds, d = .list ds ∧ ∀ μ' p, Bs b μ μ' → μ' p = none → Φ (.own p) (μ'.put p (ds.map .im))) → DE X e ρ μ Φ
theorem so_lst (h : SD b X es fs) : SO b X (.List es pos) (dL fs) := .mk fun μ0 E ρ μ Φ R q =>
  de_lstO (h.run μ0 E ρ μ _ R ((all_bind.mp q).imp fun ds q μ1 s1 => by
    obtain ⟨hz, xs, e, q⟩ := small_le (all_bind.mp q)
    cases e
    exact ⟨by rw [List.length_map]; exact hz, fun p hp => q μ1 p s1 hp⟩))
theorem ss_own (i : Nat) {n : Str} {p' : Pos} (hN : X.N.Nodup) (hi : X.N[i]? = some n) (hl : Loc X.env.scope n) (hx : SO b X x fx) (hs : swapsWith x (some (.Name n p')) pos.line X.env = pure false := by rfl)
    (hf : X.fn n = true ∨ X.env.scope.names.lookup n = some .local := by first | exact .inl rfl | exact .inr rfl | assumption) : SS b X (.Assign [.Name n p'] x pos) (sOwn i fx) := .mk fun μ0 E ρ μ D R q =>
  ds_set i hN hi hl (hx.run μ0 E ρ μ _ R ((all_bind.mp q).imp fun d q => by
    cases d with
    | list xs => exact ⟨xs, rfl, fun μ' p s hp => q _ _ ((R.step s).setO i hp)⟩
    | _ => exact q.elim)) hs hf
theorem ss_app (i : Nat) {n : Str} {np apos cpos : Pos} (hN : X.N[i]? = some n) (hv : Vis X.env.scope n) (hx : SE b X x fx) (hd : (n == ("__debug__" : Str)) = false := by decide) (hcd : (n == ("__classdict__" : Str)) = false := by decide)
    (hbase : attributeBase (.Name n np) "append" X.env (eval (.Name n np) X.env) = eval (.Name n np) X.env := by rfl)
    (hfew : ((backTo cpos (starEach [x] X.env)).all (fun x => !x.1) && (backToKw cpos (keywordEach [] X.env)).all (fun x => x.1.isSome) && decide ([x].length + ([] : List Keyword).length + (if ([] : List Keyword).isEmpty then 0 else 1) < 30)) = true := by rfl)
    (hline : (apos.endLine == cpos.line) = true := by rfl) (hst : starEach [x] X.env = (false, eval x X.env) :: starEach [] X.env := by rfl) (hplain : (backTo cpos (starEach [] X.env)).any (·.1) = false := by rfl)
    (hs : swapsWith (.Call (.Attribute (.Name n np) "append" apos) [x] [] cpos) none pos.line X.env = pure false := by rfl) : SS b X (.Expr (.Call (.Attribute (.Name n np) "append" apos) [x] [] cpos) pos) (sApp i fx) := .mk fun μ0 E ρ μ D R q => by
  unfold sApp at q
  split at q
  · rename_i l hl
    obtain ⟨o, h1, p, rfl, nb, h0, hp⟩ := R.get i _ hl
    refine ds_expr (de_append (de_var i hN hv h1 ⟨p, _, rfl, hp, hx.run μ0 E ρ μ _ R ((all_bind.mp q).imp fun y q μ2 s2 => ?_)⟩ hd hcd) hbase hfew hline hst hplain) hs
    obtain ⟨hz, q⟩ := small_le (all_bind.mp q)
    refine ⟨_, s2.old p _ nb hp, by rw [List.length_map]; omega, ?_⟩
    have := q ρ _ ((R.step s2).chg (es := l ++ [y]) hl h1)
    rw [List.map_append] at this
    exact this
  · exact q.elim
end
end Nx
namespace Nx
open PySem PySem.Spec PyProof.Rows L2
open Tree
instance {i j : Int} : Decidable (CMul i j) := by unfold CMul; infer_instance
instance {i j : Int} : Decidable (CDiv i j) := by unfold CDiv; infer_instance
instance {i j : Int} : Decidable (CPow i j) := by unfold CPow; infer_instance
def pAdd : PyData → PyData → Option PyData
  | .int i, .int j => some (.int (i + j))
  | .list xs, .list ys => if xs.length + ys.length ≤ 100000 then some (.list (xs ++ ys)) else none
  | .tuple xs, .tuple ys => if xs.length + ys.length ≤ 100000 then some (.tuple (xs ++ ys)) else none
  | .str x, .str y => if x.length + y.length ≤ 100000 then some (.str (x ++ y)) else none
  | _, _ => none
def pSub : PyData → PyData → Option PyData
  | .int i, .int j => some (.int (i - j))
  | _, _ => none
def pMod : PyData → PyData → Option PyData
  | .int i, .int j => if 0 < j then some (.int (i % j)) else none
  | _, _ => none
def pDiv : PyData → PyData → Option PyData
  | .int i, .int j => if CDiv i j then some (.int (i / j)) else none
  | _, _ => none
def pMul : PyData → PyData → Option PyData
  | .int i, .int j => if CMul i j then some (.int (i * j)) else none
  | .list xs, .int k => if -100000 ≤ k ∧ k ≤ 100000 ∧ xs.length * k.toNat ≤ 100000 then some (.list (List.replicate k.toNat xs).flatten) else none
  | .tuple xs, .int k => if xs ≠ [] ∧ 2 ≤ k ∧ k ≤ 1000 ∧ xs.length ≤ 1000 then some (.tuple (List.replicate k.toNat xs).flatten) else none
  | _, _ => none
def pPow : PyData → PyData → Option PyData
  | .int i, .int j => if CPow i j then some (.int (i ^ j.toNat)) else none
  | _, _ => none
def pNeg : PyData → Option PyData
  | .int i => some (.int (-i))
  | _ => none
section
variable {b : Addr} {X : Cx} {e x y z : Expr} {es : List Expr} {f fx fy fz : DenE} {fs fi : DenL} {fb : DenB} {pos p : Pos}
theorem od_catT {xs ys : List PyData} {μ : Mu} {Φ : OV → Mu → Prop} (hz : xs.length + ys.length ≤ 100000) (h : Φ (.im (.tuple (xs ++ ys))) μ) : OpD (rCatA X.K) (.im (.tuple xs)) (.im (.tuple ys)) μ Φ := fun G H vx vy m rx ry Q f => by
  cases rx with
  | tup h1 w1 =>
    cases ry with
    | tup h2 w2 =>
      refine ⟨_, _, _, _, rfl, rfl, (h1.mono m.ex).sq, (h2.mono m.ex).sq, by rw [w1.length, w2.length]; exact Nat.le_trans hz (by decide), fun e => ?_, fun _ e => ?_, fun _ _ p hp => ?_⟩
      · subst e
        cases w1
        exact f _ _ _ _ _ h (Ex.refl G) m (Dv.tup h2 w2)
      · subst e
        cases w2
        rw [List.append_nil] at h
        exact f _ _ _ _ _ h (Ex.refl G) m (Dv.tup h1 w1)
      · have n := m.ex.free hp
        exact f _ _ _ _ _ h (Ex.new n) (m.lay hp) (Dv.tup (.inl upd_same) ((w1.append w2).mono (Ex.new n)))
theorem se_add (hx : SE b X x fx) (hy : SE b X y fy) : SE b X (.BinOp x .Add y pos) (d2 pAdd fx fy) := by
  refine se_op (((op_add.or op_cat).or op_add_str).or op_catA) (fun d d' v μ Φ hg q => ?_) hx hy
  unfold pAdd at hg
  split at hg
  · cases hg
    exact .or (.inl (.or (.inl (.or (.inl (od_I0 q))))))
  · split at hg
    · rename_i hz
      cases hg
      exact .or (.inl (.or (.inl (.or (.inr (od_cat hz q))))))
    · cases hg
  · split at hg
    · rename_i hz
      cases hg
      exact .or (.inr (od_catT hz q))
    · cases hg
  · split at hg
    · rename_i hz
      cases hg
      refine .or (.inl (.or (.inr fun G H vx vy m rx ry Q f => ?_)))
      cases rx
      cases ry
      exact ⟨_, _, rfl, rfl, Nat.le_trans hz (by decide), f _ _ _ _ _ q (Ex.refl G) m (Dv.str _)⟩
    · cases hg
  · cases hg
theorem se_sub (hx : SE b X x fx) (hy : SE b X y fy) : SE b X (.BinOp x .Sub y pos) (d2 pSub fx fy) := by
  refine se_op op_sub (fun d d' v μ Φ hg q => ?_) hx hy
  unfold pSub at hg
  split at hg
  · cases hg
    exact od_I0 q
  · cases hg
theorem se_mod (hx : SE b X x fx) (hy : SE b X y fy) : SE b X (.BinOp x .Mod y pos) (d2 pMod fx fy) := by
  refine se_op op_mod (fun d d' v μ Φ hg q => ?_) hx hy
  unfold pMod at hg
  split at hg
  · split at hg
    · rename_i hj
      cases hg
      exact od_I hj q
    · cases hg
  · cases hg
theorem se_div (hx : SE b X x fx) (hy : SE b X y fy) : SE b X (.BinOp x .FloorDiv y pos) (d2 pDiv fx fy) := by
  refine se_op op_fdiv (fun d d' v μ Φ hg q => ?_) hx hy
  unfold pDiv at hg
  split at hg
  · split at hg
    · rename_i hj
      cases hg
      exact od_I hj q
    · cases hg
  · cases hg
theorem se_pow (hx : SE b X x fx) (hy : SE b X y fy) : SE b X (.BinOp x .Pow y pos) (d2 pPow fx fy) := by
  refine se_op op_pow (fun d d' v μ Φ hg q => ?_) hx hy
  unfold pPow at hg
  split at hg
  · split at hg
    · rename_i hj
      cases hg
      exact od_I hj q
    · cases hg
  · cases hg
theorem rep_dv {G : Hp} {ds : List PyData} : ∀ (n : Nat) {xs : List V}, DvA G xs ds → DvA G (List.replicate n xs).flatten (List.replicate n ds).flatten := by
  intro n xs w
  induction n with
  | zero => exact .nil
  | succ n ih =>
    rw [List.replicate_succ, List.replicate_succ, List.flatten_cons, List.flatten_cons]
    exact w.append ih
theorem se_mul (hx : SE b X x fx) (hy : SE b X y fy) : SE b X (.BinOp x .Mult y pos) (d2 pMul fx fy) := by
  refine se_op ((op_mul.or op_rep).or op_repT) (fun d d' v μ Φ hg q => ?_) hx hy
  unfold pMul at hg
  split at hg
  · split at hg
    · rename_i hj
      cases hg
      exact .or (.inl (.or (.inl (od_I hj q))))
    · cases hg
  · split at hg
    · rename_i hj
      cases hg
      refine .or (.inl (.or (.inr fun G H vx vy m rx ry Q f => ?_)))
      cases ry
      cases rx with
      | lst h1 w1 =>
        refine ⟨_, _, _, rfl, rfl, m.ex _ _ h1, by omega, by omega, by rw [w1.length]; exact Nat.le_trans hj.2.2 (by decide), fun p hp => ?_⟩
        have n := m.ex.free hp
        exact f _ _ _ _ _ q (Ex.new n) (m.lay hp) (Dv.lst upd_same ((rep_dv _ w1).mono (Ex.new n)))
    · cases hg
  · split at hg
    · rename_i hj
      cases hg
      refine .or (.inr fun G H vx vy m rx ry Q f => ?_)
      cases ry
      cases rx with
      | tup h1 w1 =>
        refine ⟨_, _, _, rfl, rfl, (h1.mono m.ex).sq, fun e => hj.1 (by have := w1.length; rw [e] at this; exact List.length_eq_zero_iff.mp this.symm), hj.2.1, hj.2.2.1, by rw [w1.length]; exact hj.2.2.2, fun p hp => ?_⟩
        have n := m.ex.free hp
        exact f _ _ _ _ _ q (Ex.new n) (m.lay hp) (Dv.tup (.inl upd_same) ((rep_dv _ w1).mono (Ex.new n)))
    · cases hg
  · cases hg
theorem se_neg (hx : SE b X x fx) : SE b X (.UnaryOp .USub x pos) (d1 pNeg fx) := se_1 hx fun ρ μ Φ h => de_neg (h.imp fun u μ1 ⟨d, r, e1, hr, q⟩ => by
  subst e1
  cases d <;> cases hr
  exact ⟨_, rfl, q⟩)
def cI (g : Int → Int → Bool) : PyData → PyData → Option Bool
  | .int i, .int j => some (g i j)
  | _, _ => none
theorem okI {g : Int → Int → Bool} : OkCmp (rI0 fun i j => .bl (g i j)) (cI g) := fun d d' v μ Φ hg q => by
  unfold cI at hg
  split at hg
  · cases hg
    exact od_B0 q
  · cases hg
def pEq (d e : PyData) : Option Bool := match d, e with
  | .int i, .int j => some (decide (i = j))
  | .str i, .str j => some (decide (i = j))
  | d, e => if SeqAt.shaped d && SeqAt.shaped e then some (PyData.eqv d e) else none
def pNe (d e : PyData) : Option Bool := match pEq d e with
  | some k => some !k
  | none => none
theorem ok_eq : OkCmp (fun x y H Q => (rI0 (fun i j => .bl (decide (i = j))) x y H Q ∨ rEqD X.K x y H Q) ∨ rEq x y H Q) pEq := fun d d' v μ Φ hg q => by
  unfold pEq at hg
  split at hg
  · cases hg
    exact .or (.inl (.or (.inl (od_B0 q))))
  · cases hg
    exact .or (.inr (od_eqS q))
  · split at hg
    · rename_i hs
      cases hg
      obtain ⟨h1, h2⟩ := Bool.and_eq_true_iff.mp hs
      exact .or (.inl (.or (.inr (od_eq (.im _) (.im _) h1 h2 q))))
    · cases hg
theorem ok_ne : OkCmp (fun x y H Q => (rI0 (fun i j => .bl (!decide (i = j))) x y H Q ∨ rNeD X.K x y H Q) ∨ rNe x y H Q) pNe := fun d d' v μ Φ hg q => by
  unfold pNe at hg
  split at hg
  · rename_i k hk
    cases hg
    unfold pEq at hk
    split at hk
    · cases hk
      exact .or (.inl (.or (.inl (od_B0 q))))
    · cases hk
      exact .or (.inr (od_neS q))
    · split at hk
      · rename_i hs
        cases hk
        obtain ⟨h1, h2⟩ := Bool.and_eq_true_iff.mp hs
        exact .or (.inl (.or (.inr (od_ne (.im _) (.im _) h1 h2 q))))
      · cases hk
  · cases hg
def asI : List PyData → Option (List Int)
  | [] => some []
  | .int i :: ds => match asI ds with
    | some is => some (i :: is)
    | none => none
  | _ :: _ => none
theorem asI_some : ∀ {ds : List PyData} {is : List Int}, asI ds = some is → ds = iL is
  | [], _, h => by cases h; rfl
  | .int i :: ds, is, h => by
    rw [asI] at h
    split at h
    · rename_i js hj
      cases h
      rw [asI_some hj]
      rfl
    · cases h
  | .none :: _, _, h => by cases h
  | .bool _ :: _, _, h => by cases h
  | .str _ :: _, _, h => by cases h
  | .list _ :: _, _, h => by cases h
  | .tuple _ :: _, _, h => by cases h
  | .dict _ :: _, _, h => by cases h
theorem asI_iL : ∀ is : List Int, asI (iL is) = some is
  | [] => rfl
  | i :: is => by
    show (match asI (iL is) with | some is => some (i :: is) | none => none) = _
    rw [asI_iL is]
def pIsN (d : PyData) : Option PyData := some (.bool (match d with | .none => true | _ => false))
def pNotN (d : PyData) : Option PyData := some (.bool (match d with | .none => false | _ => true))
theorem isNon_im (d : PyData) : isNon (.im d) = (match d with | .none => true | _ => false) := by cases d <;> rfl
theorem se_isN {j : Nat} {p' : Pos} (hx : SE b X x fx) : SE b X (.Compare x [.Is] [.Constant .none j p'] pos) (d1 pIsN fx) := se_1 hx fun ρ μ Φ h => de_isN (h.imp fun u μ1 ⟨d, r, e1, hr, q⟩ => by
  subst e1
  cases hr
  rw [isNon_im]
  exact q)
def t1 (g : PyData → Option Bool) (f : DenE) : DenB := fun E => (f E).bind fun x => liftO (g x)
def qIsN (d : PyData) : Option Bool := some (match d with | .none => true | _ => false)
def qNotN (d : PyData) : Option Bool := some (match d with | .none => false | _ => true)
theorem st_notN {j : Nat} {p' : Pos} (hx : SE b X x fx) : ST b X (.Compare x [.IsNot] [.Constant .none j p'] pos) (t1 qNotN fx) := .mk fun μ0 E ρ μ Φ R h =>
  dt_notN (hx.run μ0 E ρ μ _ R ((all_bind.mp h).imp fun d q μ1 s1 => by
    rw [isNon_im]
    cases d <;> exact q μ1 s1))
def dCh (p p' : Int → Int → Bool) (f g h : DenE) : DenE := fun E => (f E).bind fun x => (g E).bind fun y => match x, y with
  | .int i, .int j => (match p i j with
    | true => (h E).bind fun z => match z with | .int k => .ret (.bool (p' j k)) | _ => .fail
    | false => .ret (.bool false))
  | _, _ => .fail
theorem se_chain {op op' : CmpOp} {p p' : Int → Int → Bool} (ho : OpR X (compareOp op) (rI0 fun i j => .bl (p i j))) (ho' : OpR X (compareOp op') (rI0 fun i j => .bl (p' i j))) (hx : SE b X x fx) (hy : SE b X y fy) (hz : SE b X z fz)
    (hm : lastMarks [op, op'] [y, z] = false := by with_unfolding_all rfl) : SE b X (.Compare x [op, op'] [y, z] pos) (dCh p p' fx fy fz) := .mk fun μ0 E ρ μ Φ R h =>
  de_chain ho ho' (hx.run μ0 E ρ μ _ R ((all_bind.mp h).imp fun d q μ1 s1 => hy.run μ0 E ρ μ1 _ (R.step s1) ((all_bind.mp q).imp fun d' q μ2 s2 => by
    split at q
    · refine ⟨_, _, rfl, rfl, ?_⟩
      split at q
      · rename_i hp
        rw [if_pos hp]
        refine hz.run μ0 E ρ μ2 _ ((R.step s1).step s2) ((all_bind.mp q).imp fun d3 q μ3 s3 => ?_)
        split at q
        · exact ⟨_, rfl, q μ3 ((s1.trans s2).trans s3)⟩
        · exact q.elim
      · rename_i hp
        rw [if_neg (by rw [hp]; decide)]
        exact q μ2 (s1.trans s2)
    · exact q.elim))) hm
end
end Nx
namespace Nx
open PySem PySem.Spec PyProof.Rows L2
open Tree
def pLen (d : PyData) : Option PyData := match items d with | some xs => some (.int (xs.length : Nat)) | none => none
def pList (d : PyData) : Option PyData := match items d with | some xs => some (.list xs) | none => none
def pTup (d : PyData) : Option PyData := match items d with | some xs => some (.tuple xs) | none => none
def ins (i : Int) : List Int → List Int
  | [] => [i]
  | j :: js => if i ≤ j then i :: j :: js else j :: ins i js
def isrt : List Int → List Int
  | [] => []
  | i :: is => ins i (isrt is)
theorem ins_perm (i : Int) : ∀ js : List Int, (ins i js).Perm (i :: js)
  | [] => List.Perm.refl _
  | j :: js => by
    rw [ins]
    split
    · exact List.Perm.refl _
    · exact ((ins_perm i js).cons j).trans (List.Perm.swap i j js)
theorem ins_pw (i : Int) : ∀ {js : List Int}, js.Pairwise (· ≤ ·) → (ins i js).Pairwise (· ≤ ·)
  | [], _ => by simp [ins]
  | j :: js, h => by
    obtain ⟨h1, h2⟩ := List.pairwise_cons.mp h
    rw [ins]
    split
    · rename_i hij
      exact List.pairwise_cons.mpr ⟨fun x hx => by
        rcases List.mem_cons.mp hx with rfl | hx
        · exact hij
        · exact Int.le_trans hij (h1 x hx), h⟩
    · rename_i hij
      refine List.pairwise_cons.mpr ⟨fun x hx => ?_, ins_pw i h2⟩
      rcases List.mem_cons.mp ((ins_perm i js).mem_iff.mp hx) with rfl | hx
      · omega
      · exact h1 x hx
theorem isrt_perm : ∀ is : List Int, (isrt is).Perm is
  | [] => List.Perm.refl _
  | i :: is => (ins_perm i (isrt is)).trans ((isrt_perm is).cons i)
theorem isrt_pw : ∀ is : List Int, (isrt is).Pairwise (· ≤ ·)
  | [] => .nil
  | i :: is => ins_pw i (isrt_pw is)
theorem isrt_eq (is : List Int) : isrt is = srt is := srt_eq (isrt_perm is) (isrt_pw is)
def onI (g : List Int → Option PyData) : PyData → Option PyData
  | .list ds => match asI ds with | some ns => g ns | none => none
  | _ => none
theorem onI_some {g : List Int → Option PyData} {d r : PyData} (h : onI g d = some r) : ∃ ns, d = .list (iL ns) ∧ g ns = some r := by
  unfold onI at h
  split at h
  · split at h
    · rename_i ns hs
      exact ⟨ns, by rw [asI_some hs], h⟩
    · cases h
  · cases h
def pSrt : PyData → Option PyData := onI fun ns => some (.list (iL (isrt ns)))
def sumI : List Int → Int
  | [] => 0
  | i :: is => i + sumI is
theorem sumI_eq : ∀ is : List Int, sumI is = is.sum
  | [] => rfl
  | i :: is => by rw [sumI, sumI_eq is, List.sum_cons]
def pSum : PyData → Option PyData := onI fun ns => some (.int (sumI ns))
def maxI : Int → List Int → Int
  | m, [] => m
  | m, i :: is => maxI (if m < i then i else m) is
theorem maxI_mem : ∀ (is : List Int) (m : Int), maxI m is ∈ m :: is
  | [], m => List.mem_singleton.mpr rfl
  | i :: is, m => by
    rw [maxI]
    have := maxI_mem is (if m < i then i else m)
    rcases List.mem_cons.mp this with h | h
    · rw [h]
      split <;> simp
    · exact List.mem_cons_of_mem _ (List.mem_cons_of_mem _ h)
theorem maxI_ge : ∀ (is : List Int) (m : Int), ∀ y ∈ m :: is, y ≤ maxI m is
  | [], m, y, h => by
    rw [List.mem_singleton.mp h]
    exact Int.le_refl _
  | i :: is, m, y, h => by
    rw [maxI]
    have hm := maxI_ge is (if m < i then i else m) _ (List.mem_cons_self ..)
    rcases List.mem_cons.mp h with rfl | h
    · split at hm <;> split <;> omega
    · rcases List.mem_cons.mp h with rfl | h
      · split at hm <;> split <;> omega
      · exact maxI_ge is _ y (List.mem_cons_of_mem _ h)
def pMax : PyData → Option PyData := onI fun ns => match ns with | [] => none | i :: is => some (.int (maxI i is))
def asBs : List PyData → Option (List Bool)
  | [] => some []
  | .bool i :: ds => match asBs ds with
    | some is => some (i :: is)
    | none => none
  | _ :: _ => none
theorem asBs_some : ∀ {ds : List PyData} {is : List Bool}, asBs ds = some is → ds = is.map .bool
  | [], _, h => by cases h; rfl
  | .bool i :: ds, is, h => by
    rw [asBs] at h
    split at h
    · rename_i js hj
      cases h
      rw [asBs_some hj]
      rfl
    · cases h
  | .none :: _, _, h => by cases h
  | .int _ :: _, _, h => by cases h
  | .str _ :: _, _, h => by cases h
  | .list _ :: _, _, h => by cases h
  | .tuple _ :: _, _, h => by cases h
  | .dict _ :: _, _, h => by cases h
theorem asBs_map : ∀ is : List Bool, asBs (is.map .bool) = some is
  | [] => rfl
  | i :: is => by
    show (match asBs (is.map .bool) with | some is => some (i :: is) | none => none) = _
    rw [asBs_map is]
def onB (g : List Bool → Bool) : PyData → Option PyData
  | .list ds => match asBs ds with | some ns => some (.bool (g ns)) | none => none
  | _ => none
theorem onB_some {g : List Bool → Bool} {d r : PyData} (h : onB g d = some r) : ∃ ns, d = .list (ns.map .bool) ∧ .bool (g ns) = r := by
  unfold onB at h
  split at h
  · split at h
    · rename_i ns hs
      cases h
      exact ⟨ns, by rw [asBs_some hs], rfl⟩
    · cases h
  · cases h
def pAll : PyData → Option PyData := onB fun bs => bs.all id
def pIsi (T : String) (d : PyData) : Option PyData := match kitB (dTy d) T with | some k => some (.bool k) | none => none
def pIx (d i : PyData) : Option PyData := match items d, i with | some xs, .int i => atI xs i | _, _ => none
section
variable {b : Addr} {X : Cx} {e x y z : Expr} {es : List Expr} {f fx fy fz : DenE} {fs fi : DenL} {fb : DenB} {pos p p2 pos2 : Pos}
theorem items_sq {μ : Mu} {d : PyData} {xs : List PyData} (h : items d = some xs) : SqD μ (.im d) (xs.map .im) := (items_seq h).sq
theorem se_len (B : Bt X.mg) (hg : Gl X "len") (hx : SE b X x fx) (he : starEach [x] X.env = (false, eval x X.env) :: starEach [] X.env := by rfl) (hpl : (backTo pos (starEach [] X.env)).any (·.1) = false := by rfl) : SE b X (.Call (.Name "len" p) [x] [] pos) (d1 pLen fx) := se_1 hx fun ρ μ Φ h => de_len B hg (h.imp fun u μ1 ⟨d, r, e1, hr, q⟩ => by
  subst e1
  unfold pLen at hr
  split at hr
  · rename_i xs hxs
    cases hr
    exact ⟨_, items_sq hxs, by rw [List.length_map]; exact q⟩
  · cases hr) he hpl
theorem se_list (B : Bt X.mg) (hg : Gl X "list") (hx : SE b X x fx) (he : starEach [x] X.env = (false, eval x X.env) :: starEach [] X.env := by rfl) (hpl : (backTo pos (starEach [] X.env)).any (·.1) = false := by rfl) : SE b X (.Call (.Name "list" p) [x] [] pos) (d1 pList fx) := se_1 hx fun ρ μ Φ h => de_list B hg (h.imp fun u μ1 ⟨d, r, e1, hr, q⟩ => by
  subst e1
  unfold pList at hr
  split at hr
  · rename_i xs hxs
    cases hr
    exact ⟨_, items_sq hxs, q⟩
  · cases hr) he hpl
theorem se_tuple (B : Bt X.mg) (hg : Gl X "tuple") (hx : SE b X x fx) (he : starEach [x] X.env = (false, eval x X.env) :: starEach [] X.env := by rfl) (hpl : (backTo pos (starEach [] X.env)).any (·.1) = false := by rfl) : SE b X (.Call (.Name "tuple" p) [x] [] pos) (d1 pTup fx) := se_1 hx fun ρ μ Φ h => de_tuple B hg (h.imp fun u μ1 ⟨d, r, e1, hr, q⟩ => by
  subst e1
  unfold pTup at hr
  split at hr
  · rename_i xs hxs
    cases hr
    exact ⟨_, items_sq hxs, q⟩
  · cases hr) he hpl
theorem se_sorted (B : Bt X.mg) (hg : Gl X "sorted") (hx : SE b X x fx) (he : starEach [x] X.env = (false, eval x X.env) :: starEach [] X.env := by rfl) (hpl : (backTo pos (starEach [] X.env)).any (·.1) = false := by rfl) : SE b X (.Call (.Name "sorted" p) [x] [] pos) (d1 pSrt fx) := se_1 hx fun ρ μ Φ h => de_sorted B hg (h.imp fun u μ1 ⟨d, r, e1, hr, q⟩ => by
  subst e1
  obtain ⟨ns, rfl, h2⟩ := onI_some hr
  cases h2
  refine ⟨ns, .im _, ?_⟩
  rw [← isrt_eq]
  exact q) he hpl
theorem se_sum (B : Bt X.mg) (hc : X.calm = true) (hg : Gl X "sum") (hx : SE b X x fx) (he : starEach [x] X.env = (false, eval x X.env) :: starEach [] X.env := by rfl) (hpl : (backTo pos (starEach [] X.env)).any (·.1) = false := by rfl) : SE b X (.Call (.Name "sum" p) [x] [] pos) (d1 pSum fx) := se_1 hx fun ρ μ Φ h => de_sum B hc hg (h.imp fun u μ1 ⟨d, r, e1, hr, q⟩ => by
  subst e1
  obtain ⟨ns, rfl, h2⟩ := onI_some hr
  cases h2
  refine ⟨ns, .im _, ?_⟩
  rw [← sumI_eq]
  exact q) he hpl
theorem se_max (B : Bt X.mg) (hc : X.calm = true) (hg : Gl X "max") (hx : SE b X x fx) (he : starEach [x] X.env = (false, eval x X.env) :: starEach [] X.env := by rfl) (hpl : (backTo pos (starEach [] X.env)).any (·.1) = false := by rfl) : SE b X (.Call (.Name "max" p) [x] [] pos) (d1 pMax fx) := se_1 hx fun ρ μ Φ h => de_max B hc hg (h.imp fun u μ1 ⟨d, r, e1, hr, q⟩ => by
  subst e1
  obtain ⟨ns, rfl, h2⟩ := onI_some hr
  cases ns with
  | nil => cases h2
  | cons i is =>
    cases h2
    refine ⟨i :: is, .im _, by simp, fun k hk hm => ?_⟩
    have e : k = maxI i is := Int.le_antisymm (maxI_ge is i k hk) (hm _ (maxI_mem is i))
    rw [e]
    exact q) he hpl
theorem se_all (B : Bt X.mg) (hc : X.calm = true) (hg : Gl X "all") (hx : SE b X x fx) (he : starEach [x] X.env = (false, eval x X.env) :: starEach [] X.env := by rfl) (hpl : (backTo pos (starEach [] X.env)).any (·.1) = false := by rfl) : SE b X (.Call (.Name "all" p) [x] [] pos) (d1 pAll fx) := se_1 hx fun ρ μ Φ h => de_all B hc hg (h.imp fun u μ1 ⟨d, r, e1, hr, q⟩ => by
  subst e1
  obtain ⟨ns, rfl, rfl⟩ := onB_some hr
  exact ⟨ns, .im _, q⟩) he hpl
theorem se_isi {T : String} {n : Str} (B : Bt X.mg) (hg : Gl X "isinstance") (hg2 : Gl X n) (hm : X.mg n = none) (hv : bootBuiltins n = some (.type T)) (hx : SE b X x fx)
    (hn : n ≠ "__name__" := by decide) (hdb : (n == ("__debug__" : Str)) = false := by decide) (he : starEach [x, .Name n p2] X.env = (false, eval x X.env) :: starEach [.Name n p2] X.env := by rfl) (he2 : starEach [.Name n p2] X.env = (false, eval (.Name n p2) X.env) :: starEach [] X.env := by rfl)
    (hpl : (backTo pos (starEach [.Name n p2] X.env)).any (·.1) = false := by rfl) : SE b X (.Call (.Name "isinstance" p) [x, .Name n p2] [] pos) (d1 (pIsi T) fx) := se_1 hx fun ρ μ Φ h => de_isi B hg hg2 hm hv (h.imp fun u μ1 ⟨d, r, e1, hr, q⟩ => by
  subst e1
  unfold pIsi at hr
  split at hr
  · rename_i k hk
    cases hr
    exact ⟨_, k, .im d, hk, q⟩
  · cases hr) hn hdb he he2 hpl
theorem se_ix (hs : PlainIx y) (hx : SE b X x fx) (hy : SE b X y fy) : SE b X (.Subscript x y pos) (d2 pIx fx fy) := se_2 hx hy fun ρ μ Φ h => de_ix hs (h.imp fun u μ1 h1 => h1.imp fun v μ2 ⟨d, d', r, e1, e2, hr, q⟩ => by
  subst e1 e2
  unfold pIx at hr
  cases hxs : items d with
  | none =>
    rw [hxs] at hr
    cases hr
  | some xs =>
    rw [hxs] at hr
    cases d' with
    | int i => exact ⟨_, i, _, items_sq hxs, rfl, atI_im hr, q⟩
    | _ => cases hr)
def oN : Env → Tree (Option Int) := fun _ => .ret none
def oS (f : DenE) : Env → Tree (Option Int) := fun E => (f E).bind fun x => match x with | .int i => .ret (some i) | _ => .fail
structure SOp (b : Addr) (X : Cx) (e : Option Expr) (f : Env → Tree (Option Int)) : Prop where
  run : ∀ μ0 E ρ μ Φ, Rel b μ0 E ρ μ → (f E).All (fun d => ∀ μ', Bs b μ μ' → Φ d μ') → DO X e ρ μ Φ
theorem so_n : SOp b X none oN := .mk fun μ0 E ρ μ Φ R h => h μ (Bs.refl b μ)
theorem so_s (hx : SE b X x fx) : SOp b X (some x) (oS fx) := .mk fun μ0 E ρ μ Φ R h => hx.run μ0 E ρ μ _ R ((all_bind.mp h).imp fun d q μ1 s1 => by
  split at q
  · exact ⟨_, rfl, q μ1 s1⟩
  · exact q.elim)
def pCut (d : PyData) (lo hi : Option Int) : Option PyData := match d with
  | .list xs => some (.list (cutD xs lo hi))
  | .tuple xs => some (.tuple (cutD xs lo hi))
  | _ => none
def dSl (f : DenE) (lo hi : Env → Tree (Option Int)) : DenE := fun E => (f E).bind fun x => (lo E).bind fun l => (hi E).bind fun u => liftO (pCut x l u)
variable {lo hi : Option Expr} {fl fu : Env → Tree (Option Int)}
theorem se_sl (hx : SE b X x fx) (hl : SOp b X lo fl) (hu : SOp b X hi fu) : SE b X (.Subscript x (.Slice lo hi none p2) pos) (dSl fx fl fu) := .mk fun μ0 E ρ μ Φ R h => by
  have hD : DE X x ρ μ fun u μ1 => DO X lo ρ μ1 fun l μ2 => DO X hi ρ μ2 fun v μ3 => ∃ d r, u = .im d ∧ pCut d l v = some r ∧ Φ (.im r) μ3 :=
    hx.run μ0 E ρ μ _ R ((all_bind.mp h).imp fun d q μ1 s1 => hl.run μ0 E ρ μ1 (fun l μ2 => DO X hi ρ μ2 fun v μ3 => ∃ d' r, OV.im d = .im d' ∧ pCut d' l v = some r ∧ Φ (.im r) μ3) (R.step s1) ((all_bind.mp q).imp fun l q μ2 s2 => hu.run μ0 E ρ μ2 (fun v μ3 => ∃ d' r, OV.im d = .im d' ∧ pCut d' l v = some r ∧ Φ (.im r) μ3) ((R.step s1).step s2) ((all_bind.mp q).imp fun u q μ3 s3 => by
      obtain ⟨r, hr, q⟩ := lift_all q
      exact ⟨d, r, rfl, hr, q μ3 ((s1.trans s2).trans s3)⟩)))
  intro G H σ m v Q f
  refine WE.of (pe_slice (SlR.or sl_list sl_tupA) pwe pwo pwo) (hD G H σ m v _ fun vx x μ1 G1 H1 q1 e1 m1 r1 => q1.run m1 (v.mono e1) fun l μ2 G2 H2 q2 e2 m2 => q2.run m2 (v.mono (e1.trans e2)) fun u μ3 G3 H3 q3 e3 m3 => ?_)
  obtain ⟨d, r, rfl, hr, q⟩ := q3
  have r3 : Dv G3 vx d := r1.mono (e2.trans e3)
  cases r3 with
  | @lst a xs ds h1 w =>
    cases hr
    refine .inl ⟨_, _, rfl, .inl (.inl (m3.ex _ _ h1)), fun p hp => ?_⟩
    have n := m3.ex.free hp
    have w2 := (ROs.of_ims w).cut l u
    rw [cutO_im] at w2
    exact f _ _ _ _ _ q (((e1.trans e2).trans e3).trans (Ex.new n)) (m3.lay hp) (Dv.lst upd_same (w2.ims.mono (Ex.new n)))
  | @tup a xs ds h1 w =>
    cases hr
    have wl := w.length
    refine .inr ⟨a, xs, rfl, (h1.mono m3.ex).sq, fun ⟨z1, z2⟩ => ?_, fun _ p hp => ?_⟩
    · have ec : cutD ds l u = ds := by
        unfold cutD
        rw [wl] at z1 z2
        rw [z1, z2, List.drop_zero, Nat.sub_zero, List.take_length]
      rw [ec] at q
      exact f _ _ _ _ _ q ((e1.trans e2).trans e3) m3 (Dv.tup h1 w)
    · have n := m3.ex.free hp
      have w2 := (ROs.of_ims w).cut l u
      rw [cutO_im] at w2
      exact f _ _ _ _ _ q (((e1.trans e2).trans e3).trans (Ex.new n)) (m3.lay hp) (Dv.tup (.inl upd_same) (w2.ims.mono (Ex.new n)))
  | _ => cases hr
def pRev : PyData → Option PyData
  | .list xs => some (.list xs.reverse)
  | _ => none
theorem se_rev {k : Nat} {p1 p3 p4 : Pos} (hx : SE b X x fx) : SE b X (.Subscript x (.Slice none none (some (.UnaryOp .USub (.Constant (.int 1) k p1) p3)) p4) pos) (d1 pRev fx) := se_1 hx fun ρ μ Φ h => de_rev (h.imp fun u μ1 ⟨d, r, e1, hr, q⟩ => by
  subst e1
  cases d <;> cases hr
  exact ⟨_, rfl, q⟩)
def lrg (f : List PyData → PyData) (o : Option (List PyData)) : Option PyData := match o with | some xs => some (f xs) | none => none
theorem rgv_dv {H : Hp} (i j : Int) : DvA H (rgV i j) (numsF i (j - i).toNat) := by
  unfold rgV numsF
  generalize (j - i).toNat = n
  have go : ∀ l : List Nat, DvA H (l.map fun (k : Nat) => V.int (i + (k : Int))) (l.map fun (k : Nat) => PyData.int (i + (k : Int))) := by
    intro l
    induction l with
    | nil => exact .nil
    | cons k l ih => exact .cons (.int _) ih
  exact go _
theorem rg1_some {d : PyData} {xs : List PyData} (h : rg1 d = some xs) : ∃ j : Int, d = .int j ∧ -100000 ≤ j ∧ j ≤ 100000 ∧ xs = nums j.toNat := by
  cases d with
  | int j =>
    simp only [rg1] at h
    split at h
    · next hj =>
      cases h
      exact ⟨j, rfl, hj.1, hj.2, rfl⟩
    · cases h
  | _ => cases h
theorem rg1_dv {H : Hp} (j : Int) : DvA H (rgV 0 j) (nums j.toNat) := by
  have h := rgv_dv (H := H) 0 j
  have e : numsF 0 (j - 0).toNat = nums j.toNat := by
    unfold numsF nums
    rw [show j - 0 = j by omega]
    congr 1
    funext k
    rw [Int.zero_add]
  rw [e] at h
  exact h
theorem se_listRg (B : Bt X.mg) (hc : X.calm = true) (hg : Gl X "list") (hg2 : Gl X "range") (hx : SE b X x fx) (he : starEach [x] X.env = (false, eval x X.env) :: starEach [] X.env := by rfl) (he2 : starEach [.Call (.Name "range" p2) [x] [] pos2] X.env = (false, eval (.Call (.Name "range" p2) [x] [] pos2) X.env) :: starEach [] X.env := by rfl) : SE b X (.Call (.Name "list" p) [.Call (.Name "range" p2) [x] [] pos2] [] pos) (d1 (fun d => lrg .list (rg1 d)) fx) := se_1 hx fun ρ μ Φ h G H σ m v Q f =>
  WE.of (pe_listRg hc hg B.list (prg_1 hg2 B.range pwe he) he2) (h G H σ m v _ fun vx u μ1 G1 H1 q1 e1 m1 r1 => by
    obtain ⟨d, r, rfl, hr, q⟩ := q1
    simp only [lrg] at hr
    split at hr
    · next xs hxs =>
      cases hr
      obtain ⟨j, rfl, j1, j2, rfl⟩ := rg1_some hxs
      cases r1
      refine ⟨_, rfl, ⟨by omega, by omega, by omega, by omega, by omega⟩, fun l hl => ?_⟩
      have fr := m1.ex.free hl
      exact f _ _ _ _ _ q (e1.trans (Ex.new fr)) (m1.lay hl) (Dv.lst upd_same (rg1_dv j))
    · cases hr)
end
end Nx
namespace Nx
open PySem PySem.Spec PyProof.Rows L2
open Tree
section
variable {b : Addr} {X : Cx} {e x y z tg iter elt c : Expr} {es : List Expr} {f fx fy fz : DenE} {fs fi : DenL} {fb : DenB} {pos p : Pos} {st : Stmt} {ss : List Stmt}
def sParO (i j : Nat) (fx fy : DenE) : DenS := fun E => (fx E).bind fun d => (fy E).bind fun d' => match d' with | .list xs => .ret (.nx ((E.set i (some (.d d))).set j (some (.own xs)))) | _ => .fail
theorem ss_parO (i j : Nat) {n m : Str} {px py pt : Pos} {kt k2 pt2} (hc : X.calm = true) (hN : X.N.Nodup) (hi : X.N[i]? = some n) (hj : X.N[j]? = some m) (hij : i ≠ j)
    (hx : X.env.scope.names.lookup n = some .local) (hy : X.env.scope.names.lookup m = some .local) (hw : swappedStores [.Tuple [.Name n px, .Name m py] kt pt] (.Tuple [x, y] k2 pt2) X.env = pure (some [n, m]))
    (h1 : SE b X x fx) (h2 : SO b X y fy) (e1 : starEach [x, y] X.env = (false, eval x X.env) :: starEach [y] X.env := by rfl) (e2 : starEach [y] X.env = (false, eval y X.env) :: starEach [] X.env := by rfl)
    (hs : swapsWithSole [.Tuple [.Name n px, .Name m py] kt pt] (.Tuple [x, y] k2 pt2) pos.line X.env = pure false := by rfl) : SS b X (.Assign [.Tuple [.Name n px, .Name m py] kt pt] (.Tuple [x, y] k2 pt2) pos) (sParO i j fx fy) := .mk fun μ0 E ρ μ D R q =>
  ds_par i j hc hN hi hj hij hx hy hw (da_cons (h1.run μ0 E ρ μ _ R ((all_bind.mp q).imp fun d q μ1 s1 => da_cons (h2.run μ0 E ρ μ1 _ (R.step s1) ((all_bind.mp q).imp fun d' q => by
    cases d' with
    | list xs => exact ⟨xs, rfl, fun μ2 p s2 hp => da_nil ⟨_, _, rfl, q _ _ ((((R.step s1).step s2).setD i d).setO j hp)⟩⟩
    | _ => exact q.elim)) e2)) e1) hs
end
theorem de_fdivW {X : Cx} {a b : Expr} {ρ : Rho} {μ : Mu} {Φ : OV → Mu → Prop} {pos : Pos} (h : DE X a ρ μ fun x μ1 => DE X b ρ μ1 fun y μ2 => ∃ i j, x = .im (.int i) ∧ y = .im (.int j) ∧ CDivW i j ∧ Φ (.im (.int (i / j))) μ2) : DE X (.BinOp a .FloorDiv b pos) ρ μ Φ := by
  refine de_op op_fdivW (h.imp fun x μ1 h1 => h1.imp fun y μ2 h2 => ?_)
  obtain ⟨i, j, rfl, rfl, hj, q⟩ := h2
  exact od_I hj q
def takeF : List W → Tree PyData
  | [.bx, .d (.int n)] => if 0 < n ∧ n < 4611686018427387904 then .draw n.toNat fun r => .ret (.int (r : Int)) else .fail
  | _ => .fail
def c_take : Ct := fun os μ Φ => ∃ b n p q t, os = [.own b, .im (.int n)] ∧ μ b = some (bx p q t) ∧ 0 < n ∧ n < 4611686018427387904 ∧ ∀ r p' t', 0 ≤ r → r < n → Φ (.im (.int r)) (μ.put b (bx p' q t'))
theorem take_ok : ∀ os μ Φ, cF takeF os μ Φ → c_take os μ Φ := fun os μ Φ h => by
  obtain ⟨b, ws, rfl, ⟨p, q, t, hb⟩, h⟩ := h
  unfold takeF at h
  split at h
  · rename_i n
    split at h
    · next hn =>
      refine ⟨b, n, p, q, t, rfl, hb, hn.1, hn.2, fun r p' t' r0 r1 => ?_⟩
      have := h r.toNat (by omega) _ (Bs.set (b := b) (μ := μ) (p := p') (q := q) (t := t'))
      rw [Int.toNat_of_nonneg r0] at this
      exact this
    · exact h.elim
  · exact h.elim
def strewnT : Nat → List PyData → Tree (List PyData)
  | 0, _ => .ret []
  | n + 1, l => .draw l.length fun r => match l[r]? with
    | some x => (strewnT n (l.eraseIdx r)).bind fun xs => .ret (x :: xs)
    | none => .fail
def strewnF : List W → Tree PyData
  | [.bx, .d (.list ds)] => if ds.length ≤ 1000 then (strewnT ds.length ds).bind fun xs => .ret (.list xs) else .fail
  | _ => .fail
theorem strewn_perm {Q : List PyData → Prop} : ∀ (n : Nat) (ds es : List PyData), ds.length = n → es.Perm ds → (strewnT n ds).All Q → Q es
  | 0, ds, es, hl, hp, h => by
    have : ds = [] := List.length_eq_zero_iff.mp hl
    subst this
    rw [hp.eq_nil]
    exact h
  | n + 1, ds, es, hl, hp, h => by
    cases es with
    | nil =>
      have := hp.length_eq
      simp at this
      omega
    | cons x es =>
      have hx : x ∈ ds := hp.mem_iff.mp (List.mem_cons_self ..)
      obtain ⟨r, hr, e⟩ := List.mem_iff_getElem.mp hx
      have h := h r hr
      dsimp only at h
      rw [List.getElem?_eq_getElem hr, e] at h
      have h := all_bind.mp h
      have pp := erase_perm ds r hr
      rw [e] at pp
      refine strewn_perm (Q := fun xs => Q (x :: xs)) n (ds.eraseIdx r) es (by rw [List.length_eraseIdx]; simp [hr]; omega) ?_ h
      exact (List.perm_cons x).mp (hp.trans pp.symm)
theorem strewn_all {Q : List PyData → Prop} : ∀ (n : Nat) (ds : List PyData), ds.length = n → (∀ es : List PyData, es.Perm ds → Q es) → (strewnT n ds).All Q
  | 0, ds, hl, h => h [] (by rw [List.length_eq_zero_iff.mp hl])
  | n + 1, ds, hl, h => fun r hr => by
    dsimp only
    rw [List.getElem?_eq_getElem hr]
    refine all_bind.mpr (strewn_all n _ (by rw [List.length_eraseIdx]; simp [hr]; omega) fun es hp => h _ ?_)
    exact (hp.cons _).trans (erase_perm ds r hr)
def c_strewn : Ct := fun os μ Φ => ∃ (b : Addr) (ds : List PyData) (p q t : Int), os = [.own b, .im (.list ds)] ∧ μ b = some (bx p q t) ∧ ds.length ≤ 1000 ∧ ∀ es p' t', es.Perm ds → Φ (.im (.list es)) (μ.put b (bx p' q t'))
theorem strewn_ok : ∀ os μ Φ, cF strewnF os μ Φ → c_strewn os μ Φ := fun os μ Φ h => by
  obtain ⟨b, ws, rfl, ⟨p, q, t, hb⟩, h⟩ := h
  unfold strewnF at h
  split at h
  · rename_i ds
    split at h
    · next hn => exact ⟨b, ds, p, q, t, rfl, hb, hn, fun es p' t' hp => strewn_perm _ ds es rfl hp (all_bind.mp h) _ Bs.set⟩
    · exact h.elim
  · exact h.elim
mutual
def okR : PyData → Bool
  | .none => true
  | .bool _ => true
  | .int i => decide (i.natAbs < 10 ^ 60)
  | .str x => PyData.strOk x && decide ((reprText x).length ≤ 61)
  | .list ds => okRs ds
  | .tuple ds => okRs ds
  | _ => false
def okRs : List PyData → Bool
  | [] => true
  | d :: ds => okR d && okRs ds
end
mutual
def dpR : PyData → Nat
  | .list ds => dpRs ds + 1
  | .tuple ds => dpRs ds + 1
  | _ => 0
def dpRs : List PyData → Nat
  | [] => 0
  | d :: ds => max (dpR d) (dpRs ds)
end
end Nx
namespace Nx
open PySem PySem.Spec PyProof.Rows L2
open Tree
end Nx
namespace Nx
open PySem PySem.Spec PyProof.Rows L2
open Tree
abbrev cLt := cI fun i j => decide (i < j)
abbrev cGt := cI fun i j => decide (j < i)
def cR : Ct := fun os μ Φ => ∃ b p q t, os = [.own b] ∧ μ b = some (bx p q t) ∧ ∀ μ', Bs b μ μ' → Φ (.im (.bool true)) μ'
theorem cR_of {F : List W → Tree PyData} (h : (F [.bx]).All fun d => d = .bool true) : ∀ os μ Φ, cR os μ Φ → cF F os μ Φ := fun os μ Φ ⟨b, p, q, t, e, hb, k⟩ => ⟨b, [.bx], e, ⟨p, q, t, hb⟩, h.imp fun d e μ' s => by rw [e]; exact k μ' s⟩
end Nx
namespace Nx
open PySem PySem.Spec PyProof.Rows L2
open Tree
def WI (X : Cx) (tg iter : Expr) : TI := fun σ H R => ∃ wi, PI X tg iter wi ∧ wi σ H R
theorem pwi {X : Cx} {tg iter : Expr} : PI X tg iter (WI X tg iter) := ⟨fun pins s σ H R I ⟨wi, p, h⟩ => p.run pins s σ H R I h⟩
def WIb (X : Cx) (scope : Scope) (tg iter : Expr) : TI := fun σ H R => ∀ s H0 C cl fp, WI (Blk X scope s H0 C cl fp) tg iter σ H R
theorem pwib {X : Cx} {scope : Scope} {tg iter : Expr} (s : Shared) (H : Hp) (C : Addr) (cl : List (Str × Addr)) (fp : List Addr) : PI (Blk X scope s H C cl fp) tg iter (WIb X scope tg iter) := ⟨fun pins s' σ H' R I h => pwi.run pins s' σ H' R I (h s H C cl fp)⟩
theorem w_it {J : It} {n : Nat} {G : Hp → Prop} {Y : Nat → Hp → V → Hp → Prop} (w : Walk J n G Y) {body : V → Hp → (Hp → Prop) → Prop} {H0 : Hp} {Qd : Hp → Prop} (Pv : Nat → Hp → Prop) (h0 : Pv 0 H0) (hG : ∀ i H, i ≤ n → Pv i H → G H)
    (hs : ∀ i x H H', i < n → Pv i H → Y i H x H' → body x H' (Pv (i + 1))) (hd : ∀ H, Pv n H → Qd H) :
    ∃ W : Nat → Nat → Hp → Prop, (∃ m, W 0 m H0) ∧ ∀ i m H, W i m H → (J.stop i H ∧ Qd H) ∨ (J.go i H ∧ ∃ Nx : Hp → Prop, (∀ H', Nx H' → ∃ m', m' < m ∧ W (i + 1) m' H') ∧ ∀ x H', J.yld i H x H' → body x H' Nx) := by
  refine ⟨fun i m H => m = n - i ∧ i ≤ n ∧ Pv i H, ⟨n, by simp, Nat.zero_le _, h0⟩, ?_⟩
  rintro i m H ⟨rfl, hi, p⟩
  have q := hG i H hi p
  by_cases hlt : i < n
  · exact .inr ⟨w.goes i H hlt q, Pv (i + 1), fun H' p' => ⟨n - (i + 1), by omega, rfl, hlt, p'⟩, fun x H' y => hs i x H H' hlt p (w.yields i H x H' hlt q y)⟩
  · have e : i = n := by omega
    subst e
    exact .inl ⟨w.stops H q, hd H p⟩
def atMost (m n : Nat) : Option Unit := if n ≤ m then some () else none
theorem atMost_all {m n : Nat} {Q : Unit → Prop} (h : (liftO (atMost m n)).All Q) : n ≤ m ∧ Q () := by
  obtain ⟨a, h1, h2⟩ := lift_all h
  unfold atMost at h1
  split at h1
  · exact ⟨‹_›, h2⟩
  · cases h1
def in1 (t1 : Tgt) (vs1 : List Nat) (c : DenB) (elt : DenE) (E1 : Env) : PyData → Tree (Option PyData) := fun y => (liftO (putE t1 y (wipeE E1 vs1))).bind fun E2 => (c E2).bind fun k => match k with | true => (elt E2).bind fun z => .ret (some z) | false => .ret none
def in2 (t : Tgt) (vs : List Nat) (t1 : Tgt) (vs1 : List Nat) (it1 : DenL) (c : DenB) (elt : DenE) (E : Env) : PyData → Tree (List PyData) := fun x => (liftO (putE t x (wipeE E vs))).bind fun E1 => (it1 E1).bind fun ys => (liftO (atMost 50 ys.length)).bind fun _ => pickT (in1 t1 vs1 c elt E1) ys
def dLc2 (t : Tgt) (vs : List Nat) (it : DenL) (t1 : Tgt) (vs1 : List Nat) (it1 : DenL) (c : DenB) (elt : DenE) : DenE := fun E => (it E).bind fun xs => (liftO (atMost 1000 xs.length)).bind fun _ => (mapT (in2 t vs t1 vs1 it1 c elt E) xs).bind fun yss => .ret (.list yss.flatten)
section
variable {b : Addr} {X : Cx} {tg iter tg1 iter1 elt c : Expr} {scope : Scope} {fi fi1 : DenL} {fb : DenB} {fx : DenE} {pos : Pos}
theorem lc2_sound {own : List (Str × Nat)} {t t1 : Tgt} {E : Env} {ρ : Rho} {μ μ1 μ0 : Mu} {xs : List PyData} {done : List PyData → Mu → Prop} {G : Hp} {σ : L2.St} {J : It} {G1 H1 : Hp} {Qd : Hp → Prop} {Dl : Addr}
    (hs : ∀ i ∈ t.slots, i ∈ own.map (·.2)) (R : Rel b μ0 E ρ μ) (s1 : Bs b μ μ1) (v : RV G ρ σ) (e1 : Ex G G1) (m1 : RM G1 H1 μ1) (gv : Gives J ⟨xs.map .im, fun _ => True⟩ G1) (hD : H1 Dl = none)
    (hi1 : ∀ s H C cl fp, SI b (Blk X scope s H C cl fp) tg1 iter1 fi1) (hcn : ∀ s H C cl fp, ST b (Blk X scope s H C cl fp) c fb) (he : ∀ s H C cl fp, SE b (Blk X scope s H C cl fp) elt fx) (hz : xs.length ≤ 1000)
    (q : (mapT (in2 t (own.map (·.2)) t1 t1.slots fi1 fb fx E) xs).All fun yss => ∀ μ', Bs b μ μ' → done yss.flatten μ')
    (fin : ∀ ds μ' G' H', done ds μ' → μ' Dl = none → Ex G1 G' → RM G' H' (μ'.put Dl (ds.map .im)) → Qd H') :
    ∃ W : Nat → Nat → Hp → Prop, (∃ m, W 0 m (upd H1 Dl (.lst []))) ∧ ∀ i m H, W i m H → (J.stop i H ∧ Qd H) ∨ (J.go i H ∧ ∃ Nx : Hp → Prop, (∀ H', Nx H' → ∃ m', m' < m ∧ W (i + 1) m' H') ∧ ∀ x H', J.yld i H x H' → TgtG X.K t x (L2.wipe σ (own.map (·.2))) H' fun σ2 H2 => L2.wipe σ2 (own.map (·.2)) = L2.wipe σ (own.map (·.2)) ∧ WTb X scope [] σ2 H2 fun bb H3 =>
      if bb = true then WIb X scope tg1 iter1 σ2 H3 fun J1 H4 => ∃ W1 : Nat → Nat → Hp → Prop, (∃ m, W1 0 m H4) ∧ ∀ j k H, W1 j k H →
        (J1.stop j H ∧ Nx H) ∨ (J1.go j H ∧ ∃ Nx1 : Hp → Prop, (∀ H', Nx1 H' → ∃ k', k' < k ∧ W1 (j + 1) k' H') ∧ ∀ x H', J1.yld j H x H' → TgtG X.K t1 x (L2.wipe σ2 t1.slots) H' fun σ3 H5 => L2.wipe σ3 t1.slots = L2.wipe σ2 t1.slots ∧ WTb X scope [c] σ3 H5 fun bb H6 =>
          if bb = true then WEb X scope elt σ3 H6 fun y H7 => ∃ acc, H7 Dl = some (.lst acc) ∧ acc.length < sizeLine ∧ Nx1 (upd H7 Dl (.lst (acc ++ [y]))) else Nx1 H6)
      else Nx H3) := by
  obtain ⟨Gd, Y, wk, hG, hY⟩ := gv
  have hDn : ∀ {μ' : Mu}, Bs b μ μ' → μ' Dl = none → Dl ≠ b ∧ μ Dl = none := fun {μ'} s n => by
    have nb : Dl ≠ b := fun z => by
      obtain ⟨u, q, t, e⟩ := (R.step s).bxs
      rw [z, e] at n
      cases n
    refine ⟨nb, ?_⟩
    cases z : μ Dl with
    | none => rfl
    | some l =>
      rw [s.old Dl l nb z] at n
      cases n
  refine w_it wk (Pv := fun i H => ∃ (ds : List PyData) (μ' : Mu) (G' : Hp), ds.length ≤ 50 * i ∧ Bs b μ μ' ∧ μ' Dl = none ∧ Ex G1 G' ∧ RM G' H (μ'.put Dl (ds.map .im)) ∧ (mapT (in2 t (own.map (·.2)) t1 t1.slots fi1 fb fx E) (xs.drop i)).All fun yss => ∀ μ'', Bs b μ μ'' → done (ds ++ yss.flatten) μ'') ⟨[], μ1, G1, Nat.le_refl _, s1, m1.fresh hD, Ex.refl _, m1.new hD .nil, q⟩ ?_ ?_ ?_
  · rintro i H _ ⟨ds, μ', G', _, _, n, e, m, _⟩
    exact hG G' H _ e m trivial
  · rintro i x H H' hi ⟨ds, μ', G', hl, s, n, e, m, h⟩ y
    obtain ⟨nb, nD⟩ := hDn s n
    obtain ⟨G2, o, e2, m2, ho, r2⟩ := hY i H x H' G' _ e m trivial y hi
    dsimp only at ho hi
    rw [List.length_map] at hi
    rw [List.getElem?_map, List.getElem?_eq_getElem hi] at ho
    cases ho
    rw [List.drop_eq_getElem_cons hi, mapT] at h
    obtain ⟨E1, hE1, h⟩ := lift_all (all_bind.mp (all_bind.mp h))
    have s2 : Bs b μ (μ'.put Dl (ds.map .im)) := s.trans (Bs.put n)
    obtain ⟨ρ', hp, R2⟩ := ((R.step s2).wipes (own.map (·.2))).putT hE1
    have v2 : RV G2 (wipeR ρ (own.map (·.2))) (L2.wipe σ (own.map (·.2))) := (v.mono ((e1.trans e).trans e2)).wipeV _
    refine tgt_runW (own.map (·.2)) hs m2 r2 v2 hp fun σ' v3 hw => ⟨hw.trans (wipe_idem _ _), ?_⟩
    have key : ∀ (Q : Bool → Hp → Prop), Q true H' → WTb X scope [] σ' H' Q := fun Q h => h
    refine key _ ?_
    dsimp only
    rw [if_pos rfl]
    intro sB HB CB clB fpB
    have hDI : DI (Blk X scope sB HB CB clB fpB) tg1 iter1 ρ' (μ'.put Dl (ds.map .im)) fun D μ3 => ∃ ys : List PyData, D = ⟨ys.map .im, fun _ => True⟩ ∧ ys.length ≤ 50 ∧ Bs b (μ'.put Dl (ds.map .im)) μ3 ∧ (pickT (in1 t1 t1.slots fb fx E1) ys).All fun zs => (mapT (in2 t (own.map (·.2)) t1 t1.slots fi1 fb fx E) (xs.drop (i + 1))).All fun yss => ∀ μ'', Bs b μ μ'' → done (ds ++ (zs :: yss).flatten) μ'' :=
      (hi1 sB HB CB clB fpB).run μ0 E1 ρ' _ _ R2 ((all_bind.mp h).imp fun ys h μ3 s3 => by
        obtain ⟨hy, h⟩ := atMost_all (all_bind.mp h)
        exact ⟨ys, rfl, hy, s3, h.imp fun zs h => (all_bind.mp h).imp fun yss h => h⟩)
    obtain ⟨wi, pi, run⟩ := hDI
    refine ⟨wi, pi, run G2 H' σ' m2 v3 _ fun J1 D1 μ3 G3 H3 hq e3 m3 gv1 => ?_⟩
    obtain ⟨ys, rfl, hy50, s3, h⟩ := hq
    obtain ⟨Gd1, Y1, wk1, hG1, hY1⟩ := gv1
    obtain ⟨pb1, pb2⟩ := put_back (s3.old Dl _ nb put_same)
    have s4 : Bs b μ (μ3.del Dl) := (s2.trans s3).del nD nb
    rw [pb1] at m3
    refine w_it wk1 (Pv := fun j H => ∃ (es : List PyData) (μ4 : Mu) (G4 : Hp), es.length ≤ 50 * i + j ∧ Bs b μ μ4 ∧ μ4 Dl = none ∧ Ex G3 G4 ∧ RM G4 H (μ4.put Dl (es.map .im)) ∧ (pickT (in1 t1 t1.slots fb fx E1) (ys.drop j)).All fun zs => (mapT (in2 t (own.map (·.2)) t1 t1.slots fi1 fb fx E) (xs.drop (i + 1))).All fun yss => ∀ μ'', Bs b μ μ'' → done (es ++ zs ++ yss.flatten) μ'') ⟨ds, μ3.del Dl, G3, by omega, s4, pb2, Ex.refl _, m3, ?_⟩ ?_ ?_ ?_
    · refine h.imp fun zs h => h.imp fun yss h => ?_
      rw [List.flatten_cons, ← List.append_assoc] at h
      exact h
    · rintro j H _ ⟨es, μ4, G4, _, _, _, e4, m4, _⟩
      exact hG1 G4 H _ e4 m4 trivial
    · rintro j x H H5 hj ⟨es, μ4, G4, hl4, s5, n5, e5, m5, h5⟩ y5
      obtain ⟨G6, o6, e6, m6, ho6, r6⟩ := hY1 j H x H5 G4 _ e5 m5 trivial y5 hj
      dsimp only at ho6 hj
      rw [List.length_map] at hj
      rw [List.getElem?_map, List.getElem?_eq_getElem hj] at ho6
      cases ho6
      rw [List.drop_eq_getElem_cons hj, pickT] at h5
      obtain ⟨E2, hE2, h5⟩ := lift_all (all_bind.mp (all_bind.mp h5))
      have s6 : Bs b μ (μ4.put Dl (es.map .im)) := s5.trans (Bs.put n5)
      -- the frame of the inner turn
      have R3 : Rel b μ0 E1 ρ' (μ4.put Dl (es.map .im)) := by
        obtain ⟨ρ9, hp9, R9⟩ := ((R.step s6).wipes (own.map (·.2))).putT hE1
        rw [hp] at hp9
        cases hp9
        exact R9
      obtain ⟨ρ'', hp'', R4⟩ := (R3.wipes t1.slots).putT hE2
      have v6 : RV G6 (wipeR ρ' t1.slots) (L2.wipe σ' t1.slots) := (v3.mono ((e3.trans e5).trans e6)).wipeV _
      refine tgt_runW t1.slots (fun i hi => hi) m6 r6 v6 hp'' fun σ3 v7 hw3 => ⟨hw3.trans (wipe_idem _ _), ?_⟩
      refine DTb.run (ifs := [c]) (ρ := ρ'') (μ := μ4.put Dl (es.map .im)) (Ψ := fun k μ7 => Bs b (μ4.put Dl (es.map .im)) μ7 ∧ Tree.All (match k with | true => (fx E2).bind fun z => Tree.ret (some z) | false => Tree.ret none) (fun o => (pickT (in1 t1 t1.slots fb fx E1) (ys.drop (j + 1))).All fun zs => (mapT (in2 t (own.map (·.2)) t1 t1.slots fi1 fb fx E) (xs.drop (i + 1))).All fun yss => ∀ μ'', Bs b μ μ'' → done (es ++ (match o with | some y => y :: zs | none => zs) ++ yss.flatten) μ'')) ?_ m6 v7 fun k μ7 G7 H7 hq7 e7 m7 => ?_
      · intro s' HH C cl fp
        exact (hcn s' HH C cl fp).run μ0 E2 ρ'' _ _ R4 ((all_bind.mp h5).imp fun k h μ7 s7 => by
          refine ⟨s7, All.imp (fun o h => ?_) h⟩
          refine (all_bind.mp h).imp fun zs h => ?_
          cases o <;> exact h)
      · obtain ⟨s7, h7⟩ := hq7
        cases k with
        | true =>
          rw [if_pos rfl]
          intro s' HH C cl fp
          have hDE := (he s' HH C cl fp).run μ0 E2 ρ'' μ7 (fun o' μ8 => ∃ z, o' = .im z ∧ Bs b μ7 μ8 ∧ (pickT (in1 t1 t1.slots fb fx E1) (ys.drop (j + 1))).All fun zs => (mapT (in2 t (own.map (·.2)) t1 t1.slots fi1 fb fx E) (xs.drop (i + 1))).All fun yss => ∀ μ'', Bs b μ μ'' → done (es ++ (z :: zs) ++ yss.flatten) μ'') (R4.step s7) ((all_bind.mp h7).imp fun z h μ8 s8 => ⟨z, rfl, s8, h⟩)
          refine hDE G7 H7 σ3 m7 (v7.mono e7) _ fun vy o' μ8 G8 H8 hq8 e8 m8 r8 => ?_
          obtain ⟨z, rfl, s8, h8⟩ := hq8
          obtain ⟨pc1, pc2⟩ := put_back ((s7.trans s8).old Dl _ nb put_same)
          rw [pc1] at m8
          obtain ⟨g8, accv, h9, w9⟩ := m8.own Dl _ put_same
          have hle : es.length < 100000 := by omega
          refine ⟨accv, h9, by rw [w9.length, List.length_map]; exact Nat.lt_of_lt_of_le hle (by decide), es ++ [z], μ8.del Dl, G8, by rw [List.length_append]; simp; omega, ((s6.trans s7).trans s8).del nD nb, pc2, ((e5.trans e6).trans e7).trans e8, ?_, h8.imp fun zs h => h.imp fun yss h => ?_⟩
          · have m9 := m8.chg (p := Dl) put_same (w9.snoc r8)
            rw [put_put] at m9
            rw [List.map_append]
            exact m9
          · rw [List.append_assoc es [z] zs]
            exact h
        | false =>
          rw [if_neg (by decide)]
          obtain ⟨pc1, pc2⟩ := put_back (s7.old Dl _ nb put_same)
          rw [pc1] at m7
          exact ⟨es, μ7.del Dl, G7, by omega, (s6.trans s7).del nD nb, pc2, (e5.trans e6).trans e7, m7, h7⟩
    · rintro H ⟨es, μ4, G4, hl4, s5, n5, e5, m5, h5⟩
      dsimp only at hl4 h5
      rw [List.length_map] at hl4
      rw [List.length_map, List.drop_length] at h5
      refine ⟨es, μ4, G4, by omega, s5, n5, ((e.trans e2).trans e3).trans e5, m5, ?_⟩
      have h5 : (mapT (in2 t (own.map (·.2)) t1 t1.slots fi1 fb fx E) (xs.drop (i + 1))).All fun yss => ∀ μ'', Bs b μ μ'' → done (es ++ [] ++ yss.flatten) μ'' := h5
      rw [List.append_nil] at h5
      exact h5
  · rintro H ⟨ds, μ', G', hl, s, n, e, m, h⟩
    dsimp only at h
    rw [List.length_map, List.drop_length] at h
    have := h μ' s
    rw [List.flatten_nil, List.append_nil] at this
    exact fin ds μ' G' H this n e m
theorem se_lc2 {own : List (Str × Nat)} (t t1 : Tgt) (hc : X.calm = true) (hN : X.N.Nodup) (ok : BlkOk X.N X.env.scope scope own) (hs : ∀ i ∈ t.slots, i ∈ own.map (·.2)) (hv : ∀ i ∈ t1.slots, i ∈ own.map (·.2))
    (hg : ∀ s H C cl fp, PG (Blk X scope s H C cl fp) tg (TgtG X.K t)) (hg1 : ∀ s H C cl fp, PG (Blk X scope s H C cl fp) tg1 (TgtG X.K t1)) (hi : SI b X tg iter fi) (hi1 : ∀ s H C cl fp, SI b (Blk X scope s H C cl fp) tg1 iter1 fi1) (hcn : ∀ s H C cl fp, ST b (Blk X scope s H C cl fp) c fb) (he : ∀ s H C cl fp, SE b (Blk X scope s H C cl fp) elt fx)
    (hf : ∀ x, foldedSetIterable iter X.env x = pure x := by intro _; rfl) (hf1 : ∀ env x, foldedSetIterable iter1 env x = pure x := by intro _ _; rfl) : SE b X (.ListComp elt [⟨tg, iter, [], 0⟩, ⟨tg1, iter1, [c], 0⟩] scope pos) (dLc2 t (own.map (·.2)) fi t1 t1.slots fi1 fb fx) := .mk fun μ0 E ρ μ Φ R h => by
  have hDI : DI X tg iter ρ μ fun D μ1 => ∃ xs : List PyData, D = ⟨xs.map .im, fun _ => True⟩ ∧ xs.length ≤ 1000 ∧ Bs b μ μ1 ∧ (mapT (in2 t (own.map (·.2)) t1 t1.slots fi1 fb fx E) xs).All fun yss => ∀ μ', Bs b μ μ' → Φ (.im (.list yss.flatten)) μ' :=
    hi.run μ0 E ρ μ _ R ((all_bind.mp h).imp fun xs h μ1 s1 => by
      obtain ⟨hz, h⟩ := atMost_all (all_bind.mp h)
      exact ⟨xs, rfl, hz, s1, (all_bind.mp h).imp fun yss h => h⟩)
  obtain ⟨wi, pi, run⟩ := hDI
  intro G H σ m v Q f
  refine WE.of (pe_lc2 (own := own) (vs1 := t1.slots) hc hN pi ok hv hg (fun s H C cl fp => pwtb (ifs := []) s H C cl fp) (fun s H C cl fp => pwib s H C cl fp) hg1 (fun s H C cl fp => pwtb (ifs := [c]) s H C cl fp) (fun s H C cl fp => pweb s H C cl fp) hf hf1) (run G H σ m v _ fun J D μ1 G1 H1 hq e1 m1 gv Dl hD => ?_)
  obtain ⟨xs, rfl, hz, s1, hq⟩ := hq
  refine lc2_sound (Qd := fun H => Q (.ref Dl) H) hs R s1 v e1 m1 gv hD hi1 hcn he hz (done := fun ds μ' => Φ (.im (.list ds)) μ') hq fun ds μ' G' H' hd n e m' => ?_
  obtain ⟨vs, e0, g0, w, m2⟩ := m'.frz (p := Dl) put_same
  rw [del_put n] at m2
  exact f _ _ _ _ _ hd ((e1.trans e).trans (Ex.new g0)) m2 (Dv.lst upd_same (w.mono (Ex.new g0)))
theorem ss_setLc2 {own : List (Str × Nat)} (t t1 : Tgt) (i : Nat) {n : Str} {py spos : Pos} (hc : X.calm = true) (hN : X.N.Nodup) (hy : X.N[i]? = some n) (hyl : X.env.scope.names.lookup n = some .local)
    (hsw : swapsWith (.ListComp elt [⟨tg, iter, [], 0⟩, ⟨tg1, iter1, [c], 0⟩] scope pos) (some (.Name n py)) spos.line X.env = pure true) (ok : BlkOk X.N X.env.scope scope own) (hs : ∀ i ∈ t.slots, i ∈ own.map (·.2)) (hv : ∀ i ∈ t1.slots, i ∈ own.map (·.2))
    (hg : ∀ s H C cl fp, PG (Blk X scope s H C cl fp) tg (TgtG X.K t)) (hg1 : ∀ s H C cl fp, PG (Blk X scope s H C cl fp) tg1 (TgtG X.K t1)) (hi : SI b X tg iter fi) (hi1 : ∀ s H C cl fp, SI b (Blk X scope s H C cl fp) tg1 iter1 fi1) (hcn : ∀ s H C cl fp, ST b (Blk X scope s H C cl fp) c fb) (he : ∀ s H C cl fp, SE b (Blk X scope s H C cl fp) elt fx)
    (hf : ∀ x, foldedSetIterable iter X.env x = pure x := by intro _; rfl) (hf1 : ∀ env x, foldedSetIterable iter1 env x = pure x := by intro _ _; rfl) : SS b X (.Assign [.Name n py] (.ListComp elt [⟨tg, iter, [], 0⟩, ⟨tg1, iter1, [c], 0⟩] scope pos) spos) (sSet i (dLc2 t (own.map (·.2)) fi t1 t1.slots fi1 fb fx)) := .mk fun μ0 E ρ μ D R h => by
  have hDI : DI X tg iter ρ μ fun It μ1 => ∃ xs : List PyData, It = ⟨xs.map .im, fun _ => True⟩ ∧ xs.length ≤ 1000 ∧ Bs b μ μ1 ∧ (mapT (in2 t (own.map (·.2)) t1 t1.slots fi1 fb fx E) xs).All fun yss => ∀ μ', Bs b μ μ' → D.nx (ρ.set i (some (.im (.list yss.flatten)))) μ' :=
    hi.run μ0 E ρ μ _ R ((all_bind.mp (all_bind.mp h)).imp fun xs h μ1 s1 => by
      obtain ⟨hz, h⟩ := atMost_all (all_bind.mp h)
      exact ⟨xs, rfl, hz, s1, (all_bind.mp h).imp fun yss h μ' s => h _ μ' ((R.step s).setD i _)⟩)
  obtain ⟨wi, pi, run⟩ := hDI
  intro G H σ m v En f
  refine WS.of (ps_setLc2 (own := own) (vs1 := t1.slots) hc hN hy hyl hsw pi ok hv hg (fun s H C cl fp => pwtb (ifs := []) s H C cl fp) (fun s H C cl fp => pwib s H C cl fp) hg1 (fun s H C cl fp => pwtb (ifs := [c]) s H C cl fp) (fun s H C cl fp => pweb s H C cl fp) hf hf1) (run G H σ m v _ fun J D μ1 G1 H1 hq e1 m1 gv Dl hD => ?_)
  obtain ⟨xs, rfl, hz, s1, hq⟩ := hq
  refine lc2_sound (Qd := fun H => En.nx (σ.set i (some (.ref Dl))) H) hs R s1 v e1 m1 gv hD hi1 hcn he hz (done := fun ds μ' => D.nx (ρ.set i (some (.im (.list ds)))) μ') hq fun ds μ' G' H' hd n e m' => ?_
  obtain ⟨vs, e0, g0, w, m2⟩ := m'.frz (p := Dl) put_same
  rw [del_put n] at m2
  exact f.nx _ _ _ _ _ hd ((e1.trans e).trans (Ex.new g0)) m2 ((v.mono ((e1.trans e).trans (Ex.new g0))).set (o := .im _) (Dv.lst upd_same (w.mono (Ex.new g0))))
end
end Nx
namespace Nx
open PySem PySem.Spec PyProof.Rows L2
open Tree
section
variable {b : Addr} {X : Cx} {x y o e tg : Expr} {fx fy : DenE} {pos p p2 pos2 apos cpos : Pos} {k : Nat}
def sAsgL (is : List Nat) (f : DenE) : DenS := fun E => (f E).bind fun d => match d with
  | .list ds => if ds.length = is.length then .ret (.nx (putsE E is ds)) else .fail
  | _ => .fail
def pIdx (d y : PyData) : Option PyData := match d with
  | .list ds => if SeqAt.shaped (.list ds) = true ∧ SeqAt.shaped y = true then (match ds.findIdx? fun z => PyData.eqv z y with | some j => some (.int (j : Nat)) | none => none) else none
  | _ => none
def dIdx (fx fy : DenE) : DenE := fun E => (fx E).bind fun d => match d with
  | .list ds => (fy E).bind fun y => liftO (pIdx (.list ds) y)
  | _ => .fail
end
end Nx
namespace Nx
open PySem PySem.Spec PyProof.Rows L2
open Tree
section
variable {G H : Hp} {μ : Mu} {d : Addr} {kvs : List (List Key × V)} {ρ : Rho} {σ : L2.St}
def cutH (G : Hp) (d : Addr) : Hp := fun a => if a = d then none else G a
theorem cutH_ne {a : Addr} (h : a ≠ d) : cutH G d a = G a := if_neg h
theorem cutH_self : cutH G d d = none := if_pos rfl
theorem TupAt.cut (hd : G d = Option.some (.dT kvs)) {a : Addr} {xs : List V} (h : TupAt G a xs) : TupAt (cutH G d) a xs := by
  rcases h with h | ⟨z, o, q, h⟩
  · exact .inl ((cutH_ne (fun e => by rw [e, hd] at h; cases h)).trans h)
  · exact .inr ⟨z, o, q, (cutH_ne (fun e => by rw [e, hd] at h; cases h)).trans h⟩
mutual
theorem Dv.cut (hd : G d = some (.dT kvs)) : ∀ {v : V} {x : PyData}, Dv G v x → Dv (cutH G d) v x
  | _, _, .non => .non
  | _, _, .bl b => .bl b
  | _, _, .int i => .int i
  | _, _, .str x => .str x
  | _, _, .lst h hs => .lst ((cutH_ne (fun e => by rw [e, hd] at h; cases h)).trans h) (DvA.cut hd hs)
  | _, _, .tup h hs => .tup (h.cut hd) (DvA.cut hd hs)
theorem DvA.cut (hd : G d = some (.dT kvs)) : ∀ {vs : List V} {xs : List PyData}, DvA G vs xs → DvA (cutH G d) vs xs
  | _, _, .nil => .nil
  | _, _, .cons h hs => .cons (Dv.cut hd h) (DvA.cut hd hs)
end
theorem RO.cut (hd : G d = some (.dT kvs)) {v : V} : ∀ {o : OV}, RO G v o → RO (cutH G d) v o
  | .im _, h => Dv.cut hd h
  | .own _, h => h
  | .scr _ _, ⟨a, h1, h2⟩ => ⟨a, h1, by
    rcases h2 with (h | ⟨o, h⟩) | h
    · exact .inl (.inl ((cutH_ne (fun e => by rw [e, hd] at h; cases h)).trans h))
    · exact .inl (.inr ⟨o, (cutH_ne (fun e => by rw [e, hd] at h; cases h)).trans h⟩)
    · exact .inr h⟩
  | .pr _ _, ⟨t, v2, h1, h2, h3⟩ => ⟨t, v2, h1, (cutH_ne (fun e => by rw [e, hd] at h2; cases h2)).trans h2, Dv.cut hd h3⟩
  | .tpl _, ⟨z, a, ob, h1, h2, h3⟩ => ⟨z, a, ob, h1, h2, (cutH_ne (fun e => by rw [e, hd] at h3; cases h3)).trans h3⟩
theorem ROs.cutD (hd : G d = some (.dT kvs)) : ∀ {vs : List V} {os : List OV}, ROs G vs os → ROs (cutH G d) vs os
  | _, _, .nil => .nil
  | _, _, .cons h t => .cons (h.cut hd) (ROs.cutD hd t)
theorem RM.cut (m : RM G H μ) (hd : G d = some (.dT kvs)) : RM (cutH G d) H μ := ⟨fun a o e => m.ex a o (by
  by_cases h : a = d
  · rw [h, cutH_self] at e
    cases e
  · rw [cutH_ne h] at e
    exact e), fun a l q => by
  obtain ⟨g, vs, e, w⟩ := m.own a l q
  refine ⟨?_, vs, e, ROs.cutD hd w⟩
  unfold cutH
  split
  · rfl
  · exact g⟩
theorem RV.cut (v : RV G ρ σ) (hd : G d = some (.dT kvs)) : RV (cutH G d) ρ σ := ⟨v.len, fun i o q => let ⟨u, a, r⟩ := v.get i o q; ⟨u, a, r.cut hd⟩⟩
end
theorem inl_inj {a b : List Int} (h : a.map (Sum.inl : Int → Key) = b.map Sum.inl) : a = b := List.map_inj_right (f := (Sum.inl : Int → Key)) (fun x y e => by cases e; rfl) |>.mp h
def curI (E : Env) (i : Nat) : Option (List Int) := match E[i]? with
  | some (some (.d (.tuple ds))) => asI ds
  | _ => none
theorem curI_some {E : Env} {i : Nat} {ns : List Int} (h : curI E i = some ns) : E[i]? = some (some (.d (.tuple (iL ns)))) := by
  unfold curI at h
  split at h
  · rename_i ds e
    rw [e, asI_some h]
  · cases h
def crsT (iC : Nat) (f1 : DenE) : Nat → Env → List (List Int) → Tree Out
  | 0, _, _ => .fail
  | n + 1, E, ks => (liftO (curI E iC)).bind fun ns => match ks.findIdx? fun k => decide (k = ns) with
    | some j => .ret (.rt (.tuple [.int (j : Nat), .int ((ks.length : Int) - (j : Nat))]))
    | none => (liftO (small ks.length)).bind fun _ => (f1 E).bind fun x => crsT iC f1 n (E.set iC (some (.d x))) (ks ++ [ns])
def sCrs (iM iC n : Nat) (f0 f1 : DenE) : DenS := fun E => match E[iM]? with
  | some _ => (f0 (E.set iM none)).bind fun x => crsT iC f1 n ((E.set iM none).set iC (some (.d x))) []
  | none => .fail
theorem RV.hide {G : Hp} {ρ : Rho} {σ : L2.St} (v : RV G ρ σ) (i : Nat) (x : Option V) : RV G (ρ.set i none) (σ.set i x) := ⟨by rw [List.length_set, List.length_set, v.len], fun j o e => by
  by_cases h : i = j
  · subst h
    by_cases hl : i < ρ.length
    · rw [List.getElem?_set_self hl] at e
      cases e
    · rw [List.getElem?_eq_none (by rw [List.length_set]; omega)] at e
      cases e
  · rw [List.getElem?_set_ne h] at e ⊢
    exact v.get j o e⟩
theorem RM.dict {G H : Hp} {μ : Mu} {d : Addr} {o : HO} (m : RM G H μ) (g : G d = none) (hμ : μ d = none) : RM G (upd H d o) μ := ⟨fun a u e => by
  rw [upd_ne (ne_of_none e g)]
  exact m.ex a u e, fun a l q => by
  obtain ⟨g', vs, e, w⟩ := m.own a l q
  have ha : a ≠ d := fun z => by rw [z, hμ] at q; cases q
  exact ⟨g', vs, by rw [upd_ne ha]; exact e, w⟩⟩
theorem ite_n {c : Prop} [Decidable c] {a b : Prop} (h : ¬ c) (x : b) : if c then a else b := by rw [if_neg h]; exact x
theorem ite_y {c : Prop} [Decidable c] {a b : Prop} (h : c) (x : a) : if c then a else b := by rw [if_pos h]; exact x
theorem int_keys (ns : List Int) : ns.map V.int = (ns.map Sum.inl).map kV := by
  rw [List.map_map]
  rfl
end Nx
namespace Nx
open PySem PySem.Spec PyProof.Rows L2
open Tree
def tpl (t : List Int) : PyData := .tuple (iL t)
end Nx
namespace Nx
open PySem PySem.Spec PyProof.Rows L2
open Tree
end Nx
namespace Nx
open PySem PySem.Spec PyProof.Rows L2
open Tree
section
variable {b : Addr} {X : Cx} {x y tg : Expr} {fx fy : DenE} {pos q1 q2 q3 : Pos} {k3 : Nat}
def sPar4 (i1 i2 i3 i4 : Nat) (fx fy : DenE) : DenS := fun E => (fx E).bind fun u => (fy E).bind fun w => .ret (.nx ((((E.set i1 (some (.d u))).set i2 (some (.d w))).set i3 (some (.own []))).set i4 (some (.own []))))
end
end Nx
namespace Nx
open PySem PySem.Spec PyProof.Rows L2
open Tree
def pInD (d e : PyData) : Option Bool := match e with
  | .list ds => if SeqAt.shaped d = true ∧ SeqAt.shaped (.list ds) = true then some (ds.any fun z => PyData.eqv z d) else none
  | _ => none
theorem ok_inD {K : PySem.W.Frag} : OkCmp (rInD K) pInD := fun d d' v μ Φ h q G H vx vy m rx ry Q f => by
  unfold pInD at h
  split at h
  · rename_i ds
    split at h
    · rename_i c
      cases h
      have rx : Dv G vx d := rx
      have ry : Dv G vy (.list ds) := ry
      exact ⟨d, ds, (rx.mono m.ex).dp, (ry.mono m.ex).dp, c.1, c.2, f _ _ _ _ _ q (Ex.refl G) m (Dv.bl _)⟩
    · cases h
  · cases h
end Nx
namespace Nx
open PySem PySem.Spec PyProof.Rows L2
open Tree
theorem units65 {k : Nat} {A : Around} (r : Room k A) : A.units + 65 < cLine := by have := r.un; omega
end Nx
namespace Nx
open PySem PySem.Spec PyProof.Rows L2
open Tree
def dOIx (i : Nat) (fy : DenE) : DenE := fun E => match E[i]? with
  | some (some (.own l)) => (fy E).bind fun y => match y with | .int j => liftO (atI l j) | _ => .fail
  | _ => .fail
end Nx
namespace Nx
open PySem PySem.Spec PyProof.Rows L2
open Tree
section
variable {b : Addr} {X : Cx} {x y : Expr} {fx fy : DenE} {pos : Pos}
def sOPar (i j : Nat) (fx fy : DenE) : DenS := fun E => (fx E).bind fun d => match d with | .list xs => (fy E).bind fun e => .ret (.nx ((E.set i (some (.own xs))).set j (some (.d e)))) | _ => .fail
def sOOPar (i j : Nat) (fx fy : DenE) : DenS := fun E => (fx E).bind fun d => match d with | .list xs => (fy E).bind (fun e => match e with | .list ys => .ret (.nx ((E.set i (some (.own xs))).set j (some (.own ys)))) | _ => .fail) | _ => .fail
end
end Nx
namespace Nx
open PySem PySem.Spec PyProof.Rows L2
open Tree
end Nx
namespace Nx
open PySem PySem.Spec PyProof.Rows L2
open Tree
end Nx
namespace Nx
open PySem PySem.Spec PyProof.Rows L2
open Tree
section
variable {b : Addr} {X : Cx} {e x y tg : Expr} {fx fy : DenE} {pos : Pos}
def sNest (i j k : Nat) (fx fy : DenE) : DenS := fun E => (fx E).bind fun u => (fy E).bind fun w => match w with | .tuple [a, c] => .ret (.nx (((E.set i (some (.d u))).set j (some (.d a))).set k (some (.d c)))) | _ => .fail
end
end Nx
namespace Nx
open PySem PySem.Spec PyProof.Rows L2
open Tree
def dPr (i : Nat) (f : DenE) : DenE := fun E => match E[i]? with | some (some (.own ds)) => (f E).bind fun x => .ret (.tuple [.list ds, x]) | _ => .fail
def pC (g : DenS) (h : DenE) : DenE := fun E => (g E).bind fun o => match o with | .nx E' => h E' | _ => .fail
def pFrz (i : Nat) (h : DenE) : DenE := fun E => h (frzE i E)
def fnP (a n : Nat) (body : DenE) : List W → Tree PyData := fun ws => (liftO (lenIs a ws)).bind fun _ => body (ws.map (fun w => some (ent w)) ++ List.replicate (n - a) none)
section
variable {b : Addr} {X : Cx} {e x y : Expr} {es : List Expr} {fx : DenE} {g : DenS} {h : DenE} {st : Stmt} {ss : List Stmt} {pos : Pos} {ρ : Rho} {μ : Mu} {Φ : OV → Mu → Prop}
def sCallP (i j : Nat) (F : List W → Tree PyData) (fs : Env → Tree (List W)) : DenS := fun E => (fs E).bind fun ws => (F ws).bind fun d => match d with | .tuple [.list ds, x] => .ret (.nx ((E.set i (some (.own ds))).set j (some (.d x)))) | _ => .fail
def dOLen (i : Nat) : DenE := fun E => match E[i]? with | some (some (.own l)) => .ret (.int l.length) | _ => .fail
end
end Nx
namespace Nx
open PySem PySem.Spec PyProof.Rows L2
open Tree
end Nx
namespace Nx
open PySem PySem.Spec PyProof.Rows L2
open Tree
end Nx
namespace Nx
open PySem PySem.Spec PyProof.Rows L2
open Tree
end Nx
namespace Nx
open PySem PySem.Spec PyProof.Rows L2
open Tree
section
variable {b : Addr} {X : Cx} {e x y tg : Expr} {fx fy : DenE} {pos p : Pos}
theorem ints_dva {H : Hp} : ∀ ns : List Int, DvA H (ns.map V.int) (iL ns)
  | [] => .nil
  | n :: ns => .cons (.int n) (ints_dva ns)
end
end Nx
namespace Nx
open PySem PySem.Spec PyProof.Rows L2
open Tree
section
variable {b : Addr} {X : Cx} {x y z : Expr} {fx fy fz : DenE} {pos : Pos}
def sIx (i : Nat) (fy fz : DenE) : DenS := fun E => (fz E).bind fun z => match E[i]? with
  | some (some (.own l)) => (fy E).bind fun y => match y with | .int j => (match ixN l.length j with | some m => .ret (.nx (E.set i (some (.own (l.set m z))))) | none => .fail) | _ => .fail
  | _ => .fail
end
end Nx
namespace Nx
open PySem PySem.Spec PyProof.Rows L2
open Tree
theorem tpl_dv {G : Hp} {v : V} {ns : List Int} (h : RO G v (.tpl ns)) : Dv G v (.tuple (iL ns)) := by
  obtain ⟨z, a, ob, rfl, hd, h⟩ := h
  exact .tup (.inr ⟨z, ob, hd, h⟩) (ints_dva ns)
section
variable {X : Cx} {e o : Expr} {ρ : Rho} {μ : Mu} {Φ : OV → Mu → Prop} {pos p apos cpos : Pos}
theorem call_tuple_fz : CallR X (.type "tuple") (fun xs H Q => ∃ a ys, xs = [.ref a] ∧ H a = some (.lst ys) ∧ ∀ l ob, ob.dict = none → H l = none → Q (.ref l) (upd H l (.frz ob (.tup ys)))) := by
  intro ps st σ H xs us Q I r h
  obtain ⟨a, ys, rfl, hq, q⟩ := h
  obtain ⟨u, rfl, ru⟩ := vals1 r
  cases ru
  obtain ⟨its, rv, pl, hz⟩ := I.list (X := X) (xs := ys) (a := a) (.inl (.inl hq))
  have hlen := rv.length
  refine call_tuple_list pl.isList (fun h1 kp => ?_) (by rw [List.size_toArray]; omega)
  have J : Inv X ps σ H { st with heap := h1 } := I.kept (t' := st.toks) kp
  refine ⟨.ref h1.objs.size, upd H h1.objs.size (.frz { cls := .type "tuple", data := .seq its.toArray } (.tup ys)), J.laid (t' := st.toks) (fun c u ec => Heap.get?_push_of_some _ ec) (Nat.le_refl _) ?_, rfl, q _ _ rfl (J.hok.fresh (Nat.le_refl _))⟩
  exact ⟨Heap.get?_push_size _ rfl, hz, its, rv, _, Heap.get?_push_size _ rfl, rfl, _, rfl⟩
theorem de_tupF (hfz : fzOn = true) (B : Bt X.mg) (hg : Gl X "tuple") (h : DE X e ρ μ fun u μ1 => ∃ ns, u = .im (.list (iL ns)) ∧ Φ (.tpl ns) μ1) (he : starEach [e] X.env = (false, eval e X.env) :: starEach [] X.env := by rfl) (hpl : (backTo pos (starEach [] X.env)).any (·.1) = false := by rfl) : DE X (.Call (.Name "tuple" p) [e] [] pos) ρ μ Φ :=
  de_callT call_tuple_fz hg B.tuple PyProof.Rows.boot_tuple (he := he) (hpl := hpl) (da_cons (hs := he) (h.imp fun u μ1 ⟨ns, hu, q⟩ => da_nil fun G H vs m r Q f => by
    subst hu
    obtain ⟨v, rfl, r1⟩ := ro1 r
    have r1 : Dv G v (.list (iL ns)) := r1
    cases r1 with
    | lst h1 w1 =>
      have ew := DvA.ints ns w1
      subst ew
      refine ⟨_, _, rfl, m.ex _ _ h1, fun l ob hd hl => ?_⟩
      have n := m.ex.free hl
      exact f _ _ _ _ _ q (Ex.new n) (m.lay hl) ⟨hfz, l, ob, rfl, hd, upd_same⟩))
def tTIx (to : TE) (ta : TA) : TE := fun σ H Q => to σ H fun x H1 => ∃ (a : Addr) (ob : Obj) (ns : List Int), x = .ref a ∧ ob.dict = none ∧ H1 a = some (.frz ob (.tup (ns.map V.int))) ∧ ta σ H1 fun vs H2 => ∃ k : Int, vs = [.int k] ∧ k ∈ ns ∧ H2 a = some (.frz ob (.tup (ns.map V.int))) ∧ Q (.int ((ns.idxOf k : Nat) : Int)) H2
theorem pe_tix {to : TE} {ta : TA} (ho : PE X o to) (ha : PA X [e] ta) (hbase : attributeBase o "index" X.env (eval o X.env) = eval o X.env)
    (hfew : ((backTo cpos (starEach [e] X.env)).all (fun x => !x.1) && (backToKw cpos (keywordEach [] X.env)).all (fun x => x.1.isSome) && decide ([e].length + ([] : List Keyword).length + (if ([] : List Keyword).isEmpty then 0 else 1) < 30)) = true)
    (hline : (apos.endLine == cpos.line) = true) (hs : starEach [e] X.env = (false, eval e X.env) :: starEach [] X.env) (hplain : (backTo cpos (starEach [] X.env)).any (·.1) = false) :
    PE X (.Call (.Attribute o "index" apos) [e] [] cpos) (tTIx to ta) := by
  refine ⟨fun ps st σ H Q I h => ?_⟩
  refine wpAny_Call_method_late hbase hfew hline rfl (thn (ho.run ps st σ H _ I h) fun u s1 ⟨x, H1, I1, ru, q1⟩ => ?_)
  obtain ⟨a, ob, ns, rfl, hd, hfz, q1⟩ := q1
  cases ru
  obtain ⟨hget, _, its, rv, o1, ho1, hc1, _⟩ := I1.hok a _ hfz
  have eo : o1 = ob := Option.some.inj (ho1.symm.trans hget)
  subst eo
  refine ⟨"tuple", "tuple.index", PySem.F.plainAttrs_tuple, PySem.F.slot_tuple_index, PySem.F.type_tuple_index, ⟨o1, hget, hc1⟩, fun c ec => ?_, ?_⟩
  · cases ec
    exact ⟨o1, hget, hd⟩
  have run := ha.run cpos ps s1 σ H1 _ I1 q1
  rw [hs] at run ⊢
  refine Calls.callWith_builtin (show (false || (backTo cpos (starEach [] X.env)).any (·.1)) = false by rw [hplain]; rfl) (Calls.evalArgs_plain (thn run fun us s2 ⟨vs, H2, I2, r2, q2⟩ => ?_))
  obtain ⟨k, rfl, hk, hfz2, q2⟩ := q2
  obtain ⟨u, rfl, t, rfl⟩ := vals1 r2
  obtain ⟨hget2, _, its2, rv2, hT2⟩ := I2.hok a _ hfz2
  exact SeqAt.tuple_index_ints (vs := its2) hT2 (by simpa using RZ.intsAre_vals rv2) hk ⟨.int ((ns.idxOf k : Nat) : Int), H2, I2.tok _, ⟨_, rfl⟩, q2⟩
end
def asTI : PyData → Option (List Int)
  | .tuple ds => asI ds
  | _ => none
def dVT (i : Nat) : DenE := fun E => match E[i]? with | some (some (.tpl ns)) => .ret (.tuple (iL ns)) | _ => .fail
def dTIx (i : Nat) (fy : DenE) : DenE := fun E => match E[i]? with
  | some (some (.tpl ns)) => (fy E).bind fun y => match y with | .int k => if k ∈ ns then .ret (.int ((ns.idxOf k : Nat) : Int)) else .fail | _ => .fail
  | _ => .fail
def sSetT (i : Nat) (f : DenE) : DenS := fun E => (f E).bind fun d => match asTI d with | some ns => .ret (.nx (E.set i (some (.tpl ns)))) | none => .fail
def sParT (i j : Nat) (f g : DenE) : DenS := fun E => (f E).bind fun d => match asTI d with | some ns => (g E).bind fun x => .ret (.nx ((E.set i (some (.tpl ns))).set j (some (.d x)))) | none => .fail
section
variable {b : Addr} {X : Cx} {e x y o : Expr} {es : List Expr} {fx fy : DenE} {f : DenS} {st : Stmt} {ss : List Stmt} {pos p cpos apos rp : Pos} {gs : Env → Tree (List W)}
theorem Rel.setT {μ0 μ : Mu} {E : Env} {ρ : Rho} (R : Rel b μ0 E ρ μ) (i : Nat) (ns : List Int) : Rel b μ0 (E.set i (some (.tpl ns))) (ρ.set i (some (.tpl ns))) μ := by
  refine ⟨by rw [List.length_set, List.length_set, R.len], R.bxs, R.bx0, R.ext, fun j w ew => ?_, fun j k ds es p e1 e2 h1 h2 => ?_⟩
  · rcases get_set ew with ⟨rfl, rfl, hl⟩ | ⟨n, ew⟩
    · exact ⟨_, List.getElem?_set_self (by rw [R.len]; exact hl), rfl⟩
    · obtain ⟨u, a1, a2⟩ := R.get j w ew
      exact ⟨u, by rw [List.getElem?_set_ne n]; exact a1, a2⟩
  · rcases get_set e1 with ⟨_, h, _⟩ | ⟨n1, e1⟩
    · cases h
    rcases get_set e2 with ⟨_, h, _⟩ | ⟨n2, e2⟩
    · cases h
    rw [List.getElem?_set_ne n1] at h1
    rw [List.getElem?_set_ne n2] at h2
    exact R.inj j k ds es p e1 e2 h1 h2
theorem de_weak {ρ : Rho} {μ : Mu} {Φ : OV → Mu → Prop} (h : DE X e ρ μ fun u μ1 => ∃ ns, u = .tpl ns ∧ Φ (.im (.tuple (iL ns))) μ1) : DE X e ρ μ Φ := fun G H σ m v Q k =>
  h G H σ m v Q fun vx u μ1 G1 H1 q1 e1 m1 r1 => by
    obtain ⟨ns, rfl, q⟩ := q1
    exact k _ _ _ _ _ q e1 m1 (tpl_dv r1)
theorem se_vT (i : Nat) {n : Str} (hN : X.N[i]? = some n := by rfl) (hv : Vis X.env.scope n := by first | exact Or.inl rfl | exact Or.inr (Or.inl rfl) | exact Or.inr (Or.inr rfl)) (hd : (n == ("__debug__" : Str)) = false := by decide) (hcd : (n == ("__classdict__" : Str)) = false := by decide) : SE b X (.Name n pos) (dVT i) := .mk fun μ0 E ρ μ Φ R q => by
  unfold dVT at q
  split at q
  · rename_i ns hl
    obtain ⟨u, h1, h2⟩ := R.get i _ hl
    cases h2
    exact de_weak (de_var i hN hv h1 ⟨ns, rfl, q μ (Bs.refl b μ)⟩ hd hcd)
  · exact q.elim
theorem se_tix (i : Nat) {n : Str} {np : Pos} (hy : SE b X e fy) (hN : X.N[i]? = some n := by rfl) (hv : Vis X.env.scope n := by first | exact Or.inl rfl | exact Or.inr (Or.inl rfl) | exact Or.inr (Or.inr rfl)) (hd : (n == ("__debug__" : Str)) = false := by decide) (hcd : (n == ("__classdict__" : Str)) = false := by decide)
    (hbase : attributeBase (.Name n np) "index" X.env (eval (.Name n np) X.env) = eval (.Name n np) X.env := by rfl)
    (hfew : ((backTo cpos (starEach [e] X.env)).all (fun x => !x.1) && (backToKw cpos (keywordEach [] X.env)).all (fun x => x.1.isSome) && decide ([e].length + ([] : List Keyword).length + (if ([] : List Keyword).isEmpty then 0 else 1) < 30)) = true := by rfl)
    (hline : (apos.endLine == cpos.line) = true := by rfl) (hs : starEach [e] X.env = (false, eval e X.env) :: starEach [] X.env := by rfl) (hplain : (backTo cpos (starEach [] X.env)).any (·.1) = false := by rfl) : SE b X (.Call (.Attribute (.Name n np) "index" apos) [e] [] cpos) (dTIx i fy) := .mk fun μ0 E ρ μ Φ R q => by
  unfold dTIx at q
  split at q
  · rename_i ns hl
    obtain ⟨u, h1, h2⟩ := R.get i _ hl
    cases h2
    intro G H σ m v Q k
    refine WE.of (pe_tix (pe_var hN hv hd hcd) pwa hbase hfew hline hs hplain) ?_
    obtain ⟨w, hw, rw_⟩ := v.get i _ h1
    have rw0 := rw_
    obtain ⟨hfz, a, ob, rfl, hdn, hG⟩ := rw_
    refine ⟨_, hw, a, ob, ns, rfl, hdn, m.ex _ _ hG, ?_⟩
    refine (da_cons (Λ := fun os μ2 => ∃ kk : Int, os = [.im (.int kk)] ∧ kk ∈ ns ∧ Φ (.im (.int ((ns.idxOf kk : Nat) : Int))) μ2) (hy.run μ0 E ρ μ _ R ((all_bind.mp q).imp fun d q μ1 s1 => ?_)) hs) G H σ m v _ fun vs os μ2 G2 H2 q2 e2 m2 r2 => ?_
    · cases d with
      | int kk =>
        dsimp only at q
        split at q
        · rename_i hk
          exact da_nil ⟨kk, rfl, hk, q μ1 s1⟩
        · exact q.elim
      | _ => exact q.elim
    · obtain ⟨kk, rfl, hk, q2⟩ := q2
      obtain ⟨u, rfl, ru⟩ := ro1 r2
      cases ru
      exact ⟨kk, rfl, hk, m2.ex _ _ (e2 _ _ hG), k _ _ _ _ _ q2 e2 m2 (Dv.int _)⟩
  · exact q.elim
theorem pSrt_list {d r : PyData} (h : pSrt d = some r) : ∃ ds, r = .list ds := by
  unfold pSrt at h
  first
  | (obtain ⟨ns, _, e⟩ := onI_some h; cases e; exact ⟨_, rfl⟩)
  | (split at h <;> first | (cases h; done) | (split at h <;> cases h <;> exact ⟨_, rfl⟩))
end
end Nx
namespace Nx
open PySem PySem.Spec PyProof.Rows L2
open Tree
section
variable (P : Program) (w : World)
def DXp (d : Addr) (xs : List (List Key × Addr × Value)) (h : Heap) : Prop := xs.length ≤ sizeLine ∧ (d == sysModules) = false ∧ ∃ o es ep, h.get? d = some o ∧ o.ExactDict ∧ o.data = .dict es ep ∧ es.toList = xs.map (entryOfKey (tupleKind (mixKind P w))) ∧ (xs.map (·.1)).Nodup
def DXo (d : Addr) (xs : List (List Key × Addr × Value)) : HO := .ext (DXp P w d xs)
def KR (H : Hp) (xs : List (List Key × Addr × Value)) : Prop := ∀ x ∈ xs, Rd H x.2.1 (.tup (x.1.map kV))
variable {P : Program} {w : World} {H : Hp} {h : Heap} {d : Addr} {xs : List (List Key × Addr × Value)}
theorem dx_obj (q : DXp P w d xs h) : ObjOk P w H h d (DXo P w d xs) := by
  refine ⟨q, ?_, fun h1 h2 p k => ?_⟩
  · obtain ⟨_, _, o, _, _, e, _⟩ := q
    exact ⟨o, e⟩
  · obtain ⟨a, b, o, es, ep, e, r⟩ := p
    exact ⟨a, b, o, es, ep, k o e, r⟩
theorem key_rd {ks : List Key} {a : Addr} (ok : HOk P w H h) (e : Rd H a (.tup (ks.map kV))) : (tupleKind (mixKind P w)).is h ks a := by
  obtain ⟨_, its, r, o, h1, h2, n, h3⟩ := (show ObjOk P w H h a (.tup (ks.map kV)) from rd_of ok e)
  exact ⟨o, its.toArray, n, h1, h2, h3, by simpa using items_are r⟩
theorem dx_rd (ok : HOk P w H h) (e : H d = some (DXo P w d xs)) (kr : KR H xs) : xs.length ≤ sizeLine ∧ (d == sysModules) = false ∧ h.DictOfH (tupleKind (mixKind P w)) d xs := by
  obtain ⟨⟨z, y, o, es, ep, h1, h2, h3, h4, h5⟩, _⟩ := (show ObjOk P w H h d (DXo P w d xs) from ok d _ e)
  exact ⟨z, y, o, es, ep, h1, h2, h3, h4, fun x hx => key_rd ok (kr x hx), h5⟩
end
section
variable {X : Cx} {pos pos' tpos : Pos} {o i value : Expr} {td ty tv : TE}
def tXNew (X : Cx) : TE := fun _ H Q => ∀ p, H p = none → Q (.ref p) (upd H p (DXo X.prog X.w p []))
theorem pe_xnew : PE X (.Dict [] [] pos) (tXNew X) := ⟨fun pins s σ H Q I h =>
  wpAny_Dict_empty ⟨.ref s.heap.objs.size, _, I.laid (a := s.heap.objs.size) (o := DXo X.prog X.w s.heap.objs.size []) (t' := s.toks) (fun _ _ q => Heap.get?_push_of_some _ q) (Nat.le_refl _) (dx_obj ⟨Nat.zero_le _, beq_eq_false_iff_ne.mpr (Ne.symm (Nat.ne_of_lt I.big)), _, #[], 0, Heap.get?_push_size _ rfl, ⟨rfl, rfl, rfl⟩, rfl, rfl, List.nodup_nil⟩), rfl, h _ (I.hok.fresh (Nat.le_refl _))⟩⟩
def tXGet (X : Cx) (td ty : TE) : TE := fun σ H Q => td σ H fun x H1 => ty σ H1 fun y H2 => ∃ (a b : Addr) (xs : List (List Key × Addr × Value)) (k : List Key) (p : Addr × Value) (v : V), x = .ref a ∧ y = .ref b ∧ H2 a = some (DXo X.prog X.w a xs) ∧ KR H2 xs ∧ Rd H2 b (.tup (k.map kV)) ∧ atKey xs k = some p ∧ RelV v p.2 ∧ Q v H2
theorem pe_xget (hu : X.A.units + 1 < cLine) (ho : PE X o td) (hi : PE X i ty) (hs : NoSl i) : PE X (.Subscript o i pos) (tXGet X td ty) := by
  refine ⟨fun pins s σ H Q I h => ?_⟩
  refine subD_of PySem.F.slot_dict_getitem.lookup hs (thn (ho.run pins s σ H _ I h) fun u s1 ⟨x, H1, I1, rx, q1⟩ => thn (hi.run pins s1 σ H1 _ I1 q1) fun iv s2 ⟨y, H2, I2, ry, a, b, xs, k, p, v, ex, ey, e, kr, rk, hp, rv, q2⟩ => ?_)
  subst ex ey
  obtain rfl : u = Value.ref a := rx
  obtain rfl : iv = Value.ref b := ry
  obtain ⟨z, hd, dd⟩ := dx_rd I2.hok e kr
  exact ⟨dd.typeIs, wpAny_getItem_heap (tupleKind_room_in1 hu) (key_rd I2.hok rk) dd hp ⟨v, H2, I2.tok _, rv, q2⟩⟩
def tXNotIn (X : Cx) (ty td : TE) : TE := fun σ H Q => ty σ H fun y H1 => td σ H1 fun x H2 => ∃ (a b : Addr) (xs : List (List Key × Addr × Value)) (k : List Key), x = .ref a ∧ y = .ref b ∧ H2 a = some (DXo X.prog X.w a xs) ∧ KR H2 xs ∧ Rd H2 b (.tup (k.map kV)) ∧ Q (.bl (!(atKey xs k).isSome)) H2
theorem pc_xnotin (hu : X.A.units + 1 < cLine) (hi : PE X i ty) (ho : PE X o td) : PC X .NotIn i o (tXNotIn X ty td) := by
  refine ⟨fun pins s σ H Q I h => ?_⟩
  refine thn (hi.run pins s σ H _ I h) fun iv s1 ⟨y, H1, I1, ry, q1⟩ => thn (ho.run pins s1 σ H1 _ I1 q1) fun u s2 ⟨x, H2, I2, rx, a, b, xs, k, ex, ey, e, kr, rk, q2⟩ => ?_
  subst ex ey
  obtain rfl : u = Value.ref a := rx
  obtain rfl : iv = Value.ref b := ry
  obtain ⟨z, hd, dd⟩ := dx_rd I2.hok e kr
  exact wpAny_notIn_heap (tupleKind_room_in1 hu) (key_rd I2.hok rk) hd dd ⟨.bl (!(atKey xs k).isSome), H2, I2.tok _, rfl, q2⟩
def sXPut (X : Cx) (td ty tv : TE) : TS := fun D σ H => tv σ H fun v H1 => td σ H1 fun x H2 => ty σ H2 fun y H3 => ∃ (a b : Addr) (xs : List (List Key × Addr × Value)) (k : List Key), x = .ref a ∧ y = .ref b ∧ H3 a = some (DXo X.prog X.w a xs) ∧ KR H3 xs ∧ Rd H3 b (.tup (k.map kV)) ∧ atKey xs k = none ∧ xs.length < sizeLine ∧
  ∀ r, RelV v r → D.nx σ (upd H3 a (DXo X.prog X.w a (xs ++ [(k, b, r)])))
theorem ps_xput (hu : X.A.units + 1 < cLine) (ho : PE X o td) (hi : PE X i ty) (hv : PE X value tv) (hs : swapsWith value (some (.Subscript o i pos')) pos.line X.env = pure false) :
    PS X (.Assign [.Subscript o i pos'] value pos) (sXPut X td ty tv) := by
  refine ⟨fun pins s σ H D I h => ?_⟩
  refine wpAny_Assign_Subscript (thn (hv.run pins s σ H _ I h) fun r s1 ⟨v, H1, I1, rv, q1⟩ => thn (ho.run pins s1 σ H1 _ I1 q1) fun u s2 ⟨x, H2, I2, rx, q2⟩ => thn (hi.run pins s2 σ H2 _ I2 q2) fun iv s3 ⟨y, H3, I3, ry, a, b, xs, k, ex, ey, e, kr, rk, hn, hl, q3⟩ => ?_) hs
  subst ex ey
  obtain rfl : u = Value.ref a := rx
  obtain rfl : iv = Value.ref b := ry
  obtain ⟨z, hd, dd⟩ := dx_rd I3.hok e kr
  refine wpAny_setItem_heap (hsz := z) (tupleKind_room_in1 hu) (key_rd I3.hok rk) dd fun h' dd' hsb => ?_
  rw [storedH_new hn] at dd'
  obtain ⟨ob, es, ep, hq, h2, h3, h4, _, h5⟩ := dd'
  refine ⟨σ, _, d_write (t' := s3.toks + (tupleKind (mixKind X.prog X.w)).draws k) I3 (by rw [e]; exact True.intro) hsb ⟨ob, hq⟩ (dx_obj ⟨by rw [List.length_append, List.length_singleton]; omega, hd, ob, es, ep, hq, h2, h3, h4, h5⟩), q3 r rv⟩
def rLenX (X : Cx) : List V → Hp → VK → Prop := fun vs H Q => ∃ (p : Addr) (xs : List (List Key × Addr × Value)), vs = [.ref p] ∧ H p = some (DXo X.prog X.w p xs) ∧ KR H xs ∧ Q (.int ((xs.length : Nat) : Int)) H
theorem call_len_dX : CallR X (.builtin "len") (rLenX X) := by
  intro pins s σ H vs us Q I r h
  obtain ⟨p, xs, rfl, hp, kr, q⟩ := h
  obtain ⟨u, rfl, rx⟩ := vals1 r
  obtain rfl : u = .ref p := rx
  obtain ⟨z, hd, dd⟩ := dx_rd I.hok hp kr
  refine call_len_dictH hd dd (by rw [sizeLine_eq] at z; omega) ?_
  exact ⟨.int ((xs.length : Nat) : Int), H, I.tok _, ⟨_, rfl⟩, q⟩
end
section
variable {G H : Hp} {μ : Mu} {d : Addr} {φ : Heap → Prop} {ρ : Rho} {σ : L2.St}
theorem TupAt.cutX (hd : G d = Option.some (.ext φ)) {a : Addr} {xs : List V} (h : TupAt G a xs) : TupAt (cutH G d) a xs := by
  rcases h with h | ⟨z, o, q, h⟩
  · exact .inl ((cutH_ne (fun e => by rw [e, hd] at h; cases h)).trans h)
  · exact .inr ⟨z, o, q, (cutH_ne (fun e => by rw [e, hd] at h; cases h)).trans h⟩
mutual
theorem Dv.cutX (hd : G d = some (.ext φ)) : ∀ {v : V} {x : PyData}, Dv G v x → Dv (cutH G d) v x
  | _, _, .non => .non
  | _, _, .bl b => .bl b
  | _, _, .int i => .int i
  | _, _, .str x => .str x
  | _, _, .lst h hs => .lst ((cutH_ne (fun e => by rw [e, hd] at h; cases h)).trans h) (DvA.cutX hd hs)
  | _, _, .tup h hs => .tup (h.cutX hd) (DvA.cutX hd hs)
theorem DvA.cutX (hd : G d = some (.ext φ)) : ∀ {vs : List V} {xs : List PyData}, DvA G vs xs → DvA (cutH G d) vs xs
  | _, _, .nil => .nil
  | _, _, .cons h hs => .cons (Dv.cutX hd h) (DvA.cutX hd hs)
end
theorem RO.cutX (hd : G d = some (.ext φ)) {v : V} : ∀ {o : OV}, RO G v o → RO (cutH G d) v o
  | .im _, h => Dv.cutX hd h
  | .own _, h => h
  | .scr _ _, ⟨a, h1, h2⟩ => ⟨a, h1, by
    rcases h2 with (h | ⟨o, h⟩) | h
    · exact .inl (.inl ((cutH_ne (fun e => by rw [e, hd] at h; cases h)).trans h))
    · exact .inl (.inr ⟨o, (cutH_ne (fun e => by rw [e, hd] at h; cases h)).trans h⟩)
    · exact .inr h⟩
  | .pr _ _, ⟨t, v2, h1, h2, h3⟩ => ⟨t, v2, h1, (cutH_ne (fun e => by rw [e, hd] at h2; cases h2)).trans h2, Dv.cutX hd h3⟩
  | .tpl _, ⟨z, a, ob, h1, h2, h3⟩ => ⟨z, a, ob, h1, h2, (cutH_ne (fun e => by rw [e, hd] at h3; cases h3)).trans h3⟩
theorem ROs.cutDX (hd : G d = some (.ext φ)) : ∀ {vs : List V} {os : List OV}, ROs G vs os → ROs (cutH G d) vs os
  | _, _, .nil => .nil
  | _, _, .cons h t => .cons (h.cutX hd) (ROs.cutDX hd t)
theorem RM.cutX (m : RM G H μ) (hd : G d = some (.ext φ)) : RM (cutH G d) H μ := ⟨fun a o e => m.ex a o (by
  by_cases h : a = d
  · rw [h, cutH_self] at e
    cases e
  · rw [cutH_ne h] at e
    exact e), fun a l q => by
  obtain ⟨g, vs, e, w⟩ := m.own a l q
  refine ⟨?_, vs, e, ROs.cutDX hd w⟩
  unfold cutH
  split
  · rfl
  · exact g⟩
theorem RM.lendX (m : RM G H μ) (hd : H d = some (.ext φ)) (g : G d = none) (hμ : μ d = none) : RM (upd G d (.ext φ)) H μ := ⟨fun a o e => by
  by_cases h : a = d
  · rw [h, upd_same] at e
    rw [h, ← e]
    exact hd
  · rw [upd_ne h] at e
    exact m.ex a o e, fun a l q => by
  obtain ⟨g', vs, e, w⟩ := m.own a l q
  have ha : a ≠ d := fun z => by rw [z, hμ] at q; cases q
  exact ⟨by rw [upd_ne ha]; exact g', vs, e, w.mono (Ex.new g)⟩⟩
theorem de_lendX {X : Cx} {e : Expr} {Φ : OV → Mu → Prop} {Q : VK} (h : DE X e ρ μ Φ) (m : RM G H μ) (v : RV G ρ σ) (hd : H d = some (.ext φ)) (g : G d = none) (hμ : μ d = none)
    (f : ∀ u o μ' G' H', Φ o μ' → Ex G G' → RM G' H' μ' → RO G' u o → H' d = some (.ext φ) → G' d = none → μ' d = none → Q u H') : WE X e σ H Q :=
  h (upd G d (.ext φ)) H σ (m.lendX hd g hμ) (v.mono (Ex.new g)) Q fun u o μ' G' H' q e m' r => by
    have hd' : G' d = some (.ext φ) := e d _ upd_same
    refine f u o μ' (cutH G' d) H' q (fun a x ha => ?_) (m'.cutX hd') (r.cutX hd') (m'.ex d _ hd') cutH_self ?_
    · rw [cutH_ne (ne_of_none ha g)]
      exact e a x (Ex.new g a x ha)
    · cases z : μ' d with
      | none => rfl
      | some l =>
        have := (m'.own d l z).1
        rw [hd'] at this
        cases this
end
def XKs (G : Hp) : Nat → List (List Int) → List (List Key × Addr × Value) → Prop
  | _, [], [] => True
  | o, k :: ks, x :: xs => (x.1 = k.map Sum.inl ∧ TupAt G x.2.1 (k.map V.int) ∧ RelV (.int (o : Int)) x.2.2) ∧ XKs G (o + 1) ks xs
  | _, _, _ => False
theorem XKs.len {G : Hp} : ∀ {o : Nat} {ks : List (List Int)} {xs : List (List Key × Addr × Value)}, XKs G o ks xs → xs.length = ks.length
  | _, [], [], _ => rfl
  | o, k :: ks, x :: xs, h => by rw [List.length_cons, List.length_cons, XKs.len h.2]
  | _, [], _ :: _, h => h.elim
  | _, _ :: _, [], h => h.elim
theorem XKs.mono {G G' : Hp} (e : Ex G G') : ∀ {o : Nat} {ks : List (List Int)} {xs : List (List Key × Addr × Value)}, XKs G o ks xs → XKs G' o ks xs
  | _, [], [], _ => True.intro
  | o, k :: ks, x :: xs, ⟨⟨h1, h2, h3⟩, h⟩ => ⟨⟨h1, h2.mono e, h3⟩, XKs.mono e h⟩
  | _, [], _ :: _, h => h.elim
  | _, _ :: _, [], h => h.elim
theorem XKs.at {G : Hp} (ns : List Int) : ∀ {o : Nat} {ks : List (List Int)} {xs : List (List Key × Addr × Value)}, XKs G o ks xs → match ks.findIdx? fun k => decide (k = ns) with
    | some j => ∃ p, atKey xs (ns.map Sum.inl) = some p ∧ RelV (.int ((o + j : Nat) : Int)) p.2
    | none => atKey xs (ns.map Sum.inl) = none
  | _, [], [], _ => rfl
  | o, k :: ks, x :: xs, ⟨⟨h1, h2, h3⟩, h⟩ => by
    rw [List.findIdx?_cons]
    by_cases e : k = ns
    · simp only [e, decide_true, if_true]
      refine ⟨x.2, ?_, h3⟩
      unfold atKey
      rw [List.find?_cons_of_pos (by rw [h1, e]; simp)]
      rfl
    · have ne : ¬ x.1 = ns.map Sum.inl := fun z => e (inl_inj (h1.symm.trans z))
      have hx : atKey (x :: xs) (ns.map Sum.inl) = atKey xs (ns.map Sum.inl) := by
        unfold atKey
        rw [List.find?_cons_of_neg (by simpa using ne)]
      have ih := XKs.at ns h
      simp only [e, decide_false, Bool.false_eq_true, if_false, hx]
      cases hf : ks.findIdx? fun k => decide (k = ns) with
      | none =>
        rw [hf] at ih
        exact ih
      | some j =>
        rw [hf] at ih
        obtain ⟨p, a, r⟩ := ih
        exact ⟨p, a, by rw [show o + (j + 1) = o + 1 + j by omega]; exact r⟩
  | _, [], _ :: _, h => h.elim
  | _, _ :: _, [], h => h.elim
theorem XKs.snoc {G : Hp} {ns : List Int} {b : Addr} {r : Value} (hb : TupAt G b (ns.map V.int)) : ∀ {o : Nat} {ks : List (List Int)} {xs : List (List Key × Addr × Value)}, XKs G o ks xs → RelV (.int ((o + ks.length : Nat) : Int)) r → XKs G o (ks ++ [ns]) (xs ++ [(ns.map Sum.inl, b, r)])
  | o, [], [], _, hr => ⟨⟨rfl, hb, hr⟩, True.intro⟩
  | o, k :: ks, x :: xs, ⟨h1, h⟩, hr => ⟨h1, XKs.snoc hb h (by rw [show o + 1 + ks.length = o + (k :: ks).length by rw [List.length_cons]; omega]; exact hr)⟩
  | _, [], _ :: _, h, _ => h.elim
  | _, _ :: _, [], h, _ => h.elim
theorem XKs.kr {G H : Hp} (e : Ex G H) : ∀ {o : Nat} {ks : List (List Int)} {xs : List (List Key × Addr × Value)}, XKs G o ks xs → KR H xs
  | _, [], [], _ => fun x hx => nomatch hx
  | o, k :: ks, x :: xs, ⟨⟨h1, h2, h3⟩, h⟩ => fun y hy => by
    rcases List.mem_cons.mp hy with rfl | hy
    · rw [h1, ← int_keys]
      rcases h2 with h2 | ⟨_, o, _, h2⟩
      · exact .inl (e _ _ h2)
      · exact .inr ⟨o, e _ _ h2⟩
    · exact XKs.kr e h y hy
  | _, [], _ :: _, h => h.elim
  | _, _ :: _, [], h => h.elim
section
variable {b : Addr} {X : Cx} {e0 e1 : Expr} {f0 f1 : DenE} {k iM iC : Nat} {nm nc : Str} {p1 p2 p3 p4 p5 p6 p7 p8 p9 q1 q2 q3 q4 q5 q6 q7 q8 q9 r1 r2 r3 r4 r5 r6 r7 r8 r9 s1 s2 s3 : Pos} {kt : Nat}
theorem sss_courseX (n : Nat) (hN : X.N.Nodup) (hM : X.N[iM]? = some nm) (hC : X.N[iC]? = some nc) (hMC : iM ≠ iC) (lM : Loc X.env.scope nm) (lC : Loc X.env.scope nc) (vM : Vis X.env.scope nm) (vC : Vis X.env.scope nc)
    (B : Bt X.mg) (hg : Gl X "len") (hr : Rm k X.A) (hp : PassesOwn (model X.prog X.w) X.A X.env X.xe) (h0 : SE b X e0 f0) (h1 : SE b X e1 f1)
    (d1 : (nm == ("__debug__" : Str)) = false := by decide) (d2 : (nm == ("__classdict__" : Str)) = false := by decide) (d3 : (nc == ("__debug__" : Str)) = false := by decide) (d4 : (nc == ("__classdict__" : Str)) = false := by decide)
    (w1 : swapsWith (.Dict [] [] p1) (some (.Name nm p2)) p3.line X.env = pure false := by rfl) (w2 : swapsWith e0 (some (.Name nc p4)) p5.line X.env = pure false := by rfl)
    (w3 : swapsWith (.Call (.Name "len" q1) [.Name nm q2] [] q3) (some (.Subscript (.Name nm q4) (.Name nc q5) q6)) q7.line X.env = pure false := by rfl) (w4 : swapsWith e1 (some (.Name nc q8)) q9.line X.env = pure false := by rfl)
    (fM : X.fn nm = true ∨ X.env.scope.names.lookup nm = some .local := by first | exact .inl rfl | exact .inr rfl) (fC : X.fn nc = true ∨ X.env.scope.names.lookup nc = some .local := by first | exact .inl rfl | exact .inr rfl)
    (hm1 : behindInMarks .NotIn (.Name nm p7) = false := by rfl)
    (z1 : starEach [.Name nm q2] X.env = (false, eval (.Name nm q2) X.env) :: starEach [] X.env := by rfl) (z2 : (backTo q3 (starEach [] X.env)).any (·.1) = false := by rfl)
    (z3 : starEach [.Name nm r4] X.env = (false, eval (.Name nm r4) X.env) :: starEach [] X.env := by rfl) (z4 : (backTo r5 (starEach [] X.env)).any (·.1) = false := by rfl)
    (z5 : starEach [.Subscript (.Name nm r1) (.Name nc r2) p9, .BinOp (.Call (.Name "len" r3) [.Name nm r4] [] r5) .Sub (.Subscript (.Name nm r6) (.Name nc r7) r8) r9] X.env = (false, eval (.Subscript (.Name nm r1) (.Name nc r2) p9) X.env) :: starEach [.BinOp (.Call (.Name "len" r3) [.Name nm r4] [] r5) .Sub (.Subscript (.Name nm r6) (.Name nc r7) r8) r9] X.env := by rfl)
    (z6 : starEach [.BinOp (.Call (.Name "len" r3) [.Name nm r4] [] r5) .Sub (.Subscript (.Name nm r6) (.Name nc r7) r8) r9] X.env = (false, eval (.BinOp (.Call (.Name "len" r3) [.Name nm r4] [] r5) .Sub (.Subscript (.Name nm r6) (.Name nc r7) r8) r9) X.env) :: starEach [] X.env := by rfl) :
    SSs b X [.Assign [.Name nm p2] (.Dict [] [] p1) p3, .Assign [.Name nc p4] e0 p5,
      .While (.Compare (.Name nc p6) [.NotIn] [.Name nm p7] p8) [.Assign [.Subscript (.Name nm q4) (.Name nc q5) q6] (.Call (.Name "len" q1) [.Name nm q2] [] q3) q7, .Assign [.Name nc q8] e1 q9] [] s1,
      .Return (some (.Tuple [.Subscript (.Name nm r1) (.Name nc r2) p9, .BinOp (.Call (.Name "len" r3) [.Name nm r4] [] r5) .Sub (.Subscript (.Name nm r6) (.Name nc r7) r8) r9] kt s2)) s3] (sCrs iM iC n f0 f1) := .mk fun μ0 E ρ μ D R q G H σ m v Ed f => by
  have hu : X.A.units + 1 < cLine := by have := hr.room.un; omega
  have P1 : PS X (.Assign [.Name nm p2] (.Dict [] [] p1) p3) _ := ps_set hN hM lM pe_xnew w1 fM
  have P2 : PS X (.Assign [.Name nc p4] e0 p5) _ := ps_set hN hC lC pwe w2 fC
  have pM : ∀ {q : Pos}, PE X (.Name nm q) (tVar iM) := fun {q} => pe_var hM vM d1 d2
  have pC : ∀ {q : Pos}, PE X (.Name nc q) (tVar iC) := fun {q} => pe_var hC vC d3 d4
  have pL : PE X (.Call (.Name "len" q1) [.Name nm q2] [] q3) _ := pe_callB call_len_dX hg B.len PySem.boot_len (pa_cons pM pa_nil z1) (by decide) (by decide) z1 z2
  have pL2 : PE X (.Call (.Name "len" r3) [.Name nm r4] [] r5) _ := pe_callB call_len_dX hg B.len PySem.boot_len (pa_cons pM pa_nil z3) (by decide) (by decide) z3 z4
  have pT : PT X (.Compare (.Name nc p6) [.NotIn] [.Name nm p7] p8) _ := pt_cmp (pc_xnotin hu pC pM) hm1
  have pB1 : PS X (.Assign [.Subscript (.Name nm q4) (.Name nc q5) q6] (.Call (.Name "len" q1) [.Name nm q2] [] q3) q7) _ := ps_xput hu pM pC pL w3
  have pB2 : PS X (.Assign [.Name nc q8] e1 q9) _ := ps_set hN hC lC pwe w4 fC
  have pG1 : PE X (.Subscript (.Name nm r1) (.Name nc r2) p9) _ := pe_xget hu pM pC (fun _ _ => rfl)
  have pG2 : PE X (.Subscript (.Name nm r6) (.Name nc r7) r8) _ := pe_xget hu pM pC (fun _ _ => rfl)
  have pR := pe_tup (x1 := kt) (pos := s2) (pa_cons pG1 (pa_cons (pe_op (pos := r9) op_sub pL2 pG2) pa_nil z6) z5)
  refine WSs.of (pss_cons P1 (pss_cons P2 (pss_cons (ps_while (pos := s1) hp pT (pss_cons pB1 (pss_cons pB2 pss_nil))) (pss_cons (ps_ret (pos := s3) pR) pss_nil)))) ?_
  intro d hd
  have gd := m.ex.free hd
  have md := m.fresh hd
  unfold sCrs at q
  split at q
  · rename_i w hw
    have hMl : iM < σ.length := by
      rw [v.len, R.len]
      exact (List.getElem?_eq_some_iff.mp hw).1
    have R0 : Rel b μ0 (E.set iM none) (ρ.set iM none) μ := R.wipe iM
    refine de_lendX (φ := DXp X.prog X.w d []) (h0.run μ0 _ _ μ (fun o μ' => ∃ x, o = .im x ∧ Bs b μ μ' ∧ (crsT iC f1 n ((E.set iM none).set iC (some (.d x))) []).All (OutOk b μ0 D)) R0 ((all_bind.mp q).imp fun x q μ1 s1 => ⟨x, rfl, s1, q⟩)) (m.dict (o := DXo X.prog X.w d []) gd md) (v.hide iM (some (.ref d))) upd_same gd md fun u o μ1 G1 H1 qx e1 m1 r1 hd1 g1 md1 => ?_
    obtain ⟨x, rfl, sb, qx⟩ := qx
    refine ⟨fun n' σ' H' => ∃ E' ks xs ρ' μ' G', Rel b μ0 E' ρ' μ' ∧ (crsT iC f1 n' E' ks).All (OutOk b μ0 D) ∧ Ex G G' ∧ RM G' H' μ' ∧ RV G' ρ' σ' ∧ H' d = some (DXo X.prog X.w d xs) ∧ XKs G' 0 ks xs ∧ G' d = none ∧ μ' d = none ∧ σ'[iM]? = some (some (.ref d)), ⟨n, _, [], [], _, μ1, G1, (R0.step sb).setD iC x, qx, e1, m1, ((v.hide iM (some (.ref d))).mono e1).set r1, hd1, True.intro, g1, md1, ?_⟩, ?_⟩
    · rw [List.getElem?_set_ne (fun z => hMC z.symm), List.getElem?_set_self hMl]
    · rintro n' σ' H' ⟨E', ks, xs, ρ', μ', G', R', q', e', m', v', hd', hk', g', md', hσ⟩
      cases n' with
      | zero => exact q'.elim
      | succ n' =>
        obtain ⟨ns, hns, q'⟩ := lift_all (all_bind.mp q')
        obtain ⟨oc, ho, hw'⟩ := R'.get iC _ (curI_some hns)
        have hw' : oc = .im (.tuple (iL ns)) := hw'
        subst hw'
        obtain ⟨vc, hvc, rc⟩ := v'.get iC _ ho
        have rc : Dv G' vc (.tuple (iL ns)) := rc
        cases rc with
        | tup ha wa =>
          rename_i a ys
          have ex := DvA.ints ns wa
          subst ex
          have ha' : Rd H' a (.tup ((ns.map Sum.inl).map kV)) := by
            rw [← int_keys]
            rcases ha with ha | ⟨z, ob, _, ha⟩
            · exact .inl (m'.ex _ _ ha)
            · exact .inr ⟨ob, m'.ex _ _ ha⟩
          have kr := hk'.kr m'.ex
          have hlen := hk'.len
          have hat := hk'.at ns
          refine ⟨_, hvc, _, hσ, d, a, xs, _, rfl, rfl, hd', kr, ha', ?_⟩
          cases hf : ks.findIdx? fun k => decide (k = ns) with
          | some j =>
            rw [hf] at q' hat
            obtain ⟨p, hp, rp⟩ := hat
            rw [Nat.zero_add] at rp
            refine ⟨false, by rw [hp]; rfl, ?_⟩
            refine ite_n (by decide) ?_
            refine ⟨_, hσ, _, hvc, d, a, xs, _, p, _, rfl, rfl, hd', kr, ha', hp, rp, _, hσ, d, xs, rfl, hd', kr, _, hσ, _, hvc, d, a, xs, _, p, _, rfl, rfl, hd', kr, ha', hp, rp, _, _, rfl, rfl, ?_⟩
            refine ⟨show 2 ≤ sizeLine by rw [sizeLine_eq]; omega, fun p hp => ?_⟩
            have n0 := m'.ex.free hp
            refine f.rt _ (.im (.tuple [.int (j : Nat), .int ((ks.length : Int) - (j : Nat))])) μ' _ _ (q' μ' R'.ext) (e'.trans (Ex.new n0)) (m'.lay hp) ?_
            rw [hlen]
            exact Dv.tup (.inl upd_same) (.cons (.int _) (.cons (.int _) .nil))
          | none =>
            rw [hf] at q' hat
            obtain ⟨_, hsm, q'⟩ := lift_all (all_bind.mp q')
            have hks : ks.length ≤ 100000 := by
              unfold small at hsm
              split at hsm
              · assumption
              · cases hsm
            refine ⟨true, by rw [hat]; rfl, ?_⟩
            refine ite_y rfl ?_
            refine ⟨fun σ2 H2 => _, fun σ2 H2 z => z, ?_⟩
            refine ⟨_, hσ, d, xs, rfl, hd', kr, _, hσ, _, hvc, d, a, xs, _, rfl, rfl, hd', kr, ha', hat, by rw [hlen, sizeLine_eq]; omega, fun r hr => ?_⟩
            have hk2 : XKs G' 0 (ks ++ [ns]) (xs ++ [(ns.map Sum.inl, a, r)]) := hk'.snoc ha (by rw [Nat.zero_add, ← hlen]; exact hr)
            refine de_lendX (φ := DXp X.prog X.w d (xs ++ [(ns.map Sum.inl, a, r)])) (h1.run μ0 _ _ μ' (fun o μ2 => ∃ x, o = .im x ∧ Bs b μ' μ2 ∧ (crsT iC f1 n' (E'.set iC (some (.d x))) (ks ++ [ns])).All (OutOk b μ0 D)) R' ((all_bind.mp q').imp fun x q μ1 s1 => ⟨x, rfl, s1, q⟩)) (m'.dict (o := DXo X.prog X.w d (xs ++ [(ns.map Sum.inl, a, r)])) g' md') v' upd_same g' md' fun u o μ2 G2 H2 qx e2 m2 r2 hd2 g2 md2 => ?_
            obtain ⟨x, rfl, sb, qx⟩ := qx
            refine ⟨n', by omega, _, ks ++ [ns], _, _, μ2, G2, (R'.step sb).setD iC x, qx, e'.trans e2, m2, (v'.mono e2).set r2, hd2, hk2.mono e2, g2, md2, ?_⟩
            rw [List.getElem?_set_ne (fun z => hMC z.symm)]
            exact hσ
  · exact q.elim
end
section
variable {b : Addr} {X : Cx} {x : Expr} {fx : DenE} {pos p cpos : Pos}
theorem ss_tupT (i : Nat) {n : Str} {p' : Pos} (hfz : fzOn = true) (hN : X.N.Nodup) (hi : X.N[i]? = some n) (hl : Loc X.env.scope n) (B : Bt X.mg) (hg : Gl X "tuple") (hx : SE b X x (d1 pSrt fx)) (he : starEach [x] X.env = (false, eval x X.env) :: starEach [] X.env := by rfl) (hpl : (backTo cpos (starEach [] X.env)).any (·.1) = false := by rfl)
    (hs : swapsWith (.Call (.Name "tuple" p) [x] [] cpos) (some (.Name n p')) pos.line X.env = pure false := by rfl) (hf : X.fn n = true ∨ X.env.scope.names.lookup n = some .local := by first | exact .inl rfl | exact .inr rfl | assumption) : SS b X (.Assign [.Name n p'] (.Call (.Name "tuple" p) [x] [] cpos) pos) (sSetT i (d1 pTup (d1 pSrt fx))) := .mk fun μ0 E ρ μ D R q => by
  have q1 := all_bind.mp (all_bind.mp q)
  have q2 := all_bind.mp q1
  refine ds_set i hN hi hl (de_tupF hfz B hg (hx.run μ0 E ρ μ _ R (all_bind.mpr (q2.imp fun u q => ?_))) he hpl) hs hf
  obtain ⟨r, hr, q⟩ := lift_all q
  obtain ⟨ds, rfl⟩ := pSrt_list hr
  have q : (match asTI (.tuple ds) with | some ns => Tree.ret (Out.nx (E.set i (some (.tpl ns)))) | none => .fail).All (OutOk b μ0 D) := q
  show (liftO (pSrt u)).All _
  rw [hr]
  intro μ1 s1
  cases hz : asI ds with
  | none =>
    have : asTI (.tuple ds) = none := hz
    rw [this] at q
    exact q.elim
  | some ns =>
    have : asTI (.tuple ds) = some ns := hz
    rw [this] at q
    refine ⟨ns, ?_, q _ μ1 ((R.step s1).setT i ns)⟩
    rw [asI_some hz]
end
end Nx
namespace Nx
open PySem PySem.Spec PyProof.Rows L2
open Tree
structure Tbl (n : Nat) (ns : List Int) : Prop where
  asc : ns.Pairwise (· < ·)
  mem : ∀ x ∈ ns, 0 ≤ x ∧ x < n
theorem srt_len (ns : List Int) : (srt ns).length = ns.length := (srt_perm ns).length_eq
theorem srt_mem {ns : List Int} {x : Int} : x ∈ srt ns ↔ x ∈ ns := (srt_perm ns).mem_iff
theorem pw_lt : ∀ {l : List Int}, l.Pairwise (· ≤ ·) → l.Nodup → l.Pairwise (· < ·)
  | [], _, _ => .nil
  | a :: l, h, d => by
    obtain ⟨h1, h2⟩ := List.pairwise_cons.mp h
    obtain ⟨d1, d2⟩ := List.nodup_cons.mp d
    refine List.pairwise_cons.mpr ⟨fun x hx => ?_, pw_lt h2 d2⟩
    have := h1 x hx
    have : a ≠ x := fun e => d1 (e ▸ hx)
    omega
theorem tbl_srt {n : Nat} {ms : List Int} (d : ms.Nodup) (h : ∀ x ∈ ms, 0 ≤ x ∧ x < n) : Tbl n (srt ms) :=
  ⟨pw_lt (srt_pw ms) ((srt_perm ms).nodup_iff.mpr d), fun x hx => h x (srt_mem.mp hx)⟩
theorem nodup_asc {l : List Int} (h : l.Pairwise (· < ·)) : l.Nodup := h.imp fun {a b} h e => by omega
theorem Tbl.srt {n : Nat} {ns : List Int} (h : Tbl n ns) : srt ns = ns := (srt_eq (List.Perm.refl ns) (h.asc.imp fun {a b} h => by omega)).symm
theorem srt_congr {a b : List Int} (h : a.Perm b) : srt a = srt b := srt_eq ((srt_perm a).trans h) (srt_pw a)
theorem nums_eq (n : Nat) : nums n = iL ((List.range n).map fun (k : Nat) => (k : Int)) := by
  unfold nums iL
  rw [List.map_map]
  rfl
theorem perm_ints : ∀ {es : List PyData} {ns : List Int}, es.Perm (iL ns) → ∃ ms : List Int, es = iL ms ∧ ms.Perm ns := by
  intro es ns h
  have hall : ∀ d ∈ es, ∃ i : Int, d = .int i := fun d hd => by
    obtain ⟨i, _, e⟩ := List.mem_map.mp (h.mem_iff.mp hd)
    exact ⟨i, e.symm⟩
  have hex : ∀ es : List PyData, (∀ d ∈ es, ∃ i : Int, d = .int i) → ∃ ms : List Int, es = iL ms := by
    intro es
    induction es with
    | nil => exact fun _ => ⟨[], rfl⟩
    | cons d es ih =>
      intro h
      obtain ⟨i, rfl⟩ := h d (List.mem_cons_self ..)
      obtain ⟨ms, rfl⟩ := ih fun d hd => h d (List.mem_cons_of_mem _ hd)
      exact ⟨i :: ms, rfl⟩
  obtain ⟨ms, rfl⟩ := hex es hall
  refine ⟨ms, rfl, ?_⟩
  have := h.map (fun d => match d with | PyData.int i => i | _ => 0)
  simpa [iL, List.map_map, Function.comp_def] using this
theorem nodup_map_of {α β : Type} {f : α → β} : ∀ {l : List α}, l.Nodup → (∀ a ∈ l, ∀ b ∈ l, f a = f b → a = b) → (l.map f).Nodup
  | [], _, _ => .nil
  | a :: l, d, h => by
    obtain ⟨d1, d2⟩ := List.nodup_cons.mp d
    rw [List.map_cons]
    refine List.nodup_cons.mpr ⟨fun hm => ?_, nodup_map_of d2 fun a ha b hb => h a (List.mem_cons_of_mem _ ha) b (List.mem_cons_of_mem _ hb)⟩
    obtain ⟨b, hb, e⟩ := List.mem_map.mp hm
    have := h b (List.mem_cons_of_mem _ hb) a (List.mem_cons_self ..) e
    subst this
    exact d1 hb
theorem mod_inj {n a b : Int} (hn : 0 < n) (h : a % n = b % n) (h1 : a - b < n) (h2 : b - a < n) : a = b := by
  have e1 := Int.mul_ediv_add_emod a n
  have e2 := Int.mul_ediv_add_emod b n
  have e : a - b = n * (a / n - b / n) := by rw [Int.mul_sub]; omega
  generalize a / n - b / n = z at e
  have hz : z = 0 := by
    rcases Int.lt_trichotomy z 0 with h | h | h
    · have : n * z ≤ n * (-1) := Int.mul_le_mul_of_nonneg_left (by omega) (by omega)
      omega
    · exact h
    · have : n * 1 ≤ n * z := Int.mul_le_mul_of_nonneg_left (by omega) (by omega)
      omega
  subst hz
  omega
def pushGo (n : Int) (ss : List Int) (c : Int) : Nat → Nat → List Int
  | 0, _ => ss
  | f + 1, far => match ss.findIdx? (fun s => decide ((c + (far : Int) - s) % n = 0)) with
    | some k => ss.set k (ss.getD k 0 - (far : Int))
    | none => pushGo n ss c f (far + 1)
def pushL (n : Nat) (ss : List Int) (c : Int) : List Int := pushGo n ss c n 0
theorem find_at {ss : List Int} {p : Int → Bool} {k : Nat} {s : Int} (h : ss[k]? = some s) (hp : p s = true) (hn : ∀ (j : Nat) (s' : Int), j < k → ss[j]? = some s' → p s' = false) : ss.findIdx? p = some k := by
  obtain ⟨hk, e⟩ := List.getElem?_eq_some_iff.mp h
  rw [List.findIdx?_eq_some_iff_getElem]
  refine ⟨hk, by rw [e]; exact hp, fun j hj => ?_⟩
  have := hn j ss[j] hj (List.getElem?_eq_getElem (by omega))
  simp [this]
theorem find_no {ss : List Int} {p : Int → Bool} (hn : ∀ (j : Nat) (s' : Int), ss[j]? = some s' → p s' = false) : ss.findIdx? p = none := by
  rw [List.findIdx?_eq_none_iff]
  intro x hx
  obtain ⟨j, hj⟩ := List.getElem?_of_mem hx
  exact hn j x hj
def dst (n c s : Int) : Int := (s - c) % n
structure Near (n c : Int) (ss : List Int) (k : Nat) (s : Int) : Prop where
  at_ : ss[k]? = some s
  le : ∀ (j : Nat) s', ss[j]? = some s' → dst n c s ≤ dst n c s'
  lt : ∀ (j : Nat) s', j < k → ss[j]? = some s' → dst n c s < dst n c s'
theorem Near.uniq {n c : Int} {ss : List Int} {k k' : Nat} {s s' : Int} (a : Near n c ss k s) (b : Near n c ss k' s') : k = k' ∧ s = s' := by
  have e : k = k' := by
    rcases Nat.lt_trichotomy k k' with h | h | h
    · have h1 := b.lt k s h a.at_
      have h2 := a.le k' s' b.at_
      omega
    · exact h
    · have h1 := a.lt k' s' h b.at_
      have h2 := b.le k s a.at_
      omega
  subst e
  have := a.at_.symm.trans b.at_
  exact ⟨rfl, Option.some.inj this⟩
def nearIx (n c : Int) : List Int → Nat
  | [] => 0
  | s :: r => if r = [] then 0 else if dst n c (r.getD (nearIx n c r) 0) < dst n c s then nearIx n c r + 1 else 0
theorem near_ix {n c : Int} : ∀ {ss : List Int}, ss ≠ [] → Near n c ss (nearIx n c ss) (ss.getD (nearIx n c ss) 0)
  | [], h => absurd rfl h
  | s :: r, _ => by
    by_cases hr : r = []
    · subst hr
      unfold nearIx
      rw [if_pos rfl]
      refine ⟨rfl, fun j s' hj => ?_, fun j s' hj => absurd hj (Nat.not_lt_zero _)⟩
      cases j with
      | zero =>
        cases hj
        exact Int.le_refl _
      | succ j => simp at hj
    · have ih := near_ix (n := n) (c := c) hr
      unfold nearIx
      rw [if_neg hr]
      by_cases hd : dst n c (r.getD (nearIx n c r) 0) < dst n c s
      · rw [if_pos hd]
        refine ⟨ih.at_, fun j s' hj => ?_, fun j s' hjk hj => ?_⟩
        · cases j with
          | zero =>
            cases hj
            show dst n c (r.getD (nearIx n c r) 0) ≤ _
            omega
          | succ j => exact ih.le j s' hj
        · cases j with
          | zero =>
            cases hj
            exact hd
          | succ j => exact ih.lt j s' (by omega) hj
      · rw [if_neg hd]
        refine ⟨rfl, fun j s' hj => ?_, fun j s' hj => absurd hj (Nat.not_lt_zero _)⟩
        cases j with
        | zero =>
          cases hj
          exact Int.le_refl _
        | succ j =>
          have := ih.le j s' hj
          show dst n c s ≤ _
          omega
def moverL (n c : Int) (ss : List Int) : Option Nat := if dst n c (ss.getD (nearIx n c ss) 0) = 0 then none else some (nearIx n c ss)
def callL (n c : Int) (ss : List Int) : List Int := match moverL n c ss with
  | none => ss
  | some k => ss.set k c
def optI : Option Nat → PyData
  | none => .none
  | some k => .int (k : Int)
theorem Near.mover {n c : Int} {ss : List Int} {k : Nat} {s : Int} (a : Near n c ss k s) : moverL n c ss = if dst n c s = 0 then none else some k := by
  have hne : ss ≠ [] := fun e => by
    have := a.at_
    rw [e] at this
    simp at this
  obtain ⟨h1, h2⟩ := (near_ix (n := n) (c := c) hne).uniq a
  unfold moverL
  rw [h2, h1]
theorem dst_lt {n c s : Int} (h : 0 < n) : 0 ≤ dst n c s ∧ dst n c s < n := ⟨Int.emod_nonneg _ (by omega), Int.emod_lt_of_pos _ h⟩
theorem hit_iff {n c s : Int} {far : Nat} (hn : (far : Int) < n) : (c + (far : Int) - s) % n = 0 ↔ dst n c s = (far : Int) := by
  unfold dst
  constructor
  · intro h
    have h1 : (s - c) % n = (far : Int) % n := by
      have e : s - c = (far : Int) - (c + (far : Int) - s) := by omega
      rw [e, Int.sub_emod, h]
      simp
    rw [h1]
    exact Int.emod_eq_of_lt (by omega) hn
  · intro h
    have e : c + (far : Int) - s = (far : Int) - (s - c) := by omega
    rw [e, Int.sub_emod, h, Int.emod_eq_of_lt (by omega) hn, Int.sub_self]
    simp
theorem push_near {n : Nat} {c : Int} {ss : List Int} {k : Nat} {s : Int} (n0 : 0 < n) (h : Near n c ss k s) : pushL n ss c = ss.set k (s - dst n c s) := by
  obtain ⟨d0, d1⟩ := dst_lt (n := (n : Int)) (c := c) (s := s) (by omega)
  obtain ⟨f, hf⟩ : ∃ f : Nat, dst n c s = (f : Int) := ⟨(dst n c s).toNat, by omega⟩
  have hfn : f < n := by omega
  have go : ∀ (i : Nat), i ≤ f → pushGo n ss c (n - (f - i)) (f - i) = ss.set k (s - (f : Int)) := by
    intro i
    induction i with
    | zero =>
      intro _
      rw [Nat.sub_zero, show n - f = (n - f - 1) + 1 by omega]
      unfold pushGo
      rw [find_at (p := fun s => decide ((c + (f : Int) - s) % (n : Int) = 0)) (k := k) (s := s) h.at_ (decide_eq_true ((hit_iff (by omega)).mpr hf)) fun j s' hj hs' => decide_eq_false fun e => ?_]
      · show ss.set k (ss.getD k 0 - (f : Int)) = _
        rw [List.getD_eq_getElem?_getD, h.at_]
        rfl
      · have h1 := (hit_iff (n := (n : Int)) (far := f) (by omega)).mp e
        have h2 := h.lt j s' hj hs'
        omega
    | succ i ih =>
      intro hi
      rw [show n - (f - (i + 1)) = (n - (f - i)) + 1 by omega]
      unfold pushGo
      rw [find_no (p := fun s => decide ((c + ((f - (i + 1) : Nat) : Int) - s) % (n : Int) = 0)) fun j s' hs' => decide_eq_false fun e => ?_]
      · show pushGo n ss c (n - (f - i)) (f - (i + 1) + 1) = _
        rw [show f - (i + 1) + 1 = f - i by omega]
        exact ih (by omega)
      · have h1 := (hit_iff (n := (n : Int)) (far := f - (i + 1)) (by omega)).mp e
        have h2 := h.le j s' hs'
        omega
  have := go f (Nat.le_refl _)
  rw [Nat.sub_self, Nat.sub_zero] at this
  rw [hf]
  exact this
theorem mod_self_of {n : Nat} {ss : List Int} (h : ∀ x ∈ ss, 0 ≤ x ∧ x < n) : ss.map (· % (n : Int)) = ss := by
  have : ss.map (· % (n : Int)) = ss.map id := List.map_congr_left fun x hx => Int.emod_eq_of_lt (h x hx).1 (h x hx).2
  rw [this, List.map_id]
theorem set_same {ss : List Int} {k : Nat} {s : Int} (h : ss[k]? = some s) : ss.set k s = ss := by
  obtain ⟨hk, rfl⟩ := List.getElem?_eq_some_iff.mp h
  exact List.set_getElem_self hk
theorem dst_sub {n c s : Int} (h : 0 ≤ c ∧ c < n) : (s - dst n c s) % n = c := by
  unfold dst
  rw [Int.sub_emod, Int.emod_emod_of_dvd _ (Int.dvd_refl n), ← Int.sub_emod, show s - (s - c) = c by omega]
  exact Int.emod_eq_of_lt h.1 h.2
theorem near_ex {n c : Int} {ss : List Int} (hne : ss ≠ []) : ∃ k s, Near n c ss k s := ⟨_, _, near_ix hne⟩
theorem callL_get {n c : Int} {ss : List Int} {i : Nat} {s : Int} (h : ss[i]? = some s) : (callL n c ss)[i]? = some (if moverL n c ss = some i then c else s) := by
  unfold callL
  cases e : moverL n c ss with
  | none => simpa using h
  | some k =>
    by_cases hk : k = i
    · subst hk
      simp only [if_true]
      exact List.getElem?_set_self (List.getElem?_eq_some_iff.mp h).1
    · simp only [Option.some.injEq, hk, if_false]
      rw [List.getElem?_set_ne hk, h]
theorem callL_len {n c : Int} {ss : List Int} : (callL n c ss).length = ss.length := by
  unfold callL
  split
  · rfl
  · exact List.length_set
def runS (n : Int) (ss cs : List Int) : List Int := cs.foldl (fun s c => callL n c s) ss
def AL (n : Int) (ss cs : List Int) : List (List Int) := (List.range (cs.length + 1)).map fun j => runS n ss (cs.take j)
theorem runS_len (n : Int) : ∀ (cs ss : List Int), (runS n ss cs).length = ss.length
  | [], _ => rfl
  | c :: cs, ss => by
    show (runS n (callL n c ss) cs).length = _
    rw [runS_len n cs, callL_len]
def dLs (ls : List (List Int)) : List PyData := ls.map fun s => .list (iL s)
def zipStep (n : Int) (t a b : List Int) : List Int := (t.zip (a.zip b)).map fun q => q.1 + (q.2.1 - q.2.2) % n
def stepsL (n : Int) (ss cs : List Int) : List Int := (List.range cs.length).foldl (fun t j => zipStep n t (runS n ss (cs.take j)) (runS n ss (cs.take (j + 1)))) (ss.map fun _ => 0)
theorem zipStep_get {n : Int} {t a b : List Int} {i : Nat} {x y z : Int} (h1 : t[i]? = some x) (h2 : a[i]? = some y) (h3 : b[i]? = some z) : (zipStep n t a b)[i]? = some (x + (y - z) % n) := by
  unfold zipStep
  rw [List.getElem?_map, List.getElem?_zip_eq_some (z := (x, (y, z))) |>.mpr ⟨h1, List.getElem?_zip_eq_some (z := (y, z)) |>.mpr ⟨h2, h3⟩⟩]
  rfl
theorem zipStep_len {n : Int} {t a b : List Int} (h1 : t.length = a.length) (h2 : a.length = b.length) : (zipStep n t a b).length = t.length := by
  simp [zipStep]
  omega
def stT (n : Int) (ss cs : List Int) (i : Nat) : List Int := (List.range i).foldl (fun t j => zipStep n t (runS n ss (cs.take j)) (runS n ss (cs.take (j + 1)))) (ss.map fun _ => 0)
theorem stT_succ (n : Int) (ss cs : List Int) (i : Nat) : stT n ss cs (i + 1) = zipStep n (stT n ss cs i) (runS n ss (cs.take i)) (runS n ss (cs.take (i + 1))) := by
  unfold stT
  rw [List.range_succ, List.foldl_append]
  rfl
theorem stT_len (n : Int) (ss cs : List Int) : ∀ i, (stT n ss cs i).length = ss.length
  | 0 => by simp [stT]
  | i + 1 => by
    rw [stT_succ, zipStep_len (by rw [stT_len, runS_len]) (by rw [runS_len, runS_len]), stT_len]
def InR (n : Nat) (cs : List Int) : Prop := ∀ x ∈ cs, 0 ≤ x ∧ x < (n : Int)
def pkS (n : Int) (k : Nat) (c : Int) : List Int := (List.range k).map fun (b : Nat) => (c - (b : Int)) % n
theorem pkS_len {n : Int} {k : Nat} {c : Int} : (pkS n k c).length = k := by simp [pkS]
def mvL (n k : Nat) (cs : List Int) : List (List Int) := (List.range n).map fun (c : Nat) => stepsL n (pkS n k c) cs
def rowsT (M : List (List Int)) : List PyData := M.map fun r => .tuple (iL r)
def mx : List Int → Int
  | [] => 0
  | [a] => a
  | a :: b :: r => max a (mx (b :: r))
theorem mx_ge : ∀ {l : List Int} {x : Int}, x ∈ l → x ≤ mx l
  | [a], x, h => by
    rw [List.mem_singleton.mp h]
    exact Int.le_refl _
  | a :: b :: r, x, h => by
    show x ≤ max a (mx (b :: r))
    rcases List.mem_cons.mp h with rfl | h
    · omega
    · have := mx_ge (l := b :: r) h
      omega
theorem mx_mem : ∀ {l : List Int}, l ≠ [] → mx l ∈ l
  | [a], _ => List.mem_singleton.mpr rfl
  | a :: b :: r, _ => by
    show max a (mx (b :: r)) ∈ _
    rcases Int.le_total a (mx (b :: r)) with h | h
    · rw [Int.max_eq_right h]
      exact List.mem_cons_of_mem _ (mx_mem (List.cons_ne_nil _ _))
    · rw [Int.max_eq_left h]
      exact List.mem_cons_self ..
theorem mx_eq {l : List Int} {k : Int} (h : k ∈ l) (u : ∀ y ∈ l, y ≤ k) : k = mx l := by
  have h1 := mx_ge h
  have h2 := u _ (mx_mem (List.ne_nil_of_mem h))
  omega
def dsS (n : Int) (ss : List Int) (seat : Int) : List Int := srt (ss.map fun s => (s - seat) % n)
def cell (M : List (List Int)) (c : Int) (j : Nat) : Int := (M.getD c.toNat []).getD j 0
def trmS (n : Int) (M : List (List Int)) (ss : List Int) (seat : Int) : List Int := (List.range ss.length).map fun j => cell M ((seat + (dsS n ss seat).getD j 0) % n) j - ((dsS n ss seat).getD j 0 - (j : Int))
theorem dsS_len {n : Int} {ss : List Int} {seat : Int} : (dsS n ss seat).length = ss.length := by simp [dsS, srt_len]
def stepsBy (n : Int) (M : List (List Int)) (ss : List Int) : List Int := ss.map fun seat => mx (trmS n M ss seat)
theorem dst_mod {n c s : Int} : dst n c (s % n) = dst n c s := by
  unfold dst
  rw [Int.sub_emod, Int.emod_emod_of_dvd _ (Int.dvd_refl n), ← Int.sub_emod]
theorem Near.mod {n c : Int} {us : List Int} {k : Nat} {s : Int} (h : Near n c us k s) : Near n c (us.map (· % n)) k (s % n) := by
  refine ⟨?_, fun j s' hj => ?_, fun j s' hjk hj => ?_⟩
  · rw [List.getElem?_map, h.at_]
    rfl
  · rw [List.getElem?_map] at hj
    obtain ⟨u, hu, rfl⟩ := Option.map_eq_some_iff.mp hj
    rw [dst_mod, dst_mod]
    exact h.le j u hu
  · rw [List.getElem?_map] at hj
    obtain ⟨u, hu, rfl⟩ := Option.map_eq_some_iff.mp hj
    rw [dst_mod, dst_mod]
    exact h.lt j u hjk hu
theorem push_mod {n : Nat} {c : Int} {us : List Int} (hne : us ≠ []) (n0 : 0 < n) (hc : 0 ≤ c ∧ c < n) : (pushL n us c).map (· % (n : Int)) = callL n c (us.map (· % (n : Int))) := by
  obtain ⟨k, t, nr⟩ := near_ex (n := (n : Int)) (c := c) hne
  rw [push_near n0 nr, List.map_set, dst_sub hc]
  unfold callL
  rw [nr.mod.mover, dst_mod]
  by_cases h0 : dst n c t = 0
  · rw [if_pos h0]
    have h1 := dst_sub (n := (n : Int)) (s := t) hc
    rw [h0, Int.sub_zero] at h1
    show (us.map (· % (n : Int))).set k c = us.map (· % (n : Int))
    conv => lhs; rw [← h1]
    exact set_same nr.mod.at_
  · rw [if_neg h0]
def pushS (n : Nat) (us cs : List Int) : List Int := cs.foldl (fun s c => pushL n s c) us
theorem pushL_len {n : Nat} {c : Int} {us : List Int} (hne : us ≠ []) (n0 : 0 < n) : (pushL n us c).length = us.length := by
  obtain ⟨k, t, nr⟩ := near_ex (n := (n : Int)) (c := c) hne
  rw [push_near n0 nr, List.length_set]
theorem ne_of_len {a b : List Int} (h : a.length = b.length) (hb : b ≠ []) : a ≠ [] := fun e => by
  rw [e] at h
  exact hb (List.length_eq_zero_iff.mp h.symm)
theorem pushS_succ {n : Nat} {us cs : List Int} {j : Nat} {c : Int} (h : cs[j]? = some c) : pushS n us (cs.take (j + 1)) = pushL n (pushS n us (cs.take j)) c := by
  unfold pushS
  rw [List.take_add_one, h, List.foldl_append]
  rfl
theorem pushS_len {n : Nat} (n0 : 0 < n) : ∀ (cs : List Int) {us : List Int}, us ≠ [] → (pushS n us cs).length = us.length
  | [], _, _ => rfl
  | c :: cs, us, h => by
    have e := pushL_len (c := c) h n0
    show (pushS n (pushL n us c) cs).length = _
    rw [pushS_len n0 cs (ne_of_len e h), e]
theorem pushS_mod {n : Nat} (n0 : 0 < n) : ∀ (cs : List Int) {us : List Int}, us ≠ [] → (∀ c ∈ cs, 0 ≤ c ∧ c < (n : Int)) → (pushS n us cs).map (· % (n : Int)) = runS n (us.map (· % (n : Int))) cs
  | [], _, _, _ => rfl
  | c :: cs, us, h, hc => by
    have e := pushL_len (c := c) h n0
    show (pushS n (pushL n us c) cs).map _ = runS n (callL n c (us.map (· % (n : Int)))) cs
    rw [pushS_mod n0 cs (ne_of_len e h) fun x hx => hc x (List.mem_cons_of_mem _ hx), push_mod h n0 (hc c (List.mem_cons_self ..))]
theorem push_step {n : Nat} {c : Int} {us : List Int} {i : Nat} {x : Int} (hne : us ≠ []) (n0 : 0 < n) (h : us[i]? = some x) : ∃ y, (pushL n us c)[i]? = some y ∧ 0 ≤ x - y ∧ x - y < n := by
  obtain ⟨k, t, nr⟩ := near_ex (n := (n : Int)) (c := c) hne
  rw [push_near n0 nr]
  have hd := dst_lt (n := (n : Int)) (c := c) (s := t) (by omega)
  by_cases hk : k = i
  · subst hk
    have e := nr.at_.symm.trans h
    cases e
    exact ⟨_, List.getElem?_set_self (List.getElem?_eq_some_iff.mp h).1, by omega, by omega⟩
  · exact ⟨x, by rw [List.getElem?_set_ne hk, h], by omega, by omega⟩
theorem mod_dif {n x y : Int} (h : 0 ≤ x - y ∧ x - y < n) : (x % n - y % n) % n = x - y := by
  rw [← Int.sub_emod]
  exact Int.emod_eq_of_lt h.1 h.2
def difL (a b : List Int) : List Int := (a.zip b).map fun q => q.1 - q.2
theorem difL_get {a b : List Int} {i : Nat} {x y : Int} (h1 : a[i]? = some x) (h2 : b[i]? = some y) : (difL a b)[i]? = some (x - y) := by
  unfold difL
  rw [List.getElem?_map, List.getElem?_zip_eq_some (z := (x, y)) |>.mpr ⟨h1, h2⟩]
  rfl
theorem difL_len {a b : List Int} (h : a.length = b.length) : (difL a b).length = a.length := by
  simp [difL]
  omega
structure Sqn (n k : Int) (x : Int → Int) : Prop where
  up : ∀ i, x (i - 1) < x i
  per : ∀ i, x (i + k) = x i + n
def cal (n c y : Int) : Int := y - (y - c) % n
def fCall (n c : Int) (x : Int → Int) : Int → Int := fun i => if x (i - 1) < cal n c (x i) then cal n c (x i) else x i
theorem cal_le {n c y : Int} (n0 : 0 < n) : cal n c y ≤ y ∧ y - n < cal n c y := by
  have h1 := Int.emod_nonneg (y - c) (show n ≠ 0 by omega)
  have h2 := Int.emod_lt_of_pos (y - c) n0
  unfold cal
  omega
theorem cal_mod {n c y : Int} : ∃ m, cal n c y = c + n * m := ⟨(y - c) / n, by
  have := Int.mul_ediv_add_emod (y - c) n
  unfold cal
  omega⟩
theorem cal_one {n c a b : Int} {y z : Int} (n0 : 0 < n) (ha : a = cal n c y) (hb : b = cal n c z) (h1 : a - b < n) (h2 : b - a < n) : a = b := by
  obtain ⟨m, hm⟩ := cal_mod (n := n) (c := c) (y := y)
  obtain ⟨l, hl⟩ := cal_mod (n := n) (c := c) (y := z)
  rw [← ha] at hm
  rw [← hb] at hl
  have e : a - b = n * (m - l) := by rw [Int.mul_sub]; omega
  have hz : m - l = 0 := by
    rcases Int.lt_trichotomy (m - l) 0 with h | h | h
    · have : n * (m - l) ≤ n * (-1) := Int.mul_le_mul_of_nonneg_left (by omega) (by omega)
      omega
    · exact h
    · have : n * 1 ≤ n * (m - l) := Int.mul_le_mul_of_nonneg_left (by omega) (by omega)
      omega
  rw [hz] at e
  omega
theorem cal_eq {n c y z : Int} (n0 : 0 < n) (h : cal n c z ≤ y) (hyz : y ≤ z) : cal n c y = cal n c z := by
  have a := cal_le (n := n) (c := c) (y := y) n0
  have b := cal_le (n := n) (c := c) (y := z) n0
  exact cal_one n0 rfl rfl (by omega) (by omega)
theorem cal_mono {n c y z : Int} (n0 : 0 < n) (hyz : y ≤ z) : cal n c y ≤ cal n c z := by
  by_cases h : cal n c z ≤ y
  · rw [cal_eq n0 h hyz]
    exact Int.le_refl _
  · have a := cal_le (n := n) (c := c) (y := y) n0
    omega
theorem cal_add {n c y : Int} : cal n c (y + n) = cal n c y + n := by
  unfold cal
  rw [show y + n - c = (y - c) + n by omega, Int.add_emod_right]
  omega
theorem f_le {n c : Int} {x : Int → Int} (n0 : 0 < n) (i : Int) : fCall n c x i ≤ x i := by
  have := cal_le (n := n) (c := c) (y := x i) n0
  unfold fCall
  split <;> omega
theorem f_gt {n c : Int} {x : Int → Int} (h : ∀ i, x (i - 1) < x i) (i : Int) : x (i - 1) < fCall n c x i := by
  have := h i
  unfold fCall
  split <;> omega
theorem Sqn.call {n k : Int} {x : Int → Int} (h : Sqn n k x) (n0 : 0 < n) (c : Int) : Sqn n k (fCall n c x) := by
  refine ⟨fun i => ?_, fun i => ?_⟩
  · have h1 := f_le (c := c) (x := x) n0 (i - 1)
    have h2 := f_gt (n := n) (c := c) h.up i
    omega
  · unfold fCall
    rw [h.per i, cal_add, show i + k - 1 = (i - 1) + k by omega, h.per (i - 1)]
    by_cases hc : x (i - 1) < cal n c (x i)
    · rw [if_pos hc, if_pos (by omega)]
    · rw [if_neg hc, if_neg (by omega)]
theorem Sqn.lt {n k : Int} {x : Int → Int} (h : Sqn n k x) (i : Int) : ∀ d : Nat, 0 < d → x i < x (i + (d : Int))
  | 0, h0 => absurd h0 (Nat.lt_irrefl _)
  | 1, _ => by
    have := h.up (i + 1)
    rw [show i + 1 - 1 = i by omega] at this
    exact this
  | d + 2, _ => by
    have h1 := h.lt i (d + 1) (by omega)
    have h2 := h.up (i + ((d + 2 : Nat) : Int))
    rw [show i + ((d + 2 : Nat) : Int) - 1 = i + ((d + 1 : Nat) : Int) by omega] at h2
    omega
theorem Sqn.ltI {n k : Int} {x : Int → Int} (h : Sqn n k x) {i j : Int} (hij : i < j) : x i < x j := by
  have := h.lt i (j - i).toNat (by omega)
  rw [show i + ((j - i).toNat : Int) = j by omega] at this
  exact this
theorem Sqn.far {n k : Int} {x : Int → Int} (h : Sqn n k x) (i : Int) : ∀ d : Nat, x i + (d : Int) ≤ x (i + (d : Int))
  | 0 => by simp
  | d + 1 => by
    have h1 := h.far i d
    have h2 := h.up (i + ((d + 1 : Nat) : Int))
    rw [show i + ((d + 1 : Nat) : Int) - 1 = i + (d : Int) by omega] at h2
    omega
theorem Sqn.gap {n k : Int} {x : Int → Int} (h : Sqn n k x) (k0 : 1 ≤ k) (i : Int) : x i ≤ x (i - 1) + n := by
  have h1 := h.per (i - k)
  rw [show i - k + k = i by omega] at h1
  have h2 : x (i - k) ≤ x (i - 1) := by
    by_cases e : k = 1
    · subst e
      exact Int.le_refl _
    · have := h.ltI (i := i - k) (j := i - 1) (by omega)
      omega
  omega
def minS (x y : Int → Int) : Int → Int := fun i => min (x i) (y i)
theorem Sqn.min {n k : Int} {x y : Int → Int} (h : Sqn n k x) (g : Sqn n k y) : Sqn n k (minS x y) := by
  refine ⟨fun i => ?_, fun i => ?_⟩
  · have h1 := h.up i
    have h2 := g.up i
    unfold minS
    omega
  · unfold minS
    rw [h.per, g.per]
    omega
theorem call_min_le {n k c : Int} {x y : Int → Int} (h : Sqn n k x) (g : Sqn n k y) (n0 : 0 < n) (k0 : 1 ≤ k) (i : Int) (hxy : x i ≤ y i) : fCall n c (minS x y) i = Min.min (fCall n c x i) (fCall n c y i) := by
  have hx := cal_le (n := n) (c := c) (y := x i) n0
  have hy := cal_le (n := n) (c := c) (y := y i) n0
  have hm := cal_mono (c := c) n0 hxy
  have gx := h.gap k0 i
  have gy := g.gap k0 i
  have e : minS x y i = x i := by unfold minS; omega
  have e1 : minS x y (i - 1) = Min.min (x (i - 1)) (y (i - 1)) := rfl
  by_cases hq : cal n c (y i) ≤ x i
  · have eq := cal_eq (c := c) n0 hq hxy
    unfold fCall
    rw [e, e1, eq]
    split <;> split <;> split <;> omega
  · have hd : cal n c (x i) + n ≤ cal n c (y i) := by
      by_cases hh : cal n c (x i) + n ≤ cal n c (y i)
      · exact hh
      · have := cal_one (a := cal n c (x i)) (b := cal n c (y i)) n0 rfl rfl (by omega) (by omega)
        omega
    unfold fCall
    rw [e, e1]
    split <;> split <;> split <;> omega
theorem minS_comm (x y : Int → Int) : minS x y = minS y x := by
  funext i
  unfold minS
  omega
theorem call_min {n k c : Int} {x y : Int → Int} (h : Sqn n k x) (g : Sqn n k y) (n0 : 0 < n) (k0 : 1 ≤ k) : fCall n c (minS x y) = minS (fCall n c x) (fCall n c y) := by
  funext i
  by_cases hxy : x i ≤ y i
  · exact call_min_le h g n0 k0 i hxy
  · rw [minS_comm x y, minS_comm (fCall n c x)]
    exact call_min_le g h n0 k0 i (by omega)
def fCalls (n : Int) (cs : List Int) (x : Int → Int) : Int → Int := cs.foldl (fun x c => fCall n c x) x
theorem Sqn.calls {n k : Int} (n0 : 0 < n) : ∀ (cs : List Int) {x : Int → Int}, Sqn n k x → Sqn n k (fCalls n cs x)
  | [], _, h => h
  | c :: cs, _, h => Sqn.calls n0 cs (h.call n0 c)
theorem calls_min {n k : Int} (n0 : 0 < n) (k0 : 1 ≤ k) : ∀ (cs : List Int) {x y : Int → Int}, Sqn n k x → Sqn n k y → fCalls n cs (minS x y) = minS (fCalls n cs x) (fCalls n cs y)
  | [], _, _, _, _ => rfl
  | c :: cs, x, y, h, g => by
    show fCalls n cs (fCall n c (minS x y)) = minS (fCalls n cs (fCall n c x)) (fCalls n cs (fCall n c y))
    rw [call_min h g n0 k0, calls_min n0 k0 cs (h.call n0 c) (g.call n0 c)]
theorem calls_le {n : Int} (n0 : 0 < n) : ∀ (cs : List Int) (x : Int → Int) (i : Int), fCalls n cs x i ≤ x i
  | [], _, _ => Int.le_refl _
  | c :: cs, x, i => Int.le_trans (calls_le n0 cs (fCall n c x) i) (f_le n0 i)
theorem calls_mono {n k : Int} (n0 : 0 < n) (k0 : 1 ≤ k) {cs : List Int} {x y : Int → Int} (h : Sqn n k x) (g : Sqn n k y) (hxy : ∀ i, x i ≤ y i) (i : Int) : fCalls n cs x i ≤ fCalls n cs y i := by
  have e : minS x y = x := by
    funext i
    have := hxy i
    unfold minS
    omega
  have := calls_min n0 k0 cs h g
  rw [e] at this
  have := congrFun this i
  unfold minS at this
  omega
theorem calls_append {n : Int} (cs ds : List Int) (x : Int → Int) : fCalls n (cs ++ ds) x = fCalls n ds (fCalls n cs x) := List.foldl_append
theorem call_shift {n c : Int} {x : Int → Int} (a m : Int) : fCall n c (fun i => x (i + a) + n * m) = fun i => fCall n c x (i + a) + n * m := by
  funext i
  unfold fCall
  have e : cal n c (x (i + a) + n * m) = cal n c (x (i + a)) + n * m := by
    unfold cal
    rw [show x (i + a) + n * m - c = (x (i + a) - c) + n * m by omega, Int.add_mul_emod_self_left]
    omega
  show (if x (i - 1 + a) + n * m < cal n c (x (i + a) + n * m) then cal n c (x (i + a) + n * m) else x (i + a) + n * m) = _
  rw [e, show i - 1 + a = i + a - 1 by omega]
  split <;> split <;> omega
theorem calls_shift {n : Int} (a m : Int) : ∀ (cs : List Int) (x : Int → Int), fCalls n cs (fun i => x (i + a) + n * m) = fun i => fCalls n cs x (i + a) + n * m
  | [], _ => rfl
  | c :: cs, x => by
    show fCalls n cs (fCall n c _) = _
    rw [call_shift, calls_shift a m cs]
    rfl
theorem Sqn.shift {n k : Int} {x : Int → Int} (h : Sqn n k x) (a m : Int) : Sqn n k fun i => x (i + a) + n * m := by
  refine ⟨fun i => ?_, fun i => ?_⟩
  · have := h.up (i + a)
    rw [show i - 1 + a = i + a - 1 by omega]
    omega
  · have := h.per (i + a)
    rw [show i + k + a = i + a + k by omega, this]
    omega
theorem Sqn.pm {n k : Int} {x : Int → Int} (h : Sqn n k x) (i : Int) : ∀ m : Int, x (i + k * m) = x i + n * m := by
  have hn : ∀ (m : Nat) (i : Int), x (i + k * (m : Int)) = x i + n * (m : Int) := by
    intro m
    induction m with
    | zero => intro i; simp
    | succ m ih =>
      intro i
      have e1 : i + k * ((m + 1 : Nat) : Int) = (i + k * (m : Int)) + k := by
        rw [show ((m + 1 : Nat) : Int) = (m : Int) + 1 by omega, Int.mul_add]
        omega
      have e2 : n * ((m + 1 : Nat) : Int) = n * (m : Int) + n := by
        rw [show ((m + 1 : Nat) : Int) = (m : Int) + 1 by omega, Int.mul_add]
        omega
      rw [e1, h.per, ih, e2]
      omega
  intro m
  rcases Int.le_total 0 m with hm | hm
  · obtain ⟨j, rfl⟩ : ∃ j : Nat, m = (j : Int) := ⟨m.toNat, by omega⟩
    exact hn j i
  · obtain ⟨j, rfl⟩ : ∃ j : Nat, m = -(j : Int) := ⟨(-m).toNat, by omega⟩
    have := hn j (i + k * -(j : Int))
    rw [show i + k * -(j : Int) + k * (j : Int) = i by rw [Int.mul_neg]; omega] at this
    rw [Int.mul_neg n]
    omega
structure Nbr (k : Nat) (σ : Nat → Int) : Prop where
  inj : ∀ a b, a < k → b < k → ∀ m : Int, σ a = σ b + (k : Int) * m → a = b
  sur : ∀ i : Int, ∃ a, a < k ∧ ∃ m : Int, i = σ a + (k : Int) * m
def rowOf (x : Int → Int) (σ : Nat → Int) (k : Nat) : List Int := (List.range k).map fun a => x (σ a)
theorem rowOf_get {x : Int → Int} {σ : Nat → Int} {k a : Nat} (h : a < k) : (rowOf x σ k)[a]? = some (x (σ a)) := by
  unfold rowOf
  rw [List.getElem?_map, List.getElem?_range h]
  rfl
theorem rowOf_len {x : Int → Int} {σ : Nat → Int} {k : Nat} : (rowOf x σ k).length = k := by simp [rowOf]
theorem rowOf_inv {x : Int → Int} {σ : Nat → Int} {k a : Nat} {s : Int} (h : (rowOf x σ k)[a]? = some s) : a < k ∧ s = x (σ a) := by
  have hl := (List.getElem?_eq_some_iff.mp h).1
  rw [rowOf_len] at hl
  rw [rowOf_get hl] at h
  exact ⟨hl, (Option.some.inj h).symm⟩
theorem push_row {n k : Nat} {c : Int} {x : Int → Int} {σ : Nat → Int} (n0 : 0 < n) (k0 : 1 ≤ k) (h : Sqn n k x) (ν : Nbr k σ) : pushL n (rowOf x σ k) c = rowOf (fCall n c x) σ k := by
  have nI : (0 : Int) < n := by omega
  have hne : rowOf x σ k ≠ [] := fun e => by
    have := congrArg List.length e
    rw [rowOf_len] at this
    simp at this
    omega
  obtain ⟨a, s, nr⟩ := near_ex (n := (n : Int)) (c := c) hne
  obtain ⟨ha, rfl⟩ := rowOf_inv nr.at_
  have ec : x (σ a) - dst n c (x (σ a)) = cal n c (x (σ a)) := rfl
  have hit : x (σ a - 1) < cal n c (x (σ a)) := by
    refine Int.not_le.mp fun hc => ?_
    have hup := h.up (σ a)
    have e := cal_eq (c := c) nI hc (by omega)
    obtain ⟨b, hb, m, hm⟩ := ν.sur (σ a - 1)
    have e2 := h.pm (σ b) m
    rw [← hm] at e2
    have hle := nr.le b _ (rowOf_get hb)
    have e3 : dst n c (x (σ b)) = dst n c (x (σ a - 1)) := by
      unfold dst
      rw [e2, show x (σ b) + (n : Int) * m - c = (x (σ b) - c) + (n : Int) * m by omega, Int.add_mul_emod_self_left]
    rw [e3] at hle
    unfold cal at e
    unfold dst at hle
    omega
  rw [push_near n0 nr, ec]
  refine List.ext_getElem? fun b => ?_
  by_cases hb : b < k
  · rw [rowOf_get hb]
    by_cases e : a = b
    · subst e
      rw [List.getElem?_set_self (by rw [rowOf_len]; exact ha)]
      unfold fCall
      rw [if_pos hit]
    · rw [List.getElem?_set_ne e, rowOf_get hb]
      unfold fCall
      rw [if_neg]
      intro hc
      apply e
      obtain ⟨ma, hma⟩ := cal_mod (n := (n : Int)) (c := c) (y := x (σ a))
      obtain ⟨mb, hmb⟩ := cal_mod (n := (n : Int)) (c := c) (y := x (σ b))
      have p0 := h.pm (σ b) (ma - mb)
      have p1 := h.pm (σ b - 1) (ma - mb)
      have em : (n : Int) * (ma - mb) = (n : Int) * ma - (n : Int) * mb := Int.mul_sub ..
      have la := cal_le (n := (n : Int)) (c := c) (y := x (σ a)) nI
      have lb := cal_le (n := (n : Int)) (c := c) (y := x (σ b)) nI
      have hij : σ a = σ b + (k : Int) * (ma - mb) := by
        rcases Int.lt_trichotomy (σ a) (σ b + (k : Int) * (ma - mb)) with hlt | he | hgt
        · have : x (σ a) ≤ x (σ b + (k : Int) * (ma - mb) - 1) := by
            by_cases e2 : σ a = σ b + (k : Int) * (ma - mb) - 1
            · rw [e2]
              exact Int.le_refl _
            · have := h.ltI (i := σ a) (j := σ b + (k : Int) * (ma - mb) - 1) (by omega)
              omega
          rw [show σ b + (k : Int) * (ma - mb) - 1 = σ b - 1 + (k : Int) * (ma - mb) by omega] at this
          omega
        · exact he
        · have : x (σ b + (k : Int) * (ma - mb)) ≤ x (σ a - 1) := by
            by_cases e2 : σ b + (k : Int) * (ma - mb) = σ a - 1
            · rw [e2]
              exact Int.le_refl _
            · have := h.ltI (i := σ b + (k : Int) * (ma - mb)) (j := σ a - 1) (by omega)
              omega
          omega
      exact ν.inj a b ha hb _ hij
  · rw [List.getElem?_eq_none (by rw [List.length_set, rowOf_len]; omega), List.getElem?_eq_none (by rw [rowOf_len]; omega)]
theorem pushS_row {n k : Nat} {σ : Nat → Int} (n0 : 0 < n) (k0 : 1 ≤ k) (ν : Nbr k σ) : ∀ (cs : List Int) {x : Int → Int}, Sqn n k x → pushS n (rowOf x σ k) cs = rowOf (fCalls n cs x) σ k
  | [], _, _ => rfl
  | c :: cs, x, h => by
    show pushS n (pushL n (rowOf x σ k) c) cs = _
    rw [push_row n0 k0 h ν, pushS_row n0 k0 ν cs (h.call (by omega) c)]
    rfl
def xOf (n : Nat) (ss : List Int) : Int → Int := fun i => ss.getD (i % (ss.length : Int)).toNat 0 + (n : Int) * (i / (ss.length : Int))
def pk (n k : Int) (c : Int) : Int → Int := fun i => c + ((i + k - 1) % k - (k - 1)) + n * ((i + k - 1) / k)
theorem div_step {k i : Int} (k0 : 1 ≤ k) : (i % k = 0 ∧ (i - 1) % k = k - 1 ∧ (i - 1) / k = i / k - 1) ∨ (0 < i % k ∧ (i - 1) % k = i % k - 1 ∧ (i - 1) / k = i / k) := by
  have h1 := Int.emod_nonneg i (show k ≠ 0 by omega)
  have h2 := Int.emod_lt_of_pos i (show 0 < k by omega)
  have h3 := Int.mul_ediv_add_emod i k
  have h4 := Int.emod_nonneg (i - 1) (show k ≠ 0 by omega)
  have h5 := Int.emod_lt_of_pos (i - 1) (show 0 < k by omega)
  have h6 := Int.mul_ediv_add_emod (i - 1) k
  generalize hq : i / k = q at *
  generalize hp : (i - 1) / k = p at *
  generalize i % k = r at *
  generalize (i - 1) % k = t at *
  have e : k * (q - p) = t - r + 1 := by rw [Int.mul_sub]; omega
  generalize hd : q - p = d at e
  have hd2 : d = 0 ∨ d = 1 := by
    rcases Int.lt_or_le d 0 with h | h
    · have : k * d ≤ k * (-1) := Int.mul_le_mul_of_nonneg_left (by omega) (by omega)
      omega
    · rcases Int.lt_or_le 1 d with h' | h'
      · have : k * 2 ≤ k * d := Int.mul_le_mul_of_nonneg_left (by omega) (by omega)
        omega
      · omega
  rcases hd2 with rfl | rfl
  · right
    omega
  · left
    omega
theorem mul_pred (n q : Int) : n * (q - 1) = n * q - n := by
  rw [Int.mul_sub]
  omega
theorem sqn_xOf {n : Nat} {ss : List Int} (tb : Tbl n ss) (hne : ss ≠ []) : Sqn n ss.length (xOf n ss) := by
  have k0 : 1 ≤ (ss.length : Int) := by
    have := List.length_pos_iff.mpr hne
    omega
  have hin : ∀ r : Int, 0 ≤ r → r < (ss.length : Int) → ∃ v, ss[r.toNat]? = some v ∧ ss.getD r.toNat 0 = v ∧ 0 ≤ v ∧ v < (n : Int) := fun r r0 r1 => by
    have hl : r.toNat < ss.length := by omega
    refine ⟨ss[r.toNat], List.getElem?_eq_getElem hl, ?_, tb.mem _ (List.getElem_mem hl)⟩
    rw [List.getD_eq_getElem?_getD, List.getElem?_eq_getElem hl]
    rfl
  refine ⟨fun i => ?_, fun i => ?_⟩
  · unfold xOf
    have h1 := Int.emod_nonneg i (show (ss.length : Int) ≠ 0 by omega)
    have h2 := Int.emod_lt_of_pos i (show 0 < (ss.length : Int) by omega)
    rcases div_step (i := i) k0 with ⟨e1, e2, e3⟩ | ⟨e1, e2, e3⟩
    · rw [e2, e3, mul_pred]
      obtain ⟨v, _, hv, hv2⟩ := hin (i % (ss.length : Int)) h1 h2
      obtain ⟨u, _, hu, hu2⟩ := hin ((ss.length : Int) - 1) (by omega) (by omega)
      rw [hu, hv]
      omega
    · rw [e2, e3]
      obtain ⟨v, hv1, hv, hv2⟩ := hin (i % (ss.length : Int)) h1 h2
      obtain ⟨u, hu1, hu, hu2⟩ := hin (i % (ss.length : Int) - 1) (by omega) (by omega)
      rw [hu, hv]
      obtain ⟨l1, g1⟩ := List.getElem?_eq_some_iff.mp hv1
      obtain ⟨l2, g2⟩ := List.getElem?_eq_some_iff.mp hu1
      have := List.pairwise_iff_getElem.mp tb.asc _ _ l2 l1 (by omega)
      rw [g1, g2] at this
      omega
  · unfold xOf
    rw [Int.add_emod_right, Int.add_ediv_of_dvd_right (Int.dvd_refl _), Int.ediv_self (by omega), Int.mul_add]
    omega
theorem sqn_pk {n k c : Int} (k0 : 1 ≤ k) (kn : k ≤ n) : Sqn n k (pk n k c) := by
  refine ⟨fun i => ?_, fun i => ?_⟩
  · unfold pk
    rw [show i - 1 + k - 1 = (i + k - 1) - 1 by omega]
    have h1 := Int.emod_nonneg (i + k - 1) (show k ≠ 0 by omega)
    have h2 := Int.emod_lt_of_pos (i + k - 1) (show 0 < k by omega)
    rcases div_step (i := i + k - 1) k0 with ⟨e1, e2, e3⟩ | ⟨e1, e2, e3⟩
    · rw [e2, e3, mul_pred]
      omega
    · rw [e2, e3]
      omega
  · unfold pk
    rw [show i + k + k - 1 = (i + k - 1) + k by omega, Int.add_emod_right, Int.add_ediv_of_dvd_right (Int.dvd_refl _), Int.ediv_self (by omega), Int.mul_add]
    omega
theorem nbr_up {k : Nat} (k0 : 1 ≤ k) : Nbr k fun a => (a : Int) := by
  refine ⟨fun a b ha hb m e => ?_, fun i => ?_⟩
  · have h := mod_inj (n := (k : Int)) (a := (a : Int)) (b := (b : Int)) (by omega) (by rw [e, Int.add_mul_emod_self_left]) (by omega) (by omega)
    omega
  · have h1 := Int.emod_nonneg i (show (k : Int) ≠ 0 by omega)
    have h2 := Int.emod_lt_of_pos i (show 0 < (k : Int) by omega)
    have h3 := Int.mul_ediv_add_emod i k
    exact ⟨(i % (k : Int)).toNat, by omega, i / (k : Int), by omega⟩
theorem nbr_down {k : Nat} (k0 : 1 ≤ k) : Nbr k fun a => -(a : Int) := by
  refine ⟨fun a b ha hb m e => ?_, fun i => ?_⟩
  · have e : -(a : Int) = -(b : Int) + (k : Int) * m := e
    have h := mod_inj (n := (k : Int)) (a := -(a : Int)) (b := -(b : Int)) (by omega) (by rw [e, Int.add_mul_emod_self_left]) (by omega) (by omega)
    omega
  · have h1 := Int.emod_nonneg (-i) (show (k : Int) ≠ 0 by omega)
    have h2 := Int.emod_lt_of_pos (-i) (show 0 < (k : Int) by omega)
    have h3 := Int.mul_ediv_add_emod (-i) k
    refine ⟨((-i) % (k : Int)).toNat, by omega, -((-i) / (k : Int)), ?_⟩
    rw [Int.mul_neg]
    omega
theorem row_xOf {n : Nat} {ss : List Int} (hne : ss ≠ []) : rowOf (xOf n ss) (fun a => (a : Int)) ss.length = ss := by
  have k0 := List.length_pos_iff.mpr hne
  refine List.ext_getElem? fun a => ?_
  by_cases ha : a < ss.length
  · rw [rowOf_get ha, List.getElem?_eq_getElem ha]
    unfold xOf
    rw [Int.emod_eq_of_lt (by omega) (by omega), Int.ediv_eq_zero_of_lt (by omega) (by omega), Int.mul_zero, Int.add_zero, Int.toNat_natCast, List.getD_eq_getElem?_getD, List.getElem?_eq_getElem ha]
    rfl
  · rw [List.getElem?_eq_none (by rw [rowOf_len]; omega), List.getElem?_eq_none (by omega)]
theorem pk_at {n k c : Int} {a : Int} (a0 : 0 ≤ a) (a1 : a < k) : pk n k c (-a) = c - a := by
  unfold pk
  rw [Int.emod_eq_of_lt (by omega) (by omega), Int.ediv_eq_zero_of_lt (by omega) (by omega), Int.mul_zero]
  omega
theorem pk_turn {n k c m : Int} : pk n k (c + n * m) = fun i => pk n k c (i + 0) + n * m := by
  funext i
  unfold pk
  rw [Int.add_zero]
  omega
def mvS (n k : Int) (cs : List Int) (c j : Int) : Int := c - j - fCalls n cs (pk n k c) (-j)
theorem mvS_turn {n k : Int} {cs : List Int} {c m j : Int} : mvS n k cs (c + n * m) j = mvS n k cs c j := by
  unfold mvS
  rw [pk_turn, calls_shift]
  dsimp only
  rw [Int.add_zero]
  omega
theorem mvS_mod {n k : Int} {cs : List Int} {c j : Int} : mvS n k cs (c % n) j = mvS n k cs c j := by
  have h := Int.mul_ediv_add_emod c n
  have := mvS_turn (n := n) (k := k) (cs := cs) (c := c % n) (m := c / n) (j := j)
  rw [← this]
  congr 1
  omega
def pkAt (n k : Int) (x : Int → Int) (t : Int) : Int → Int := fun i => pk n k (x t) (i + -t) + n * 0
theorem pkAt_ge {n k : Int} {x : Int → Int} (h : Sqn n k x) (k0 : 1 ≤ k) (t i : Int) : x i ≤ pkAt n k x t i := by
  have h1 := Int.emod_nonneg (i - t + k - 1) (show k ≠ 0 by omega)
  have h2 := Int.emod_lt_of_pos (i - t + k - 1) (show 0 < k by omega)
  have h3 := Int.mul_ediv_add_emod (i - t + k - 1) k
  unfold pkAt pk
  rw [show i + -t + k - 1 = i - t + k - 1 by omega]
  generalize (i - t + k - 1) % k = r at *
  generalize (i - t + k - 1) / k = q at *
  have e : i = (t + (r - (k - 1))) + k * q := by omega
  have p := h.pm (t + (r - (k - 1))) q
  rw [← e] at p
  have f := h.far (t + (r - (k - 1))) (k - 1 - r).toNat
  rw [show t + (r - (k - 1)) + ((k - 1 - r).toNat : Int) = t by omega] at f
  omega
theorem pkAt_eq {n k : Int} {x : Int → Int} (h : Sqn n k x) (k0 : 1 ≤ k) (t q : Int) : pkAt n k x t (t + k * q) = x (t + k * q) := by
  rw [h.pm t q]
  unfold pkAt pk
  rw [show t + k * q + -t + k - 1 = (k - 1) + k * q by omega, Int.add_mul_emod_self_left, Int.emod_eq_of_lt (by omega) (by omega), Int.add_mul_ediv_left _ _ (by omega), Int.ediv_eq_zero_of_lt (by omega) (by omega)]
  rw [Int.zero_add]
  omega
theorem sqn_pkAt {n k : Int} {x : Int → Int} {t : Int} (k0 : 1 ≤ k) (kn : k ≤ n) : Sqn n k (pkAt n k x t) := (sqn_pk k0 kn).shift (-t) 0
theorem calls_pkAt {n k : Int} {x : Int → Int} {t i : Int} {cs : List Int} : fCalls n cs (pkAt n k x t) i = x t - (t - i) - mvS n k cs (x t) (t - i) := by
  unfold pkAt mvS
  rw [calls_shift, show -(t - i) = i + -t by omega]
  dsimp only
  omega
def lst (n k : Int) (x : Int → Int) (i : Int) : Nat → Int → Int
  | 0 => pkAt n k x i
  | m + 1 => minS (lst n k x i m) (pkAt n k x (i + ((m + 1 : Nat) : Int)))
theorem lst_le {n k : Int} {x : Int → Int} {i : Int} : ∀ (m j : Nat), j ≤ m → ∀ t, lst n k x i m t ≤ pkAt n k x (i + (j : Int)) t
  | 0, j, hj, t => by
    have : j = 0 := by omega
    subst this
    simp [lst]
  | m + 1, j, hj, t => by
    show min _ _ ≤ _
    by_cases e : j = m + 1
    · subst e
      exact Int.min_le_right ..
    · exact Int.le_trans (Int.min_le_left ..) (lst_le m j (by omega) t)
theorem lst_ge {n k : Int} {x : Int → Int} {i : Int} (h : Sqn n k x) (k0 : 1 ≤ k) : ∀ (m : Nat) t, x t ≤ lst n k x i m t
  | 0, t => pkAt_ge h k0 i t
  | m + 1, t => Int.le_min.mpr ⟨lst_ge h k0 m t, pkAt_ge h k0 _ t⟩
theorem lst_eq {n : Int} {k : Nat} {x : Int → Int} {i : Int} (h : Sqn n k x) (k0 : 1 ≤ k) : lst n k x i (k - 1) = x := by
  funext t
  have h1 := Int.emod_nonneg (t - i) (show (k : Int) ≠ 0 by omega)
  have h2 := Int.emod_lt_of_pos (t - i) (show 0 < (k : Int) by omega)
  have h3 := Int.mul_ediv_add_emod (t - i) k
  have a := lst_ge (i := i) h (by omega) (k - 1) t
  have b := lst_le (n := n) (k := k) (x := x) (i := i) (k - 1) ((t - i) % (k : Int)).toNat (by omega) t
  have e : t = (i + (((t - i) % (k : Int)).toNat : Int)) + (k : Int) * ((t - i) / (k : Int)) := by omega
  have c := pkAt_eq h (by omega) (i + (((t - i) % (k : Int)).toNat : Int)) ((t - i) / (k : Int))
  rw [← e] at c
  omega
theorem lst_sqn {n k : Int} {x : Int → Int} {i : Int} (k0 : 1 ≤ k) (kn : k ≤ n) : ∀ m, Sqn n k (lst n k x i m)
  | 0 => sqn_pkAt k0 kn
  | m + 1 => (lst_sqn k0 kn m).min (sqn_pkAt k0 kn)
theorem lst_calls {n k : Int} {x : Int → Int} {i t : Int} {cs : List Int} (k0 : 1 ≤ k) (kn : k ≤ n) : ∀ m, ∃ j, j ≤ m ∧ fCalls n cs (lst n k x i m) t = fCalls n cs (pkAt n k x (i + ((j : Nat) : Int))) t
  | 0 => ⟨0, Nat.le_refl _, by simp [lst]⟩
  | m + 1 => by
    obtain ⟨j, hj, e⟩ := lst_calls (x := x) (i := i) (t := t) (cs := cs) k0 kn m
    have := congrFun (calls_min (by omega) k0 cs (lst_sqn (x := x) (i := i) k0 kn m) (sqn_pkAt (x := x) (t := i + ((m + 1 : Nat) : Int)) k0 kn)) t
    have this : fCalls n cs (lst n k x i (m + 1)) t = min (fCalls n cs (lst n k x i m) t) (fCalls n cs (pkAt n k x (i + ((m + 1 : Nat) : Int))) t) := this
    rcases Int.le_total (fCalls n cs (lst n k x i m) t) (fCalls n cs (pkAt n k x (i + ((m + 1 : Nat) : Int))) t) with hl | hl
    · exact ⟨j, by omega, by rw [this, ← e]; omega⟩
    · exact ⟨m + 1, Nat.le_refl _, by rw [this]; omega⟩
def frmA (n k : Int) (cs : List Int) (x : Int → Int) (i j : Int) : Int := mvS n k cs (x (i + j)) j - (x (i + j) - x i - j)
theorem steps_le {n k : Int} {x : Int → Int} {cs : List Int} (h : Sqn n k x) (k0 : 1 ≤ k) (kn : k ≤ n) (i j : Int) : frmA n k cs x i j ≤ x i - fCalls n cs x i := by
  have := calls_mono (cs := cs) (by omega) k0 h (sqn_pkAt (x := x) (t := i + j) k0 kn) (pkAt_ge h k0 (i + j)) i
  rw [calls_pkAt, show i + j - i = j by omega] at this
  unfold frmA
  omega
theorem steps_ex {n : Int} {k : Nat} {x : Int → Int} {cs : List Int} (h : Sqn n k x) (k0 : 1 ≤ k) (kn : (k : Int) ≤ n) (i : Int) : ∃ j : Nat, j < k ∧ frmA n k cs x i j = x i - fCalls n cs x i := by
  obtain ⟨j, hj, e⟩ := lst_calls (x := x) (i := i) (t := i) (cs := cs) (show 1 ≤ (k : Int) by omega) kn (k - 1)
  rw [lst_eq h k0, calls_pkAt, show i + (j : Int) - i = j by omega] at e
  refine ⟨j, by omega, ?_⟩
  unfold frmA
  omega
theorem stT_difU {n : Nat} {us cs : List Int} (n0 : 0 < n) (hne : us ≠ []) (hc : ∀ c ∈ cs, 0 ≤ c ∧ c < (n : Int)) : ∀ j, j ≤ cs.length → stT n (us.map (· % (n : Int))) cs j = difL us (pushS n us (cs.take j))
  | 0, _ => by
    refine List.ext_getElem? fun i => ?_
    show ((us.map (· % (n : Int))).map fun _ => (0 : Int))[i]? = (difL us us)[i]?
    cases h : us[i]? with
    | none =>
      rw [List.getElem?_map, List.getElem?_map, h]
      have : us.length ≤ i := List.getElem?_eq_none_iff.mp h
      rw [List.getElem?_eq_none (by rw [difL_len rfl]; exact this)]
      rfl
    | some x =>
      rw [List.getElem?_map, List.getElem?_map, h, difL_get h h, Int.sub_self]
      rfl
  | j + 1, hj => by
    obtain ⟨c, hcj⟩ : ∃ c, cs[j]? = some c := ⟨_, List.getElem?_eq_getElem (by omega)⟩
    have ih := stT_difU n0 hne hc j (by omega)
    have lj := pushS_len n0 (cs.take j) hne
    have lj1 := pushS_len n0 (cs.take (j + 1)) hne
    have hmem : ∀ i : Nat, ∀ c ∈ cs.take i, 0 ≤ c ∧ c < (n : Int) := fun i c h => hc c (List.mem_of_mem_take h)
    have r0 := pushS_mod n0 (cs.take j) hne (hmem j)
    have r1 := pushS_mod n0 (cs.take (j + 1)) hne (hmem (j + 1))
    rw [stT_succ, ih]
    refine List.ext_getElem? fun i => ?_
    cases h : us[i]? with
    | none =>
      have : us.length ≤ i := List.getElem?_eq_none_iff.mp h
      rw [List.getElem?_eq_none, List.getElem?_eq_none]
      · rw [difL_len lj1.symm]
        exact this
      · rw [zipStep_len (by rw [difL_len lj.symm, runS_len, List.length_map]) (by rw [runS_len, runS_len]), difL_len lj.symm]
        exact this
    | some x =>
      have hi := (List.getElem?_eq_some_iff.mp h).1
      obtain ⟨u, hu⟩ : ∃ u, (pushS n us (cs.take j))[i]? = some u := ⟨_, List.getElem?_eq_getElem (by rw [lj]; exact hi)⟩
      obtain ⟨y, hy, h1, h2⟩ := push_step (c := c) (ne_of_len lj hne) n0 hu
      rw [← pushS_succ hcj] at hy
      have a0 : (runS n (us.map (· % (n : Int))) (cs.take j))[i]? = some (u % (n : Int)) := by
        rw [← r0, List.getElem?_map, hu]
        rfl
      have a1 : (runS n (us.map (· % (n : Int))) (cs.take (j + 1)))[i]? = some (y % (n : Int)) := by
        rw [← r1, List.getElem?_map, hy]
        rfl
      rw [zipStep_get (difL_get h hu) a0 a1, difL_get h hy, mod_dif ⟨h1, h2⟩]
      congr 1
      omega
theorem rowOf_ne {x : Int → Int} {σ : Nat → Int} {k : Nat} (k0 : 1 ≤ k) : rowOf x σ k ≠ [] := fun e => by
  have := congrArg List.length e
  rw [rowOf_len] at this
  simp at this
  omega
def modL (n : Nat) (us : List Int) : List Int := us.map (· % (n : Int))
theorem steps_row {n k : Nat} {x : Int → Int} {σ : Nat → Int} {cs : List Int} (n0 : 0 < n) (k0 : 1 ≤ k) (h : Sqn n k x) (ν : Nbr k σ) (hc : ∀ c ∈ cs, 0 ≤ c ∧ c < (n : Int)) : stepsL n (modL n (rowOf x σ k)) cs = rowOf (fun i => x i - fCalls n cs x i) σ k := by
  have e := stT_difU n0 (rowOf_ne (x := x) (σ := σ) k0) hc cs.length (Nat.le_refl _)
  rw [List.take_length, pushS_row n0 k0 ν cs h] at e
  rw [show stepsL n (modL n (rowOf x σ k)) cs = stT n ((rowOf x σ k).map (· % (n : Int))) cs cs.length from rfl, e]
  refine List.ext_getElem? fun a => ?_
  by_cases ha : a < k
  · rw [rowOf_get ha, difL_get (rowOf_get ha) (rowOf_get ha)]
  · rw [List.getElem?_eq_none (by rw [difL_len (by rw [rowOf_len, rowOf_len]), rowOf_len]; omega), List.getElem?_eq_none (by rw [rowOf_len]; omega)]
theorem pkS_row {n k : Nat} {c : Int} : pkS n k c = modL n (rowOf (pk n k c) (fun a => -(a : Int)) k) := by
  unfold pkS modL rowOf
  rw [List.map_map]
  refine List.map_congr_left fun b hb => ?_
  have := List.mem_range.mp hb
  show _ = pk n k c (-(b : Int)) % (n : Int)
  rw [pk_at (by omega) (by omega)]
theorem cell_mv {n k : Nat} {cs : List Int} {c : Int} {j : Nat} (k0 : 1 ≤ k) (kn : k ≤ n) (hc : ∀ c ∈ cs, 0 ≤ c ∧ c < (n : Int)) (c0 : 0 ≤ c) (c1 : c < n) (hj : j < k) : cell (mvL n k cs) c j = mvS n k cs c j := by
  unfold cell mvL
  rw [List.getD_eq_getElem?_getD (l := List.map _ _), List.getElem?_map, List.getElem?_range (by omega)]
  show (stepsL n (pkS n k (c.toNat : Int)) cs).getD j 0 = _
  rw [show ((c.toNat : Nat) : Int) = c by omega, pkS_row, steps_row (by omega) k0 (sqn_pk (by omega) (by omega)) (nbr_down k0) hc, List.getD_eq_getElem?_getD, rowOf_get hj]
  show pk n k c (-(j : Int)) - _ = _
  rw [pk_at (by omega) (by omega)]
  rfl
theorem Sqn.inj {n k : Int} {x : Int → Int} (h : Sqn n k x) {i j : Int} (e : x i = x j) : i = j := by
  rcases Int.lt_trichotomy i j with hl | he | hg
  · have := h.ltI hl
    omega
  · exact he
  · have := h.ltI hg
    omega
theorem dif_in {n : Int} {k : Nat} {x : Int → Int} (h : Sqn n k x) {i : Int} {j : Nat} (hj : j < k) : 0 ≤ x (i + (j : Int)) - x i ∧ x (i + (j : Int)) - x i < n := by
  have h1 := h.far i j
  have h2 := h.ltI (i := i + (j : Int)) (j := i + (k : Int)) (by omega)
  have h3 := h.per i
  omega
theorem mod_mod_sub (a b n : Int) : (a % n - b % n) % n = (a - b) % n := by rw [← Int.sub_emod]
theorem dsS_row {n k : Nat} {x : Int → Int} {σ : Nat → Int} {a : Nat} (n0 : 0 < n) (k0 : 1 ≤ k) (h : Sqn n k x) (ν : Nbr k σ) (ha : a < k) : dsS n (modL n (rowOf x σ k)) (x (σ a) % (n : Int)) = (List.range k).map fun (j : Nat) => x (σ a + (j : Int)) - x (σ a) := by
  have hasc : ((List.range k).map fun (j : Nat) => x (σ a + (j : Int)) - x (σ a)).Pairwise (· < ·) := by
    rw [List.pairwise_map]
    refine List.pairwise_lt_range.imp fun {i j} hij => ?_
    have := h.ltI (i := σ a + (i : Int)) (j := σ a + (j : Int)) (by omega)
    omega
  unfold dsS
  refine (srt_eq ?_ (hasc.imp fun {a b} h => by omega)).symm
  have e2 : (modL n (rowOf x σ k)).map (fun s => (s - x (σ a) % (n : Int)) % (n : Int)) = (List.range k).map fun b => (x (σ b) - x (σ a)) % (n : Int) := by
    unfold modL rowOf
    rw [List.map_map, List.map_map]
    refine List.map_congr_left fun b _ => ?_
    exact mod_mod_sub ..
  rw [e2]
  refine (List.perm_ext_iff_of_nodup (nodup_asc hasc) ?_).mpr fun v => ?_
  · refine nodup_map_of List.nodup_range fun b hb b' hb' e => ?_
    have hb := List.mem_range.mp hb
    have hb' := List.mem_range.mp hb'
    have e1 := Int.mul_ediv_add_emod (x (σ b) - x (σ a)) n
    have e3 := Int.mul_ediv_add_emod (x (σ b') - x (σ a)) n
    have ee : x (σ b) = x (σ b') + (n : Int) * ((x (σ b) - x (σ a)) / (n : Int) - (x (σ b') - x (σ a)) / (n : Int)) := by
      rw [Int.mul_sub]
      omega
    rw [← h.pm] at ee
    exact ν.inj b b' hb hb' _ (h.inj ee)
  · rw [List.mem_map, List.mem_map]
    constructor
    · rintro ⟨j, hj, rfl⟩
      have hj := List.mem_range.mp hj
      obtain ⟨b, hb, m, hm⟩ := ν.sur (σ a + (j : Int))
      refine ⟨b, List.mem_range.mpr hb, ?_⟩
      have p := h.pm (σ b) m
      rw [← hm] at p
      have d := dif_in h (i := σ a) hj
      have e4 : x (σ b) - x (σ a) = (x (σ a + (j : Int)) - x (σ a)) + (n : Int) * (-m) := by
        rw [Int.mul_neg]
        omega
      rw [e4, Int.add_mul_emod_self_left]
      exact Int.emod_eq_of_lt d.1 d.2
    · rintro ⟨b, hb, rfl⟩
      have h1 := Int.emod_nonneg (σ b - σ a) (show (k : Int) ≠ 0 by omega)
      have h2 := Int.emod_lt_of_pos (σ b - σ a) (show 0 < (k : Int) by omega)
      have h3 := Int.mul_ediv_add_emod (σ b - σ a) k
      refine ⟨((σ b - σ a) % (k : Int)).toNat, List.mem_range.mpr (by omega), ?_⟩
      have d := dif_in h (i := σ a) (j := ((σ b - σ a) % (k : Int)).toNat) (by omega)
      have p := h.pm (σ a + (((σ b - σ a) % (k : Int)).toNat : Int)) ((σ b - σ a) / (k : Int))
      rw [show σ a + (((σ b - σ a) % (k : Int)).toNat : Int) + (k : Int) * ((σ b - σ a) / (k : Int)) = σ b by omega] at p
      have e4 : x (σ b) - x (σ a) = (x (σ a + (((σ b - σ a) % (k : Int)).toNat : Int)) - x (σ a)) + (n : Int) * ((σ b - σ a) / (k : Int)) := by omega
      rw [e4, Int.add_mul_emod_self_left]
      exact (Int.emod_eq_of_lt d.1 d.2).symm
theorem stepsBy_row {n k : Nat} {x : Int → Int} {σ : Nat → Int} {cs : List Int} (k0 : 1 ≤ k) (kn : k ≤ n) (h : Sqn n k x) (ν : Nbr k σ) (hc : ∀ c ∈ cs, 0 ≤ c ∧ c < (n : Int)) : stepsBy n (mvL n k cs) (modL n (rowOf x σ k)) = rowOf (fun i => x i - fCalls n cs x i) σ k := by
  have n0 : 0 < n := by omega
  have hl : (modL n (rowOf x σ k)).length = k := by simp [modL, rowOf_len]
  refine List.ext_getElem? fun a => ?_
  by_cases ha : a < k
  · rw [rowOf_get ha]
    unfold stepsBy
    rw [List.getElem?_map]
    have hg : (modL n (rowOf x σ k))[a]? = some (x (σ a) % (n : Int)) := by
      unfold modL
      rw [List.getElem?_map, rowOf_get ha]
      rfl
    rw [hg]
    show some (mx (trmS n (mvL n k cs) (modL n (rowOf x σ k)) (x (σ a) % (n : Int)))) = _
    have et : trmS n (mvL n k cs) (modL n (rowOf x σ k)) (x (σ a) % (n : Int)) = (List.range k).map fun (j : Nat) => frmA n k cs x (σ a) j := by
      unfold trmS
      rw [hl, dsS_row n0 k0 h ν ha]
      refine List.map_congr_left fun j hj => ?_
      have hj := List.mem_range.mp hj
      have eg : ((List.range k).map fun (j : Nat) => x (σ a + (j : Int)) - x (σ a)).getD j 0 = x (σ a + (j : Int)) - x (σ a) := by
        rw [List.getD_eq_getElem?_getD, List.getElem?_map, List.getElem?_range hj]
        rfl
      rw [eg]
      have em : (x (σ a) % (n : Int) + (x (σ a + (j : Int)) - x (σ a))) % (n : Int) = x (σ a + (j : Int)) % (n : Int) := by
        rw [Int.add_emod, Int.emod_emod_of_dvd _ (Int.dvd_refl _), ← Int.add_emod]
        congr 1
        omega
      rw [em, cell_mv k0 kn hc (Int.emod_nonneg _ (by omega)) (Int.emod_lt_of_pos _ (by omega)) hj, mvS_mod]
      rfl
    rw [et]
    congr 1
    refine (mx_eq ?_ fun y hy => ?_).symm
    · obtain ⟨j, hj, e⟩ := steps_ex (cs := cs) h k0 (by omega) (σ a)
      exact List.mem_map.mpr ⟨j, List.mem_range.mpr hj, e⟩
    · obtain ⟨j, _, rfl⟩ := List.mem_map.mp hy
      exact steps_le h (by omega) (by omega) (σ a) j
  · rw [List.getElem?_eq_none (by unfold stepsBy; rw [List.length_map, hl]; omega), List.getElem?_eq_none (by rw [rowOf_len]; omega)]
def plcL (n : Nat) (ss cs : List Int) : List Int := difL ss (stepsL n ss cs)
theorem modL_self {n : Nat} {ss : List Int} (tb : Tbl n ss) : modL n ss = ss := mod_self_of tb.mem
theorem steps_tbl {n : Nat} {ss cs : List Int} (tb : Tbl n ss) (hne : ss ≠ []) (n0 : 0 < n) (hc : ∀ c ∈ cs, 0 ≤ c ∧ c < (n : Int)) : stepsL n ss cs = rowOf (fun i => xOf n ss i - fCalls n cs (xOf n ss) i) (fun a => (a : Int)) ss.length := by
  have k0 := List.length_pos_iff.mpr hne
  have e := steps_row (cs := cs) n0 k0 (sqn_xOf tb hne) (nbr_up k0) hc
  rw [row_xOf hne, modL_self tb] at e
  exact e
theorem stepsBy_tbl {n : Nat} {ss cs : List Int} (tb : Tbl n ss) (hne : ss ≠ []) (kn : ss.length ≤ n) (hc : ∀ c ∈ cs, 0 ≤ c ∧ c < (n : Int)) : stepsBy n (mvL n ss.length cs) ss = stepsL n ss cs := by
  have k0 := List.length_pos_iff.mpr hne
  have e := stepsBy_row (cs := cs) k0 kn (sqn_xOf tb hne) (nbr_up k0) hc
  rw [row_xOf hne, modL_self tb] at e
  rw [e, steps_tbl tb hne (by omega) hc]
theorem plc_tbl {n : Nat} {ss cs : List Int} (tb : Tbl n ss) (hne : ss ≠ []) (n0 : 0 < n) (hc : ∀ c ∈ cs, 0 ≤ c ∧ c < (n : Int)) : plcL n ss cs = rowOf (fCalls n cs (xOf n ss)) (fun a => (a : Int)) ss.length := by
  unfold plcL
  rw [steps_tbl tb hne n0 hc]
  refine List.ext_getElem? fun a => ?_
  by_cases ha : a < ss.length
  · have h1 : ss[a]? = some (xOf n ss (a : Int)) := by
      have := rowOf_get (x := xOf n ss) (σ := fun a => (a : Int)) ha
      rw [row_xOf hne] at this
      exact this
    rw [difL_get h1 (rowOf_get ha), rowOf_get ha]
    congr 1
    omega
  · rw [List.getElem?_eq_none (by rw [difL_len (by rw [rowOf_len])]; omega), List.getElem?_eq_none (by rw [rowOf_len]; omega)]
theorem rot_one {g : Int → Int} {k : Nat} (h : ∀ i, g (i + (k : Int)) = g i) : (rowOf (fun i => g (i + 1)) (fun a => (a : Int)) k).Perm (rowOf g (fun a => (a : Int)) k) := by
  cases k with
  | zero => exact List.Perm.refl _
  | succ k =>
    have e1 : rowOf (fun i => g (i + 1)) (fun a => (a : Int)) (k + 1) = (List.range k).map (fun (a : Nat) => g ((a : Int) + 1)) ++ [g 0] := by
      unfold rowOf
      rw [List.range_succ, List.map_append]
      congr 1
      have := h 0
      rw [show (0 : Int) + ((k + 1 : Nat) : Int) = (k : Int) + 1 by omega] at this
      rw [← this]
      rfl
    have e2 : rowOf g (fun a => (a : Int)) (k + 1) = g 0 :: (List.range k).map (fun (a : Nat) => g ((a : Int) + 1)) := by
      unfold rowOf
      rw [List.range_succ_eq_map, List.map_cons, List.map_map]
      rfl
    rw [e1, e2]
    exact List.perm_append_singleton _ _
theorem rot_nat {g : Int → Int} {k : Nat} (h : ∀ i, g (i + (k : Int)) = g i) : ∀ a : Nat, (rowOf (fun i => g (i + (a : Int))) (fun a => (a : Int)) k).Perm (rowOf g (fun a => (a : Int)) k)
  | 0 => by
    rw [show (fun i => g (i + ((0 : Nat) : Int))) = g from funext fun i => by rw [show i + ((0 : Nat) : Int) = i by omega]]
  | a + 1 => by
    have e : (fun i => g (i + ((a + 1 : Nat) : Int))) = fun i => (fun j => g (j + (a : Int))) (i + 1) := funext fun i => by
      show g _ = g _
      congr 1
      omega
    rw [e]
    refine (rot_one (g := fun j => g (j + (a : Int))) fun i => ?_).trans (rot_nat h a)
    show g (i + (k : Int) + (a : Int)) = g (i + (a : Int))
    rw [show i + (k : Int) + (a : Int) = i + (a : Int) + (k : Int) by omega]
    exact h _
theorem per_nat {g : Int → Int} {k : Nat} (h : ∀ i, g (i + (k : Int)) = g i) (i : Int) : ∀ m : Nat, g (i + (k : Int) * (m : Int)) = g i
  | 0 => by simp
  | m + 1 => by
    rw [show i + (k : Int) * ((m + 1 : Nat) : Int) = i + (k : Int) * (m : Int) + (k : Int) by rw [show ((m + 1 : Nat) : Int) = (m : Int) + 1 by omega, Int.mul_add]; omega, h, per_nat h i m]
theorem rot_perm {g : Int → Int} {k : Nat} (k0 : 1 ≤ k) (h : ∀ i, g (i + (k : Int)) = g i) (a : Int) : (rowOf (fun i => g (i + a)) (fun a => (a : Int)) k).Perm (rowOf g (fun a => (a : Int)) k) := by
  have hb : 0 ≤ a + (k : Int) * (a.natAbs : Int) := by
    have : (1 : Int) * (a.natAbs : Int) ≤ (k : Int) * (a.natAbs : Int) := Int.mul_le_mul_of_nonneg_right (by omega) (by omega)
    omega
  have e : (fun i => g (i + a)) = fun i => g (i + ((a + (k : Int) * (a.natAbs : Int)).toNat : Int)) := funext fun i => by
    rw [Int.toNat_of_nonneg hb, show i + (a + (k : Int) * (a.natAbs : Int)) = i + a + (k : Int) * (a.natAbs : Int) by omega, per_nat h]
  rw [e]
  exact rot_nat h _
theorem first_up {P : Int → Prop} (lo : Int) : ∀ d : Nat, ¬ P lo → P (lo + (d : Int)) → ∃ a, ¬ P (a - 1) ∧ P a
  | 0, h0, h1 => absurd (by rw [show lo + ((0 : Nat) : Int) = lo by omega] at h1; exact h1) h0
  | d + 1, h0, h1 => by
    by_cases h : P (lo + (d : Int))
    · exact first_up lo d h0 h
    · exact ⟨lo + ((d + 1 : Nat) : Int), by rw [show lo + ((d + 1 : Nat) : Int) - 1 = lo + (d : Int) by omega]; exact h, h1⟩
theorem Sqn.le {n k : Int} {x : Int → Int} (h : Sqn n k x) {i j : Int} (hij : i ≤ j) : x i ≤ x j := by
  rcases Int.lt_or_eq_of_le hij with h' | rfl
  · exact Int.le_of_lt (h.ltI h')
  · exact Int.le_refl _
theorem Sqn.zero {n : Nat} {k : Int} {x : Int → Int} (h : Sqn n k x) (n0 : 0 < n) (k0 : 1 ≤ k) : ∃ a, x (a - 1) < 0 ∧ 0 ≤ x a := by
  have e1 := h.pm 0 ((x 0).natAbs : Int)
  have e2 := h.pm 0 (-((x 0).natAbs + 1 : Int))
  have b1 : (1 : Int) * ((x 0).natAbs : Int) ≤ (n : Int) * ((x 0).natAbs : Int) := Int.mul_le_mul_of_nonneg_right (by omega) (by omega)
  have b2 : (1 : Int) * ((x 0).natAbs + 1 : Int) ≤ (n : Int) * ((x 0).natAbs + 1 : Int) := Int.mul_le_mul_of_nonneg_right (by omega) (by omega)
  rw [Int.mul_neg, Int.mul_neg] at e2
  have hlo : ¬ (0 ≤ x (0 + -(k * ((x 0).natAbs + 1 : Int)))) := by omega
  have hhi : 0 ≤ x (0 + k * ((x 0).natAbs : Int)) := by omega
  have hk : 0 ≤ k * ((x 0).natAbs : Int) := Int.mul_nonneg (by omega) (by omega)
  have hk2 : 0 ≤ k * ((x 0).natAbs + 1 : Int) := Int.mul_nonneg (by omega) (by omega)
  obtain ⟨a, ha, hb⟩ := first_up (P := fun i => 0 ≤ x i) (0 + -(k * ((x 0).natAbs + 1 : Int))) (k * ((x 0).natAbs : Int) + k * ((x 0).natAbs + 1 : Int)).toNat hlo (by
    rw [Int.toNat_of_nonneg (by omega), show (0 : Int) + -(k * ((x 0).natAbs + 1 : Int)) + (k * ((x 0).natAbs : Int) + k * ((x 0).natAbs + 1 : Int)) = 0 + k * ((x 0).natAbs : Int) by omega]
    exact hhi)
  exact ⟨a, by omega, hb⟩
theorem modL_row {n k : Nat} {x : Int → Int} {σ : Nat → Int} : modL n (rowOf x σ k) = rowOf (fun i => x i % (n : Int)) σ k := by
  unfold modL rowOf
  rw [List.map_map]
  rfl
theorem Sqn.mod_per {n : Nat} {k : Nat} {x : Int → Int} (h : Sqn n k x) (i : Int) : x (i + (k : Int)) % (n : Int) = x i % (n : Int) := by
  rw [h.per, Int.add_emod_right]
theorem sqn_tab {n k : Nat} {x : Int → Int} (h : Sqn n k x) (n0 : 0 < n) (k0 : 1 ≤ k) : ∃ a : Int, srt (modL n (rowOf x (fun a => (a : Int)) k)) = rowOf (fun i => x (i + a)) (fun a => (a : Int)) k ∧ Tbl n (srt (modL n (rowOf x (fun a => (a : Int)) k))) ∧ ∀ i, xOf n (srt (modL n (rowOf x (fun a => (a : Int)) k))) i = x (i + a) := by
  obtain ⟨a, ha, hb⟩ := h.zero n0 (by omega)
  have tb : Tbl n (rowOf (fun i => x (i + a)) (fun a => (a : Int)) k) := ⟨by
    refine List.pairwise_iff_getElem.mpr fun i j hi hj hij => ?_
    simp only [rowOf, List.getElem_map, List.getElem_range]
    exact h.ltI (by omega), fun y hy => by
    obtain ⟨i, hi⟩ := List.getElem?_of_mem hy
    obtain ⟨hk, rfl⟩ := rowOf_inv hi
    have l1 := h.le (show a ≤ (i : Int) + a by omega)
    have l2 := h.le (show (i : Int) + a ≤ a - 1 + (k : Int) by omega)
    rw [h.per] at l2
    exact ⟨Int.le_trans hb l1, by omega⟩⟩
  have hp : (modL n (rowOf x (fun a => (a : Int)) k)).Perm (rowOf (fun i => x (i + a)) (fun a => (a : Int)) k) := by
    rw [modL_row]
    have := (rot_perm (g := fun i => x i % (n : Int)) k0 h.mod_per a).symm
    refine this.trans ?_
    rw [show rowOf (fun i => x (i + a) % (n : Int)) (fun a => (a : Int)) k = modL n (rowOf (fun i => x (i + a)) (fun a => (a : Int)) k) from modL_row.symm, modL_self tb]
  have e : srt (modL n (rowOf x (fun a => (a : Int)) k)) = rowOf (fun i => x (i + a)) (fun a => (a : Int)) k := by rw [srt_congr hp, tb.srt]
  refine ⟨a, e, by rw [e]; exact tb, fun i => ?_⟩
  rw [e]
  have hm0 := Int.emod_nonneg i (show (k : Int) ≠ 0 by omega)
  have hm1 := Int.emod_lt_of_pos i (show (0 : Int) < k by omega)
  have hg : (rowOf (fun i => x (i + a)) (fun a => (a : Int)) k)[(i % (k : Int)).toNat]? = some (x (i % (k : Int) + a)) := by
    rw [rowOf_get (show (i % (k : Int)).toNat < k by omega)]
    rw [Int.toNat_of_nonneg hm0]
  unfold xOf
  rw [rowOf_len, List.getD_eq_getElem?_getD, hg]
  show x (i % (k : Int) + a) + _ = _
  rw [← h.pm]
  congr 1
  have := Int.mul_ediv_add_emod i k
  omega
theorem srt_rot {n k : Nat} {x : Int → Int} (h : Sqn n k x) (k0 : 1 ≤ k) (a : Int) : srt (modL n (rowOf (fun i => x (i + a)) (fun a => (a : Int)) k)) = srt (modL n (rowOf x (fun a => (a : Int)) k)) := by
  rw [modL_row, modL_row]
  exact srt_congr (rot_perm (g := fun i => x i % (n : Int)) k0 h.mod_per a)
theorem runS_tbl {n : Nat} {ss cs : List Int} (tb : Tbl n ss) (hne : ss ≠ []) (n0 : 0 < n) (hc : ∀ c ∈ cs, 0 ≤ c ∧ c < (n : Int)) : runS n ss cs = modL n (rowOf (fCalls n cs (xOf n ss)) (fun a => (a : Int)) ss.length) := by
  have k0 := List.length_pos_iff.mpr hne
  have e := pushS_mod n0 cs hne hc
  rw [mod_self_of tb.mem] at e
  rw [← e, ← pushS_row n0 k0 (nbr_up k0) cs (sqn_xOf tb hne), row_xOf hne]
  rfl
def tabA (n : Nat) (ss cs : List Int) : List Int := srt (runS n ss cs)
theorem tabA_len {n : Nat} {ss cs : List Int} : (tabA n ss cs).length = ss.length := by unfold tabA; rw [srt_len, runS_len]
theorem tabA_ne {n : Nat} {ss cs : List Int} (hne : ss ≠ []) : tabA n ss cs ≠ [] := ne_of_len tabA_len hne
theorem tabA_x {n : Nat} {ss cs : List Int} (tb : Tbl n ss) (hne : ss ≠ []) (n0 : 0 < n) (hc : ∀ c ∈ cs, 0 ≤ c ∧ c < (n : Int)) : ∃ a : Int, tabA n ss cs = rowOf (fun i => fCalls n cs (xOf n ss) (i + a)) (fun a => (a : Int)) ss.length ∧ Tbl n (tabA n ss cs) ∧ xOf n (tabA n ss cs) = fun i => fCalls n cs (xOf n ss) (i + a) := by
  have k0 := List.length_pos_iff.mpr hne
  have hs := (sqn_xOf tb hne).calls (show (0 : Int) < n by omega) cs
  obtain ⟨a, h1, h2, h3⟩ := sqn_tab hs n0 k0
  unfold tabA
  rw [runS_tbl tb hne n0 hc]
  exact ⟨a, h1, h2, funext h3⟩
theorem tabA_tbl {n : Nat} {ss cs : List Int} (tb : Tbl n ss) (hne : ss ≠ []) (n0 : 0 < n) (hc : ∀ c ∈ cs, 0 ≤ c ∧ c < (n : Int)) : Tbl n (tabA n ss cs) := by
  obtain ⟨a, _, h, _⟩ := tabA_x tb hne n0 hc
  exact h
theorem rot_calls {n : Int} {cs : List Int} {x : Int → Int} {a : Int} : fCalls n cs (fun i => x (i + a)) = fun i => fCalls n cs x (i + a) := by
  have := calls_shift (n := n) a 0 cs x
  simp only [Int.mul_zero, Int.add_zero] at this
  exact this
theorem tabA_app {n : Nat} {ss cs ds : List Int} (tb : Tbl n ss) (hne : ss ≠ []) (n0 : 0 < n) (hc : ∀ c ∈ cs, 0 ≤ c ∧ c < (n : Int)) (hd : ∀ c ∈ ds, 0 ≤ c ∧ c < (n : Int)) : tabA n (tabA n ss cs) ds = tabA n ss (cs ++ ds) := by
  have k0 := List.length_pos_iff.mpr hne
  obtain ⟨a, h1, h2, h3⟩ := tabA_x tb hne n0 hc
  have hs := ((sqn_xOf tb hne).calls (show (0 : Int) < n by omega) cs).calls (show (0 : Int) < n by omega) ds
  have e1 : tabA n (tabA n ss cs) ds = srt (modL n (rowOf (fCalls n ds (xOf n (tabA n ss cs))) (fun a => (a : Int)) (tabA n ss cs).length)) := by
    show srt _ = _
    rw [runS_tbl h2 (tabA_ne hne) n0 hd]
  rw [e1, h3, rot_calls, tabA_len, srt_rot hs k0]
  show _ = srt _
  rw [runS_tbl tb hne n0 (fun c hx => (List.mem_append.mp hx).elim (hc c) (hd c)), calls_append]
theorem sum_perm {a b : List Int} (h : a.Perm b) : a.sum = b.sum := by
  induction h with
  | nil => rfl
  | cons x _ ih => rw [List.sum_cons, List.sum_cons, ih]
  | swap x y l =>
    rw [List.sum_cons, List.sum_cons, List.sum_cons, List.sum_cons]
    omega
  | trans _ _ ih1 ih2 => exact ih1.trans ih2
theorem sum_row_add {x y : Int → Int} : ∀ k : Nat, (rowOf (fun i => x i + y i) (fun a => (a : Int)) k).sum = (rowOf x (fun a => (a : Int)) k).sum + (rowOf y (fun a => (a : Int)) k).sum := fun k => by
  unfold rowOf
  induction k with
  | zero => rfl
  | succ k ih =>
    rw [List.range_succ, List.map_append, List.map_append, List.map_append, List.sum_append, List.sum_append, List.sum_append, ih]
    simp
    omega
theorem dif_per {n k : Int} {x y : Int → Int} (h : Sqn n k x) (g : Sqn n k y) (i : Int) : x (i + k) - y (i + k) = x i - y i := by
  rw [h.per, g.per]
  omega
theorem steps_tabA {n : Nat} {ss cs ds : List Int} (tb : Tbl n ss) (hne : ss ≠ []) (n0 : 0 < n) (hc : ∀ c ∈ cs, 0 ≤ c ∧ c < (n : Int)) (hd : ∀ c ∈ ds, 0 ≤ c ∧ c < (n : Int)) : ∃ a : Int, tabA n ss cs = rowOf (fun i => fCalls n cs (xOf n ss) (i + a)) (fun a => (a : Int)) ss.length ∧ stepsL n (tabA n ss cs) ds = rowOf (fun i => (fun j => fCalls n cs (xOf n ss) j - fCalls n (cs ++ ds) (xOf n ss) j) (i + a)) (fun a => (a : Int)) ss.length := by
  obtain ⟨a, h1, h2, h3⟩ := tabA_x tb hne n0 hc
  refine ⟨a, h1, ?_⟩
  rw [steps_tbl h2 (tabA_ne hne) n0 hd, h3, rot_calls, tabA_len]
  simp only [calls_append]
def rep' (cs : List Int) (m : Nat) : List Int := (List.replicate m cs).flatten
theorem rep'_succ (cs : List Int) (m : Nat) : rep' cs (m + 1) = rep' cs m ++ cs := by
  unfold rep'
  rw [List.replicate_succ', List.flatten_append]
  simp
theorem rep'_in {n : Nat} {cs : List Int} (h : ∀ c ∈ cs, 0 ≤ c ∧ c < (n : Int)) (m : Nat) : ∀ c ∈ rep' cs m, 0 ≤ c ∧ c < (n : Int) := fun c hc => by
  unfold rep' at hc
  obtain ⟨l, hl, hx⟩ := List.mem_flatten.mp hc
  rw [(List.mem_replicate.mp hl).2] at hx
  exact h c hx
def seqT (n : Nat) (ss cs : List Int) (j : Nat) : List Int := tabA n ss (rep' cs j)
theorem seqT_succ {n : Nat} {ss cs : List Int} (tb : Tbl n ss) (hne : ss ≠ []) (n0 : 0 < n) (hc : ∀ c ∈ cs, 0 ≤ c ∧ c < (n : Int)) (j : Nat) : seqT n ss cs (j + 1) = tabA n (seqT n ss cs j) cs := by
  unfold seqT
  rw [tabA_app tb hne n0 (rep'_in hc j) hc, rep'_succ]
theorem seqT_zero {n : Nat} {ss cs : List Int} (tb : Tbl n ss) : seqT n ss cs 0 = ss := tb.srt
theorem nodup_le {α : Type} [DecidableEq α] : ∀ {l m : List α}, l.Nodup → (∀ x ∈ l, x ∈ m) → l.length ≤ m.length
  | [], _, _, _ => Nat.zero_le _
  | x :: l, m, hd, hs => by
    have hx := hs x (List.mem_cons_self ..)
    have h1 := (List.nodup_cons.mp hd)
    have h2 : l.length ≤ (m.erase x).length := nodup_le h1.2 fun y hy => (List.mem_erase_of_ne (fun e => by rw [e] at hy; exact h1.1 hy)).mpr (hs y (List.mem_cons_of_mem _ hy))
    rw [List.length_erase_of_mem hx] at h2
    have := List.length_pos_of_mem hx
    rw [List.length_cons]
    omega
def crsL (g : List Int → List Int) : Nat → List Int → List (List Int) → Option (Nat × Nat)
  | 0, _, _ => none
  | f + 1, t, ks => match ks.findIdx? fun k => decide (k = t) with
    | some j => some (j, ks.length - j)
    | none => crsL g f (g t) (ks ++ [t])
structure Crs (T : Nat → List Int) (j p : Nat) : Prop where
  p1 : 1 ≤ p
  back : T (j + p) = T j
  apart : ∀ a b, a < b → b < j + p → T a ≠ T b
theorem crs_spec {g : List Int → List Int} {T : Nat → List Int} (hT : ∀ i, T (i + 1) = g (T i)) {N : Nat} (hN : ∀ m, ((List.range m).map T).Nodup → m ≤ N) : ∀ f m : Nat, N < f + m → ((List.range m).map T).Nodup → ∃ j p, crsL g f (T m) ((List.range m).map T) = some (j, p) ∧ j + p ≤ N ∧ Crs T j p
  | 0, m, h, hd => by
    have := hN m hd
    omega
  | f + 1, m, h, hd => by
    have hm := hN m hd
    unfold crsL
    cases hq : ((List.range m).map T).findIdx? fun k => decide (k = T m) with
    | some j =>
      obtain ⟨hl, h1, h2⟩ := List.findIdx?_eq_some_iff_getElem.mp hq
      rw [List.length_map, List.length_range] at hl
      have e : T j = T m := by
        have := of_decide_eq_true h1
        rw [List.getElem_map, List.getElem_range] at this
        exact this
      refine ⟨j, m - j, by simp only [List.length_map, List.length_range], by omega, by omega, by rw [show j + (m - j) = m by omega, e], fun a b hab hb he => ?_⟩
      have hb' : b < m := by omega
      have := List.pairwise_iff_getElem.mp hd a b (by simp; omega) (by simp; omega) hab
      rw [List.getElem_map, List.getElem_map, List.getElem_range, List.getElem_range] at this
      exact this he
    | none =>
      have hno := List.findIdx?_eq_none_iff.mp hq
      have e : (List.range m).map T ++ [T m] = (List.range (m + 1)).map T := by rw [List.range_succ, List.map_append]; rfl
      have hd' : ((List.range (m + 1)).map T).Nodup := by
        rw [← e]
        refine List.nodup_append.mpr ⟨hd, List.pairwise_singleton _ _, fun a ha b hb => ?_⟩
        rw [List.mem_singleton.mp hb]
        have := hno a ha
        simpa using this
      dsimp only
      rw [e, ← hT m]
      exact crs_spec hT hN f (m + 1) (by omega) hd'
theorem row_down {g : Int → Int} {k : Nat} (k0 : 1 ≤ k) (h : ∀ i, g (i + (k : Int)) = g i) : (rowOf g (fun a => -(a : Int)) k).Perm (rowOf g (fun a => (a : Int)) k) := by
  have e : (rowOf g (fun a => -(a : Int)) k).reverse = rowOf (fun i => g (i + -((k : Int) - 1))) (fun a => (a : Int)) k := by
    refine List.ext_getElem? fun i => ?_
    by_cases hi : i < k
    · rw [List.getElem?_reverse (by rw [rowOf_len]; exact hi), rowOf_len, rowOf_get (show k - 1 - i < k by omega), rowOf_get hi]
      congr 2
      omega
    · rw [List.getElem?_eq_none (by rw [List.length_reverse, rowOf_len]; omega), List.getElem?_eq_none (by rw [rowOf_len]; omega)]
  refine (List.reverse_perm _).symm.trans ?_
  rw [e]
  exact rot_perm k0 h _
theorem pack_x {n k : Nat} {c : Int} (n0 : 0 < n) (k0 : 1 ≤ k) (kn : k ≤ n) : ∃ a : Int, Tbl n (srt (pkS n k c)) ∧ xOf n (srt (pkS n k c)) = (fun i => pk n k c (i + a)) ∧ (srt (pkS n k c)).length = k := by
  have hs : Sqn n k (pk n k c) := sqn_pk (by omega) (by omega)
  have e : srt (pkS n k c) = srt (modL n (rowOf (pk n k c) (fun a => (a : Int)) k)) := by
    rw [pkS_row, modL_row, modL_row]
    exact srt_congr (row_down (g := fun i => pk n k c i % (n : Int)) k0 hs.mod_per)
  obtain ⟨a, _, h2, h3⟩ := sqn_tab hs n0 k0
  refine ⟨a, by rw [e]; exact h2, by rw [e]; exact funext h3, by rw [srt_len, pkS_len]⟩
def gcdL : Nat → Nat → Nat → Nat × Nat
  | 0, d, r => (d, r)
  | f + 1, d, r => if 0 < r then gcdL f r (d % r) else (d, r)
theorem gcdL_ok : ∀ (m d r : Nat), r < 2 ^ m → ∀ f, 2 * m ≤ f → gcdL f d r = (Nat.gcd d r, 0)
  | 0, d, r, h, f, _ => by
    have : r = 0 := by simpa using h
    subst this
    cases f with
    | zero => simp [gcdL]
    | succ f => simp [gcdL]
  | m + 1, d, r, h, f, hf => by
    obtain ⟨f, rfl⟩ : ∃ g, f = g + 2 := ⟨f - 2, by omega⟩
    by_cases r0 : 0 < r
    · have e1 : gcdL (f + 2) d r = gcdL (f + 1) r (d % r) := by
        show (if 0 < r then gcdL (f + 1) r (d % r) else (d, r)) = _
        rw [if_pos r0]
      rw [e1]
      have hlt := Nat.mod_lt d r0
      by_cases s0 : 0 < d % r
      · have e2 : gcdL (f + 1) r (d % r) = gcdL f (d % r) (r % (d % r)) := by
          show (if 0 < d % r then gcdL f (d % r) (r % (d % r)) else (r, d % r)) = _
          rw [if_pos s0]
        have half : r % (d % r) < 2 ^ m := by
          have h1 := Nat.mod_lt r s0
          have h2 := Nat.div_add_mod r (d % r)
          have h3 : 1 ≤ r / (d % r) := (Nat.one_le_div_iff s0).mpr (Nat.le_of_lt hlt)
          have h4 : d % r * 1 ≤ d % r * (r / (d % r)) := Nat.mul_le_mul_left _ h3
          rw [Nat.pow_succ] at h
          omega
        have e3 : Nat.gcd d r = Nat.gcd (d % r) (r % (d % r)) := by
          rw [Nat.gcd_comm d r, Nat.gcd_rec r d, Nat.gcd_rec (d % r) r, Nat.gcd_comm]
        rw [e2, gcdL_ok m _ _ half f (by omega), e3]
      · have z : d % r = 0 := by omega
        have e2 : gcdL (f + 1) r (d % r) = (r, 0) := by
          show (if 0 < d % r then gcdL f (d % r) (r % (d % r)) else (r, d % r)) = _
          rw [if_neg s0, z]
        rw [e2, Nat.gcd_comm d r, Nat.gcd_rec, z]
        simp
    · have z : r = 0 := by omega
      subst z
      show (if 0 < 0 then _ else (d, 0)) = _
      simp
def xR (n : Nat) (ss cs : List Int) (j : Nat) : Int → Int := fCalls n (rep' cs j) (xOf n ss)
theorem rep'_add (cs : List Int) (a : Nat) : ∀ b, rep' cs (a + b) = rep' cs a ++ rep' cs b
  | 0 => by simp [rep']
  | b + 1 => by rw [← Nat.add_assoc, rep'_succ, rep'_add cs a b, rep'_succ, List.append_assoc]
theorem xR_add (n : Nat) (ss cs : List Int) (j m : Nat) : xR n ss cs (j + m) = fCalls n (rep' cs m) (xR n ss cs j) := by
  unfold xR
  rw [rep'_add, calls_append]
section
variable {n : Nat} {ss cs : List Int} (tb : Tbl n ss) (hne : ss ≠ []) (n0 : 0 < n) (hc : ∀ c ∈ cs, 0 ≤ c ∧ c < (n : Int))
include tb hne n0
theorem sqn_xR (j : Nat) : Sqn n ss.length (xR n ss cs j) := (sqn_xOf tb hne).calls (show (0 : Int) < n by omega) _
include hc
theorem seqT_x (j : Nat) : ∃ a : Int, xOf n (seqT n ss cs j) = fun i => xR n ss cs j (i + a) := by
  obtain ⟨a, _, _, h⟩ := tabA_x tb hne n0 (rep'_in hc j)
  exact ⟨a, h⟩
theorem xR_back {j p : Nat} (h : seqT n ss cs (j + p) = seqT n ss cs j) : ∃ a : Int, a ≤ 0 ∧ ∀ i, xR n ss cs (j + p) i = xR n ss cs j (i + a) := by
  obtain ⟨a1, e1⟩ := seqT_x tb hne n0 hc (j + p)
  obtain ⟨a2, e2⟩ := seqT_x tb hne n0 hc j
  rw [h, e2] at e1
  have e : ∀ i, xR n ss cs (j + p) i = xR n ss cs j (i + (a2 - a1)) := fun i => by
    have := congrFun e1 (i - a1)
    rw [show i - a1 + a1 = i by omega] at this
    rw [← this]
    congr 1
    omega
  refine ⟨a2 - a1, ?_, e⟩
  have hle := calls_le (show (0 : Int) < n by omega) (rep' cs p) (xR n ss cs j) 0
  rw [← xR_add, e 0] at hle
  rcases Int.lt_or_le 0 (a2 - a1) with hp | hp
  · have := (sqn_xR (cs := cs) tb hne n0 j).ltI (show (0 : Int) < 0 + (a2 - a1) by omega)
    omega
  · exact hp
end
theorem xR_many {n : Nat} {ss cs : List Int} {j p : Nat} {a : Int} (h : ∀ i, xR n ss cs (j + p) i = xR n ss cs j (i + a)) : ∀ (m r : Nat) (i : Int), xR n ss cs (j + r + p * m) i = xR n ss cs (j + r) (i + (m : Int) * a)
  | 0, r, i => by simp
  | m + 1, r, i => by
    have e1 : j + r + p * (m + 1) = j + p + (r + p * m) := by rw [Nat.mul_succ]; omega
    have e2 : xR n ss cs (j + p) = fun i => xR n ss cs j (i + a) := funext h
    rw [e1, xR_add, e2, rot_calls]
    show fCalls n (rep' cs (r + p * m)) (xR n ss cs j) (i + a) = _
    rw [← xR_add, ← Nat.add_assoc, xR_many h m r (i + a)]
    congr 1
    rw [show ((m + 1 : Nat) : Int) = (m : Int) + 1 by omega, Int.add_mul]
    omega
theorem sum_zero : ∀ k : Nat, (rowOf (fun _ => (0 : Int)) (fun a => (a : Int)) k).sum = 0
  | 0 => rfl
  | k + 1 => by
    have ih := sum_zero k
    unfold rowOf at ih ⊢
    rw [List.range_succ, List.map_append, List.sum_append, ih]
    rfl
theorem sum_tel (z : Int → Int) : ∀ k : Nat, (rowOf (fun i => z i - z (i - 1)) (fun a => (a : Int)) k).sum = z ((k : Int) - 1) - z (-1)
  | 0 => by simp [rowOf]
  | k + 1 => by
    have ih := sum_tel z k
    unfold rowOf at ih ⊢
    rw [List.range_succ, List.map_append, List.sum_append, ih]
    simp only [List.map_cons, List.map_nil, List.sum_cons, List.sum_nil]
    rw [show ((k + 1 : Nat) : Int) - 1 = (k : Int) by omega]
    omega
theorem sum_shift {n : Int} {k : Nat} {y : Int → Int} (h : Sqn n k y) : ∀ q : Nat, (rowOf (fun i => y i - y (i + -(q : Int))) (fun a => (a : Int)) k).sum = n * (q : Int)
  | 0 => by
    rw [show (fun i => y i - y (i + -((0 : Nat) : Int))) = fun _ => (0 : Int) from funext fun i => by rw [show i + -((0 : Nat) : Int) = i by omega]; omega, sum_zero]
    simp
  | q + 1 => by
    have e : (fun i => y i - y (i + -((q + 1 : Nat) : Int))) = fun i => (y i - y (i + -(q : Int))) + ((fun t => y (t + -(q : Int))) i - (fun t => y (t + -(q : Int))) (i - 1)) := funext fun i => by
      dsimp only
      rw [show i - 1 + -(q : Int) = i + -((q + 1 : Nat) : Int) by omega]
      omega
    rw [e, sum_row_add, sum_shift h q, sum_tel (fun t => y (t + -(q : Int))) k]
    have hp := h.per (-1 + -(q : Int))
    rw [show -1 + -(q : Int) + (k : Int) = (k : Int) - 1 + -(q : Int) by omega] at hp
    rw [show ((q + 1 : Nat) : Int) = (q : Int) + 1 by omega, Int.mul_add]
    omega
theorem xOf_near {n : Nat} {ss tt : List Int} (tb : Tbl n ss) (tc : Tbl n tt) (h : ss.length = tt.length) (hne : ss ≠ []) (i : Int) : xOf n ss i ≤ xOf n tt i + (n : Int) := by
  have k0 := List.length_pos_iff.mpr hne
  have h0 := Int.emod_nonneg i (show (ss.length : Int) ≠ 0 by omega)
  have h1 := Int.emod_lt_of_pos i (show (0 : Int) < (ss.length : Int) by omega)
  have hl : (i % (ss.length : Int)).toNat < ss.length := by omega
  have hl2 : (i % (ss.length : Int)).toNat < tt.length := by omega
  unfold xOf
  rw [← h, List.getD_eq_getElem?_getD, List.getD_eq_getElem?_getD, List.getElem?_eq_getElem hl, List.getElem?_eq_getElem hl2]
  have m1 := tb.mem _ (List.getElem_mem hl)
  have m2 := tc.mem _ (List.getElem_mem hl2)
  simp only [Option.getD_some]
  omega
theorem xR_near {n : Nat} {ss tt cs : List Int} (tb : Tbl n ss) (tc : Tbl n tt) (h : ss.length = tt.length) (hne : ss ≠ []) (n0 : 0 < n) (m : Nat) (i : Int) : xR n ss cs m i ≤ xR n tt cs m i + (n : Int) := by
  have k0 := List.length_pos_iff.mpr hne
  have hne2 : tt ≠ [] := List.length_pos_iff.mp (by omega)
  have s1 := sqn_xOf tb hne
  have s2 := sqn_xOf tc hne2
  rw [← h] at s2
  have s3 : Sqn n ss.length (fun i => xOf n tt (i + 0) + (n : Int) * 1) := s2.shift 0 1
  have hle := calls_mono (show (0 : Int) < n by omega) (show (1 : Int) ≤ (ss.length : Int) by omega) (cs := rep' cs m) s1 s3 (fun i => by
    have := xOf_near tb tc h hne i
    rw [Int.add_zero, Int.mul_one]
    exact this) i
  rw [calls_shift] at hle
  have e : (fun i => fCalls n (rep' cs m) (xOf n tt) (i + 0) + (n : Int) * 1) i = xR n tt cs m i + (n : Int) := by
    show fCalls n (rep' cs m) (xOf n tt) (i + 0) + (n : Int) * 1 = fCalls n (rep' cs m) (xOf n tt) i + (n : Int)
    rw [Int.add_zero, Int.mul_one]
  rw [e] at hle
  exact hle
theorem same_rate {n : Nat} {ss tt cs : List Int} (tb : Tbl n ss) (tc : Tbl n tt) (h : ss.length = tt.length) (hne : ss ≠ []) (n0 : 0 < n) {j p j' p' : Nat} {a a' : Int} (h1 : ∀ i, xR n ss cs (j + p) i = xR n ss cs j (i + a)) (h2 : ∀ i, xR n tt cs (j' + p') i = xR n tt cs j' (i + a')) : (p' : Int) * a = (p : Int) * a' := by
  have hne2 : tt ≠ [] := List.length_pos_iff.mp (by have := List.length_pos_iff.mpr hne; omega)
  have k0 := List.length_pos_iff.mpr hne
  have e1 := xR_many h1 (p' * (ss.length * 3)) j' 0
  have e2 := xR_many h2 (p * (ss.length * 3)) j 0
  have t1 : j + j' + p * (p' * (ss.length * 3)) = j' + j + p' * (p * (ss.length * 3)) := by
    rw [Nat.mul_left_comm p p']
    omega
  have s1 := (sqn_xR (cs := cs) tb hne n0 (j + j')).pm 0 ((p' : Int) * a * 3)
  have s2 := (sqn_xR (cs := cs) tc hne2 n0 (j' + j)).pm 0 ((p : Int) * a' * 3)
  rw [← h] at s2
  have c1 : ((p' * (ss.length * 3) : Nat) : Int) * a = (ss.length : Int) * ((p' : Int) * a * 3) := by
    rw [Int.natCast_mul, Int.natCast_mul]
    simp only [Int.mul_assoc, Int.mul_left_comm, Int.mul_comm]
    rfl
  have c2 : ((p * (ss.length * 3) : Nat) : Int) * a' = (ss.length : Int) * ((p : Int) * a' * 3) := by
    rw [Int.natCast_mul, Int.natCast_mul]
    simp only [Int.mul_assoc, Int.mul_left_comm, Int.mul_comm]
    rfl
  rw [c1, s1] at e1
  rw [c2, s2] at e2
  have d1 := xR_near (cs := cs) tb tc h hne n0 (j + j' + p * (p' * (ss.length * 3))) 0
  have d2 := xR_near (cs := cs) tc tb h.symm hne2 n0 (j + j' + p * (p' * (ss.length * 3))) 0
  have d3 := xR_near (cs := cs) tb tc h hne n0 (j + j') 0
  have d4 := xR_near (cs := cs) tc tb h.symm hne2 n0 (j + j') 0
  rw [Nat.add_comm j' j] at e2
  rw [show j + j' + p' * (p * (ss.length * 3)) = j + j' + p * (p' * (ss.length * 3)) by omega] at e2
  generalize (p' : Int) * a = u at *
  generalize (p : Int) * a' = v at *
  rw [e1, e2] at d1 d2
  have f1 : (n : Int) * (u * 3) - (n : Int) * (v * 3) = (n : Int) * ((u - v) * 3) := by rw [← Int.mul_sub, ← Int.sub_mul]
  rcases Int.lt_trichotomy u v with q | q | q
  · have : (n : Int) * ((u - v) * 3) ≤ (n : Int) * (-3) := Int.mul_le_mul_of_nonneg_left (by omega) (by omega)
    omega
  · exact q
  · have : (n : Int) * 3 ≤ (n : Int) * ((u - v) * 3) := Int.mul_le_mul_of_nonneg_left (by omega) (by omega)
    omega
def b_is_chair : DenS := (sC (sIf (tOr (tNot (tTr (d1 (pIsi "int") (dV 1)))) (tTr (d1 (pIsi "bool") (dV 1)))) (sRet (dC (.bool false))) s0) (sRet (dCh (fun i j => decide (i ≤ j)) (fun i j => decide (i < j)) (dC (.int 0)) (dV 1) (dV 0))))
def m_is_chair : List W → Tree PyData := fnF 2 2 b_is_chair
def b_all_chairs : DenS := (sRet (d1 pAll (dLc (.nm 2) [2] (iS (dV 1)) (dCall m_is_chair (aC (aV 0) (aC (aV 2) a0))))))
def m_all_chairs : List W → Tree PyData := fnF 2 3 b_all_chairs
def b_mover : DenS := (sC (sSet 3 (dC .none)) (sC (sSet 4 (dV 0)) (sC (sFor (.tp [5, 6]) (wEn (dV 1)) (sC (sSet 7 (d2 pMod (d2 pSub (dV 6) (dV 2)) (dV 0))) (sIf (t2 cLt (dV 7) (dV 4)) (sC (sSet 3 (dV 5)) (sSet 4 (dV 7))) s0))) (sRet (dIf (t2 pEq (dV 4) (dC (.int 0))) (dC .none) (dV 3))))))
def m_mover : List W → Tree PyData := fnF 3 8 b_mover
def b_seats_called : DenS := (sC (sSet 3 (dCall m_mover (aC (aV 0) (aC (aV 1) (aC (aV 2) a0))))) (sRet (dLc (.tp [4, 5]) [4, 5] (wEn (dV 1)) (dIf (t2 pEq (dV 4) (dV 3)) (dV 2) (dV 5)))))
def m_seats_called : List W → Tree PyData := fnF 3 6 b_seats_called
def b_seats_along : DenS := (sC (sSet 3 (d1 pList (dV 1))) (sC (sOwn 4 (dL (lC (dV 3) l0))) (sC (sFor (.nm 5) (iS (dV 2)) (sC (sSet 3 (dCall m_seats_called (aC (aV 0) (aC (aV 3) (aC (aV 5) a0))))) (sApp 4 (dV 3)))) (sFrz 4 (sRet (dV 4))))))
def m_seats_along : List W → Tree PyData := fnF 3 6 b_seats_along
def b_as_table : DenS := (sRet (d1 pTup (d1 pSrt (dV 0))))
def m_as_table : List W → Tree PyData := fnF 1 1 b_as_table
def b_steps : DenS := (sC (sSet 3 (dCall m_seats_along (aC (aV 0) (aC (aV 1) (aC (aV 2) a0))))) (sC (sSet 4 (dLc (.nm 7) [7] (iS (dV 1)) (dC (.int 0)))) (sC (sFor (.tp [5, 6]) (wZ2 (dV 3) (dSl (dV 3) (oS (dC (.int 1))) oN)) (sSet 4 (dLc (.tp [8, 9, 10]) [10, 9, 8] (wZ3 (dV 4) (dV 5) (dV 6)) (d2 pAdd (dV 8) (d2 pMod (d2 pSub (dV 9) (dV 10)) (dV 0)))))) (sRet (dV 4)))))
def m_steps : List W → Tree PyData := fnF 3 11 b_steps
def b_pack_seats : DenS := (sRet (dLc (.nm 3) [3] (iR1 (dV 1)) (d2 pMod (d2 pSub (dV 2) (dV 3)) (dV 0))))
def m_pack_seats : List W → Tree PyData := fnF 3 4 b_pack_seats
def b_pack : DenS := (sRet (d1 pTup (d1 pSrt (dCall m_pack_seats (aC (aV 0) (aC (aV 1) (aC (aV 2) a0)))))))
def m_pack : List W → Tree PyData := fnF 3 3 b_pack
def b_moves_of : DenS := (sRet (d1 pTup (dLc (.nm 3) [3] (iR1 (dV 0)) (d1 pTup (dCall m_steps (aC (aV 0) (aC (aE (dCall m_pack_seats (aC (aV 0) (aC (aV 1) (aC (aV 3) a0))))) (aC (aV 2) a0))))))))
def m_moves_of : List W → Tree PyData := fnF 3 4 b_moves_of
def b_steps_of_one : DenS := (sC (sSet 4 (d1 pSrt (dLc (.nm 5) [5] (iS (dV 2)) (d2 pMod (d2 pSub (dV 5) (dV 3)) (dV 0))))) (sRet (d1 pMax (dLc (.tp [6, 7]) [7, 6] (wEn (dV 4)) (d2 pSub (d2 pIx (d2 pIx (dV 1) (d2 pMod (d2 pAdd (dV 3) (dV 7)) (dV 0))) (dV 6)) (d2 pSub (dV 7) (dV 6)))))))
def m_steps_of_one : List W → Tree PyData := fnF 4 8 b_steps_of_one
def b_steps_by : DenS := (sRet (dLc (.nm 3) [3] (iS (dV 2)) (dCall m_steps_of_one (aC (aV 0) (aC (aV 1) (aC (aV 2) (aC (aV 3) a0)))))))
def m_steps_by : List W → Tree PyData := fnF 3 4 b_steps_by
def b_table_by : DenS := (sC (sSet 3 (dCall m_steps_by (aC (aV 0) (aC (aV 1) (aC (aV 2) a0))))) (sRet (dCall m_as_table (aC (aE (dLc (.tp [4, 5]) [5, 4] (wZ2 (dV 2) (dV 3)) (d2 pMod (d2 pSub (dV 4) (dV 5)) (dV 0)))) a0))))
def m_table_by : List W → Tree PyData := fnF 3 6 b_table_by
def b_pack_followed : DenS := (sC (sSet 4 (dLc (.tp [5, 6]) [5, 6] (wEn (dV 2)) (d2 pMod (d2 pSub (d2 pSub (dV 1) (dV 5)) (dV 6)) (dV 0)))) (sRet (d1 pTup (dLc (.tp [6, 7]) [6, 7] (wZ2 (dV 2) (dCall m_steps_by (aC (aV 0) (aC (aV 3) (aC (aV 4) a0))))) (d2 pAdd (dV 6) (dV 7))))))
def m_pack_followed : List W → Tree PyData := fnF 4 8 b_pack_followed
def b_followed : DenS := (sRet (d1 pTup (dLc (.nm 3) [3] (iR1 (dV 0)) (dCall m_pack_followed (aC (aV 0) (aC (aV 3) (aC (aE (d2 pIx (dV 1) (dV 3))) (aC (aV 2) a0))))))))
def m_followed : List W → Tree PyData := fnF 3 4 b_followed
def b_repeated : DenS := (sC (sSet 3 (dCall m_moves_of (aC (aV 0) (aC (aE (d1 pLen (d2 pIx (dV 1) (dC (.int 0))))) (aC (aE (dL l0)) a0))))) (sC (sSet 4 (dV 1)) (sC (sSet 5 (dV 2)) (sC (sWh 100 (t2 cGt (dV 5) (dC (.int 0))) (sC (sIf (t2 pEq (d2 pMod (dV 5) (dC (.int 2))) (dC (.int 1))) (sSet 3 (dCall m_followed (aC (aV 0) (aC (aV 3) (aC (aV 4) a0))))) s0) (sC (sSet 4 (dCall m_followed (aC (aV 0) (aC (aV 4) (aC (aV 4) a0))))) (sSet 5 (d2 pDiv (dV 5) (dC (.int 2))))))) (sRet (dV 3))))))
def m_repeated : List W → Tree PyData := fnF 3 6 b_repeated
def b_moves_of_many : DenS := (sRet (dCall m_repeated (aC (aV 0) (aC (aE (dCall m_moves_of (aC (aV 0) (aC (aV 1) (aC (aV 2) a0))))) (aC (aV 3) a0)))))
def m_moves_of_many : List W → Tree PyData := fnF 4 4 b_moves_of_many
def b_course : DenS := (sC (sSet 3 (dCall m_moves_of (aC (aV 0) (aC (aE (d1 pLen (dV 1))) (aC (aV 2) a0))))) (sCrs 4 5 300 (d1 pTup (dV 1)) (dCall m_table_by (aC (aV 0) (aC (aV 3) (aC (aV 5) a0))))))
def m_course : List W → Tree PyData := fnF 3 6 b_course
def b_table_after_many : DenS := (sRet (dCall m_table_by (aC (aV 0) (aC (aE (dCall m_moves_of_many (aC (aV 0) (aC (aE (d1 pLen (dV 1))) (aC (aV 2) (aC (aV 3) a0)))))) (aC (aV 1) a0)))))
def m_table_after_many : List W → Tree PyData := fnF 4 4 b_table_after_many
def b_steps_after_many : DenS := (sRet (dCall m_steps_by (aC (aV 0) (aC (aE (dCall m_moves_of_many (aC (aV 0) (aC (aE (d1 pLen (dV 1))) (aC (aV 2) (aC (aV 3) a0)))))) (aC (aV 1) a0)))))
def m_steps_after_many : List W → Tree PyData := fnF 4 4 b_steps_after_many
def b_lowest_terms : DenS := (sC (sSet 2 (dV 1)) (sC (sSet 3 (dV 0)) (sC (sWh 100 (t2 cGt (dV 3) (dC (.int 0))) (sPar [2, 3] (lC (dV 3) (lC (d2 pMod (dV 2) (dV 3)) l0)))) (sRet (dT (lC (d2 pDiv (dV 0) (dV 2)) (lC (d2 pDiv (dV 1) (dV 2)) l0)))))))
def m_lowest_terms : List W → Tree PyData := fnF 2 4 b_lowest_terms
def b_average : DenS := (sC (sSet 3 (dCall m_pack (aC (aV 0) (aC (aV 1) (aC (aE (d2 pSub (dV 1) (dC (.int 1)))) a0))))) (sC (sAsg (.tp [6, 7]) (dCall m_course (aC (aV 0) (aC (aV 3) (aC (aV 2) a0))))) (sC (sSet 4 (dCall m_table_after_many (aC (aV 0) (aC (aV 3) (aC (aV 2) (aC (aV 6) a0)))))) (sC (sSet 5 (d1 pSum (dCall m_steps_after_many (aC (aV 0) (aC (aV 4) (aC (aV 2) (aC (aV 7) a0))))))) (sRet (dCall m_lowest_terms (aC (aV 5) (aC (aE (d2 pMul (dV 1) (dV 7))) a0))))))))
def m_average : List W → Tree PyData := fnF 3 8 b_average
def b_all_tables : DenS := (sC (sSet 2 (dL (lC (dT l0) l0))) (sC (sFor (.nm 3) (iR1 (dV 1)) (sSet 2 (dLc2 (.nm 4) [5, 4] (iS (dV 2)) (.nm 5) [5] (iR1 (dV 0)) (tOr (tNot (tTr (dV 4))) (t2 cLt (d2 pIx (dV 4) (d1 pNeg (dC (.int 1)))) (dV 5))) (d2 pAdd (dV 4) (dT (lC (dV 5) l0)))))) (sRet (dV 2))))
def m_all_tables : List W → Tree PyData := fnF 2 6 b_all_tables
def b_all_led : DenS := (sC (sSet 3 (dCall m_moves_of (aC (aV 0) (aC (aV 1) (aC (aV 2) a0))))) (sRet (dLc (.nm 4) [4] (iS (dCall m_all_tables (aC (aV 0) (aC (aV 1) a0)))) (dT (lC (dV 4) (lC (dCall m_table_by (aC (aV 0) (aC (aV 3) (aC (aV 4) a0)))) l0))))))
def m_all_led : List W → Tree PyData := fnF 3 5 b_all_led
def b_all_differences : DenS := (sC (sSet 4 (dCall m_moves_of (aC (aV 0) (aC (aV 1) (aC (aV 2) a0))))) (sC (sSet 5 (dCall m_moves_of (aC (aV 0) (aC (aV 1) (aC (aV 3) a0))))) (sRet (dLc2 (.nm 6) [7, 6] (iR1 (dV 0)) (.nm 7) [7] (iR1 (dV 1)) (t2 pNe (d2 pIx (d2 pIx (dV 4) (dV 6)) (dV 7)) (d2 pIx (d2 pIx (dV 5) (dV 6)) (dV 7))) (dT (lC (dV 6) (lC (dV 7) l0)))))))
def m_all_differences : List W → Tree PyData := fnF 4 8 b_all_differences
def b_move_alike : DenS := (sRet (d2 (bD pEq) (dCall m_moves_of (aC (aV 0) (aC (aV 1) (aC (aV 2) a0)))) (dCall m_moves_of (aC (aV 0) (aC (aV 1) (aC (aV 3) a0))))))
def m_move_alike : List W → Tree PyData := fnF 4 4 b_move_alike
def b_moving_difference : DenS := (sC (sSet 4 (dCall m_all_differences (aC (aV 0) (aC (aV 1) (aC (aV 2) (aC (aV 3) a0)))))) (sRet (dIf (tTr (dV 4)) (d2 pIx (dV 4) (dC (.int 0))) (dC .none))))
def m_moving_difference : List W → Tree PyData := fnF 4 5 b_moving_difference
def b_shows_difference : DenS := (sC (sIf (tOr (tNot (tTr (d1 (pIsi "tuple") (dV 4)))) (tNot (tTr (dCall m_all_chairs (aC (aV 0) (aC (aV 4) a0)))))) (sRet (dC (.bool false))) s0) (sRet (d2 (bD pInD) (dV 4) (dCall m_all_differences (aC (aV 0) (aC (aV 1) (aC (aV 2) (aC (aV 3) a0))))))))
def m_shows_difference : List W → Tree PyData := fnF 5 5 b_shows_difference
def b_leading_difference : DenS := (sC (sSet 4 (dCall m_all_led (aC (aV 0) (aC (aV 1) (aC (aV 2) a0))))) (sC (sSet 5 (dCall m_all_led (aC (aV 0) (aC (aV 1) (aC (aV 3) a0))))) (sC (sSet 6 (dLf (.tp [7, 8]) [7, 8] (wZ2 (dV 4) (dV 5)) (t2 pNe (dV 7) (dV 8)) (d2 pIx (dV 7) (dC (.int 0))))) (sRet (dIf (tTr (dV 6)) (d2 pIx (dV 6) (dC (.int 0))) (dC .none))))))
def m_leading_difference : List W → Tree PyData := fnF 4 9 b_leading_difference
def b_lead_alike : DenS := (sRet (d1 pIsN (dCall m_leading_difference (aC (aV 0) (aC (aV 1) (aC (aV 2) (aC (aV 3) a0)))))))
def m_lead_alike : List W → Tree PyData := fnF 4 4 b_lead_alike
def b_law_of : DenS := (sRet (d2 pIx (dV 1) (dCall takeF (aC (aV 0) (aC (aE (d1 pLen (dV 1))) a0)))))
def m_law_of : List W → Tree PyData := fnF 2 2 b_law_of
def b_law_span : DenS := (sRet (d2 pAdd (dC (.int 2)) (dCall takeF (aC (aV 0) (aC (aE (d2 pSub (dV 1) (dC (.int 1)))) a0)))))
def m_law_span : List W → Tree PyData := fnF 2 2 b_law_span
def b_law_folk : DenS := (sRet (d2 pAdd (dC (.int 1)) (dCall takeF (aC (aV 0) (aC (aE (d2 pSub (dV 1) (dC (.int 1)))) a0)))))
def m_law_folk : List W → Tree PyData := fnF 2 2 b_law_folk
def b_law_crowd : DenS := (sC (sIf (t2 pEq (dCall takeF (aC (aV 0) (aC (aE (dC (.int 4))) a0))) (dC (.int 0))) (sC (sSet 3 (dCall takeF (aC (aV 0) (aC (aV 1) a0)))) (sRet (d1 pTup (d1 pSrt (dLc (.nm 4) [4] (iR1 (dV 2)) (d2 pMod (d2 pAdd (dV 3) (dV 4)) (dV 1))))))) s0) (sRet (d1 pTup (d1 pSrt (dSl (dCall strewnF (aC (aV 0) (aC (aE (d1 (fun d => lrg .list (rg1 d)) (dV 1))) a0))) oN (oS (dV 2)))))))
def m_law_crowd : List W → Tree PyData := fnF 3 5 b_law_crowd
def b_law_tour : DenS := (sC (sParO 5 6 (dCall takeF (aC (aV 0) (aC (aE (dC (.int 5))) a0))) (dL l0)) (sC (sSet 3 (dLc (.nm 4) [4] (iR1 (dC (.int 3))) (dCall takeF (aC (aV 0) (aC (aV 1) a0))))) (sC (sFor (.nm 4) (iR1 (dCall takeF (aC (aV 0) (aC (aE (d2 pAdd (dV 2) (dC (.int 1)))) a0)))) (sApp 6 (dIf (t2 pEq (dV 5) (dC (.int 0))) (dCall m_law_of (aC (aV 0) (aC (aV 3) a0))) (dCall takeF (aC (aV 0) (aC (aV 1) a0)))))) (sFrz 6 (sRet (d2 pIx (dL (lC (dV 6) (lC (dV 6) (lC (dV 6) (lC (d1 pSrt (dV 6)) (lC (d1 pRev (d1 pSrt (dV 6))) l0)))))) (dV 5)))))))
def m_law_tour : List W → Tree PyData := fnF 3 7 b_law_tour
def b_law_near : DenS := (sC (sPar [3, 4] (lC (dCall takeF (aC (aV 0) (aC (aE (dC (.int 5))) a0))) (lC (dCall takeF (aC (aV 0) (aC (aE (d2 pAdd (d1 pLen (dV 2)) (dC (.int 1)))) a0))) l0))) (sC (sIf (t2 pEq (dV 3) (dC (.int 0))) (sC (sSet 5 (d1 pRev (dSl (dV 2) (oS (dV 4)) (oS (d2 pAdd (dV 4) (dC (.int 2))))))) (sRet (d2 pAdd (d2 pAdd (dSl (dV 2) oN (oS (dV 4))) (dV 5)) (dSl (dV 2) (oS (d2 pAdd (dV 4) (dC (.int 2)))) oN)))) s0) (sC (sIf (t2 pEq (dV 3) (dC (.int 1))) (sRet (d2 pAdd (d2 pAdd (dSl (dV 2) oN (oS (dV 4))) (d2 pMul (dSl (dV 2) (oS (dV 4)) (oS (d2 pAdd (dV 4) (dC (.int 1))))) (dC (.int 2)))) (dSl (dV 2) (oS (d2 pAdd (dV 4) (dC (.int 1)))) oN))) s0) (sC (sIf (t2 pEq (dV 3) (dC (.int 2))) (sRet (d2 pAdd (d2 pAdd (dSl (dV 2) oN (oS (dV 4))) (dL (lC (dCall takeF (aC (aV 0) (aC (aV 1) a0))) l0))) (dSl (dV 2) (oS (dV 4)) oN))) s0) (sRet (dIf (t2 pEq (dV 3) (dC (.int 3))) (d2 pAdd (dSl (dV 2) oN (oS (dV 4))) (dSl (dV 2) (oS (d2 pAdd (dV 4) (dC (.int 1)))) oN)) (d2 pAdd (dL (lC (dCall takeF (aC (aV 0) (aC (aV 1) a0))) l0)) (dV 2))))))))
def m_law_near : List W → Tree PyData := fnF 3 6 b_law_near
def b_law_moved_on : DenS := (sRet (dLc (.nm 3) [3] (iS (dV 1)) (d2 pMod (d2 pAdd (dV 3) (dV 2)) (dV 0))))
def m_law_moved_on : List W → Tree PyData := fnF 3 4 b_law_moved_on
def b_law_lists_right : DenS := (sC (sAsg (.tp [5, 6]) (dV 2)) (sC (sPar [7, 8] (lC (dCall m_law_moved_on (aC (aV 0) (aC (aV 5) (aC (aV 3) a0)))) (lC (dCall m_law_moved_on (aC (aV 0) (aC (aV 6) (aC (aV 3) a0)))) l0))) (sC (sIf (t2 pNe (dCall m_move_alike (aC (aV 0) (aC (aV 1) (aC (aV 7) (aC (aV 8) a0))))) (dCall m_move_alike (aC (aV 0) (aC (aV 1) (aC (aV 5) (aC (aV 6) a0)))))) (sRet (dC (.bool false))) s0) (sC (sIf (t2 pNe (dCall m_lead_alike (aC (aV 0) (aC (aV 1) (aC (aV 7) (aC (aV 8) a0))))) (dCall m_lead_alike (aC (aV 0) (aC (aV 1) (aC (aV 5) (aC (aV 6) a0)))))) (sRet (dC (.bool false))) s0) (sC (sSet 4 (dCall m_moving_difference (aC (aV 0) (aC (aV 1) (aC (aV 5) (aC (aV 6) a0)))))) (sC (sIf (t1 qNotN (dV 4)) (sC (sSet 9 (dT (lC (d2 pMod (d2 pAdd (d2 pIx (dV 4) (dC (.int 0))) (dV 3)) (dV 0)) (lC (d2 pIx (dV 4) (dC (.int 1))) l0)))) (sIf (tNot (tTr (dCall m_shows_difference (aC (aV 0) (aC (aV 1) (aC (aV 7) (aC (aV 8) (aC (aV 9) a0)))))))) (sRet (dC (.bool false))) s0)) s0) (sRet (d2 (bD pEq) (dCall m_average (aC (aV 0) (aC (aV 1) (aC (aV 7) a0)))) (dCall m_average (aC (aV 0) (aC (aV 1) (aC (aV 5) a0))))))))))))
def m_law_lists_right : List W → Tree PyData := fnF 4 10 b_law_lists_right
def b_law_right : DenS := (sC (sSet 1 (dCall m_law_span (aC (aV 0) (aC (aE (dC (.int 6))) a0)))) (sC (sPar [4, 5] (lC (dCall m_law_folk (aC (aV 0) (aC (aV 1) a0))) (lC (dCall m_law_tour (aC (aV 0) (aC (aV 1) (aC (aE (dC (.int 9))) a0)))) l0))) (sC (sAsg (.tp [6, 7, 8]) (dT (lC (dCall m_law_near (aC (aV 0) (aC (aV 1) (aC (aV 5) a0)))) (lC (dCall takeF (aC (aV 0) (aC (aV 1) a0))) (lC (dCall takeF (aC (aV 0) (aC (aE (d2 pPow (dC (.int 10)) (dC (.int 6)))) a0))) l0))))) (sC (sIf (tNot (tTr (dCall m_law_lists_right (aC (aV 1) (aC (aV 4) (aC (aE (dT (lC (dV 5) (lC (dV 6) l0)))) (aC (aV 7) a0))))))) (sRet (dC (.bool false))) s0) (sC (sPar [9, 10] (lC (dCall m_law_crowd (aC (aV 0) (aC (aV 1) (aC (aV 4) a0)))) (lC (dCall m_law_moved_on (aC (aV 1) (aC (aV 5) (aC (aV 7) a0)))) l0))) (sC (sSetT 2 (d1 pTup (d1 pSrt (dCall m_law_moved_on (aC (aV 1) (aC (aV 9) (aC (aV 7) a0))))))) (sC (sIf (t2 pNe (dCall m_course (aC (aV 1) (aC (aE (dVT 2)) (aC (aV 10) a0)))) (dCall m_course (aC (aV 1) (aC (aV 9) (aC (aV 5) a0))))) (sRet (dC (.bool false))) s0) (sC (sSet 3 (d1 pTup (d1 pSrt (dCall m_law_moved_on (aC (aV 1) (aC (aE (dCall m_table_after_many (aC (aV 1) (aC (aV 9) (aC (aV 5) (aC (aV 8) a0)))))) (aC (aV 7) a0))))))) (sC (sIf (t2 pNe (dCall m_table_after_many (aC (aV 1) (aC (aE (dVT 2)) (aC (aV 10) (aC (aV 8) a0))))) (dV 3)) (sRet (dC (.bool false))) s0) (sC (sAsg (.tp [11, 12]) (dT (lC (dCall m_steps_after_many (aC (aV 1) (aC (aV 9) (aC (aV 5) (aC (aV 8) a0))))) (lC (dCall m_steps_after_many (aC (aV 1) (aC (aE (dVT 2)) (aC (aV 10) (aC (aV 8) a0))))) l0)))) (sRet (d1 pAll (dLc (.tp [13, 14]) [14, 13] (wEn (dV 9)) (d2 (bD pEq) (d2 pIx (dV 12) (dTIx 2 (d2 pMod (d2 pAdd (dV 14) (dV 7)) (dV 1)))) (d2 pIx (dV 11) (dV 13))))))))))))))))
def m_law_right : List W → Tree PyData := fnF 1 15 b_law_right
theorem it_l (xs : List PyData) : items (.list xs) = some xs := rfl
theorem it_t (xs : List PyData) : items (.tuple xs) = some xs := rfl
def lpM (n c : Int) : Nat → Int → PyData → List Int → PyData × Int
  | _, r, p, [] => (p, r)
  | i, r, p, s :: ss => if (s - c) % n < r then lpM n c (i + 1) ((s - c) % n) (.int (i : Int)) ss else lpM n c (i + 1) r p ss
theorem prs_cons (i : Int) (x : PyData) (xs : List PyData) (n : Nat) : prs (numsF i (n + 1)) (x :: xs) = .tuple [.int i, x] :: prs (numsF (i + 1) n) xs := by
  unfold numsF prs
  rw [List.range_succ_eq_map, List.map_cons, List.zip_cons_cons, List.map_cons, List.map_map]
  congr 1
  · simp
  · congr 2
    refine List.map_congr_left fun k _ => ?_
    simp only [Function.comp]
    congr 1
    omega
theorem nums_F (n : Nat) : nums n = numsF 0 n := by
  unfold nums numsF
  congr 1
  funext k
  rw [Int.zero_add]
theorem mover_loop {n c : Int} {d : PyData} (n0 : 0 < n) : ∀ (ss : List Int) (i : Nat) (p : PyData) (r : Int) (x5 x6 x7 : Option W), ∃ y5 y6 y7,
    forT (.tp [5, 6]) (sC (sSet 7 (d2 pMod (d2 pSub (dV 6) (dV 2)) (dV 0))) (sIf (t2 cLt (dV 7) (dV 4)) (sC (sSet 3 (dV 5)) (sSet 4 (dV 7))) s0)) (prs (numsF (i : Int) (iL ss).length) (iL ss)) [some (.d (.int n)), some (.d d), some (.d (.int c)), some (.d p), some (.d (.int r)), x5, x6, x7]
      = .ret (.nx [some (.d (.int n)), some (.d d), some (.d (.int c)), some (.d (lpM n c i r p ss).1), some (.d (.int (lpM n c i r p ss).2)), y5, y6, y7])
  | [], i, p, r, x5, x6, x7 => ⟨x5, x6, x7, rfl⟩
  | s :: ss, i, p, r, x5, x6, x7 => by
    rw [show (iL (s :: ss)).length = (iL ss).length + 1 from rfl, show iL (s :: ss) = .int s :: iL ss from rfl, prs_cons]
    by_cases h : (s - c) % n < r
    · obtain ⟨y5, y6, y7, e⟩ := mover_loop n0 ss (i + 1) (.int (i : Int)) ((s - c) % n) (some (.d (.int (i : Int)))) (some (.d (.int s))) (some (.d (.int ((s - c) % n))))
      refine ⟨y5, y6, y7, ?_⟩
      rw [lpM, if_pos h, forT]
      simp only [Tree.bind, liftO, dIdx, sAsgL, sPar4, dV, dC, d1, d2, t1, t2, l0, lC, dL, dT, aV, aE, a0, aC, dCall, dCallK, dIf, tTr, tV, truth, asB, tNot, tAnd, tOr, dAnd, dOr, sSet, sAsg, sPar, sRet, s0, sC, sIf, sX, sOwn, sApp, sFrz, frzE, sFor, outV, fnF, lenIs, ent, small, few, putE, putsE, wipeE, it_l, it_t, iS, iR1, iR2, wEn, wZ2, wZ3, dLc, dLf, dSl, oN, oS, pCut, pSub, cI, bD, pIx, pList, pTup, pLen, pNot, qIsN, qNotN, pIsN, pNotN, List.getElem?_cons_succ, List.getElem?_cons_zero, List.set_cons_succ, List.set_cons_zero, List.length_cons, List.length_nil, List.map_cons, List.map_nil, List.foldr_cons, List.foldr_nil, List.replicate_succ, List.replicate_zero, List.cons_append, List.nil_append, sOPar, sOOPar, dOIx, sNest, sCallP, dOLen, fnP, pC, pFrz, dPr, dVT, dTIx, sSetT, sParT, asTI, asI_iL, pMod, if_pos n0, decide_eq_true h, if_true, reduceIte]
      exact e
    · obtain ⟨y5, y6, y7, e⟩ := mover_loop n0 ss (i + 1) p r (some (.d (.int (i : Int)))) (some (.d (.int s))) (some (.d (.int ((s - c) % n))))
      refine ⟨y5, y6, y7, ?_⟩
      rw [lpM, if_neg h, forT]
      simp only [Tree.bind, liftO, dIdx, sAsgL, sPar4, dV, dC, d1, d2, t1, t2, l0, lC, dL, dT, aV, aE, a0, aC, dCall, dCallK, dIf, tTr, tV, truth, asB, tNot, tAnd, tOr, dAnd, dOr, sSet, sAsg, sPar, sRet, s0, sC, sIf, sX, sOwn, sApp, sFrz, frzE, sFor, outV, fnF, lenIs, ent, small, few, putE, putsE, wipeE, it_l, it_t, iS, iR1, iR2, wEn, wZ2, wZ3, dLc, dLf, dSl, oN, oS, pCut, pSub, cI, bD, pIx, pList, pTup, pLen, pNot, qIsN, qNotN, pIsN, pNotN, List.getElem?_cons_succ, List.getElem?_cons_zero, List.set_cons_succ, List.set_cons_zero, List.length_cons, List.length_nil, List.map_cons, List.map_nil, List.foldr_cons, List.foldr_nil, List.replicate_succ, List.replicate_zero, List.cons_append, List.nil_append, sOPar, sOOPar, dOIx, sNest, sCallP, dOLen, fnP, pC, pFrz, dPr, dVT, dTIx, sSetT, sParT, asTI, asI_iL, pMod, if_pos n0, decide_eq_false h, if_true, reduceIte]
      exact e
theorem get_snoc {α : Type} {pre : List α} {s : α} {j : Nat} {x : α} (h : (pre ++ [s])[j]? = some x) : (j < pre.length ∧ pre[j]? = some x) ∨ (j = pre.length ∧ x = s) := by
  by_cases hj : j < pre.length
  · rw [List.getElem?_append_left hj] at h
    exact .inl ⟨hj, h⟩
  · rw [List.getElem?_append_right (by omega)] at h
    by_cases e : j - pre.length = 0
    · rw [e] at h
      cases h
      exact .inr ⟨by omega, rfl⟩
    · rw [List.getElem?_eq_none (by simp; omega)] at h
      cases h
theorem lpM_near {n c : Int} (n0 : 0 < n) : ∀ (ss pre : List Int) (p : PyData) (r : Int), ((pre = [] ∧ r = n) ∨ ∃ k s, Near n c pre k s ∧ p = .int (k : Nat) ∧ r = dst n c s) → pre ++ ss ≠ [] →
    ∃ k s, Near n c (pre ++ ss) k s ∧ lpM n c pre.length r p ss = (.int (k : Nat), dst n c s)
  | [], pre, p, r, h, hne => by
    rcases h with ⟨rfl, _⟩ | ⟨k, s, hn, rfl, rfl⟩
    · exact absurd rfl hne
    · rw [List.append_nil]
      exact ⟨k, s, hn, rfl⟩
  | s :: ss, pre, p, r, h, hne => by
    have el : (pre ++ [s]).length = pre.length + 1 := by simp
    have ea : pre ++ s :: ss = (pre ++ [s]) ++ ss := by simp
    by_cases hd : (s - c) % n < r
    · have hn : Near n c (pre ++ [s]) pre.length s := by
        refine ⟨by simp, fun j s' hj => ?_, fun j s' hjk hj => ?_⟩
        · rcases get_snoc hj with ⟨hl, hj⟩ | ⟨_, rfl⟩
          · rcases h with ⟨rfl, _⟩ | ⟨k, s0, hn, _, rfl⟩
            · simp at hl
            · have := hn.le j s' hj
              unfold dst at *
              omega
          · exact Int.le_refl _
        · rcases get_snoc hj with ⟨hl, hj⟩ | ⟨e, _⟩
          · rcases h with ⟨rfl, _⟩ | ⟨k, s0, hn, _, rfl⟩
            · simp at hl
            · have := hn.le j s' hj
              unfold dst at *
              omega
          · omega
      have := lpM_near n0 ss (pre ++ [s]) (.int (pre.length : Nat)) ((s - c) % n) (.inr ⟨_, _, hn, rfl, rfl⟩) (by simp)
      rw [el] at this
      rw [lpM, if_pos hd, ea]
      exact this
    · have h2 : ∃ k s0, Near n c (pre ++ [s]) k s0 ∧ p = .int (k : Nat) ∧ r = dst n c s0 := by
        rcases h with ⟨rfl, rfl⟩ | ⟨k, s0, hn, rfl, rfl⟩
        · exact absurd (Int.emod_lt_of_pos _ n0) hd
        · have hk := (List.getElem?_eq_some_iff.mp hn.at_).1
          refine ⟨k, s0, ⟨by rw [List.getElem?_append_left hk]; exact hn.at_, fun j s' hj => ?_, fun j s' hjk hj => ?_⟩, rfl, rfl⟩
          · rcases get_snoc hj with ⟨_, hj⟩ | ⟨_, rfl⟩
            · exact hn.le j s' hj
            · unfold dst at *
              omega
          · rcases get_snoc hj with ⟨_, hj⟩ | ⟨e, _⟩
            · exact hn.lt j s' hjk hj
            · omega
      have := lpM_near n0 ss (pre ++ [s]) p r (.inr h2) (by simp)
      rw [el] at this
      rw [lpM, if_neg hd, ea]
      exact this
theorem ev_mover {n c : Int} {d : PyData} {ss : List Int} (hd : items d = some (iL ss)) (n0 : 0 < n) (hne : ss ≠ []) : m_mover [.d (.int n), .d d, .d (.int c)] = .ret (optI (moverL n c ss)) := by
  obtain ⟨k, s, hn, e⟩ := lpM_near (c := c) n0 ss [] .none n (.inl ⟨rfl, rfl⟩) (by simpa using hne)
  obtain ⟨y5, y6, y7, el⟩ := mover_loop (c := c) (d := d) n0 ss 0 .none n none none none
  rw [show lpM n c 0 n .none ss = _ from e] at el
  simp only [m_mover, b_mover, Tree.bind, liftO, dIdx, sAsgL, sPar4, dV, dC, d1, d2, t1, t2, l0, lC, dL, dT, aV, aE, a0, aC, dCall, dCallK, dIf, tTr, tV, truth, asB, tNot, tAnd, tOr, dAnd, dOr, sSet, sAsg, sPar, sRet, s0, sC, sIf, sX, sOwn, sApp, sFrz, frzE, sFor, outV, fnF, lenIs, ent, small, few, putE, putsE, wipeE, it_l, it_t, iS, iR1, iR2, wEn, wZ2, wZ3, dLc, dLf, dSl, oN, oS, pCut, pSub, cI, bD, pIx, pList, pTup, pLen, pNot, qIsN, qNotN, pIsN, pNotN, List.getElem?_cons_succ, List.getElem?_cons_zero, List.set_cons_succ, List.set_cons_zero, List.length_cons, List.length_nil, List.map_cons, List.map_nil, List.foldr_cons, List.foldr_nil, List.replicate_succ, List.replicate_zero, List.cons_append, List.nil_append, sOPar, sOOPar, dOIx, sNest, sCallP, dOLen, fnP, pC, pFrz, dPr, dVT, dTIx, sSetT, sParT, asTI, asI_iL, hd, nums_F, lenIs]
  rw [show ((0 : Nat) : Int) = 0 from rfl] at el
  simp only [Nat.reduceSub, Nat.reduceAdd, List.replicate_succ, List.replicate_zero, reduceIte, Tree.bind, liftO, dIdx, sAsgL, sPar4, dV, dC, d1, d2, t1, t2, l0, lC, dL, dT, aV, aE, a0, aC, dCall, dCallK, dIf, tTr, tV, truth, asB, tNot, tAnd, tOr, dAnd, dOr, sSet, sAsg, sPar, sRet, s0, sC, sIf, sX, sOwn, sApp, sFrz, frzE, sFor, outV, fnF, lenIs, ent, small, few, putE, putsE, wipeE, it_l, it_t, iS, iR1, iR2, wEn, wZ2, wZ3, dLc, dLf, dSl, oN, oS, pCut, pSub, cI, bD, pIx, pList, pTup, pLen, pNot, qIsN, qNotN, pIsN, pNotN, List.getElem?_cons_succ, List.getElem?_cons_zero, List.set_cons_succ, List.set_cons_zero, List.length_cons, List.length_nil, List.map_cons, List.map_nil, List.foldr_cons, List.foldr_nil, List.replicate_succ, List.replicate_zero, List.cons_append, List.nil_append, sOPar, sOOPar, dOIx, sNest, sCallP, dOLen, fnP, pC, pFrz, dPr, dVT, dTIx, sSetT, sParT, asTI, asI_iL, hd] at el ⊢
  rw [el]
  rw [List.nil_append] at hn
  rw [hn.mover]
  by_cases h0 : dst n c s = 0
  · simp only [Tree.bind, liftO, dIdx, sAsgL, sPar4, dV, dC, d1, d2, t1, t2, l0, lC, dL, dT, aV, aE, a0, aC, dCall, dCallK, dIf, tTr, tV, truth, asB, tNot, tAnd, tOr, dAnd, dOr, sSet, sAsg, sPar, sRet, s0, sC, sIf, sX, sOwn, sApp, sFrz, frzE, sFor, outV, fnF, lenIs, ent, small, few, putE, putsE, wipeE, it_l, it_t, iS, iR1, iR2, wEn, wZ2, wZ3, dLc, dLf, dSl, oN, oS, pCut, pSub, cI, bD, pIx, pList, pTup, pLen, pNot, qIsN, qNotN, pIsN, pNotN, List.getElem?_cons_succ, List.getElem?_cons_zero, List.set_cons_succ, List.set_cons_zero, List.length_cons, List.length_nil, List.map_cons, List.map_nil, List.foldr_cons, List.foldr_nil, List.replicate_succ, List.replicate_zero, List.cons_append, List.nil_append, sOPar, sOOPar, dOIx, sNest, sCallP, dOLen, fnP, pC, pFrz, dPr, dVT, dTIx, sSetT, sParT, asTI, asI_iL, pEq, h0, decide_true, if_true, optI]
  · simp only [Tree.bind, liftO, dIdx, sAsgL, sPar4, dV, dC, d1, d2, t1, t2, l0, lC, dL, dT, aV, aE, a0, aC, dCall, dCallK, dIf, tTr, tV, truth, asB, tNot, tAnd, tOr, dAnd, dOr, sSet, sAsg, sPar, sRet, s0, sC, sIf, sX, sOwn, sApp, sFrz, frzE, sFor, outV, fnF, lenIs, ent, small, few, putE, putsE, wipeE, it_l, it_t, iS, iR1, iR2, wEn, wZ2, wZ3, dLc, dLf, dSl, oN, oS, pCut, pSub, cI, bD, pIx, pList, pTup, pLen, pNot, qIsN, qNotN, pIsN, pNotN, List.getElem?_cons_succ, List.getElem?_cons_zero, List.set_cons_succ, List.set_cons_zero, List.length_cons, List.length_nil, List.map_cons, List.map_nil, List.foldr_cons, List.foldr_nil, List.replicate_succ, List.replicate_zero, List.cons_append, List.nil_append, sOPar, sOOPar, dOIx, sNest, sCallP, dOLen, fnP, pC, pFrz, dPr, dVT, dTIx, sSetT, sParT, asTI, asI_iL, pEq, h0, decide_false, if_false, optI]
theorem prs_iL (as bs : List Int) : prs (iL as) (iL bs) = (as.zip bs).map fun q => .tuple [.int q.1, .int q.2] := by
  unfold prs iL
  rw [List.zip_map, List.map_map]
  rfl
theorem trs_iL (as bs cs : List Int) : trs (iL as) (iL bs) (iL cs) = (as.zip (bs.zip cs)).map fun q => .tuple [.int q.1, .int q.2.1, .int q.2.2] := by
  unfold trs iL
  rw [List.zip_map, List.zip_map, List.map_map]
  rfl
def cnt (n : Nat) : List Int := (List.range n).map fun (k : Nat) => (k : Int)
theorem nums_cnt (n : Nat) : nums n = iL (cnt n) := nums_eq n
theorem iL_len (ns : List Int) : (iL ns).length = ns.length := List.length_map ..
theorem cnt_len (n : Nat) : (cnt n).length = n := by simp [cnt]
theorem cnt_get {n i : Nat} (h : i < n) : (cnt n)[i]? = some (i : Int) := by simp [cnt, h]
theorem pEq_in (i : Int) : pEq (.int i) .none = some false := by
  simp [pEq, SeqAt.shaped, PyData.canLay0, PyData.depth, PyData.eqv]
theorem pEq_ii (i j : Int) : pEq (.int i) (.int j) = some (decide (i = j)) := rfl
theorem ret_bind {α β : Type} (a : α) (f : α → Tree β) : (Tree.ret a).bind f = f a := rfl
theorem lift_some {α : Type} (a : α) : liftO (some a) = .ret a := rfl
theorem map_ii {α : Type} (f : α → Int) (xs : List α) : xs.map (fun x => PyData.int (f x)) = iL (xs.map f) := by
  unfold iL
  rw [List.map_map]
  rfl
theorem mapT_I {f : PyData → Tree PyData} {g : Int → Int} {ns : List Int} (h : ∀ x ∈ ns, f (.int x) = .ret (.int (g x))) : mapT f (iL ns) = .ret (iL (ns.map g)) := by
  rw [← map_ii]
  exact (mapT_map f PyData.int ns).trans (mapT_ret (g := fun x => PyData.int (g x)) h)
theorem mapT_2 {f : PyData → Tree PyData} {g : Int × Int → Int} {as bs : List Int} (h : ∀ q ∈ as.zip bs, f (.tuple [.int q.1, .int q.2]) = .ret (.int (g q))) : mapT f (prs (iL as) (iL bs)) = .ret (iL ((as.zip bs).map g)) := by
  rw [prs_iL, mapT_map, mapT_ret (g := fun x => PyData.int (g x)) h, ← map_ii]
theorem mapT_3 {f : PyData → Tree PyData} {g : Int × Int × Int → Int} {as bs cs : List Int} (h : ∀ q ∈ as.zip (bs.zip cs), f (.tuple [.int q.1, .int q.2.1, .int q.2.2]) = .ret (.int (g q))) : mapT f (trs (iL as) (iL bs) (iL cs)) = .ret (iL ((as.zip (bs.zip cs)).map g)) := by
  rw [trs_iL, mapT_map, mapT_ret (g := fun x => PyData.int (g x)) h, ← map_ii]
theorem ev_seats_called {n c : Int} {d : PyData} {ss : List Int} (hd : items d = some (iL ss)) (n0 : 0 < n) (hne : ss ≠ []) (hl : ss.length ≤ 1000) : m_seats_called [.d (.int n), .d d, .d (.int c)] = .ret (.list (iL (callL n c ss))) := by
  simp only [m_seats_called, b_seats_called, Nat.reduceSub, Nat.reduceAdd, reduceIte, Tree.bind, liftO, dIdx, sAsgL, sPar4, dV, dC, d1, d2, t1, t2, l0, lC, dL, dT, aV, aE, a0, aC, dCall, dCallK, dIf, tTr, tV, truth, asB, tNot, tAnd, tOr, dAnd, dOr, sSet, sAsg, sPar, sRet, s0, sC, sIf, sX, sOwn, sApp, sFrz, frzE, sFor, outV, fnF, lenIs, ent, small, few, putE, putsE, wipeE, it_l, it_t, iS, iR1, iR2, wEn, wZ2, wZ3, dLc, dLf, dSl, oN, oS, pCut, pSub, cI, bD, pIx, pList, pTup, pLen, pNot, qIsN, qNotN, pIsN, pNotN, List.getElem?_cons_succ, List.getElem?_cons_zero, List.set_cons_succ, List.set_cons_zero, List.length_cons, List.length_nil, List.map_cons, List.map_nil, List.foldr_cons, List.foldr_nil, List.replicate_succ, List.replicate_zero, List.cons_append, List.nil_append, sOPar, sOOPar, dOIx, sNest, sCallP, dOLen, fnP, pC, pFrz, dPr, dVT, dTIx, sSetT, sParT, asTI, asI_iL, ev_mover hd n0 hne, hd, nums_cnt, iL_len]
  have hz : (prs (iL (cnt ss.length)) (iL ss)).length ≤ 50000 := by
    unfold prs
    simp [iL_len, cnt_len]
    omega
  have key : ∀ g : Int × Int → Int, (∀ i s, ss[i]? = some s → g ((i : Nat), s) = if moverL n c ss = some i then c else s) → ((cnt ss.length).zip ss).map g = callL n c ss := fun g hg => by
    refine List.ext_getElem? fun i => ?_
    by_cases hi : i < ss.length
    · have e := List.getElem?_eq_getElem hi
      rw [callL_get e, List.getElem?_map, List.getElem?_zip_eq_some (z := ((i : Int), ss[i])) |>.mpr ⟨cnt_get hi, e⟩]
      exact congrArg some (hg i _ e)
    · rw [List.getElem?_eq_none (by simp [cnt_len]; omega), List.getElem?_eq_none (by rw [callL_len]; omega)]
  cases hm : moverL n c ss with
  | none =>
    simp only [if_pos hz, optI]
    rw [mapT_2 (g := fun q => q.2) fun q hq => by simp only [Nat.reduceSub, Nat.reduceAdd, reduceIte, Tree.bind, liftO, dIdx, sAsgL, sPar4, dV, dC, d1, d2, t1, t2, l0, lC, dL, dT, aV, aE, a0, aC, dCall, dCallK, dIf, tTr, tV, truth, asB, tNot, tAnd, tOr, dAnd, dOr, sSet, sAsg, sPar, sRet, s0, sC, sIf, sX, sOwn, sApp, sFrz, frzE, sFor, outV, fnF, lenIs, ent, small, few, putE, putsE, wipeE, it_l, it_t, iS, iR1, iR2, wEn, wZ2, wZ3, dLc, dLf, dSl, oN, oS, pCut, pSub, cI, bD, pIx, pList, pTup, pLen, pNot, qIsN, qNotN, pIsN, pNotN, List.getElem?_cons_succ, List.getElem?_cons_zero, List.set_cons_succ, List.set_cons_zero, List.length_cons, List.length_nil, List.map_cons, List.map_nil, List.foldr_cons, List.foldr_nil, List.replicate_succ, List.replicate_zero, List.cons_append, List.nil_append, sOPar, sOOPar, dOIx, sNest, sCallP, dOLen, fnP, pC, pFrz, dPr, dVT, dTIx, sSetT, sParT, asTI, asI_iL, pEq_in]]
    simp only [Tree.bind, liftO, dIdx, sAsgL, sPar4, dV, dC, d1, d2, t1, t2, l0, lC, dL, dT, aV, aE, a0, aC, dCall, dCallK, dIf, tTr, tV, truth, asB, tNot, tAnd, tOr, dAnd, dOr, sSet, sAsg, sPar, sRet, s0, sC, sIf, sX, sOwn, sApp, sFrz, frzE, sFor, outV, fnF, lenIs, ent, small, few, putE, putsE, wipeE, it_l, it_t, iS, iR1, iR2, wEn, wZ2, wZ3, dLc, dLf, dSl, oN, oS, pCut, pSub, cI, bD, pIx, pList, pTup, pLen, pNot, qIsN, qNotN, pIsN, pNotN, List.getElem?_cons_succ, List.getElem?_cons_zero, List.set_cons_succ, List.set_cons_zero, List.length_cons, List.length_nil, List.map_cons, List.map_nil, List.foldr_cons, List.foldr_nil, List.replicate_succ, List.replicate_zero, List.cons_append, List.nil_append, sOPar, sOOPar, dOIx, sNest, sCallP, dOLen, fnP, pC, pFrz, dPr, dVT, dTIx, sSetT, sParT, asTI, asI_iL]
    rw [key _ fun i s _ => by rw [hm]; rfl]
  | some k =>
    simp only [if_pos hz, optI]
    rw [mapT_2 (g := fun q => if q.1 = (k : Int) then c else q.2) fun q hq => by
      by_cases hk : q.1 = (k : Int)
      · simp only [Nat.reduceSub, Nat.reduceAdd, reduceIte, Tree.bind, liftO, dIdx, sAsgL, sPar4, dV, dC, d1, d2, t1, t2, l0, lC, dL, dT, aV, aE, a0, aC, dCall, dCallK, dIf, tTr, tV, truth, asB, tNot, tAnd, tOr, dAnd, dOr, sSet, sAsg, sPar, sRet, s0, sC, sIf, sX, sOwn, sApp, sFrz, frzE, sFor, outV, fnF, lenIs, ent, small, few, putE, putsE, wipeE, it_l, it_t, iS, iR1, iR2, wEn, wZ2, wZ3, dLc, dLf, dSl, oN, oS, pCut, pSub, cI, bD, pIx, pList, pTup, pLen, pNot, qIsN, qNotN, pIsN, pNotN, List.getElem?_cons_succ, List.getElem?_cons_zero, List.set_cons_succ, List.set_cons_zero, List.length_cons, List.length_nil, List.map_cons, List.map_nil, List.foldr_cons, List.foldr_nil, List.replicate_succ, List.replicate_zero, List.cons_append, List.nil_append, sOPar, sOOPar, dOIx, sNest, sCallP, dOLen, fnP, pC, pFrz, dPr, dVT, dTIx, sSetT, sParT, asTI, asI_iL, pEq_ii, hk, decide_true, if_true]
      · simp only [Nat.reduceSub, Nat.reduceAdd, reduceIte, Tree.bind, liftO, dIdx, sAsgL, sPar4, dV, dC, d1, d2, t1, t2, l0, lC, dL, dT, aV, aE, a0, aC, dCall, dCallK, dIf, tTr, tV, truth, asB, tNot, tAnd, tOr, dAnd, dOr, sSet, sAsg, sPar, sRet, s0, sC, sIf, sX, sOwn, sApp, sFrz, frzE, sFor, outV, fnF, lenIs, ent, small, few, putE, putsE, wipeE, it_l, it_t, iS, iR1, iR2, wEn, wZ2, wZ3, dLc, dLf, dSl, oN, oS, pCut, pSub, cI, bD, pIx, pList, pTup, pLen, pNot, qIsN, qNotN, pIsN, pNotN, List.getElem?_cons_succ, List.getElem?_cons_zero, List.set_cons_succ, List.set_cons_zero, List.length_cons, List.length_nil, List.map_cons, List.map_nil, List.foldr_cons, List.foldr_nil, List.replicate_succ, List.replicate_zero, List.cons_append, List.nil_append, sOPar, sOOPar, dOIx, sNest, sCallP, dOLen, fnP, pC, pFrz, dPr, dVT, dTIx, sSetT, sParT, asTI, asI_iL, pEq_ii, hk, decide_false, if_false]]
    simp only [Tree.bind, liftO, dIdx, sAsgL, sPar4, dV, dC, d1, d2, t1, t2, l0, lC, dL, dT, aV, aE, a0, aC, dCall, dCallK, dIf, tTr, tV, truth, asB, tNot, tAnd, tOr, dAnd, dOr, sSet, sAsg, sPar, sRet, s0, sC, sIf, sX, sOwn, sApp, sFrz, frzE, sFor, outV, fnF, lenIs, ent, small, few, putE, putsE, wipeE, it_l, it_t, iS, iR1, iR2, wEn, wZ2, wZ3, dLc, dLf, dSl, oN, oS, pCut, pSub, cI, bD, pIx, pList, pTup, pLen, pNot, qIsN, qNotN, pIsN, pNotN, List.getElem?_cons_succ, List.getElem?_cons_zero, List.set_cons_succ, List.set_cons_zero, List.length_cons, List.length_nil, List.map_cons, List.map_nil, List.foldr_cons, List.foldr_nil, List.replicate_succ, List.replicate_zero, List.cons_append, List.nil_append, sOPar, sOOPar, dOIx, sNest, sCallP, dOLen, fnP, pC, pFrz, dPr, dVT, dTIx, sSetT, sParT, asTI, asI_iL]
    rw [key _ fun i s _ => by
      rw [hm]
      by_cases hk : k = i
      · subst hk
        simp
      · have : ¬ ((i : Int) = (k : Int)) := by omega
        simp [hk, this]]
def alg (n : Int) : List Int → List Int → List (List Int)
  | _, [] => []
  | s, c :: cs => callL n c s :: alg n (callL n c s) cs
theorem AL_cons (n : Int) (ss : List Int) (c : Int) (cs : List Int) : AL n ss (c :: cs) = ss :: AL n (callL n c ss) cs := by
  unfold AL
  rw [List.length_cons, List.range_succ_eq_map, List.map_cons, List.map_map]
  rfl
theorem AL_alg (n : Int) : ∀ (cs ss : List Int), AL n ss cs = ss :: alg n ss cs
  | [], ss => rfl
  | c :: cs, ss => by rw [AL_cons, AL_alg n cs, alg]
theorem callL_ne {n c : Int} {ss : List Int} (h : ss ≠ []) : callL n c ss ≠ [] := fun e => h (by
  have := congrArg List.length e
  rw [callL_len] at this
  exact List.length_eq_zero_iff.mp this)
theorem along_loop {n : Int} {d e : PyData} (n0 : 0 < n) : ∀ (cs s : List Int) (acc : List PyData) (x5 : Option W), s ≠ [] → s.length ≤ 1000 → acc.length + cs.length ≤ 100000 → ∃ y5,
    forT (.nm 5) (sC (sSet 3 (dCall m_seats_called (aC (aV 0) (aC (aV 3) (aC (aV 5) a0))))) (sApp 4 (dV 3))) (iL cs) [some (.d (.int n)), some (.d d), some (.d e), some (.d (.list (iL s))), some (.own acc), x5]
      = .ret (.nx [some (.d (.int n)), some (.d d), some (.d e), some (.d (.list (iL (runS n s cs)))), some (.own (acc ++ dLs (alg n s cs))), y5])
  | [], s, acc, x5, _, _, _ => ⟨x5, by simp [iL, forT, alg, dLs, runS]⟩
  | c :: cs, s, acc, x5, h1, h2, h3 => by
    obtain ⟨y5, e⟩ := along_loop (d := d) (e := e) n0 cs (callL n c s) (acc ++ [.list (iL (callL n c s))]) (some (.d (.int c))) (callL_ne h1) (by rw [callL_len]; exact h2) (by simp at h3 ⊢; omega)
    refine ⟨y5, ?_⟩
    rw [show iL (c :: cs) = .int c :: iL cs from rfl, forT]
    simp only [Nat.reduceSub, Nat.reduceAdd, reduceIte, Tree.bind, liftO, dIdx, sAsgL, sPar4, dV, dC, d1, d2, t1, t2, l0, lC, dL, dT, aV, aE, a0, aC, dCall, dCallK, dIf, tTr, tV, truth, asB, tNot, tAnd, tOr, dAnd, dOr, sSet, sAsg, sPar, sRet, s0, sC, sIf, sX, sOwn, sApp, sFrz, frzE, sFor, outV, fnF, lenIs, ent, small, few, putE, putsE, wipeE, it_l, it_t, iS, iR1, iR2, wEn, wZ2, wZ3, dLc, dLf, dSl, oN, oS, pCut, pSub, cI, bD, pIx, pList, pTup, pLen, pNot, qIsN, qNotN, pIsN, pNotN, List.getElem?_cons_succ, List.getElem?_cons_zero, List.set_cons_succ, List.set_cons_zero, List.length_cons, List.length_nil, List.map_cons, List.map_nil, List.foldr_cons, List.foldr_nil, List.replicate_succ, List.replicate_zero, List.cons_append, List.nil_append, sOPar, sOOPar, dOIx, sNest, sCallP, dOLen, fnP, pC, pFrz, dPr, dVT, dTIx, sSetT, sParT, asTI, asI_iL, ev_seats_called (it_l _) n0 h1 h2, if_pos (show acc.length + 1 ≤ 100000 by simp at h3; omega)]
    rw [e, alg, List.append_assoc]
    rfl
theorem ev_seats_along {n : Int} {d e : PyData} {ss cs : List Int} (hd : items d = some (iL ss)) (he : items e = some (iL cs)) (n0 : 0 < n) (hne : ss ≠ []) (hl : ss.length ≤ 1000) (hc : cs.length ≤ 1000) : m_seats_along [.d (.int n), .d d, .d e] = .ret (.list (dLs (AL n ss cs))) := by
  obtain ⟨y5, el⟩ := along_loop (d := d) (e := e) n0 cs ss [.list (iL ss)] none hne hl (by simp; omega)
  simp only [m_seats_along, b_seats_along, Nat.reduceSub, Nat.reduceAdd, reduceIte, Tree.bind, liftO, dIdx, sAsgL, sPar4, dV, dC, d1, d2, t1, t2, l0, lC, dL, dT, aV, aE, a0, aC, dCall, dCallK, dIf, tTr, tV, truth, asB, tNot, tAnd, tOr, dAnd, dOr, sSet, sAsg, sPar, sRet, s0, sC, sIf, sX, sOwn, sApp, sFrz, frzE, sFor, outV, fnF, lenIs, ent, small, few, putE, putsE, wipeE, it_l, it_t, iS, iR1, iR2, wEn, wZ2, wZ3, dLc, dLf, dSl, oN, oS, pCut, pSub, cI, bD, pIx, pList, pTup, pLen, pNot, qIsN, qNotN, pIsN, pNotN, List.getElem?_cons_succ, List.getElem?_cons_zero, List.set_cons_succ, List.set_cons_zero, List.length_cons, List.length_nil, List.map_cons, List.map_nil, List.foldr_cons, List.foldr_nil, List.replicate_succ, List.replicate_zero, List.cons_append, List.nil_append, sOPar, sOOPar, dOIx, sNest, sCallP, dOLen, fnP, pC, pFrz, dPr, dVT, dTIx, sSetT, sParT, asTI, asI_iL, hd, he, Nat.reduceLeDiff]
  rw [el]
  simp only [Nat.reduceSub, Nat.reduceAdd, reduceIte, Tree.bind, liftO, dIdx, sAsgL, sPar4, dV, dC, d1, d2, t1, t2, l0, lC, dL, dT, aV, aE, a0, aC, dCall, dCallK, dIf, tTr, tV, truth, asB, tNot, tAnd, tOr, dAnd, dOr, sSet, sAsg, sPar, sRet, s0, sC, sIf, sX, sOwn, sApp, sFrz, frzE, sFor, outV, fnF, lenIs, ent, small, few, putE, putsE, wipeE, it_l, it_t, iS, iR1, iR2, wEn, wZ2, wZ3, dLc, dLf, dSl, oN, oS, pCut, pSub, cI, bD, pIx, pList, pTup, pLen, pNot, qIsN, qNotN, pIsN, pNotN, List.getElem?_cons_succ, List.getElem?_cons_zero, List.set_cons_succ, List.set_cons_zero, List.length_cons, List.length_nil, List.map_cons, List.map_nil, List.foldr_cons, List.foldr_nil, List.replicate_succ, List.replicate_zero, List.cons_append, List.nil_append, sOPar, sOOPar, dOIx, sNest, sCallP, dOLen, fnP, pC, pFrz, dPr, dVT, dTIx, sSetT, sParT, asTI, asI_iL]
  rw [AL_alg]
  rfl
theorem dLs_cons (l : List Int) (ls : List (List Int)) : dLs (l :: ls) = .list (iL l) :: dLs ls := rfl
def stp (n : Int) : List Int → List Int → List Int → List Int
  | t, _, [] => t
  | t, s, c :: cs => stp n (zipStep n t s (callL n c s)) (callL n c s) cs
theorem stp_fold (n : Int) : ∀ (cs s t : List Int), stp n t s cs = (List.range cs.length).foldl (fun t j => zipStep n t (runS n s (cs.take j)) (runS n s (cs.take (j + 1)))) t
  | [], s, t => rfl
  | c :: cs, s, t => by
    rw [stp, stp_fold n cs, List.length_cons, List.range_succ_eq_map, List.foldl_cons, List.foldl_map]
    rfl
theorem stp_steps (n : Int) (ss cs : List Int) : stp n (ss.map fun _ => 0) ss cs = stepsL n ss cs := stp_fold n cs ss _
theorem steps_loop {n : Int} {d e a : PyData} (n0 : 0 < n) : ∀ (cs s t : List Int) (x5 x6 : Option W) (x7 x8 x9 x10 : Option W), t.length ≤ 1000 → ∃ y4 y5 y6,
    forT (.tp [5, 6]) (sSet 4 (dLc (.tp [8, 9, 10]) [10, 9, 8] (wZ3 (dV 4) (dV 5) (dV 6)) (d2 pAdd (dV 8) (d2 pMod (d2 pSub (dV 9) (dV 10)) (dV 0))))) (prs (dLs (s :: alg n s cs)) (dLs (alg n s cs))) [some (.d (.int n)), some (.d d), some (.d e), some (.d a), some (.d (.list (iL t))), x5, x6, x7, x8, x9, x10]
      = .ret (.nx [some (.d (.int n)), some (.d d), some (.d e), some (.d a), some (.d (.list (iL y4))), y5, y6, x7, x8, x9, x10]) ∧ y4 = stp n t s cs
  | [], s, t, x5, x6, x7, x8, x9, x10, _ => ⟨t, x5, x6, rfl, rfl⟩
  | c :: cs, s, t, x5, x6, x7, x8, x9, x10, h => by
    have hz : (zipStep n t s (callL n c s)).length ≤ 1000 := by
      unfold zipStep
      simp
      omega
    obtain ⟨y4, y5, y6, e1, e2⟩ := steps_loop (d := d) (e := e) (a := a) n0 cs (callL n c s) (zipStep n t s (callL n c s)) (some (.d (.list (iL s)))) (some (.d (.list (iL (callL n c s))))) x7 x8 x9 x10 hz
    refine ⟨y4, y5, y6, ?_, e2⟩
    have hz2 : (trs (iL t) (iL s) (iL (callL n c s))).length ≤ 50000 := by
      unfold trs
      simp
      omega
    rw [alg, dLs_cons, dLs_cons, show ∀ (x y : PyData) (xs ys : List PyData), prs (x :: xs) (y :: ys) = .tuple [x, y] :: prs xs ys from fun _ _ _ _ => rfl, forT]
    simp only [Nat.reduceSub, Nat.reduceAdd, reduceIte, Tree.bind, liftO, dIdx, sAsgL, sPar4, dV, dC, d1, d2, t1, t2, l0, lC, dL, dT, aV, aE, a0, aC, dCall, dCallK, dIf, tTr, tV, truth, asB, tNot, tAnd, tOr, dAnd, dOr, sSet, sAsg, sPar, sRet, s0, sC, sIf, sX, sOwn, sApp, sFrz, frzE, sFor, outV, fnF, lenIs, ent, small, few, putE, putsE, wipeE, it_l, it_t, iS, iR1, iR2, wEn, wZ2, wZ3, dLc, dLf, dSl, oN, oS, pCut, pSub, cI, bD, pIx, pList, pTup, pLen, pNot, qIsN, qNotN, pIsN, pNotN, List.getElem?_cons_succ, List.getElem?_cons_zero, List.set_cons_succ, List.set_cons_zero, List.length_cons, List.length_nil, List.map_cons, List.map_nil, List.foldr_cons, List.foldr_nil, List.replicate_succ, List.replicate_zero, List.cons_append, List.nil_append, sOPar, sOOPar, dOIx, sNest, sCallP, dOLen, fnP, pC, pFrz, dPr, dVT, dTIx, sSetT, sParT, asTI, asI_iL, if_pos hz2]
    rw [mapT_3 (g := fun q => q.1 + (q.2.1 - q.2.2) % n) fun q hq => by simp only [Nat.reduceSub, Nat.reduceAdd, reduceIte, Tree.bind, liftO, dIdx, sAsgL, sPar4, dV, dC, d1, d2, t1, t2, l0, lC, dL, dT, aV, aE, a0, aC, dCall, dCallK, dIf, tTr, tV, truth, asB, tNot, tAnd, tOr, dAnd, dOr, sSet, sAsg, sPar, sRet, s0, sC, sIf, sX, sOwn, sApp, sFrz, frzE, sFor, outV, fnF, lenIs, ent, small, few, putE, putsE, wipeE, it_l, it_t, iS, iR1, iR2, wEn, wZ2, wZ3, dLc, dLf, dSl, oN, oS, pCut, pSub, cI, bD, pIx, pList, pTup, pLen, pNot, qIsN, qNotN, pIsN, pNotN, List.getElem?_cons_succ, List.getElem?_cons_zero, List.set_cons_succ, List.set_cons_zero, List.length_cons, List.length_nil, List.map_cons, List.map_nil, List.foldr_cons, List.foldr_nil, List.replicate_succ, List.replicate_zero, List.cons_append, List.nil_append, sOPar, sOOPar, dOIx, sNest, sCallP, dOLen, fnP, pC, pFrz, dPr, dVT, dTIx, sSetT, sParT, asTI, asI_iL, pMod, pAdd, if_pos n0]]
    simp only [Nat.reduceSub, Nat.reduceAdd, reduceIte, Tree.bind, liftO, dIdx, sAsgL, sPar4, dV, dC, d1, d2, t1, t2, l0, lC, dL, dT, aV, aE, a0, aC, dCall, dCallK, dIf, tTr, tV, truth, asB, tNot, tAnd, tOr, dAnd, dOr, sSet, sAsg, sPar, sRet, s0, sC, sIf, sX, sOwn, sApp, sFrz, frzE, sFor, outV, fnF, lenIs, ent, small, few, putE, putsE, wipeE, it_l, it_t, iS, iR1, iR2, wEn, wZ2, wZ3, dLc, dLf, dSl, oN, oS, pCut, pSub, cI, bD, pIx, pList, pTup, pLen, pNot, qIsN, qNotN, pIsN, pNotN, List.getElem?_cons_succ, List.getElem?_cons_zero, List.set_cons_succ, List.set_cons_zero, List.length_cons, List.length_nil, List.map_cons, List.map_nil, List.foldr_cons, List.foldr_nil, List.replicate_succ, List.replicate_zero, List.cons_append, List.nil_append, sOPar, sOOPar, dOIx, sNest, sCallP, dOLen, fnP, pC, pFrz, dPr, dVT, dTIx, sSetT, sParT, asTI, asI_iL]
    rw [← dLs_cons]
    exact e1
theorem cutD_1 (xs : List PyData) : cutD xs (some 1) none = xs.drop 1 := cutD_from xs 1
theorem ev_steps {n : Int} {d e : PyData} {ss cs : List Int} (hd : items d = some (iL ss)) (he : items e = some (iL cs)) (n0 : 0 < n) (hne : ss ≠ []) (hl : ss.length ≤ 1000) (hc : cs.length ≤ 1000) : m_steps [.d (.int n), .d d, .d e] = .ret (.list (iL (stepsL n ss cs))) := by
  obtain ⟨y4, y5, y6, e1, e2⟩ := steps_loop (d := d) (e := e) (a := .list (dLs (AL n ss cs))) n0 cs ss (ss.map fun _ => 0) none none none none none none (by simpa using hl)
  rw [stp_steps] at e2
  subst e2
  simp only [m_steps, b_steps, Nat.reduceSub, Nat.reduceAdd, reduceIte, Tree.bind, liftO, dIdx, sAsgL, sPar4, dV, dC, d1, d2, t1, t2, l0, lC, dL, dT, aV, aE, a0, aC, dCall, dCallK, dIf, tTr, tV, truth, asB, tNot, tAnd, tOr, dAnd, dOr, sSet, sAsg, sPar, sRet, s0, sC, sIf, sX, sOwn, sApp, sFrz, frzE, sFor, outV, fnF, lenIs, ent, small, few, putE, putsE, wipeE, it_l, it_t, iS, iR1, iR2, wEn, wZ2, wZ3, dLc, dLf, dSl, oN, oS, pCut, pSub, cI, bD, pIx, pList, pTup, pLen, pNot, qIsN, qNotN, pIsN, pNotN, List.getElem?_cons_succ, List.getElem?_cons_zero, List.set_cons_succ, List.set_cons_zero, List.length_cons, List.length_nil, List.map_cons, List.map_nil, List.foldr_cons, List.foldr_nil, List.replicate_succ, List.replicate_zero, List.cons_append, List.nil_append, sOPar, sOOPar, dOIx, sNest, sCallP, dOLen, fnP, pC, pFrz, dPr, dVT, dTIx, sSetT, sParT, asTI, asI_iL, hd, he, ev_seats_along hd he n0 hne hl hc, cutD_1, if_pos (show (iL ss).length ≤ 50000 by rw [iL_len]; omega)]
  rw [mapT_I (g := fun _ => 0) fun x hx => by simp only [Nat.reduceSub, Nat.reduceAdd, reduceIte, Tree.bind, liftO, dIdx, sAsgL, sPar4, dV, dC, d1, d2, t1, t2, l0, lC, dL, dT, aV, aE, a0, aC, dCall, dCallK, dIf, tTr, tV, truth, asB, tNot, tAnd, tOr, dAnd, dOr, sSet, sAsg, sPar, sRet, s0, sC, sIf, sX, sOwn, sApp, sFrz, frzE, sFor, outV, fnF, lenIs, ent, small, few, putE, putsE, wipeE, it_l, it_t, iS, iR1, iR2, wEn, wZ2, wZ3, dLc, dLf, dSl, oN, oS, pCut, pSub, cI, bD, pIx, pList, pTup, pLen, pNot, qIsN, qNotN, pIsN, pNotN, List.getElem?_cons_succ, List.getElem?_cons_zero, List.set_cons_succ, List.set_cons_zero, List.length_cons, List.length_nil, List.map_cons, List.map_nil, List.foldr_cons, List.foldr_nil, List.replicate_succ, List.replicate_zero, List.cons_append, List.nil_append, sOPar, sOOPar, dOIx, sNest, sCallP, dOLen, fnP, pC, pFrz, dPr, dVT, dTIx, sSetT, sParT, asTI, asI_iL]]
  simp only [Nat.reduceSub, Nat.reduceAdd, reduceIte, Tree.bind, liftO, dIdx, sAsgL, sPar4, dV, dC, d1, d2, t1, t2, l0, lC, dL, dT, aV, aE, a0, aC, dCall, dCallK, dIf, tTr, tV, truth, asB, tNot, tAnd, tOr, dAnd, dOr, sSet, sAsg, sPar, sRet, s0, sC, sIf, sX, sOwn, sApp, sFrz, frzE, sFor, outV, fnF, lenIs, ent, small, few, putE, putsE, wipeE, it_l, it_t, iS, iR1, iR2, wEn, wZ2, wZ3, dLc, dLf, dSl, oN, oS, pCut, pSub, cI, bD, pIx, pList, pTup, pLen, pNot, qIsN, qNotN, pIsN, pNotN, List.getElem?_cons_succ, List.getElem?_cons_zero, List.set_cons_succ, List.set_cons_zero, List.length_cons, List.length_nil, List.map_cons, List.map_nil, List.foldr_cons, List.foldr_nil, List.replicate_succ, List.replicate_zero, List.cons_append, List.nil_append, sOPar, sOOPar, dOIx, sNest, sCallP, dOLen, fnP, pC, pFrz, dPr, dVT, dTIx, sSetT, sParT, asTI, asI_iL]
  rw [show (dLs (AL n ss cs)).drop 1 = dLs (alg n ss cs) by rw [AL_alg]; rfl]
  rw [show prs (dLs (AL n ss cs)) (dLs (alg n ss cs)) = prs (dLs (ss :: alg n ss cs)) (dLs (alg n ss cs)) by rw [AL_alg]]
  rw [e1]
  simp only [Nat.reduceSub, Nat.reduceAdd, reduceIte, Tree.bind, liftO, dIdx, sAsgL, sPar4, dV, dC, d1, d2, t1, t2, l0, lC, dL, dT, aV, aE, a0, aC, dCall, dCallK, dIf, tTr, tV, truth, asB, tNot, tAnd, tOr, dAnd, dOr, sSet, sAsg, sPar, sRet, s0, sC, sIf, sX, sOwn, sApp, sFrz, frzE, sFor, outV, fnF, lenIs, ent, small, few, putE, putsE, wipeE, it_l, it_t, iS, iR1, iR2, wEn, wZ2, wZ3, dLc, dLf, dSl, oN, oS, pCut, pSub, cI, bD, pIx, pList, pTup, pLen, pNot, qIsN, qNotN, pIsN, pNotN, List.getElem?_cons_succ, List.getElem?_cons_zero, List.set_cons_succ, List.set_cons_zero, List.length_cons, List.length_nil, List.map_cons, List.map_nil, List.foldr_cons, List.foldr_nil, List.replicate_succ, List.replicate_zero, List.cons_append, List.nil_append, sOPar, sOOPar, dOIx, sNest, sCallP, dOLen, fnP, pC, pFrz, dPr, dVT, dTIx, sSetT, sParT, asTI, asI_iL]
theorem atI_nat {α : Type} {xs : List α} {k : Nat} {x : α} (h : xs[k]? = some x) : atI xs (k : Int) = some x := by
  have hk := (List.getElem?_eq_some_iff.mp h).1
  unfold atI
  rw [ixN_nat hk]
  exact h
theorem pIx_of {d x : PyData} {xs : List PyData} {k : Nat} (hd : items d = some xs) (h : xs[k]? = some x) : pIx d (.int (k : Int)) = some x := by
  unfold pIx
  rw [hd]
  exact atI_nat h
theorem pIx_I {d x : PyData} {xs : List PyData} {i : Int} (hd : items d = some xs) (h0 : 0 ≤ i) (h : xs[i.toNat]? = some x) : pIx d (.int i) = some x := by
  have := pIx_of (k := i.toNat) hd h
  rw [Int.toNat_of_nonneg h0] at this
  exact this
theorem rg1_nat {k : Nat} (h : k ≤ 100000) : rg1 (.int (k : Int)) = some (nums k) := by
  show (if -100000 ≤ (k : Int) ∧ (k : Int) ≤ 100000 then some (nums (k : Int).toNat) else none) = _
  rw [if_pos ⟨by omega, by omega⟩]
  rfl
theorem nums_len (n : Nat) : (nums n).length = n := by simp [nums]
theorem mapT_R {f : PyData → Tree PyData} {g : Nat → PyData} {n : Nat} (h : ∀ k, k < n → f (.int (k : Int)) = .ret (g k)) : mapT f (nums n) = .ret ((List.range n).map g) := by
  unfold nums
  rw [mapT_map]
  exact mapT_ret fun k hk => h k (List.mem_range.mp hk)
theorem ev_pack_seats {n c : Int} {k : Nat} (n0 : 0 < n) (hk : k ≤ 1000) : m_pack_seats [.d (.int n), .d (.int (k : Int)), .d (.int c)] = .ret (.list (iL (pkS n k c))) := by
  simp only [m_pack_seats, b_pack_seats, Nat.reduceSub, Nat.reduceAdd, reduceIte, Tree.bind, liftO, dIdx, sAsgL, sPar4, dV, dC, d1, d2, t1, t2, l0, lC, dL, dT, aV, aE, a0, aC, dCall, dCallK, dIf, tTr, tV, truth, asB, tNot, tAnd, tOr, dAnd, dOr, sSet, sAsg, sPar, sRet, s0, sC, sIf, sX, sOwn, sApp, sFrz, frzE, sFor, outV, fnF, lenIs, ent, small, few, putE, putsE, wipeE, it_l, it_t, iS, iR1, iR2, wEn, wZ2, wZ3, dLc, dLf, dSl, oN, oS, pCut, pSub, cI, bD, pIx, pList, pTup, pLen, pNot, qIsN, qNotN, pIsN, pNotN, List.getElem?_cons_succ, List.getElem?_cons_zero, List.set_cons_succ, List.set_cons_zero, List.length_cons, List.length_nil, List.map_cons, List.map_nil, List.foldr_cons, List.foldr_nil, List.replicate_succ, List.replicate_zero, List.cons_append, List.nil_append, sOPar, sOOPar, dOIx, sNest, sCallP, dOLen, fnP, pC, pFrz, dPr, dVT, dTIx, sSetT, sParT, asTI, asI_iL, rg1_nat (show k ≤ 100000 by omega), nums_len, if_pos (show k ≤ 50000 by omega)]
  rw [mapT_R (g := fun b => .int ((c - (b : Int)) % n)) fun b hb => by simp only [Nat.reduceSub, Nat.reduceAdd, reduceIte, Tree.bind, liftO, dIdx, sAsgL, sPar4, dV, dC, d1, d2, t1, t2, l0, lC, dL, dT, aV, aE, a0, aC, dCall, dCallK, dIf, tTr, tV, truth, asB, tNot, tAnd, tOr, dAnd, dOr, sSet, sAsg, sPar, sRet, s0, sC, sIf, sX, sOwn, sApp, sFrz, frzE, sFor, outV, fnF, lenIs, ent, small, few, putE, putsE, wipeE, it_l, it_t, iS, iR1, iR2, wEn, wZ2, wZ3, dLc, dLf, dSl, oN, oS, pCut, pSub, cI, bD, pIx, pList, pTup, pLen, pNot, qIsN, qNotN, pIsN, pNotN, List.getElem?_cons_succ, List.getElem?_cons_zero, List.set_cons_succ, List.set_cons_zero, List.length_cons, List.length_nil, List.map_cons, List.map_nil, List.foldr_cons, List.foldr_nil, List.replicate_succ, List.replicate_zero, List.cons_append, List.nil_append, sOPar, sOOPar, dOIx, sNest, sCallP, dOLen, fnP, pC, pFrz, dPr, dVT, dTIx, sSetT, sParT, asTI, asI_iL, pMod, if_pos n0]]
  simp only [Tree.bind, liftO, dIdx, sAsgL, sPar4, dV, dC, d1, d2, t1, t2, l0, lC, dL, dT, aV, aE, a0, aC, dCall, dCallK, dIf, tTr, tV, truth, asB, tNot, tAnd, tOr, dAnd, dOr, sSet, sAsg, sPar, sRet, s0, sC, sIf, sX, sOwn, sApp, sFrz, frzE, sFor, outV, fnF, lenIs, ent, small, few, putE, putsE, wipeE, it_l, it_t, iS, iR1, iR2, wEn, wZ2, wZ3, dLc, dLf, dSl, oN, oS, pCut, pSub, cI, bD, pIx, pList, pTup, pLen, pNot, qIsN, qNotN, pIsN, pNotN, List.getElem?_cons_succ, List.getElem?_cons_zero, List.set_cons_succ, List.set_cons_zero, List.length_cons, List.length_nil, List.map_cons, List.map_nil, List.foldr_cons, List.foldr_nil, List.replicate_succ, List.replicate_zero, List.cons_append, List.nil_append, sOPar, sOOPar, dOIx, sNest, sCallP, dOLen, fnP, pC, pFrz, dPr, dVT, dTIx, sSetT, sParT, asTI, asI_iL]
  rw [map_ii (fun (b : Nat) => (c - (b : Int)) % n)]
  rfl
theorem ev_moves_of {n k : Nat} {e : PyData} {cs : List Int} (he : items e = some (iL cs)) (n0 : 0 < n) (hn : n ≤ 1000) (k0 : 1 ≤ k) (hk : k ≤ 1000) (hc : cs.length ≤ 1000) : m_moves_of [.d (.int (n : Int)), .d (.int (k : Int)), .d e] = .ret (.tuple (rowsT (mvL n k cs))) := by
  simp only [m_moves_of, b_moves_of, Nat.reduceSub, Nat.reduceAdd, reduceIte, Tree.bind, liftO, dIdx, sAsgL, sPar4, dV, dC, d1, d2, t1, t2, l0, lC, dL, dT, aV, aE, a0, aC, dCall, dCallK, dIf, tTr, tV, truth, asB, tNot, tAnd, tOr, dAnd, dOr, sSet, sAsg, sPar, sRet, s0, sC, sIf, sX, sOwn, sApp, sFrz, frzE, sFor, outV, fnF, lenIs, ent, small, few, putE, putsE, wipeE, it_l, it_t, iS, iR1, iR2, wEn, wZ2, wZ3, dLc, dLf, dSl, oN, oS, pCut, pSub, cI, bD, pIx, pList, pTup, pLen, pNot, qIsN, qNotN, pIsN, pNotN, List.getElem?_cons_succ, List.getElem?_cons_zero, List.set_cons_succ, List.set_cons_zero, List.length_cons, List.length_nil, List.map_cons, List.map_nil, List.foldr_cons, List.foldr_nil, List.replicate_succ, List.replicate_zero, List.cons_append, List.nil_append, sOPar, sOOPar, dOIx, sNest, sCallP, dOLen, fnP, pC, pFrz, dPr, dVT, dTIx, sSetT, sParT, asTI, asI_iL, rg1_nat (show n ≤ 100000 by omega), nums_len, if_pos (show n ≤ 50000 by omega)]
  have hp : ∀ c : Nat, pkS n k (c : Int) ≠ [] := fun c e => by
    have := congrArg List.length e
    rw [pkS_len] at this
    simp at this
    omega
  rw [mapT_R (g := fun c => .tuple (iL (stepsL n (pkS n k (c : Int)) cs))) fun c hc' => by
    simp only [Nat.reduceSub, Nat.reduceAdd, reduceIte, Tree.bind, liftO, dIdx, sAsgL, sPar4, dV, dC, d1, d2, t1, t2, l0, lC, dL, dT, aV, aE, a0, aC, dCall, dCallK, dIf, tTr, tV, truth, asB, tNot, tAnd, tOr, dAnd, dOr, sSet, sAsg, sPar, sRet, s0, sC, sIf, sX, sOwn, sApp, sFrz, frzE, sFor, outV, fnF, lenIs, ent, small, few, putE, putsE, wipeE, it_l, it_t, iS, iR1, iR2, wEn, wZ2, wZ3, dLc, dLf, dSl, oN, oS, pCut, pSub, cI, bD, pIx, pList, pTup, pLen, pNot, qIsN, qNotN, pIsN, pNotN, List.getElem?_cons_succ, List.getElem?_cons_zero, List.set_cons_succ, List.set_cons_zero, List.length_cons, List.length_nil, List.map_cons, List.map_nil, List.foldr_cons, List.foldr_nil, List.replicate_succ, List.replicate_zero, List.cons_append, List.nil_append, sOPar, sOOPar, dOIx, sNest, sCallP, dOLen, fnP, pC, pFrz, dPr, dVT, dTIx, sSetT, sParT, asTI, asI_iL, ev_pack_seats (show (0 : Int) < n by omega) hk, ev_steps (it_l _) he (show (0 : Int) < n by omega) (hp c) (by rw [pkS_len]; exact hk) hc]]
  simp only [Tree.bind, liftO, dIdx, sAsgL, sPar4, dV, dC, d1, d2, t1, t2, l0, lC, dL, dT, aV, aE, a0, aC, dCall, dCallK, dIf, tTr, tV, truth, asB, tNot, tAnd, tOr, dAnd, dOr, sSet, sAsg, sPar, sRet, s0, sC, sIf, sX, sOwn, sApp, sFrz, frzE, sFor, outV, fnF, lenIs, ent, small, few, putE, putsE, wipeE, it_l, it_t, iS, iR1, iR2, wEn, wZ2, wZ3, dLc, dLf, dSl, oN, oS, pCut, pSub, cI, bD, pIx, pList, pTup, pLen, pNot, qIsN, qNotN, pIsN, pNotN, List.getElem?_cons_succ, List.getElem?_cons_zero, List.set_cons_succ, List.set_cons_zero, List.length_cons, List.length_nil, List.map_cons, List.map_nil, List.foldr_cons, List.foldr_nil, List.replicate_succ, List.replicate_zero, List.cons_append, List.nil_append, sOPar, sOOPar, dOIx, sNest, sCallP, dOLen, fnP, pC, pFrz, dPr, dVT, dTIx, sSetT, sParT, asTI, asI_iL]
  unfold rowsT mvL
  rw [List.map_map]
  rfl
def Mv (M : List (List Int)) (d : PyData) : Prop := ∃ rs, items d = some rs ∧ rs.length = M.length ∧ ∀ (i : Nat) row, M[i]? = some row → ∃ r, rs[i]? = some r ∧ items r = some (iL row)
theorem mv_rows (M : List (List Int)) : Mv M (.tuple (rowsT M)) := ⟨_, rfl, by simp [rowsT], fun i row h => ⟨_, by unfold rowsT; rw [List.getElem?_map, h]; rfl, rfl⟩⟩
structure MOk (n k : Nat) (M : List (List Int)) : Prop where
  len : M.length = n
  row : ∀ (i : Nat) (r : List Int), M[i]? = some r → r.length = k
theorem mOk_mvL {n k : Nat} {cs : List Int} : MOk n k (mvL n k cs) := ⟨by simp [mvL], fun i r h => by
  unfold mvL at h
  rw [List.getElem?_map] at h
  cases q : (List.range n)[i]? with
  | none =>
    rw [q] at h
    cases h
  | some c =>
    rw [q] at h
    cases h
    rw [show (stepsL n (pkS n k (c : Int)) cs).length = _ from stT_len _ _ _ _, pkS_len]⟩
theorem Mv.ix {n k : Nat} {M : List (List Int)} {d : PyData} {c : Int} {j : Nat} (h : Mv M d) (ok : MOk n k M) (c0 : 0 ≤ c) (c1 : c < n) (hj : j < k) : ∃ r, pIx d (.int c) = some r ∧ pIx r (.int (j : Int)) = some (.int (cell M c j)) := by
  obtain ⟨rs, h1, h2, h3⟩ := h
  have hc : c.toNat < M.length := by rw [ok.len]; omega
  obtain ⟨r, h4, h5⟩ := h3 c.toNat _ (List.getElem?_eq_getElem hc)
  refine ⟨r, pIx_I h1 c0 h4, pIx_of h5 ?_⟩
  have hl := ok.row c.toNat _ (List.getElem?_eq_getElem hc)
  have ec : M.getD c.toNat [] = M[c.toNat] := by rw [List.getD_eq_getElem?_getD, List.getElem?_eq_getElem hc, Option.getD_some]
  unfold cell
  rw [ec, List.getD_eq_getElem?_getD]
  have hj' : j < M[c.toNat].length := by rw [hl]; exact hj
  unfold iL
  rw [List.getElem?_map, List.getElem?_eq_getElem hj', Option.getD_some]
  rfl
theorem maxI_mx (i : Int) (is : List Int) : maxI i is = mx (i :: is) := mx_eq (maxI_mem is i) fun y hy => maxI_ge is i y hy
theorem pMax_of {l : List Int} (h : l ≠ []) : pMax (.list (iL l)) = some (.int (mx l)) := by
  unfold pMax onI
  dsimp only
  rw [asI_iL]
  cases l with
  | nil => exact absurd rfl h
  | cons i is => exact congrArg some (congrArg PyData.int (maxI_mx i is))
theorem pSrt_of (l : List Int) : pSrt (.list (iL l)) = some (.list (iL (srt l))) := by
  unfold pSrt onI
  dsimp only
  rw [asI_iL, ← isrt_eq]
theorem ev_steps_of_one {n : Nat} {M : List (List Int)} {d t : PyData} {ss : List Int} {seat : Int} (hM : Mv M d) (ok : MOk n ss.length M) (ht : items t = some (iL ss)) (n0 : 0 < n) (hne : ss ≠ []) (hl : ss.length ≤ 1000) : m_steps_of_one [.d (.int (n : Int)), .d d, .d t, .d (.int seat)] = .ret (.int (mx (trmS n M ss seat))) := by
  have n0' : (0 : Int) < n := by omega
  simp only [m_steps_of_one, b_steps_of_one, Nat.reduceSub, Nat.reduceAdd, reduceIte, Tree.bind, liftO, dIdx, sAsgL, sPar4, dV, dC, d1, d2, t1, t2, l0, lC, dL, dT, aV, aE, a0, aC, dCall, dCallK, dIf, tTr, tV, truth, asB, tNot, tAnd, tOr, dAnd, dOr, sSet, sAsg, sPar, sRet, s0, sC, sIf, sX, sOwn, sApp, sFrz, frzE, sFor, outV, fnF, lenIs, ent, small, few, putE, putsE, wipeE, it_l, it_t, iS, iR1, iR2, wEn, wZ2, wZ3, dLc, dLf, dSl, oN, oS, pCut, pSub, cI, bD, pIx, pList, pTup, pLen, pNot, qIsN, qNotN, pIsN, pNotN, List.getElem?_cons_succ, List.getElem?_cons_zero, List.set_cons_succ, List.set_cons_zero, List.length_cons, List.length_nil, List.map_cons, List.map_nil, List.foldr_cons, List.foldr_nil, List.replicate_succ, List.replicate_zero, List.cons_append, List.nil_append, sOPar, sOOPar, dOIx, sNest, sCallP, dOLen, fnP, pC, pFrz, dPr, dVT, dTIx, sSetT, sParT, asTI, asI_iL, ht, iL_len, if_pos (show ss.length ≤ 50000 by omega)]
  rw [mapT_I (g := fun o => (o - seat) % n) fun x hx => by simp only [Nat.reduceSub, Nat.reduceAdd, reduceIte, Tree.bind, liftO, dIdx, sAsgL, sPar4, dV, dC, d1, d2, t1, t2, l0, lC, dL, dT, aV, aE, a0, aC, dCall, dCallK, dIf, tTr, tV, truth, asB, tNot, tAnd, tOr, dAnd, dOr, sSet, sAsg, sPar, sRet, s0, sC, sIf, sX, sOwn, sApp, sFrz, frzE, sFor, outV, fnF, lenIs, ent, small, few, putE, putsE, wipeE, it_l, it_t, iS, iR1, iR2, wEn, wZ2, wZ3, dLc, dLf, dSl, oN, oS, pCut, pSub, cI, bD, pIx, pList, pTup, pLen, pNot, qIsN, qNotN, pIsN, pNotN, List.getElem?_cons_succ, List.getElem?_cons_zero, List.set_cons_succ, List.set_cons_zero, List.length_cons, List.length_nil, List.map_cons, List.map_nil, List.foldr_cons, List.foldr_nil, List.replicate_succ, List.replicate_zero, List.cons_append, List.nil_append, sOPar, sOOPar, dOIx, sNest, sCallP, dOLen, fnP, pC, pFrz, dPr, dVT, dTIx, sSetT, sParT, asTI, asI_iL, pMod, if_pos n0']]
  simp only [Nat.reduceSub, Nat.reduceAdd, reduceIte, Tree.bind, liftO, dIdx, sAsgL, sPar4, dV, dC, d1, d2, t1, t2, l0, lC, dL, dT, aV, aE, a0, aC, dCall, dCallK, dIf, tTr, tV, truth, asB, tNot, tAnd, tOr, dAnd, dOr, sSet, sAsg, sPar, sRet, s0, sC, sIf, sX, sOwn, sApp, sFrz, frzE, sFor, outV, fnF, lenIs, ent, small, few, putE, putsE, wipeE, it_l, it_t, iS, iR1, iR2, wEn, wZ2, wZ3, dLc, dLf, dSl, oN, oS, pCut, pSub, cI, bD, pIx, pList, pTup, pLen, pNot, qIsN, qNotN, pIsN, pNotN, List.getElem?_cons_succ, List.getElem?_cons_zero, List.set_cons_succ, List.set_cons_zero, List.length_cons, List.length_nil, List.map_cons, List.map_nil, List.foldr_cons, List.foldr_nil, List.replicate_succ, List.replicate_zero, List.cons_append, List.nil_append, sOPar, sOOPar, dOIx, sNest, sCallP, dOLen, fnP, pC, pFrz, dPr, dVT, dTIx, sSetT, sParT, asTI, asI_iL, pSrt_of, nums_cnt, iL_len]
  have e1 : srt (ss.map fun o => (o - seat) % n) = dsS n ss seat := rfl
  rw [e1]
  have hdl : (dsS n ss seat).length = ss.length := dsS_len
  have hz : (prs (iL (cnt (dsS n ss seat).length)) (iL (dsS n ss seat))).length ≤ 50000 := by
    unfold prs
    simp [iL_len, cnt_len, hdl]
    omega
  simp only [if_pos hz]
  rw [mapT_2 (g := fun q => cell M ((seat + q.2) % n) q.1.toNat - (q.2 - q.1)) fun q hq => by
    obtain ⟨i, hi⟩ := List.getElem?_of_mem hq
    obtain ⟨g1, g2⟩ := List.getElem?_zip_eq_some.mp hi
    have hil : i < ss.length := by
      have := (List.getElem?_eq_some_iff.mp g1).1
      rw [cnt_len, hdl] at this
      exact this
    rw [cnt_get (by omega)] at g1
    have e2 : q.1 = (i : Int) := (Option.some.inj g1).symm
    obtain ⟨r, r1, r2⟩ := hM.ix ok (c := (seat + q.2) % n) (j := i) (Int.emod_nonneg _ (by omega)) (Int.emod_lt_of_pos _ n0') hil
    simp only [Nat.reduceSub, Nat.reduceAdd, reduceIte, Tree.bind, liftO, dV, dC, d1, d2, putE, putsE, wipeE, List.getElem?_cons_succ, List.getElem?_cons_zero, List.set_cons_succ, List.set_cons_zero, List.length_cons, List.length_nil, List.foldr_cons, List.foldr_nil, pMod, pAdd, pSub, if_pos n0', r1, e2, r2, Int.toNat_natCast]]
  simp only [Nat.reduceSub, Nat.reduceAdd, reduceIte, Tree.bind, liftO, dIdx, sAsgL, sPar4, dV, dC, d1, d2, t1, t2, l0, lC, dL, dT, aV, aE, a0, aC, dCall, dCallK, dIf, tTr, tV, truth, asB, tNot, tAnd, tOr, dAnd, dOr, sSet, sAsg, sPar, sRet, s0, sC, sIf, sX, sOwn, sApp, sFrz, frzE, sFor, outV, fnF, lenIs, ent, small, few, putE, putsE, wipeE, it_l, it_t, iS, iR1, iR2, wEn, wZ2, wZ3, dLc, dLf, dSl, oN, oS, pCut, pSub, cI, bD, pIx, pList, pTup, pLen, pNot, qIsN, qNotN, pIsN, pNotN, List.getElem?_cons_succ, List.getElem?_cons_zero, List.set_cons_succ, List.set_cons_zero, List.length_cons, List.length_nil, List.map_cons, List.map_nil, List.foldr_cons, List.foldr_nil, List.replicate_succ, List.replicate_zero, List.cons_append, List.nil_append, sOPar, sOOPar, dOIx, sNest, sCallP, dOLen, fnP, pC, pFrz, dPr, dVT, dTIx, sSetT, sParT, asTI, asI_iL]
  have e3 : ((cnt (dsS n ss seat).length).zip (dsS n ss seat)).map (fun q => cell M ((seat + q.2) % n) q.1.toNat - (q.2 - q.1)) = trmS n M ss seat := by
    refine List.ext_getElem? fun i => ?_
    by_cases hi : i < ss.length
    · have hi' : i < (dsS n ss seat).length := by omega
      have e := List.getElem?_eq_getElem hi'
      rw [List.getElem?_map, List.getElem?_zip_eq_some (z := ((i : Int), (dsS n ss seat)[i])) |>.mpr ⟨cnt_get hi', e⟩]
      unfold trmS
      rw [List.getElem?_map, List.getElem?_range hi]
      have ed : (dsS n ss seat).getD i 0 = (dsS n ss seat)[i] := by rw [List.getD_eq_getElem?_getD, e, Option.getD_some]
      show some _ = some (cell M ((seat + (dsS n ss seat).getD i 0) % n) i - ((dsS n ss seat).getD i 0 - (i : Int)))
      rw [ed]
      rfl
    · rw [List.getElem?_eq_none (by simp [cnt_len]; omega), List.getElem?_eq_none (by simp [trmS]; omega)]
  rw [e3, pMax_of (fun e => by
    have := congrArg List.length e
    simp [trmS] at this
    exact hne this)]
  simp only [Tree.bind, liftO, dIdx, sAsgL, sPar4, dV, dC, d1, d2, t1, t2, l0, lC, dL, dT, aV, aE, a0, aC, dCall, dCallK, dIf, tTr, tV, truth, asB, tNot, tAnd, tOr, dAnd, dOr, sSet, sAsg, sPar, sRet, s0, sC, sIf, sX, sOwn, sApp, sFrz, frzE, sFor, outV, fnF, lenIs, ent, small, few, putE, putsE, wipeE, it_l, it_t, iS, iR1, iR2, wEn, wZ2, wZ3, dLc, dLf, dSl, oN, oS, pCut, pSub, cI, bD, pIx, pList, pTup, pLen, pNot, qIsN, qNotN, pIsN, pNotN, List.getElem?_cons_succ, List.getElem?_cons_zero, List.set_cons_succ, List.set_cons_zero, List.length_cons, List.length_nil, List.map_cons, List.map_nil, List.foldr_cons, List.foldr_nil, List.replicate_succ, List.replicate_zero, List.cons_append, List.nil_append, sOPar, sOOPar, dOIx, sNest, sCallP, dOLen, fnP, pC, pFrz, dPr, dVT, dTIx, sSetT, sParT, asTI, asI_iL]
theorem ev_steps_by {n : Nat} {M : List (List Int)} {d t : PyData} {ss : List Int} (hM : Mv M d) (ok : MOk n ss.length M) (ht : items t = some (iL ss)) (n0 : 0 < n) (hne : ss ≠ []) (hl : ss.length ≤ 1000) : m_steps_by [.d (.int (n : Int)), .d d, .d t] = .ret (.list (iL (stepsBy n M ss))) := by
  simp only [m_steps_by, b_steps_by, Nat.reduceSub, Nat.reduceAdd, reduceIte, Tree.bind, liftO, dIdx, sAsgL, sPar4, dV, dC, d1, d2, t1, t2, l0, lC, dL, dT, aV, aE, a0, aC, dCall, dCallK, dIf, tTr, tV, truth, asB, tNot, tAnd, tOr, dAnd, dOr, sSet, sAsg, sPar, sRet, s0, sC, sIf, sX, sOwn, sApp, sFrz, frzE, sFor, outV, fnF, lenIs, ent, small, few, putE, putsE, wipeE, it_l, it_t, iS, iR1, iR2, wEn, wZ2, wZ3, dLc, dLf, dSl, oN, oS, pCut, pSub, cI, bD, pIx, pList, pTup, pLen, pNot, qIsN, qNotN, pIsN, pNotN, List.getElem?_cons_succ, List.getElem?_cons_zero, List.set_cons_succ, List.set_cons_zero, List.length_cons, List.length_nil, List.map_cons, List.map_nil, List.foldr_cons, List.foldr_nil, List.replicate_succ, List.replicate_zero, List.cons_append, List.nil_append, sOPar, sOOPar, dOIx, sNest, sCallP, dOLen, fnP, pC, pFrz, dPr, dVT, dTIx, sSetT, sParT, asTI, asI_iL, ht, iL_len, if_pos (show ss.length ≤ 50000 by omega)]
  rw [mapT_I (g := fun seat => mx (trmS n M ss seat)) fun x hx => by simp only [Nat.reduceSub, Nat.reduceAdd, reduceIte, Tree.bind, liftO, dIdx, sAsgL, sPar4, dV, dC, d1, d2, t1, t2, l0, lC, dL, dT, aV, aE, a0, aC, dCall, dCallK, dIf, tTr, tV, truth, asB, tNot, tAnd, tOr, dAnd, dOr, sSet, sAsg, sPar, sRet, s0, sC, sIf, sX, sOwn, sApp, sFrz, frzE, sFor, outV, fnF, lenIs, ent, small, few, putE, putsE, wipeE, it_l, it_t, iS, iR1, iR2, wEn, wZ2, wZ3, dLc, dLf, dSl, oN, oS, pCut, pSub, cI, bD, pIx, pList, pTup, pLen, pNot, qIsN, qNotN, pIsN, pNotN, List.getElem?_cons_succ, List.getElem?_cons_zero, List.set_cons_succ, List.set_cons_zero, List.length_cons, List.length_nil, List.map_cons, List.map_nil, List.foldr_cons, List.foldr_nil, List.replicate_succ, List.replicate_zero, List.cons_append, List.nil_append, sOPar, sOOPar, dOIx, sNest, sCallP, dOLen, fnP, pC, pFrz, dPr, dVT, dTIx, sSetT, sParT, asTI, asI_iL, ev_steps_of_one hM ok ht n0 hne hl]]
  simp only [Tree.bind, liftO, dIdx, sAsgL, sPar4, dV, dC, d1, d2, t1, t2, l0, lC, dL, dT, aV, aE, a0, aC, dCall, dCallK, dIf, tTr, tV, truth, asB, tNot, tAnd, tOr, dAnd, dOr, sSet, sAsg, sPar, sRet, s0, sC, sIf, sX, sOwn, sApp, sFrz, frzE, sFor, outV, fnF, lenIs, ent, small, few, putE, putsE, wipeE, it_l, it_t, iS, iR1, iR2, wEn, wZ2, wZ3, dLc, dLf, dSl, oN, oS, pCut, pSub, cI, bD, pIx, pList, pTup, pLen, pNot, qIsN, qNotN, pIsN, pNotN, List.getElem?_cons_succ, List.getElem?_cons_zero, List.set_cons_succ, List.set_cons_zero, List.length_cons, List.length_nil, List.map_cons, List.map_nil, List.foldr_cons, List.foldr_nil, List.replicate_succ, List.replicate_zero, List.cons_append, List.nil_append, sOPar, sOOPar, dOIx, sNest, sCallP, dOLen, fnP, pC, pFrz, dPr, dVT, dTIx, sSetT, sParT, asTI, asI_iL]
  rfl
theorem all_bindE {α β : Type} (t : Tree α) (f : α → Tree β) (Q : β → Prop) : (t.bind f).All Q = t.All fun a => (f a).All Q := propext all_bind
theorem all_retE {α : Type} (a : α) (Q : α → Prop) : (Tree.ret a).All Q = Q a := rfl
theorem all_take {n : Int} {Q : PyData → Prop} (n0 : 0 < n) (n1 : n < 4611686018427387904) (h : ∀ r : Int, 0 ≤ r → r < n → Q (.int r)) : (takeF [.bx, .d (.int n)]).All Q := by
  show (if 0 < n ∧ n < 4611686018427387904 then Tree.draw n.toNat fun r => Tree.ret (PyData.int (r : Int)) else .fail).All Q
  rw [if_pos ⟨n0, n1⟩]
  exact fun r hr => h (r : Int) (by omega) (by omega)
theorem all_mapT {α β : Type} {f : α → Tree β} {P : β → Prop} : ∀ {xs : List α}, (∀ x ∈ xs, (f x).All P) → ∀ {Q : List β → Prop}, (∀ ys, ys.length = xs.length → (∀ y ∈ ys, P y) → Q ys) → (mapT f xs).All Q
  | [], _, Q, k => k [] rfl (fun y hy => nomatch hy)
  | x :: xs, h, Q, k => by
    rw [mapT, all_bindE]
    refine (h x (List.mem_cons_self ..)).imp fun y hy => ?_
    rw [all_bindE]
    refine all_mapT (P := P) (fun x hx => h x (List.mem_cons_of_mem _ hx)) fun ys hl hP => k (y :: ys) (by simp [hl]) fun z hz => ?_
    rcases List.mem_cons.mp hz with rfl | hz
    · exact hy
    · exact hP z hz
theorem all_forT {t : Tgt} {body : DenS} {Q : Out → Prop} : ∀ {xs : List PyData} {E : Env} (I : Nat → Env → Prop), I 0 E → (∀ (i : Nat) x E, xs[i]? = some x → I i E → ∃ E', putE t x E = some E' ∧ (body E').All fun o => match o with | .nx E2 => I (i + 1) E2 | .ct E2 => I (i + 1) E2 | .bk E2 => Q (.nx E2) | .rt v => Q (.rt v)) → (∀ E, I xs.length E → Q (.nx E)) → (forT t body xs E).All Q
  | [], E, I, h0, _, hd => hd E h0
  | x :: xs, E, I, h0, hs, hd => by
    obtain ⟨E', e, hb⟩ := hs 0 x E rfl h0
    rw [forT, e, lift_some, ret_bind, all_bindE]
    refine hb.imp fun o ho => ?_
    cases o with
    | nx E2 => exact all_forT (fun i => I (i + 1)) ho (fun i y E hy hi => hs (i + 1) y E (by simpa using hy) hi) fun E h => hd E (by simpa using h)
    | ct E2 => exact all_forT (fun i => I (i + 1)) ho (fun i y E hy hi => hs (i + 1) y E (by simpa using hy) hi) fun E h => hd E (by simpa using h)
    | bk E2 => exact ho
    | rt v => exact ho
theorem all_law_of {ds : List PyData} {Q : PyData → Prop} (hne : ds ≠ []) (hl : ds.length ≤ 1000) (h : ∀ d ∈ ds, Q d) : (m_law_of [.bx, .d (.list ds)]).All Q := by
  have h0 := List.length_pos_iff.mpr hne
  simp only [m_law_of, b_law_of, Nat.reduceSub, Nat.reduceAdd, reduceIte, Tree.bind, liftO, dV, d1, d2, aV, aE, a0, aC, dCall, sRet, outV, fnF, lenIs, ent, pLen, it_l, List.getElem?_cons_succ, List.getElem?_cons_zero, List.length_cons, List.length_nil, List.map_cons, List.map_nil, List.replicate_zero, List.cons_append, List.nil_append, all_bindE]
  refine all_take (by omega) (by omega) fun r r0 r1 => ?_
  have hr : r.toNat < ds.length := by omega
  rw [pIx_I (it_l _) r0 (List.getElem?_eq_getElem hr)]
  exact h _ (List.getElem_mem hr)
theorem all_law_span {m : Nat} {Q : PyData → Prop} (m0 : 2 ≤ m) (m1 : m ≤ 1000) (h : ∀ n : Nat, 2 ≤ n → n ≤ m → Q (.int (n : Int))) : (m_law_span [.bx, .d (.int (m : Int))]).All Q := by
  simp only [m_law_span, b_law_span, Nat.reduceSub, Nat.reduceAdd, reduceIte, Tree.bind, liftO, dIdx, sAsgL, sPar4, dV, dC, d1, d2, t1, t2, l0, lC, dL, dT, aV, aE, a0, aC, dCall, dCallK, dIf, tTr, tV, truth, asB, tNot, tAnd, tOr, dAnd, dOr, sSet, sAsg, sPar, sRet, s0, sC, sIf, sX, sOwn, sApp, sFrz, frzE, sFor, outV, fnF, lenIs, ent, small, few, putE, putsE, wipeE, it_l, it_t, iS, iR1, iR2, wEn, wZ2, wZ3, dLc, dLf, dSl, oN, oS, pCut, pSub, cI, bD, pIx, pList, pTup, pLen, pNot, qIsN, qNotN, pIsN, pNotN, List.getElem?_cons_succ, List.getElem?_cons_zero, List.set_cons_succ, List.set_cons_zero, List.length_cons, List.length_nil, List.map_cons, List.map_nil, List.foldr_cons, List.foldr_nil, List.replicate_succ, List.replicate_zero, List.cons_append, List.nil_append, sOPar, sOOPar, dOIx, sNest, sCallP, dOLen, fnP, pC, pFrz, dPr, dVT, dTIx, sSetT, sParT, asTI, asI_iL, all_bindE]
  refine all_take (by omega) (by omega) fun r r0 r1 => ?_
  have := h (2 + r.toNat) (by omega) (by omega)
  rw [show ((2 + r.toNat : Nat) : Int) = 2 + r by omega] at this
  exact this
theorem iL_take (ns : List Int) (k : Nat) : (iL ns).take k = iL (ns.take k) := List.map_take.symm
theorem tbl_round {n k : Nat} {b : Int} (n0 : 0 < n) (hk : k ≤ n) : Tbl n (srt ((cnt k).map fun j => (b + j) % n)) ∧ (srt ((cnt k).map fun j => (b + j) % n)).length = k := by
  refine ⟨tbl_srt ?_ fun x hx => ?_, by rw [srt_len, List.length_map, cnt_len]⟩
  · unfold cnt
    rw [List.map_map, List.Nodup, List.pairwise_map]
    refine List.Pairwise.imp_of_mem (R := fun a b => a < b) (fun {x y} hx hy hxy e => ?_) List.pairwise_lt_range
    have h1 := List.mem_range.mp hx
    have h2 := List.mem_range.mp hy
    simp only [Function.comp] at e
    have e2 := Int.emod_emod_of_dvd (b + (y : Int)) (Int.dvd_refl (n : Int))
    have h3 : ((b + (y : Int)) - (b + (x : Int))) % (n : Int) = 0 := by
      rw [Int.sub_emod, e]
      simp
    have h4 : ((b + (y : Int)) - (b + (x : Int))) = ((y - x : Nat) : Int) := by omega
    rw [h4] at h3
    have h5 : (y - x) % n = 0 := by exact_mod_cast h3
    rw [Nat.mod_eq_of_lt (by omega)] at h5
    omega
  · obtain ⟨j, _, rfl⟩ := List.mem_map.mp hx
    exact ⟨Int.emod_nonneg _ (by omega), Int.emod_lt_of_pos _ (by omega)⟩
theorem tbl_strewn {n k : Nat} {ms : List Int} (hk : k ≤ n) (hp : ms.Perm (cnt n)) : Tbl n (srt (ms.take k)) ∧ (srt (ms.take k)).length = k := by
  have hl := hp.length_eq
  rw [cnt_len] at hl
  have hm : ∀ x ∈ cnt n, 0 ≤ x ∧ x < (n : Int) := fun x hx => by
    obtain ⟨j, hj, rfl⟩ := List.mem_map.mp hx
    have := List.mem_range.mp hj
    omega
  have hd : (cnt n).Nodup := by
    unfold cnt
    rw [List.Nodup, List.pairwise_map]
    exact List.Pairwise.imp (fun {a b} h e => by omega) List.pairwise_lt_range
  refine ⟨tbl_srt ((hp.nodup_iff.mpr hd).sublist (List.take_sublist _ _)) fun x hx => hm x (hp.mem_iff.mp (List.mem_of_mem_take hx)), ?_⟩
  rw [srt_len, List.length_take]
  omega
theorem all_law_crowd {n k : Nat} {Q : PyData → Prop} (n0 : 1 ≤ n) (n1 : n ≤ 1000) (hk : k ≤ n) (h : ∀ ns : List Int, Tbl n ns → ns.length = k → Q (.tuple (iL ns))) : (m_law_crowd [.bx, .d (.int (n : Int)), .d (.int (k : Int))]).All Q := by
  have n0' : (0 : Int) < n := by omega
  simp only [m_law_crowd, b_law_crowd, Nat.reduceSub, Nat.reduceAdd, reduceIte, Tree.bind, liftO, dIdx, sAsgL, sPar4, dV, dC, d1, d2, t1, t2, l0, lC, dL, dT, aV, aE, a0, aC, dCall, dCallK, dIf, tTr, tV, truth, asB, tNot, tAnd, tOr, dAnd, dOr, sSet, sAsg, sPar, sRet, s0, sC, sIf, sX, sOwn, sApp, sFrz, frzE, sFor, outV, fnF, lenIs, ent, small, few, putE, putsE, wipeE, it_l, it_t, iS, iR1, iR2, wEn, wZ2, wZ3, dLc, dLf, dSl, oN, oS, pCut, pSub, cI, bD, pIx, pList, pTup, pLen, pNot, qIsN, qNotN, pIsN, pNotN, List.getElem?_cons_succ, List.getElem?_cons_zero, List.set_cons_succ, List.set_cons_zero, List.length_cons, List.length_nil, List.map_cons, List.map_nil, List.foldr_cons, List.foldr_nil, List.replicate_succ, List.replicate_zero, List.cons_append, List.nil_append, sOPar, sOOPar, dOIx, sNest, sCallP, dOLen, fnP, pC, pFrz, dPr, dVT, dTIx, sSetT, sParT, asTI, asI_iL, all_bindE]
  refine all_take (by omega) (by omega) fun r r0 r1 => ?_
  rw [pEq_ii]
  by_cases hr : r = 0
  · simp only [hr, decide_true, all_bindE, all_retE]
    refine all_take (by omega) (by omega) fun b b0 b1 => ?_
    simp only [Nat.reduceSub, Nat.reduceAdd, reduceIte, Tree.bind, liftO, dIdx, sAsgL, sPar4, dV, dC, d1, d2, t1, t2, l0, lC, dL, dT, aV, aE, a0, aC, dCall, dCallK, dIf, tTr, tV, truth, asB, tNot, tAnd, tOr, dAnd, dOr, sSet, sAsg, sPar, sRet, s0, sC, sIf, sX, sOwn, sApp, sFrz, frzE, sFor, outV, fnF, lenIs, ent, small, few, putE, putsE, wipeE, it_l, it_t, iS, iR1, iR2, wEn, wZ2, wZ3, dLc, dLf, dSl, oN, oS, pCut, pSub, cI, bD, pIx, pList, pTup, pLen, pNot, qIsN, qNotN, pIsN, pNotN, List.getElem?_cons_succ, List.getElem?_cons_zero, List.set_cons_succ, List.set_cons_zero, List.length_cons, List.length_nil, List.map_cons, List.map_nil, List.foldr_cons, List.foldr_nil, List.replicate_succ, List.replicate_zero, List.cons_append, List.nil_append, sOPar, sOOPar, dOIx, sNest, sCallP, dOLen, fnP, pC, pFrz, dPr, dVT, dTIx, sSetT, sParT, asTI, asI_iL, all_bindE, all_retE, rg1_nat (show k ≤ 100000 by omega), nums_len, if_pos (show k ≤ 50000 by omega)]
    rw [nums_cnt, mapT_I (g := fun j => (b + j) % n) fun x hx => by simp only [Nat.reduceSub, Nat.reduceAdd, reduceIte, Tree.bind, liftO, dIdx, sAsgL, sPar4, dV, dC, d1, d2, t1, t2, l0, lC, dL, dT, aV, aE, a0, aC, dCall, dCallK, dIf, tTr, tV, truth, asB, tNot, tAnd, tOr, dAnd, dOr, sSet, sAsg, sPar, sRet, s0, sC, sIf, sX, sOwn, sApp, sFrz, frzE, sFor, outV, fnF, lenIs, ent, small, few, putE, putsE, wipeE, it_l, it_t, iS, iR1, iR2, wEn, wZ2, wZ3, dLc, dLf, dSl, oN, oS, pCut, pSub, cI, bD, pIx, pList, pTup, pLen, pNot, qIsN, qNotN, pIsN, pNotN, List.getElem?_cons_succ, List.getElem?_cons_zero, List.set_cons_succ, List.set_cons_zero, List.length_cons, List.length_nil, List.map_cons, List.map_nil, List.foldr_cons, List.foldr_nil, List.replicate_succ, List.replicate_zero, List.cons_append, List.nil_append, sOPar, sOOPar, dOIx, sNest, sCallP, dOLen, fnP, pC, pFrz, dPr, dVT, dTIx, sSetT, sParT, asTI, asI_iL, pMod, pAdd, if_pos n0']]
    simp only [Nat.reduceSub, Nat.reduceAdd, reduceIte, Tree.bind, liftO, dIdx, sAsgL, sPar4, dV, dC, d1, d2, t1, t2, l0, lC, dL, dT, aV, aE, a0, aC, dCall, dCallK, dIf, tTr, tV, truth, asB, tNot, tAnd, tOr, dAnd, dOr, sSet, sAsg, sPar, sRet, s0, sC, sIf, sX, sOwn, sApp, sFrz, frzE, sFor, outV, fnF, lenIs, ent, small, few, putE, putsE, wipeE, it_l, it_t, iS, iR1, iR2, wEn, wZ2, wZ3, dLc, dLf, dSl, oN, oS, pCut, pSub, cI, bD, pIx, pList, pTup, pLen, pNot, qIsN, qNotN, pIsN, pNotN, List.getElem?_cons_succ, List.getElem?_cons_zero, List.set_cons_succ, List.set_cons_zero, List.length_cons, List.length_nil, List.map_cons, List.map_nil, List.foldr_cons, List.foldr_nil, List.replicate_succ, List.replicate_zero, List.cons_append, List.nil_append, sOPar, sOOPar, dOIx, sNest, sCallP, dOLen, fnP, pC, pFrz, dPr, dVT, dTIx, sSetT, sParT, asTI, asI_iL, all_bindE, all_retE, pSrt_of]
    obtain ⟨t1, t2⟩ := tbl_round (b := b) (show 0 < n by omega) hk
    exact h _ t1 t2
  · simp only [hr, decide_false, all_bindE, all_retE, Tree.bind, liftO, dIdx, sAsgL, sPar4, dV, dC, d1, d2, t1, t2, l0, lC, dL, dT, aV, aE, a0, aC, dCall, dCallK, dIf, tTr, tV, truth, asB, tNot, tAnd, tOr, dAnd, dOr, sSet, sAsg, sPar, sRet, s0, sC, sIf, sX, sOwn, sApp, sFrz, frzE, sFor, outV, fnF, lenIs, ent, small, few, putE, putsE, wipeE, it_l, it_t, iS, iR1, iR2, wEn, wZ2, wZ3, dLc, dLf, dSl, oN, oS, pCut, pSub, cI, bD, pIx, pList, pTup, pLen, pNot, qIsN, qNotN, pIsN, pNotN, List.getElem?_cons_succ, List.getElem?_cons_zero, List.set_cons_succ, List.set_cons_zero, List.length_cons, List.length_nil, List.map_cons, List.map_nil, List.foldr_cons, List.foldr_nil, List.replicate_succ, List.replicate_zero, List.cons_append, List.nil_append, sOPar, sOOPar, dOIx, sNest, sCallP, dOLen, fnP, pC, pFrz, dPr, dVT, dTIx, sSetT, sParT, asTI, asI_iL, lrg, rg1_nat (show n ≤ 100000 by omega), strewnF, nums_len, if_pos (show n ≤ 1000 by omega)]
    refine strewn_all n (nums n) (nums_len n) fun es hp => ?_
    rw [nums_cnt] at hp
    obtain ⟨ms, rfl, hp2⟩ := perm_ints hp
    rw [cutD_to, iL_take]
    simp only [Tree.bind, liftO, dIdx, sAsgL, sPar4, dV, dC, d1, d2, t1, t2, l0, lC, dL, dT, aV, aE, a0, aC, dCall, dCallK, dIf, tTr, tV, truth, asB, tNot, tAnd, tOr, dAnd, dOr, sSet, sAsg, sPar, sRet, s0, sC, sIf, sX, sOwn, sApp, sFrz, frzE, sFor, outV, fnF, lenIs, ent, small, few, putE, putsE, wipeE, it_l, it_t, iS, iR1, iR2, wEn, wZ2, wZ3, dLc, dLf, dSl, oN, oS, pCut, pSub, cI, bD, pIx, pList, pTup, pLen, pNot, qIsN, qNotN, pIsN, pNotN, List.getElem?_cons_succ, List.getElem?_cons_zero, List.set_cons_succ, List.set_cons_zero, List.length_cons, List.length_nil, List.map_cons, List.map_nil, List.foldr_cons, List.foldr_nil, List.replicate_succ, List.replicate_zero, List.cons_append, List.nil_append, sOPar, sOOPar, dOIx, sNest, sCallP, dOLen, fnP, pC, pFrz, dPr, dVT, dTIx, sSetT, sParT, asTI, asI_iL, pSrt_of, all_bindE, all_retE]
    obtain ⟨t1, t2⟩ := tbl_strewn hk hp2
    exact h _ t1 t2
theorem inR_srt {n : Nat} {cs : List Int} (h : InR n cs) : InR n (srt cs) := fun x hx => h x (srt_mem.mp hx)
theorem pRev_of (l : List Int) : pRev (.list (iL l)) = some (.list (iL l.reverse)) := by
  show some (PyData.list (iL l).reverse) = _
  rw [show (iL l).reverse = iL l.reverse from List.map_reverse.symm]
theorem all_law_tour {n m : Nat} {Q : PyData → Prop} (n0 : 1 ≤ n) (n1 : n ≤ 1000) (m1 : m ≤ 1000) (h : ∀ cs : List Int, InR n cs → cs.length ≤ m → Q (.list (iL cs))) : (m_law_tour [.bx, .d (.int (n : Int)), .d (.int (m : Int))]).All Q := by
  simp only [m_law_tour, b_law_tour, Nat.reduceSub, Nat.reduceAdd, reduceIte, Tree.bind, liftO, dIdx, sAsgL, sPar4, dV, dC, d1, d2, t1, t2, l0, lC, dL, dT, aV, aE, a0, aC, dCall, dCallK, dIf, tTr, tV, truth, asB, tNot, tAnd, tOr, dAnd, dOr, sSet, sAsg, sPar, sRet, s0, sC, sIf, sX, sOwn, sApp, sFrz, frzE, sFor, outV, fnF, lenIs, ent, small, few, putE, putsE, wipeE, it_l, it_t, iS, iR1, iR2, wEn, wZ2, wZ3, dLc, dLf, dSl, oN, oS, pCut, pSub, cI, bD, pIx, pList, pTup, pLen, pNot, qIsN, qNotN, pIsN, pNotN, List.getElem?_cons_succ, List.getElem?_cons_zero, List.set_cons_succ, List.set_cons_zero, List.length_cons, List.length_nil, List.map_cons, List.map_nil, List.foldr_cons, List.foldr_nil, List.replicate_succ, List.replicate_zero, List.cons_append, List.nil_append, sOPar, sOOPar, dOIx, sNest, sCallP, dOLen, fnP, pC, pFrz, dPr, dVT, dTIx, sSetT, sParT, asTI, asI_iL, sParO, all_bindE, all_retE]
  refine all_take (by omega) (by omega) fun w w0 w1 => ?_
  simp only [Nat.reduceSub, Nat.reduceAdd, reduceIte, Tree.bind, liftO, dIdx, sAsgL, sPar4, dV, dC, d1, d2, t1, t2, l0, lC, dL, dT, aV, aE, a0, aC, dCall, dCallK, dIf, tTr, tV, truth, asB, tNot, tAnd, tOr, dAnd, dOr, sSet, sAsg, sPar, sRet, s0, sC, sIf, sX, sOwn, sApp, sFrz, frzE, sFor, outV, fnF, lenIs, ent, small, few, putE, putsE, wipeE, it_l, it_t, iS, iR1, iR2, wEn, wZ2, wZ3, dLc, dLf, dSl, oN, oS, pCut, pSub, cI, bD, pIx, pList, pTup, pLen, pNot, qIsN, qNotN, pIsN, pNotN, List.getElem?_cons_succ, List.getElem?_cons_zero, List.set_cons_succ, List.set_cons_zero, List.length_cons, List.length_nil, List.map_cons, List.map_nil, List.foldr_cons, List.foldr_nil, List.replicate_succ, List.replicate_zero, List.cons_append, List.nil_append, sOPar, sOOPar, dOIx, sNest, sCallP, dOLen, fnP, pC, pFrz, dPr, dVT, dTIx, sSetT, sParT, asTI, asI_iL, all_bindE, all_retE, Nat.reduceLeDiff, rg1_nat (k := 3) (by decide), show rg1 (.int 3) = some (nums 3) from rfl, nums_len]
  refine all_mapT (P := fun d => ∃ i : Int, d = .int i ∧ 0 ≤ i ∧ i < n) (fun x hx => ?_) fun fw hfl hfw => ?_
  · exact all_take (by omega) (by omega) fun r r0 r1 => ⟨r, rfl, r0, r1⟩
  rw [nums_len] at hfl
  simp only [Nat.reduceSub, Nat.reduceAdd, reduceIte, Tree.bind, liftO, dIdx, sAsgL, sPar4, dV, dC, d1, d2, t1, t2, l0, lC, dL, dT, aV, aE, a0, aC, dCall, dCallK, dIf, tTr, tV, truth, asB, tNot, tAnd, tOr, dAnd, dOr, sSet, sAsg, sPar, sRet, s0, sC, sIf, sX, sOwn, sApp, sFrz, frzE, sFor, outV, fnF, lenIs, ent, small, few, putE, putsE, wipeE, it_l, it_t, iS, iR1, iR2, wEn, wZ2, wZ3, dLc, dLf, dSl, oN, oS, pCut, pSub, cI, bD, pIx, pList, pTup, pLen, pNot, qIsN, qNotN, pIsN, pNotN, List.getElem?_cons_succ, List.getElem?_cons_zero, List.set_cons_succ, List.set_cons_zero, List.length_cons, List.length_nil, List.map_cons, List.map_nil, List.foldr_cons, List.foldr_nil, List.replicate_succ, List.replicate_zero, List.cons_append, List.nil_append, sOPar, sOOPar, dOIx, sNest, sCallP, dOLen, fnP, pC, pFrz, dPr, dVT, dTIx, sSetT, sParT, asTI, asI_iL, all_bindE, all_retE, pAdd]
  refine all_take (by omega) (by omega) fun r r0 r1 => ?_
  obtain ⟨r, rfl⟩ : ∃ j : Nat, r = (j : Int) := ⟨r.toNat, by omega⟩
  rw [rg1_nat (by omega)]
  simp only [all_retE]
  refine all_forT (I := fun i E => ∃ x4, ∃ cs : List Int, E = [some .bx, some (.d (.int (n : Int))), some (.d (.int (m : Int))), some (.d (.list fw)), x4, some (.d (.int w)), some (.own (iL cs))] ∧ InR n cs ∧ cs.length = i) ⟨_, [], rfl, (by intro x hx; cases hx), rfl⟩ (fun i x E hx hI => ?_) fun E hI => ?_
  · obtain ⟨x4, cs, rfl, hcr, hcl⟩ := hI
    have hi : i < r := by
      have := (List.getElem?_eq_some_iff.mp hx).1
      rw [nums_len] at this
      exact this
    refine ⟨_, rfl, ?_⟩
    have fin : ∀ d : PyData, (∃ i : Int, d = .int i ∧ 0 ≤ i ∧ i < n) → ∃ x4, ∃ cs2 : List Int, [some W.bx, some (.d (.int (n : Int))), some (.d (.int (m : Int))), some (.d (.list fw)), some (.d x), some (.d (.int w)), some (.own (iL cs ++ [d]))] = [some .bx, some (.d (.int (n : Int))), some (.d (.int (m : Int))), some (.d (.list fw)), x4, some (.d (.int w)), some (.own (iL cs2))] ∧ InR n cs2 ∧ cs2.length = i + 1 := fun d ⟨j, hj, j0, j1⟩ => by
      subst hj
      refine ⟨some (.d x), cs ++ [j], by simp [iL], fun y hy => ?_, by simp [hcl]⟩
      rcases List.mem_append.mp hy with hy | hy
      · exact hcr y hy
      · rw [List.mem_singleton.mp hy]
        exact ⟨j0, j1⟩
    simp only [Nat.reduceSub, Nat.reduceAdd, reduceIte, Tree.bind, liftO, dIdx, sAsgL, sPar4, dV, dC, d1, d2, t1, t2, l0, lC, dL, dT, aV, aE, a0, aC, dCall, dCallK, dIf, tTr, tV, truth, asB, tNot, tAnd, tOr, dAnd, dOr, sSet, sAsg, sPar, sRet, s0, sC, sIf, sX, sOwn, sApp, sFrz, frzE, sFor, outV, fnF, lenIs, ent, small, few, putE, putsE, wipeE, it_l, it_t, iS, iR1, iR2, wEn, wZ2, wZ3, dLc, dLf, dSl, oN, oS, pCut, pSub, cI, bD, pIx, pList, pTup, pLen, pNot, qIsN, qNotN, pIsN, pNotN, List.getElem?_cons_succ, List.getElem?_cons_zero, List.set_cons_succ, List.set_cons_zero, List.length_cons, List.length_nil, List.map_cons, List.map_nil, List.foldr_cons, List.foldr_nil, List.replicate_succ, List.replicate_zero, List.cons_append, List.nil_append, sOPar, sOOPar, dOIx, sNest, sCallP, dOLen, fnP, pC, pFrz, dPr, dVT, dTIx, sSetT, sParT, asTI, asI_iL, all_bindE, all_retE, pEq_ii, iL_len, if_pos (show cs.length + 1 ≤ 100000 by omega)]
    by_cases hw : w = 0
    · simp only [hw, decide_true]
      rw [hw] at fin
      exact all_law_of (fun e => by rw [e] at hfl; simp at hfl) (by omega) fun d hd => fin d (hfw d hd)
    · simp only [hw, decide_false]
      exact all_take (by omega) (by omega) fun j j0 j1 => fin _ ⟨j, rfl, j0, j1⟩
  · obtain ⟨x4, cs, rfl, hcr, hcl⟩ := hI
    rw [nums_len] at hcl
    simp only [Nat.reduceSub, Nat.reduceAdd, reduceIte, Tree.bind, liftO, dIdx, sAsgL, sPar4, dV, dC, d1, d2, t1, t2, l0, lC, dL, dT, aV, aE, a0, aC, dCall, dCallK, dIf, tTr, tV, truth, asB, tNot, tAnd, tOr, dAnd, dOr, sSet, sAsg, sPar, sRet, s0, sC, sIf, sX, sOwn, sApp, sFrz, frzE, sFor, outV, fnF, lenIs, ent, small, few, putE, putsE, wipeE, it_l, it_t, iS, iR1, iR2, wEn, wZ2, wZ3, dLc, dLf, dSl, oN, oS, pCut, pSub, cI, bD, pIx, pList, pTup, pLen, pNot, qIsN, qNotN, pIsN, pNotN, List.getElem?_cons_succ, List.getElem?_cons_zero, List.set_cons_succ, List.set_cons_zero, List.length_cons, List.length_nil, List.map_cons, List.map_nil, List.foldr_cons, List.foldr_nil, List.replicate_succ, List.replicate_zero, List.cons_append, List.nil_append, sOPar, sOOPar, dOIx, sNest, sCallP, dOLen, fnP, pC, pFrz, dPr, dVT, dTIx, sSetT, sParT, asTI, asI_iL, all_bindE, all_retE, pSrt_of, pRev_of, Nat.reduceLeDiff]
    have hw : w = 0 ∨ w = 1 ∨ w = 2 ∨ w = 3 ∨ w = 4 := by omega
    rcases hw with rfl | rfl | rfl | rfl | rfl
    · exact h cs hcr (by omega)
    · exact h cs hcr (by omega)
    · exact h cs hcr (by omega)
    · exact h (srt cs) (inR_srt hcr) (by rw [srt_len]; omega)
    · exact h (srt cs).reverse (fun x hx => inR_srt hcr x (List.mem_reverse.mp hx)) (by rw [List.length_reverse, srt_len]; omega)
theorem forT_det {t : Tgt} {body : DenS} {P : Out → Prop} : ∀ {xs : List PyData} {E : Env} (I : Nat → Env → Prop), I 0 E → (∀ (i : Nat) x E, xs[i]? = some x → I i E → ∃ E', putE t x E = some E' ∧ ∃ o, body E' = .ret o ∧ match o with | .nx E2 => I (i + 1) E2 | .ct E2 => I (i + 1) E2 | .bk E2 => P (.nx E2) | .rt v => P (.rt v)) → (∀ E, I xs.length E → P (.nx E)) → ∃ o, forT t body xs E = .ret o ∧ P o
  | [], E, I, h0, _, hd => ⟨_, rfl, hd E h0⟩
  | x :: xs, E, I, h0, hs, hd => by
    obtain ⟨E', e, o, hb, ho⟩ := hs 0 x E rfl h0
    rw [forT, e, lift_some, ret_bind, hb, ret_bind]
    cases o with
    | nx E2 => exact forT_det (fun i => I (i + 1)) ho (fun i y E hy hi => hs (i + 1) y E (by simpa using hy) hi) fun E h => hd E (by simpa using h)
    | ct E2 => exact forT_det (fun i => I (i + 1)) ho (fun i y E hy hi => hs (i + 1) y E (by simpa using hy) hi) fun E h => hd E (by simpa using h)
    | bk E2 => exact ⟨_, rfl, ho⟩
    | rt v => exact ⟨_, rfl, ho⟩
theorem forT_then {C : Tree Out → Prop} {t : Tgt} {body : DenS} {xs : List PyData} {E : Env} {P : Out → Prop} (I : Nat → Env → Prop) (h0 : I 0 E) (hs : ∀ (i : Nat) x E, xs[i]? = some x → I i E → ∃ E', putE t x E = some E' ∧ ∃ o, body E' = .ret o ∧ match o with | .nx E2 => I (i + 1) E2 | .ct E2 => I (i + 1) E2 | .bk E2 => P (.nx E2) | .rt v => P (.rt v)) (hd : ∀ E, I xs.length E → P (.nx E)) (k : ∀ o, P o → C (.ret o)) : C (forT t body xs E) := by
  obtain ⟨o, e, h⟩ := forT_det I h0 hs hd
  rw [e]
  exact k o h
theorem nums_at {n i : Nat} {x : PyData} (h : (nums n)[i]? = some x) : i < n ∧ x = .int (i : Int) := by
  have hi : i < n := by
    have := (List.getElem?_eq_some_iff.mp h).1
    rw [nums_len] at this
    exact this
  rw [nums_get hi] at h
  exact ⟨hi, (Option.some.inj h).symm⟩
theorem pAdd_ii (i j : Int) : pAdd (.int i) (.int j) = some (.int (i + j)) := rfl
theorem pAdd_l {a b : List Int} (h : a.length + b.length ≤ 100000) : pAdd (.list (iL a)) (.list (iL b)) = some (.list (iL (a ++ b))) := by
  show (if (iL a).length + (iL b).length ≤ 100000 then some (PyData.list (iL a ++ iL b)) else none) = _
  rw [if_pos (by rw [iL_len, iL_len]; exact h), show iL a ++ iL b = iL (a ++ b) from List.map_append.symm]
theorem iL_drop (ns : List Int) (k : Nat) : (iL ns).drop k = iL (ns.drop k) := List.map_drop.symm
theorem prs_len (xs ys : List PyData) : (prs xs ys).length = min xs.length ys.length := by simp [prs]
theorem pMod_of {i n : Int} (n0 : 0 < n) : pMod (.int i) (.int n) = some (.int (i % n)) := by
  show (if 0 < n then some (PyData.int (i % n)) else none) = _
  rw [if_pos n0]
theorem pkS_un {n k : Nat} {c : Int} (k0 : 1 ≤ k) : (List.range k).map (fun (b : Nat) => c - (b : Int)) = rowOf (pk n k c) (fun a => -(a : Int)) k := by
  unfold rowOf
  refine List.map_congr_left fun a ha => ?_
  have := List.mem_range.mp ha
  unfold pk
  have e1 : ((-(a : Int) + k - 1) % k) = k - 1 - a := by
    rw [Int.emod_eq_of_lt (by omega) (by omega)]
    omega
  have e2 : ((-(a : Int) + k - 1) / k) = 0 := Int.ediv_eq_zero_of_lt (by omega) (by omega)
  rw [e1, e2]
  omega
def folS (n c : Int) (ws : List Int) : List Int := ((cnt ws.length).zip ws).map fun q => (c - q.1 - q.2) % n
def folR (n c : Int) (ws : List Int) (M : List (List Int)) : List Int := (ws.zip (stepsBy n M (folS n c ws))).map fun q => q.1 + q.2
def folM (n : Nat) (M1 M2 : List (List Int)) : List (List Int) := (List.range n).map fun (c : Nat) => folR n (c : Int) (M1.getD c []) M2
theorem folS_len {n c : Int} {ws : List Int} : (folS n c ws).length = ws.length := by simp [folS, cnt_len]
theorem ev_pack_followed {n : Nat} {c : Int} {w d : PyData} {ws : List Int} {M : List (List Int)} (hw : items w = some (iL ws)) (hM : Mv M d) (ok : MOk n ws.length M) (n0 : 0 < n) (hne : ws ≠ []) (hl : ws.length ≤ 1000) : m_pack_followed [.d (.int (n : Int)), .d (.int c), .d w, .d d] = .ret (.tuple (iL (folR n c ws M))) := by
  have n0' : (0 : Int) < n := by omega
  have hfl := folS_len (n := n) (c := c) (ws := ws)
  have hfn : folS n c ws ≠ [] := fun e => hne (by
    have := congrArg List.length e
    rw [hfl] at this
    exact List.length_eq_zero_iff.mp this)
  simp only [m_pack_followed, b_pack_followed, Nat.reduceSub, Nat.reduceAdd, reduceIte, Tree.bind, liftO, dIdx, sAsgL, sPar4, dV, dC, d1, d2, t1, t2, l0, lC, dL, dT, aV, aE, a0, aC, dCall, dCallK, dIf, tTr, tV, truth, asB, tNot, tAnd, tOr, dAnd, dOr, sSet, sAsg, sPar, sRet, s0, sC, sIf, sX, sOwn, sApp, sFrz, frzE, sFor, outV, fnF, lenIs, ent, small, few, putE, putsE, wipeE, it_l, it_t, iS, iR1, iR2, wEn, wZ2, wZ3, dLc, dLf, dSl, oN, oS, pCut, pSub, cI, bD, pIx, pList, pTup, pLen, pNot, qIsN, qNotN, pIsN, pNotN, List.getElem?_cons_succ, List.getElem?_cons_zero, List.set_cons_succ, List.set_cons_zero, List.length_cons, List.length_nil, List.map_cons, List.map_nil, List.foldr_cons, List.foldr_nil, List.replicate_succ, List.replicate_zero, List.cons_append, List.nil_append, sOPar, sOOPar, dOIx, sNest, sCallP, dOLen, fnP, pC, pFrz, dPr, dVT, dTIx, sSetT, sParT, asTI, asI_iL, hw, prs_len, nums_len, iL_len, if_pos (show min ws.length ws.length ≤ 50000 by omega)]
  rw [nums_cnt, mapT_2 (g := fun q => (c - q.1 - q.2) % n) fun q hq => by simp only [Nat.reduceSub, Nat.reduceAdd, reduceIte, Tree.bind, liftO, dIdx, sAsgL, sPar4, dV, dC, d1, d2, t1, t2, l0, lC, dL, dT, aV, aE, a0, aC, dCall, dCallK, dIf, tTr, tV, truth, asB, tNot, tAnd, tOr, dAnd, dOr, sSet, sAsg, sPar, sRet, s0, sC, sIf, sX, sOwn, sApp, sFrz, frzE, sFor, outV, fnF, lenIs, ent, small, few, putE, putsE, wipeE, it_l, it_t, iS, iR1, iR2, wEn, wZ2, wZ3, dLc, dLf, dSl, oN, oS, pCut, pSub, cI, bD, pIx, pList, pTup, pLen, pNot, qIsN, qNotN, pIsN, pNotN, List.getElem?_cons_succ, List.getElem?_cons_zero, List.set_cons_succ, List.set_cons_zero, List.length_cons, List.length_nil, List.map_cons, List.map_nil, List.foldr_cons, List.foldr_nil, List.replicate_succ, List.replicate_zero, List.cons_append, List.nil_append, sOPar, sOOPar, dOIx, sNest, sCallP, dOLen, fnP, pC, pFrz, dPr, dVT, dTIx, sSetT, sParT, asTI, asI_iL, pMod_of n0']]
  rw [show ((cnt ws.length).zip ws).map (fun q => (c - q.1 - q.2) % n) = folS n c ws from rfl]
  have hsl : (stepsBy n M (folS n c ws)).length = ws.length := by simp [stepsBy, folS_len]
  simp only [Nat.reduceSub, Nat.reduceAdd, reduceIte, Tree.bind, liftO, dIdx, sAsgL, sPar4, dV, dC, d1, d2, t1, t2, l0, lC, dL, dT, aV, aE, a0, aC, dCall, dCallK, dIf, tTr, tV, truth, asB, tNot, tAnd, tOr, dAnd, dOr, sSet, sAsg, sPar, sRet, s0, sC, sIf, sX, sOwn, sApp, sFrz, frzE, sFor, outV, fnF, lenIs, ent, small, few, putE, putsE, wipeE, it_l, it_t, iS, iR1, iR2, wEn, wZ2, wZ3, dLc, dLf, dSl, oN, oS, pCut, pSub, cI, bD, pIx, pList, pTup, pLen, pNot, qIsN, qNotN, pIsN, pNotN, List.getElem?_cons_succ, List.getElem?_cons_zero, List.set_cons_succ, List.set_cons_zero, List.length_cons, List.length_nil, List.map_cons, List.map_nil, List.foldr_cons, List.foldr_nil, List.replicate_succ, List.replicate_zero, List.cons_append, List.nil_append, sOPar, sOOPar, dOIx, sNest, sCallP, dOLen, fnP, pC, pFrz, dPr, dVT, dTIx, sSetT, sParT, asTI, asI_iL, hw, ev_steps_by hM (by rw [hfl]; exact ok) (it_l _) n0 hfn (by rw [hfl]; exact hl), prs_len, iL_len, hsl, if_pos (show min ws.length ws.length ≤ 50000 by omega)]
  rw [mapT_2 (g := fun q => q.1 + q.2) fun q hq => by simp only [Nat.reduceSub, Nat.reduceAdd, reduceIte, Tree.bind, liftO, dIdx, sAsgL, sPar4, dV, dC, d1, d2, t1, t2, l0, lC, dL, dT, aV, aE, a0, aC, dCall, dCallK, dIf, tTr, tV, truth, asB, tNot, tAnd, tOr, dAnd, dOr, sSet, sAsg, sPar, sRet, s0, sC, sIf, sX, sOwn, sApp, sFrz, frzE, sFor, outV, fnF, lenIs, ent, small, few, putE, putsE, wipeE, it_l, it_t, iS, iR1, iR2, wEn, wZ2, wZ3, dLc, dLf, dSl, oN, oS, pCut, pSub, cI, bD, pIx, pList, pTup, pLen, pNot, qIsN, qNotN, pIsN, pNotN, List.getElem?_cons_succ, List.getElem?_cons_zero, List.set_cons_succ, List.set_cons_zero, List.length_cons, List.length_nil, List.map_cons, List.map_nil, List.foldr_cons, List.foldr_nil, List.replicate_succ, List.replicate_zero, List.cons_append, List.nil_append, sOPar, sOOPar, dOIx, sNest, sCallP, dOLen, fnP, pC, pFrz, dPr, dVT, dTIx, sSetT, sParT, asTI, asI_iL, pAdd_ii]]
  simp only [Tree.bind, liftO, dIdx, sAsgL, sPar4, dV, dC, d1, d2, t1, t2, l0, lC, dL, dT, aV, aE, a0, aC, dCall, dCallK, dIf, tTr, tV, truth, asB, tNot, tAnd, tOr, dAnd, dOr, sSet, sAsg, sPar, sRet, s0, sC, sIf, sX, sOwn, sApp, sFrz, frzE, sFor, outV, fnF, lenIs, ent, small, few, putE, putsE, wipeE, it_l, it_t, iS, iR1, iR2, wEn, wZ2, wZ3, dLc, dLf, dSl, oN, oS, pCut, pSub, cI, bD, pIx, pList, pTup, pLen, pNot, qIsN, qNotN, pIsN, pNotN, List.getElem?_cons_succ, List.getElem?_cons_zero, List.set_cons_succ, List.set_cons_zero, List.length_cons, List.length_nil, List.map_cons, List.map_nil, List.foldr_cons, List.foldr_nil, List.replicate_succ, List.replicate_zero, List.cons_append, List.nil_append, sOPar, sOOPar, dOIx, sNest, sCallP, dOLen, fnP, pC, pFrz, dPr, dVT, dTIx, sSetT, sParT, asTI, asI_iL]
  rfl
theorem ev_followed {n k : Nat} {u v : PyData} {M1 M2 : List (List Int)} (h1 : Mv M1 u) (h2 : Mv M2 v) (o1 : MOk n k M1) (o2 : MOk n k M2) (n0 : 0 < n) (n1 : n ≤ 1000) (k0 : 1 ≤ k) (k1 : k ≤ 1000) : m_followed [.d (.int (n : Int)), .d u, .d v] = .ret (.tuple (rowsT (folM n M1 M2))) := by
  simp only [m_followed, b_followed, Nat.reduceSub, Nat.reduceAdd, reduceIte, Tree.bind, liftO, dIdx, sAsgL, sPar4, dV, dC, d1, d2, t1, t2, l0, lC, dL, dT, aV, aE, a0, aC, dCall, dCallK, dIf, tTr, tV, truth, asB, tNot, tAnd, tOr, dAnd, dOr, sSet, sAsg, sPar, sRet, s0, sC, sIf, sX, sOwn, sApp, sFrz, frzE, sFor, outV, fnF, lenIs, ent, small, few, putE, putsE, wipeE, it_l, it_t, iS, iR1, iR2, wEn, wZ2, wZ3, dLc, dLf, dSl, oN, oS, pCut, pSub, cI, bD, pIx, pList, pTup, pLen, pNot, qIsN, qNotN, pIsN, pNotN, List.getElem?_cons_succ, List.getElem?_cons_zero, List.set_cons_succ, List.set_cons_zero, List.length_cons, List.length_nil, List.map_cons, List.map_nil, List.foldr_cons, List.foldr_nil, List.replicate_succ, List.replicate_zero, List.cons_append, List.nil_append, sOPar, sOOPar, dOIx, sNest, sCallP, dOLen, fnP, pC, pFrz, dPr, dVT, dTIx, sSetT, sParT, asTI, asI_iL, rg1_nat (show n ≤ 100000 by omega), nums_len, if_pos (show n ≤ 50000 by omega)]
  rw [mapT_R (g := fun c => .tuple (iL (folR n (c : Int) (M1.getD c []) M2))) fun c hc => by
    obtain ⟨rs, q1, q2, q3⟩ := h1
    have hcl : c < M1.length := by rw [o1.len]; exact hc
    obtain ⟨r, r1, r2⟩ := q3 c _ (List.getElem?_eq_getElem hcl)
    have hrl := o1.row c _ (List.getElem?_eq_getElem hcl)
    have eg : M1.getD c [] = M1[c] := by rw [List.getD_eq_getElem?_getD, List.getElem?_eq_getElem hcl, Option.getD_some]
    have hne : M1[c] ≠ [] := fun e => by rw [e] at hrl; simp at hrl; omega
    simp only [Nat.reduceSub, Nat.reduceAdd, reduceIte, Tree.bind, liftO, dIdx, sAsgL, sPar4, dV, dC, d1, d2, t1, t2, l0, lC, dL, dT, aV, aE, a0, aC, dCall, dCallK, dIf, tTr, tV, truth, asB, tNot, tAnd, tOr, dAnd, dOr, sSet, sAsg, sPar, sRet, s0, sC, sIf, sX, sOwn, sApp, sFrz, frzE, sFor, outV, fnF, lenIs, ent, small, few, putE, putsE, wipeE, it_l, it_t, iS, iR1, iR2, wEn, wZ2, wZ3, dLc, dLf, dSl, oN, oS, pCut, pSub, cI, bD, pIx, pList, pTup, pLen, pNot, qIsN, qNotN, pIsN, pNotN, List.getElem?_cons_succ, List.getElem?_cons_zero, List.set_cons_succ, List.set_cons_zero, List.length_cons, List.length_nil, List.map_cons, List.map_nil, List.foldr_cons, List.foldr_nil, List.replicate_succ, List.replicate_zero, List.cons_append, List.nil_append, sOPar, sOOPar, dOIx, sNest, sCallP, dOLen, fnP, pC, pFrz, dPr, dVT, dTIx, sSetT, sParT, asTI, asI_iL, q1, atI_nat r1, ev_pack_followed (c := (c : Int)) r2 h2 (by rw [hrl]; exact o2) n0 hne (by omega), eg]]
  simp only [Tree.bind, liftO, dIdx, sAsgL, sPar4, dV, dC, d1, d2, t1, t2, l0, lC, dL, dT, aV, aE, a0, aC, dCall, dCallK, dIf, tTr, tV, truth, asB, tNot, tAnd, tOr, dAnd, dOr, sSet, sAsg, sPar, sRet, s0, sC, sIf, sX, sOwn, sApp, sFrz, frzE, sFor, outV, fnF, lenIs, ent, small, few, putE, putsE, wipeE, it_l, it_t, iS, iR1, iR2, wEn, wZ2, wZ3, dLc, dLf, dSl, oN, oS, pCut, pSub, cI, bD, pIx, pList, pTup, pLen, pNot, qIsN, qNotN, pIsN, pNotN, List.getElem?_cons_succ, List.getElem?_cons_zero, List.set_cons_succ, List.set_cons_zero, List.length_cons, List.length_nil, List.map_cons, List.map_nil, List.foldr_cons, List.foldr_nil, List.replicate_succ, List.replicate_zero, List.cons_append, List.nil_append, sOPar, sOOPar, dOIx, sNest, sCallP, dOLen, fnP, pC, pFrz, dPr, dVT, dTIx, sSetT, sParT, asTI, asI_iL]
  unfold rowsT folM
  rw [List.map_map]
  rfl
theorem fol_app {n k : Nat} {cs ds : List Int} (k0 : 1 ≤ k) (kn : k ≤ n) (hc : ∀ c ∈ cs, 0 ≤ c ∧ c < (n : Int)) (hd : ∀ c ∈ ds, 0 ≤ c ∧ c < (n : Int)) : folM n (mvL n k cs) (mvL n k ds) = mvL n k (cs ++ ds) := by
  have n0 : 0 < n := by omega
  unfold folM
  conv => rhs; unfold mvL
  refine List.map_congr_left fun c hcm => ?_
  have hcn := List.mem_range.mp hcm
  have eg : (mvL n k cs).getD c [] = stepsL n (pkS n k (c : Int)) cs := by
    unfold mvL
    rw [List.getD_eq_getElem?_getD, List.getElem?_map, List.getElem?_range hcn]
    rfl
  rw [eg]
  have sk : Sqn n k (pk n k (c : Int)) := sqn_pk (by omega) (by omega)
  have sy := sk.calls (show (0 : Int) < n by omega) cs
  have ν := nbr_down k0
  have hcd : ∀ e ∈ cs ++ ds, 0 ≤ e ∧ e < (n : Int) := fun e he => (List.mem_append.mp he).elim (hc e) (hd e)
  have e1 : stepsL n (pkS n k (c : Int)) cs = rowOf (fun i => pk n k c i - fCalls n cs (pk n k c) i) (fun a => -(a : Int)) k := by rw [pkS_row, steps_row n0 k0 sk ν hc]
  have e2 : stepsL n (pkS n k (c : Int)) (cs ++ ds) = rowOf (fun i => pk n k c i - fCalls n (cs ++ ds) (pk n k c) i) (fun a => -(a : Int)) k := by rw [pkS_row, steps_row n0 k0 sk ν hcd]
  have un := pkS_un (n := n) (c := (c : Int)) k0
  have e3 : folS n (c : Int) (rowOf (fun i => pk n k c i - fCalls n cs (pk n k c) i) (fun a => -(a : Int)) k) = modL n (rowOf (fCalls n cs (pk n k c)) (fun a => -(a : Int)) k) := by
    refine List.ext_getElem? fun a => ?_
    by_cases ha : a < k
    · have ex : (c : Int) - (a : Int) = pk n k c (-(a : Int)) := by
        have := congrArg (fun l => l[a]?) un
        rw [rowOf_get ha, List.getElem?_map, List.getElem?_range ha] at this
        exact Option.some.inj this
      unfold folS modL
      rw [List.getElem?_map, List.getElem?_zip_eq_some (z := ((a : Int), pk n k c (-(a : Int)) - fCalls n cs (pk n k c) (-(a : Int)))) |>.mpr ⟨cnt_get (by rw [rowOf_len]; exact ha), rowOf_get ha⟩, List.getElem?_map, rowOf_get ha]
      show some (((c : Int) - (a : Int) - (pk n k c (-(a : Int)) - fCalls n cs (pk n k c) (-(a : Int)))) % n) = some (fCalls n cs (pk n k c) (-(a : Int)) % n)
      rw [ex]
      congr 2
      omega
    · rw [List.getElem?_eq_none (by rw [folS_len, rowOf_len]; omega), List.getElem?_eq_none (by simp [modL, rowOf_len]; omega)]
  unfold folR
  rw [e1, e2, e3, stepsBy_row k0 kn sy ν hd]
  refine List.ext_getElem? fun a => ?_
  by_cases ha : a < k
  · rw [List.getElem?_map, List.getElem?_zip_eq_some (z := (pk n k c (-(a : Int)) - fCalls n cs (pk n k c) (-(a : Int)), fCalls n cs (pk n k c) (-(a : Int)) - fCalls n ds (fCalls n cs (pk n k c)) (-(a : Int)))) |>.mpr ⟨rowOf_get ha, rowOf_get ha⟩, rowOf_get ha, calls_append]
    show some _ = some _
    congr 1
    show _ - _ + (_ - _) = _ - _
    omega
  · rw [List.getElem?_eq_none (by simp [rowOf_len]; omega), List.getElem?_eq_none (by rw [rowOf_len]; omega)]
theorem zip_bound {n : Int} {t a b : List Int} {B : Int} (n0 : 0 < n) (h : ∀ x ∈ t, 0 ≤ x ∧ x ≤ B) : ∀ x ∈ zipStep n t a b, 0 ≤ x ∧ x ≤ B + n := fun x hx => by
  unfold zipStep at hx
  obtain ⟨q, hq, rfl⟩ := List.mem_map.mp hx
  obtain ⟨i, hi⟩ := List.getElem?_of_mem hq
  obtain ⟨g1, _⟩ := List.getElem?_zip_eq_some.mp hi
  have h1 := h q.1 (List.mem_of_getElem? g1)
  have h2 := Int.emod_nonneg (q.2.1 - q.2.2) (show n ≠ 0 by omega)
  have h3 := Int.emod_lt_of_pos (q.2.1 - q.2.2) n0
  omega
theorem stT_bound {n : Int} {ss cs : List Int} (n0 : 0 < n) : ∀ i : Nat, ∀ x ∈ stT n ss cs i, 0 ≤ x ∧ x ≤ n * (i : Int)
  | 0, x, hx => by
    unfold stT at hx
    simp at hx
    have := hx.2
    simp
    omega
  | i + 1, x, hx => by
    rw [stT_succ] at hx
    have := zip_bound n0 (stT_bound n0 i) x hx
    rw [show ((i + 1 : Nat) : Int) = (i : Int) + 1 by omega, Int.mul_add, Int.mul_one]
    exact this
theorem steps_bound {n : Int} {ss cs : List Int} (n0 : 0 < n) : ∀ x ∈ stepsL n ss cs, 0 ≤ x ∧ x ≤ n * (cs.length : Int) := fun x hx => stT_bound n0 cs.length x hx
theorem mvL_bound {n k : Nat} {cs : List Int} (n0 : 0 < n) : ∀ r ∈ mvL n k cs, ∀ x ∈ r, 0 ≤ x ∧ x ≤ (n : Int) * (cs.length : Int) := fun r hr x hx => by
  unfold mvL at hr
  obtain ⟨c, _, rfl⟩ := List.mem_map.mp hr
  exact steps_bound (by omega) x hx
theorem ok_iL : ∀ {ns : List Int}, (∀ x ∈ ns, x.natAbs < 10 ^ 60) → okRs (iL ns) = true
  | [], _ => by simp [okRs]
  | i :: ns, h => by
    show okRs (.int i :: iL ns) = true
    simp only [okRs, okR, decide_eq_true (h i (List.mem_cons_self ..)), ok_iL fun x hx => h x (List.mem_cons_of_mem _ hx), Bool.and_self]
theorem dp_iL : ∀ ns : List Int, dpRs (iL ns) = 0
  | [] => by simp [dpRs]
  | i :: ns => by
    show dpRs (.int i :: iL ns) = _
    simp only [dpRs, dpR, dp_iL ns, Nat.max_self]
theorem ok_rowsT : ∀ {M : List (List Int)}, (∀ r ∈ M, ∀ x ∈ r, x.natAbs < 10 ^ 60) → okRs (rowsT M) = true
  | [], _ => by simp [rowsT, okRs]
  | r :: M, h => by
    show okRs (.tuple (iL r) :: rowsT M) = true
    simp only [okRs, okR, ok_iL (h r (List.mem_cons_self ..)), ok_rowsT fun x hx => h x (List.mem_cons_of_mem _ hx), Bool.and_self]
theorem dp_rowsT : ∀ (M : List (List Int)), dpRs (rowsT M) ≤ 1
  | [] => by simp [rowsT, dpRs]
  | r :: M => by
    show dpRs (.tuple (iL r) :: rowsT M) ≤ 1
    simp only [dpRs, dpR, dp_iL]
    have := dp_rowsT M
    omega
structure Sh (n k : Nat) (M : List (List Int)) : Prop where
  ok : MOk n k M
  bd : ∀ r ∈ M, ∀ x ∈ r, x.natAbs < 10 ^ 60
theorem Sh.row {n k : Nat} {M : List (List Int)} (h : Sh n k M) : ∀ r ∈ M, r.length = k := fun r hr => by
  obtain ⟨i, hi⟩ := List.getElem?_of_mem hr
  exact h.ok.row i r hi
theorem sh_mvL {n k : Nat} {cs : List Int} (n0 : 0 < n) (n1 : n ≤ 100) (hc : cs.length ≤ 10 ^ 20) : Sh n k (mvL n k cs) := ⟨mOk_mvL, fun r hr x hx => by
  have := mvL_bound n0 r hr x hx
  have h1 : (n : Int) * (cs.length : Int) ≤ 100 * 10 ^ 20 := Int.mul_le_mul (by omega) (by omega) (by omega) (by omega)
  omega⟩
def rep (cs : List Int) (m : Nat) : List Int := (List.replicate m cs).flatten
theorem rep_add (cs : List Int) (a b : Nat) : rep cs a ++ rep cs b = rep cs (a + b) := by
  unfold rep
  rw [← List.flatten_append, List.replicate_append_replicate]
theorem rep_one (cs : List Int) : rep cs 1 = cs := by simp [rep]
theorem rep_len (cs : List Int) (m : Nat) : (rep cs m).length = m * cs.length := by simp [rep]
theorem rep_in {n : Nat} {cs : List Int} (h : ∀ c ∈ cs, 0 ≤ c ∧ c < (n : Int)) (m : Nat) : ∀ c ∈ rep cs m, 0 ≤ c ∧ c < (n : Int) := fun c hc => by
  unfold rep at hc
  obtain ⟨l, hl, hcl⟩ := List.mem_flatten.mp hc
  rw [(List.mem_replicate.mp hl).2] at hcl
  exact h c hcl
theorem rep_loop {n k : Nat} {cs : List Int} {u m : PyData} (n0 : 0 < n) (n1 : n ≤ 1000) (k0 : 1 ≤ k) (kn : k ≤ n) (hc : ∀ c ∈ cs, 0 ≤ c ∧ c < (n : Int)) : ∀ (f left a p : Nat) (v : PyData), left < 2 ^ f → Mv (mvL n k (rep cs p)) v → ∃ y4 y5,
    whT (t2 cGt (dV 5) (dC (.int 0))) (sC (sIf (t2 pEq (d2 pMod (dV 5) (dC (.int 2))) (dC (.int 1))) (sSet 3 (dCall m_followed (aC (aV 0) (aC (aV 3) (aC (aV 4) a0))))) s0) (sC (sSet 4 (dCall m_followed (aC (aV 0) (aC (aV 4) (aC (aV 4) a0))))) (sSet 5 (d2 pDiv (dV 5) (dC (.int 2)))))) (f + 1) [some (.d (.int (n : Int))), some (.d u), some (.d m), some (.d (.tuple (rowsT (mvL n k (rep cs a))))), some (.d v), some (.d (.int (left : Int)))]
      = .ret (.nx [some (.d (.int (n : Int))), some (.d u), some (.d m), some (.d (.tuple (rowsT (mvL n k (rep cs (a + p * left)))))), y4, y5])
  | f, left, a, p, v, hl, hv => by
    by_cases h0 : left = 0
    · subst h0
      refine ⟨some (.d v), some (.d (.int 0)), ?_⟩
      rw [whT]
      simp only [Nat.reduceSub, Nat.reduceAdd, reduceIte, Tree.bind, liftO, dIdx, sAsgL, sPar4, dV, dC, d1, d2, t1, t2, l0, lC, dL, dT, aV, aE, a0, aC, dCall, dCallK, dIf, tTr, tV, truth, asB, tNot, tAnd, tOr, dAnd, dOr, sSet, sAsg, sPar, sRet, s0, sC, sIf, sX, sOwn, sApp, sFrz, frzE, sFor, outV, fnF, lenIs, ent, small, few, putE, putsE, wipeE, it_l, it_t, iS, iR1, iR2, wEn, wZ2, wZ3, dLc, dLf, dSl, oN, oS, pCut, pSub, cI, bD, pIx, pList, pTup, pLen, pNot, qIsN, qNotN, pIsN, pNotN, List.getElem?_cons_succ, List.getElem?_cons_zero, List.set_cons_succ, List.set_cons_zero, List.length_cons, List.length_nil, List.map_cons, List.map_nil, List.foldr_cons, List.foldr_nil, List.replicate_succ, List.replicate_zero, List.cons_append, List.nil_append, sOPar, sOOPar, dOIx, sNest, sCallP, dOLen, fnP, pC, pFrz, dPr, dVT, dTIx, sSetT, sParT, asTI, asI_iL, Int.natCast_zero, Int.lt_irrefl, decide_false, Nat.mul_zero, Nat.add_zero]
    · cases f with
      | zero =>
        simp at hl
        omega
      | succ f =>
        have hpos : (0 : Int) < (left : Int) := by omega
        have e2 : ((left : Int) / 2) = ((left / 2 : Nat) : Int) := by omega
        have hcd : CDiv (left : Int) 2 := ⟨by decide, by decide⟩
        have hpp : m_followed [.d (.int (n : Int)), .d v, .d v] = .ret (.tuple (rowsT (mvL n k (rep cs (p + p))))) := by
          rw [ev_followed hv hv mOk_mvL mOk_mvL n0 n1 k0 (by omega), fol_app k0 kn (rep_in hc p) (rep_in hc p), rep_add]
        have hlt : left / 2 < 2 ^ f := by
          have : 2 ^ (f + 1) = 2 * 2 ^ f := by omega
          omega
        by_cases hodd : left % 2 = 1
        · have e3 : ((left : Int) % 2) = 1 := by omega
          have hap : m_followed [.d (.int (n : Int)), .d (.tuple (rowsT (mvL n k (rep cs a)))), .d v] = .ret (.tuple (rowsT (mvL n k (rep cs (a + p))))) := by
            rw [ev_followed (mv_rows _) hv mOk_mvL mOk_mvL n0 n1 k0 (by omega), fol_app k0 kn (rep_in hc a) (rep_in hc p), rep_add]
          obtain ⟨y4, y5, e⟩ := rep_loop (u := u) (m := m) n0 n1 k0 kn hc f (left / 2) (a + p) (p + p) (.tuple (rowsT (mvL n k (rep cs (p + p))))) hlt (mv_rows _)
          refine ⟨y4, y5, ?_⟩
          rw [whT]
          simp only [Nat.reduceSub, Nat.reduceAdd, reduceIte, Tree.bind, liftO, dIdx, sAsgL, sPar4, dV, dC, d1, d2, t1, t2, l0, lC, dL, dT, aV, aE, a0, aC, dCall, dCallK, dIf, tTr, tV, truth, asB, tNot, tAnd, tOr, dAnd, dOr, sSet, sAsg, sPar, sRet, s0, sC, sIf, sX, sOwn, sApp, sFrz, frzE, sFor, outV, fnF, lenIs, ent, small, few, putE, putsE, wipeE, it_l, it_t, iS, iR1, iR2, wEn, wZ2, wZ3, dLc, dLf, dSl, oN, oS, pCut, pSub, cI, bD, pIx, pList, pTup, pLen, pNot, qIsN, qNotN, pIsN, pNotN, List.getElem?_cons_succ, List.getElem?_cons_zero, List.set_cons_succ, List.set_cons_zero, List.length_cons, List.length_nil, List.map_cons, List.map_nil, List.foldr_cons, List.foldr_nil, List.replicate_succ, List.replicate_zero, List.cons_append, List.nil_append, sOPar, sOOPar, dOIx, sNest, sCallP, dOLen, fnP, pC, pFrz, dPr, dVT, dTIx, sSetT, sParT, asTI, asI_iL, decide_eq_true hpos, pMod_of (show (0 : Int) < 2 by decide), e3, pEq_ii, decide_true, hap, hpp, pDiv, if_pos hcd, e2]
          rw [e]
          have ea : a + p + (p + p) * (left / 2) = a + p * left := by
            have : left = 2 * (left / 2) + 1 := by omega
            conv => rhs; rw [this]
            rw [Nat.mul_add, Nat.mul_one, ← Nat.mul_assoc, Nat.mul_two, Nat.add_mul]
            omega
          rw [ea]
        · have e3 : ((left : Int) % 2) = 0 := by omega
          obtain ⟨y4, y5, e⟩ := rep_loop (u := u) (m := m) n0 n1 k0 kn hc f (left / 2) a (p + p) (.tuple (rowsT (mvL n k (rep cs (p + p))))) hlt (mv_rows _)
          refine ⟨y4, y5, ?_⟩
          rw [whT]
          simp only [Nat.reduceSub, Nat.reduceAdd, reduceIte, Tree.bind, liftO, dIdx, sAsgL, sPar4, dV, dC, d1, d2, t1, t2, l0, lC, dL, dT, aV, aE, a0, aC, dCall, dCallK, dIf, tTr, tV, truth, asB, tNot, tAnd, tOr, dAnd, dOr, sSet, sAsg, sPar, sRet, s0, sC, sIf, sX, sOwn, sApp, sFrz, frzE, sFor, outV, fnF, lenIs, ent, small, few, putE, putsE, wipeE, it_l, it_t, iS, iR1, iR2, wEn, wZ2, wZ3, dLc, dLf, dSl, oN, oS, pCut, pSub, cI, bD, pIx, pList, pTup, pLen, pNot, qIsN, qNotN, pIsN, pNotN, List.getElem?_cons_succ, List.getElem?_cons_zero, List.set_cons_succ, List.set_cons_zero, List.length_cons, List.length_nil, List.map_cons, List.map_nil, List.foldr_cons, List.foldr_nil, List.replicate_succ, List.replicate_zero, List.cons_append, List.nil_append, sOPar, sOOPar, dOIx, sNest, sCallP, dOLen, fnP, pC, pFrz, dPr, dVT, dTIx, sSetT, sParT, asTI, asI_iL, decide_eq_true hpos, pMod_of (show (0 : Int) < 2 by decide), e3, pEq_ii, show decide ((0 : Int) = 1) = false by decide, hpp, pDiv, if_pos hcd, e2]
          rw [e]
          have ea : a + (p + p) * (left / 2) = a + p * left := by
            have : left = 2 * (left / 2) := by omega
            conv => rhs; rw [this]
            rw [← Nat.mul_assoc, Nat.mul_two]
          rw [ea]
theorem ev_repeated {n k many : Nat} {cs : List Int} {u : PyData} (hM : Mv (mvL n k cs) u) (n0 : 0 < n) (n1 : n ≤ 1000) (k0 : 1 ≤ k) (kn : k ≤ n) (hc : ∀ c ∈ cs, 0 ≤ c ∧ c < (n : Int)) (hm : many < 2 ^ 99) : m_repeated [.d (.int (n : Int)), .d u, .d (.int (many : Int))] = .ret (.tuple (rowsT (mvL n k (rep cs many)))) := by
  have hM' : Mv (mvL n k (rep cs 1)) u := by rw [rep_one]; exact hM
  obtain ⟨y4, y5, e⟩ := rep_loop (u := u) (m := .int (many : Int)) n0 n1 k0 kn hc 99 many 0 1 u hm hM'
  obtain ⟨rs, q1, q2, q3⟩ := hM
  have hl0 : 0 < (mvL n k cs).length := by rw [mOk_mvL.len]; exact n0
  obtain ⟨r, r1, r2⟩ := q3 0 _ (List.getElem?_eq_getElem hl0)
  have hrl := mOk_mvL.row 0 _ (List.getElem?_eq_getElem hl0)
  have r1' : atI rs 0 = some r := atI_nat (k := 0) r1
  simp only [m_repeated, b_repeated, Nat.reduceSub, Nat.reduceAdd, reduceIte, Tree.bind, liftO, dIdx, sAsgL, sPar4, dV, dC, d1, d2, t1, t2, l0, lC, dL, dT, aV, aE, a0, aC, dCall, dCallK, dIf, tTr, tV, truth, asB, tNot, tAnd, tOr, dAnd, dOr, sSet, sAsg, sPar, sRet, s0, sC, sIf, sX, sOwn, sApp, sFrz, frzE, sFor, outV, fnF, lenIs, ent, small, few, putE, putsE, wipeE, it_l, it_t, iS, iR1, iR2, wEn, wZ2, wZ3, dLc, dLf, dSl, oN, oS, pCut, pSub, cI, bD, pIx, pList, pTup, pLen, pNot, qIsN, qNotN, pIsN, pNotN, List.getElem?_cons_succ, List.getElem?_cons_zero, List.set_cons_succ, List.set_cons_zero, List.length_cons, List.length_nil, List.map_cons, List.map_nil, List.foldr_cons, List.foldr_nil, List.replicate_succ, List.replicate_zero, List.cons_append, List.nil_append, sOPar, sOOPar, dOIx, sNest, sCallP, dOLen, fnP, pC, pFrz, dPr, dVT, dTIx, sSetT, sParT, asTI, asI_iL, q1, r1', r2, iL_len, hrl, Nat.reduceLeDiff, sWh]
  rw [show ([] : List PyData) = iL [] from rfl, ev_moves_of (it_l _) n0 n1 k0 (by omega) (by decide)]
  simp only [Tree.bind, liftO, dIdx, sAsgL, sPar4, dV, dC, d1, d2, t1, t2, l0, lC, dL, dT, aV, aE, a0, aC, dCall, dCallK, dIf, tTr, tV, truth, asB, tNot, tAnd, tOr, dAnd, dOr, sSet, sAsg, sPar, sRet, s0, sC, sIf, sX, sOwn, sApp, sFrz, frzE, sFor, outV, fnF, lenIs, ent, small, few, putE, putsE, wipeE, it_l, it_t, iS, iR1, iR2, wEn, wZ2, wZ3, dLc, dLf, dSl, oN, oS, pCut, pSub, cI, bD, pIx, pList, pTup, pLen, pNot, qIsN, qNotN, pIsN, pNotN, List.getElem?_cons_succ, List.getElem?_cons_zero, List.set_cons_succ, List.set_cons_zero, List.length_cons, List.length_nil, List.map_cons, List.map_nil, List.foldr_cons, List.foldr_nil, List.replicate_succ, List.replicate_zero, List.cons_append, List.nil_append, sOPar, sOOPar, dOIx, sNest, sCallP, dOLen, fnP, pC, pFrz, dPr, dVT, dTIx, sSetT, sParT, asTI, asI_iL]
  rw [show mvL n k [] = mvL n k (rep cs 0) from rfl, e]
  simp only [Tree.bind, liftO, dIdx, sAsgL, sPar4, dV, dC, d1, d2, t1, t2, l0, lC, dL, dT, aV, aE, a0, aC, dCall, dCallK, dIf, tTr, tV, truth, asB, tNot, tAnd, tOr, dAnd, dOr, sSet, sAsg, sPar, sRet, s0, sC, sIf, sX, sOwn, sApp, sFrz, frzE, sFor, outV, fnF, lenIs, ent, small, few, putE, putsE, wipeE, it_l, it_t, iS, iR1, iR2, wEn, wZ2, wZ3, dLc, dLf, dSl, oN, oS, pCut, pSub, cI, bD, pIx, pList, pTup, pLen, pNot, qIsN, qNotN, pIsN, pNotN, List.getElem?_cons_succ, List.getElem?_cons_zero, List.set_cons_succ, List.set_cons_zero, List.length_cons, List.length_nil, List.map_cons, List.map_nil, List.foldr_cons, List.foldr_nil, List.replicate_succ, List.replicate_zero, List.cons_append, List.nil_append, sOPar, sOOPar, dOIx, sNest, sCallP, dOLen, fnP, pC, pFrz, dPr, dVT, dTIx, sSetT, sParT, asTI, asI_iL, Nat.zero_add, Nat.one_mul]
mutual
theorem okR_lay : ∀ {d : PyData}, okR d = true → d.canLay0 = true ∧ d.depth ≤ dpR d
  | .none, _ => by simp [PyData.canLay0, PyData.depth]
  | .bool _, _ => by simp [PyData.canLay0, PyData.depth]
  | .int _, _ => by simp [PyData.canLay0, PyData.depth]
  | .list ds, h => by
    have := okRs_lay (ds := ds) (by simpa only [okR] using h)
    simp only [PyData.canLay0, PyData.depth, dpR]
    exact ⟨this.1, by omega⟩
  | .tuple ds, h => by
    have := okRs_lay (ds := ds) (by simpa only [okR] using h)
    simp only [PyData.canLay0, PyData.depth, dpR]
    exact ⟨this.1, by omega⟩
  | .str x, h => by
    have h : (PyData.strOk x && decide ((reprText x).length ≤ 61)) = true := by simpa only [okR] using h
    simp only [PyData.canLay0, PyData.depth]
    exact ⟨(Bool.and_eq_true_iff.mp h).1, Nat.zero_le _⟩
  | .dict _, h => by simp [okR] at h
theorem okRs_lay : ∀ {ds : List PyData}, okRs ds = true → PyData.canLayAll0 ds = true ∧ PyData.depthAll ds ≤ dpRs ds
  | [], _ => by simp [PyData.canLayAll0, PyData.depthAll]
  | d :: ds, h => by
    have h : (okR d && okRs ds) = true := by simpa only [okRs] using h
    obtain ⟨h1, h2⟩ := Bool.and_eq_true_iff.mp h
    have a := okR_lay h1
    have b := okRs_lay h2
    simp only [PyData.canLayAll0, PyData.depthAll, dpRs, a.1, b.1]
    exact ⟨rfl, by omega⟩
end
theorem okR_shaped {d : PyData} (h : okR d = true) (hd : dpR d ≤ 60) : SeqAt.shaped d = true := by
  obtain ⟨a, b⟩ := okR_lay h
  unfold SeqAt.shaped
  rw [a, decide_eq_true (by omega)]
  rfl
theorem flat_iL (m : Nat) (cs : List Int) : (List.replicate m (iL cs)).flatten = iL (rep cs m) := by
  unfold rep iL
  rw [List.map_flatten, List.map_replicate]
theorem pMul_l {cs : List Int} {m : Nat} (hm : m ≤ 1000) (hc : cs.length ≤ 100) : pMul (.list (iL cs)) (.int (m : Int)) = some (.list (iL (rep cs m))) := by
  have hz : (iL cs).length * (m : Int).toNat ≤ 100000 := by
    rw [iL_len, Int.toNat_natCast]
    exact Nat.le_trans (Nat.mul_le_mul hc hm) (by decide)
  show (if -100000 ≤ (m : Int) ∧ (m : Int) ≤ 100000 ∧ (iL cs).length * (m : Int).toNat ≤ 100000 then some (PyData.list (List.replicate (m : Int).toNat (iL cs)).flatten) else none) = _
  rw [if_pos ⟨by omega, by omega, hz⟩, Int.toNat_natCast, flat_iL]
theorem pMul_ii {i j : Int} (h : CMul i j) : pMul (.int i) (.int j) = some (.int (i * j)) := by
  show (if CMul i j then some (PyData.int (i * j)) else none) = _
  rw [if_pos h]
def dif1 (M N : List (List Int)) (c k : Nat) : List (Nat × Nat) := (List.range k).filterMap fun b => if cell M c b = cell N c b then none else some (c, b)
def difs (n k : Nat) (M N : List (List Int)) : List (Nat × Nat) := (List.range n).flatMap fun c => dif1 M N c k
def tup2 (q : Nat × Nat) : PyData := .tuple [.int (q.1 : Int), .int (q.2 : Int)]
theorem pNe_ii (i j : Int) : pNe (.int i) (.int j) = some (!decide (i = j)) := rfl
theorem mem_difs {n k : Nat} {M N : List (List Int)} {q : Nat × Nat} : q ∈ difs n k M N ↔ q.1 < n ∧ q.2 < k ∧ cell M q.1 q.2 ≠ cell N q.1 q.2 := by
  unfold difs dif1
  rw [List.mem_flatMap]
  constructor
  · rintro ⟨c, hc, h⟩
    obtain ⟨b, hb, e⟩ := List.mem_filterMap.mp h
    split at e
    · cases e
    · next hne =>
      cases e
      exact ⟨List.mem_range.mp hc, List.mem_range.mp hb, hne⟩
  · rintro ⟨h1, h2, h3⟩
    exact ⟨q.1, List.mem_range.mpr h1, List.mem_filterMap.mpr ⟨q.2, List.mem_range.mpr h2, by rw [if_neg h3]⟩⟩
theorem cell_get {n k : Nat} {M : List (List Int)} (o : MOk n k M) {c b : Nat} (hc : c < n) (hb : b < k) : ∃ r, M[c]? = some r ∧ r[b]? = some (cell M c b) := by
  have hcl : c < M.length := by rw [o.len]; exact hc
  have hr := o.row c _ (List.getElem?_eq_getElem hcl)
  refine ⟨_, List.getElem?_eq_getElem hcl, ?_⟩
  have hb' : b < M[c].length := by rw [hr]; exact hb
  have eg : M.getD c [] = M[c] := by rw [List.getD_eq_getElem?_getD, List.getElem?_eq_getElem hcl, Option.getD_some]
  unfold cell
  rw [Int.toNat_natCast, eg, List.getD_eq_getElem?_getD, List.getElem?_eq_getElem hb', Option.getD_some]
theorem pickT_R {f : PyData → Tree (Option PyData)} {g : Nat → Option PyData} {n : Nat} (h : ∀ k, k < n → f (.int (k : Int)) = .ret (g k)) : pickT f (nums n) = .ret ((List.range n).filterMap g) := by
  unfold nums
  rw [pickT_map]
  exact pickT_ret fun k hk => h k (List.mem_range.mp hk)
theorem mapT_RL {f : PyData → Tree (List PyData)} {g : Nat → List PyData} {n : Nat} (h : ∀ k, k < n → f (.int (k : Int)) = .ret (g k)) : mapT f (nums n) = .ret ((List.range n).map g) := by
  unfold nums
  rw [mapT_map]
  exact mapT_ret fun k hk => h k (List.mem_range.mp hk)
theorem rowsT_at {M : List (List Int)} {c : Nat} {r : List Int} (h : M[c]? = some r) : atI (rowsT M) (c : Int) = some (.tuple (iL r)) := atI_nat (by unfold rowsT; rw [List.getElem?_map, h]; rfl)
theorem iL_atI {r : List Int} {b : Nat} {v : Int} (h : r[b]? = some v) : atI (iL r) (b : Int) = some (.int v) := atI_nat (by unfold iL; rw [List.getElem?_map, h]; rfl)
theorem ev_all_differences {n k : Nat} {e1 e2 : PyData} {cs ds : List Int} (h1 : items e1 = some (iL cs)) (h2 : items e2 = some (iL ds)) (n0 : 0 < n) (n1 : n ≤ 50) (k0 : 1 ≤ k) (k1 : k ≤ 50) (hc : cs.length ≤ 1000) (hd : ds.length ≤ 1000) : m_all_differences [.d (.int (n : Int)), .d (.int (k : Int)), .d e1, .d e2] = .ret (.list ((difs n k (mvL n k cs) (mvL n k ds)).map tup2)) := by
  simp only [m_all_differences, b_all_differences, Nat.reduceSub, Nat.reduceAdd, reduceIte, Tree.bind, liftO, dIdx, sAsgL, sPar4, dV, dC, d1, d2, t1, t2, l0, lC, dL, dT, aV, aE, a0, aC, dCall, dCallK, dIf, tTr, tV, truth, asB, tNot, tAnd, tOr, dAnd, dOr, sSet, sAsg, sPar, sRet, s0, sC, sIf, sX, sOwn, sApp, sFrz, frzE, sFor, outV, fnF, lenIs, ent, small, few, putE, putsE, wipeE, it_l, it_t, iS, iR1, iR2, wEn, wZ2, wZ3, dLc, dLf, dSl, oN, oS, pCut, pSub, cI, bD, pIx, pList, pTup, pLen, pNot, qIsN, qNotN, pIsN, pNotN, List.getElem?_cons_succ, List.getElem?_cons_zero, List.set_cons_succ, List.set_cons_zero, List.length_cons, List.length_nil, List.map_cons, List.map_nil, List.foldr_cons, List.foldr_nil, List.replicate_succ, List.replicate_zero, List.cons_append, List.nil_append, sOPar, sOOPar, dOIx, sNest, sCallP, dOLen, fnP, pC, pFrz, dPr, dVT, dTIx, sSetT, sParT, asTI, asI_iL, ev_moves_of h1 n0 (show n ≤ 1000 by omega) k0 (show k ≤ 1000 by omega) hc, ev_moves_of h2 n0 (show n ≤ 1000 by omega) k0 (show k ≤ 1000 by omega) hd, dLc2, rg1_nat (show n ≤ 100000 by omega), atMost, nums_len, if_pos (show n ≤ 1000 by omega)]
  rw [mapT_RL (g := fun c => (dif1 (mvL n k cs) (mvL n k ds) c k).map tup2) fun c hc => by
    simp only [Nat.reduceSub, Nat.reduceAdd, reduceIte, Tree.bind, liftO, dIdx, sAsgL, sPar4, dV, dC, d1, d2, t1, t2, l0, lC, dL, dT, aV, aE, a0, aC, dCall, dCallK, dIf, tTr, tV, truth, asB, tNot, tAnd, tOr, dAnd, dOr, sSet, sAsg, sPar, sRet, s0, sC, sIf, sX, sOwn, sApp, sFrz, frzE, sFor, outV, fnF, lenIs, ent, small, few, putE, putsE, wipeE, it_l, it_t, iS, iR1, iR2, wEn, wZ2, wZ3, dLc, dLf, dSl, oN, oS, pCut, pSub, cI, bD, pIx, pList, pTup, pLen, pNot, qIsN, qNotN, pIsN, pNotN, List.getElem?_cons_succ, List.getElem?_cons_zero, List.set_cons_succ, List.set_cons_zero, List.length_cons, List.length_nil, List.map_cons, List.map_nil, List.foldr_cons, List.foldr_nil, List.replicate_succ, List.replicate_zero, List.cons_append, List.nil_append, sOPar, sOOPar, dOIx, sNest, sCallP, dOLen, fnP, pC, pFrz, dPr, dVT, dTIx, sSetT, sParT, asTI, asI_iL, in2, rg1_nat (show k ≤ 100000 by omega), atMost, nums_len, if_pos (show k ≤ 50 by omega)]
    rw [pickT_R (g := fun b => if cell (mvL n k cs) c b = cell (mvL n k ds) c b then none else some (tup2 (c, b))) fun b hb => by
      obtain ⟨r1, g1, q1⟩ := cell_get (mOk_mvL (n := n) (k := k) (cs := cs)) hc hb
      obtain ⟨r2, g2, q2⟩ := cell_get (mOk_mvL (n := n) (k := k) (cs := ds)) hc hb
      simp only [Nat.reduceSub, Nat.reduceAdd, reduceIte, Tree.bind, liftO, dIdx, sAsgL, sPar4, dV, dC, d1, d2, t1, t2, l0, lC, dL, dT, aV, aE, a0, aC, dCall, dCallK, dIf, tTr, tV, truth, asB, tNot, tAnd, tOr, dAnd, dOr, sSet, sAsg, sPar, sRet, s0, sC, sIf, sX, sOwn, sApp, sFrz, frzE, sFor, outV, fnF, lenIs, ent, small, few, putE, putsE, wipeE, it_l, it_t, iS, iR1, iR2, wEn, wZ2, wZ3, dLc, dLf, dSl, oN, oS, pCut, pSub, cI, bD, pIx, pList, pTup, pLen, pNot, qIsN, qNotN, pIsN, pNotN, List.getElem?_cons_succ, List.getElem?_cons_zero, List.set_cons_succ, List.set_cons_zero, List.length_cons, List.length_nil, List.map_cons, List.map_nil, List.foldr_cons, List.foldr_nil, List.replicate_succ, List.replicate_zero, List.cons_append, List.nil_append, sOPar, sOOPar, dOIx, sNest, sCallP, dOLen, fnP, pC, pFrz, dPr, dVT, dTIx, sSetT, sParT, asTI, asI_iL, in1, rowsT_at g1, rowsT_at g2, iL_atI q1, iL_atI q2, pNe_ii]
      by_cases hq : cell (mvL n k cs) c b = cell (mvL n k ds) c b
      · simp only [hq, decide_true, Bool.not_true, if_true]
      · simp only [hq, decide_false, Bool.not_false, if_false, Nat.reduceLeDiff, reduceIte, Tree.bind, liftO, dIdx, sAsgL, sPar4, dV, dC, d1, d2, t1, t2, l0, lC, dL, dT, aV, aE, a0, aC, dCall, dCallK, dIf, tTr, tV, truth, asB, tNot, tAnd, tOr, dAnd, dOr, sSet, sAsg, sPar, sRet, s0, sC, sIf, sX, sOwn, sApp, sFrz, frzE, sFor, outV, fnF, lenIs, ent, small, few, putE, putsE, wipeE, it_l, it_t, iS, iR1, iR2, wEn, wZ2, wZ3, dLc, dLf, dSl, oN, oS, pCut, pSub, cI, bD, pIx, pList, pTup, pLen, pNot, qIsN, qNotN, pIsN, pNotN, List.getElem?_cons_succ, List.getElem?_cons_zero, List.set_cons_succ, List.set_cons_zero, List.length_cons, List.length_nil, List.map_cons, List.map_nil, List.foldr_cons, List.foldr_nil, List.replicate_succ, List.replicate_zero, List.cons_append, List.nil_append, sOPar, sOOPar, dOIx, sNest, sCallP, dOLen, fnP, pC, pFrz, dPr, dVT, dTIx, sSetT, sParT, asTI, asI_iL]
        rfl]
    unfold dif1
    rw [List.map_filterMap]
    congr 2
    funext b
    split <;> rfl]
  simp only [Tree.bind, liftO, dIdx, sAsgL, sPar4, dV, dC, d1, d2, t1, t2, l0, lC, dL, dT, aV, aE, a0, aC, dCall, dCallK, dIf, tTr, tV, truth, asB, tNot, tAnd, tOr, dAnd, dOr, sSet, sAsg, sPar, sRet, s0, sC, sIf, sX, sOwn, sApp, sFrz, frzE, sFor, outV, fnF, lenIs, ent, small, few, putE, putsE, wipeE, it_l, it_t, iS, iR1, iR2, wEn, wZ2, wZ3, dLc, dLf, dSl, oN, oS, pCut, pSub, cI, bD, pIx, pList, pTup, pLen, pNot, qIsN, qNotN, pIsN, pNotN, List.getElem?_cons_succ, List.getElem?_cons_zero, List.set_cons_succ, List.set_cons_zero, List.length_cons, List.length_nil, List.map_cons, List.map_nil, List.foldr_cons, List.foldr_nil, List.replicate_succ, List.replicate_zero, List.cons_append, List.nil_append, sOPar, sOOPar, dOIx, sNest, sCallP, dOLen, fnP, pC, pFrz, dPr, dVT, dTIx, sSetT, sParT, asTI, asI_iL]
  unfold difs
  rw [List.map_flatMap]
  rfl
def headD (l : List (Nat × Nat)) : PyData := match l with | [] => .none | q :: _ => tup2 q
theorem ev_moving_difference {n k : Nat} {e1 e2 : PyData} {cs ds : List Int} (h1 : items e1 = some (iL cs)) (h2 : items e2 = some (iL ds)) (n0 : 0 < n) (n1 : n ≤ 50) (k0 : 1 ≤ k) (k1 : k ≤ 50) (hc : cs.length ≤ 1000) (hd : ds.length ≤ 1000) : m_moving_difference [.d (.int (n : Int)), .d (.int (k : Int)), .d e1, .d e2] = .ret (headD (difs n k (mvL n k cs) (mvL n k ds))) := by
  simp only [m_moving_difference, b_moving_difference, Nat.reduceSub, Nat.reduceAdd, reduceIte, Tree.bind, liftO, dIdx, sAsgL, sPar4, dV, dC, d1, d2, t1, t2, l0, lC, dL, dT, aV, aE, a0, aC, dCall, dCallK, dIf, tTr, tV, truth, asB, tNot, tAnd, tOr, dAnd, dOr, sSet, sAsg, sPar, sRet, s0, sC, sIf, sX, sOwn, sApp, sFrz, frzE, sFor, outV, fnF, lenIs, ent, small, few, putE, putsE, wipeE, it_l, it_t, iS, iR1, iR2, wEn, wZ2, wZ3, dLc, dLf, dSl, oN, oS, pCut, pSub, cI, bD, pIx, pList, pTup, pLen, pNot, qIsN, qNotN, pIsN, pNotN, List.getElem?_cons_succ, List.getElem?_cons_zero, List.set_cons_succ, List.set_cons_zero, List.length_cons, List.length_nil, List.map_cons, List.map_nil, List.foldr_cons, List.foldr_nil, List.replicate_succ, List.replicate_zero, List.cons_append, List.nil_append, sOPar, sOOPar, dOIx, sNest, sCallP, dOLen, fnP, pC, pFrz, dPr, dVT, dTIx, sSetT, sParT, asTI, asI_iL, ev_all_differences h1 h2 n0 n1 k0 k1 hc hd]
  cases difs n k (mvL n k cs) (mvL n k ds) with
  | nil => rfl
  | cons q l =>
    simp only [List.map_cons, List.isEmpty_cons, Bool.not_false, show ∀ (x : PyData) (xs : List PyData), atI (x :: xs) 0 = some x from fun x xs => atI_nat (k := 0) rfl, Tree.bind, liftO, dIdx, sAsgL, sPar4, dV, dC, d1, d2, t1, t2, l0, lC, dL, dT, aV, aE, a0, aC, dCall, dCallK, dIf, tTr, tV, truth, asB, tNot, tAnd, tOr, dAnd, dOr, sSet, sAsg, sPar, sRet, s0, sC, sIf, sX, sOwn, sApp, sFrz, frzE, sFor, outV, fnF, lenIs, ent, small, few, putE, putsE, wipeE, it_l, it_t, iS, iR1, iR2, wEn, wZ2, wZ3, dLc, dLf, dSl, oN, oS, pCut, pSub, cI, bD, pIx, pList, pTup, pLen, pNot, qIsN, qNotN, pIsN, pNotN, List.getElem?_cons_succ, List.getElem?_cons_zero, List.set_cons_succ, List.set_cons_zero, List.length_cons, List.length_nil, List.map_cons, List.map_nil, List.foldr_cons, List.foldr_nil, List.replicate_succ, List.replicate_zero, List.cons_append, List.nil_append, sOPar, sOOPar, dOIx, sNest, sCallP, dOLen, fnP, pC, pFrz, dPr, dVT, dTIx, sSetT, sParT, asTI, asI_iL]
    rfl
theorem eqv_rowsT : ∀ M N : List (List Int), PyData.eqvAll (rowsT M) (rowsT N) = decide (M = N)
  | [], [] => by simp [rowsT, PyData.eqvAll]
  | [], _ :: _ => by simp [rowsT, PyData.eqvAll]
  | _ :: _, [] => by simp [rowsT, PyData.eqvAll]
  | r :: M, s :: N => by
    show PyData.eqvAll (.tuple (iL r) :: rowsT M) (.tuple (iL s) :: rowsT N) = _
    simp only [PyData.eqvAll, eqv_tuple_ints, eqv_rowsT M N]
    by_cases h1 : r = s <;> by_cases h2 : M = N <;> simp [h1, h2]
theorem pEq_rowsT {n k : Nat} {M N : List (List Int)} (h : Sh n k M) (g : Sh n k N) : pEq (.tuple (rowsT M)) (.tuple (rowsT N)) = some (decide (M = N)) := by
  have s1 := okR_shaped (d := .tuple (rowsT M)) (by simp only [okR, ok_rowsT h.bd]) (by simp only [dpR]; have := dp_rowsT M; omega)
  have s2 := okR_shaped (d := .tuple (rowsT N)) (by simp only [okR, ok_rowsT g.bd]) (by simp only [dpR]; have := dp_rowsT N; omega)
  unfold pEq
  dsimp only
  rw [s1, s2]
  simp only [Bool.and_self, if_true, PyData.eqv, eqv_rowsT]
theorem ev_move_alike {n k : Nat} {e1 e2 : PyData} {cs ds : List Int} (h1 : items e1 = some (iL cs)) (h2 : items e2 = some (iL ds)) (n0 : 0 < n) (n1 : n ≤ 50) (k0 : 1 ≤ k) (k1 : k ≤ 50) (hc : cs.length ≤ 1000) (hd : ds.length ≤ 1000) : m_move_alike [.d (.int (n : Int)), .d (.int (k : Int)), .d e1, .d e2] = .ret (.bool (decide (mvL n k cs = mvL n k ds))) := by
  have hS := pEq_rowsT (sh_mvL (n := n) (k := k) (cs := cs) n0 (by omega) (Nat.le_trans hc (by decide))) (sh_mvL (n := n) (k := k) (cs := ds) n0 (by omega) (Nat.le_trans hd (by decide)))
  simp only [m_move_alike, b_move_alike, Nat.reduceSub, Nat.reduceAdd, reduceIte, Tree.bind, liftO, dIdx, sAsgL, sPar4, dV, dC, d1, d2, t1, t2, l0, lC, dL, dT, aV, aE, a0, aC, dCall, dCallK, dIf, tTr, tV, truth, asB, tNot, tAnd, tOr, dAnd, dOr, sSet, sAsg, sPar, sRet, s0, sC, sIf, sX, sOwn, sApp, sFrz, frzE, sFor, outV, fnF, lenIs, ent, small, few, putE, putsE, wipeE, it_l, it_t, iS, iR1, iR2, wEn, wZ2, wZ3, dLc, dLf, dSl, oN, oS, pCut, pSub, cI, bD, pIx, pList, pTup, pLen, pNot, qIsN, qNotN, pIsN, pNotN, List.getElem?_cons_succ, List.getElem?_cons_zero, List.set_cons_succ, List.set_cons_zero, List.length_cons, List.length_nil, List.map_cons, List.map_nil, List.foldr_cons, List.foldr_nil, List.replicate_succ, List.replicate_zero, List.cons_append, List.nil_append, sOPar, sOOPar, dOIx, sNest, sCallP, dOLen, fnP, pC, pFrz, dPr, dVT, dTIx, sSetT, sParT, asTI, asI_iL, ev_moves_of h1 n0 (show n ≤ 1000 by omega) k0 (show k ≤ 1000 by omega) hc, ev_moves_of h2 n0 (show n ≤ 1000 by omega) k0 (show k ≤ 1000 by omega) hd, hS]
theorem inR_app {n : Nat} {a b : List Int} (h : InR n a) (g : InR n b) : InR n (a ++ b) := fun x hx => (List.mem_append.mp hx).elim (h x) (g x)
theorem inR_rev {n : Nat} {a : List Int} (h : InR n a) : InR n a.reverse := fun x hx => h x (List.mem_reverse.mp hx)
theorem cut_iL (ns : List Int) (lo hi : Option Int) : ∃ ms : List Int, cutD (iL ns) lo hi = iL ms ∧ ms.length ≤ ns.length ∧ ∀ x ∈ ms, x ∈ ns := by
  unfold cutD
  refine ⟨(ns.drop _).take _, by rw [iL_drop, iL_take], ?_, fun x hx => List.mem_of_mem_drop (List.mem_of_mem_take hx)⟩
  rw [List.length_take, List.length_drop]
  omega
theorem all_law_folk {n : Nat} {Q : PyData → Prop} (n0 : 2 ≤ n) (n1 : n ≤ 1000) (h : ∀ k : Nat, 1 ≤ k → k < n → Q (.int (k : Int))) : (m_law_folk [.bx, .d (.int (n : Int))]).All Q := by
  simp only [m_law_folk, b_law_folk, Nat.reduceSub, Nat.reduceAdd, reduceIte, Tree.bind, liftO, dIdx, sAsgL, sPar4, dV, dC, d1, d2, t1, t2, l0, lC, dL, dT, aV, aE, a0, aC, dCall, dCallK, dIf, tTr, tV, truth, asB, tNot, tAnd, tOr, dAnd, dOr, sSet, sAsg, sPar, sRet, s0, sC, sIf, sX, sOwn, sApp, sFrz, frzE, sFor, outV, fnF, lenIs, ent, small, few, putE, putsE, wipeE, it_l, it_t, iS, iR1, iR2, wEn, wZ2, wZ3, dLc, dLf, dSl, oN, oS, pCut, pSub, cI, bD, pIx, pList, pTup, pLen, pNot, qIsN, qNotN, pIsN, pNotN, List.getElem?_cons_succ, List.getElem?_cons_zero, List.set_cons_succ, List.set_cons_zero, List.length_cons, List.length_nil, List.map_cons, List.map_nil, List.foldr_cons, List.foldr_nil, List.replicate_succ, List.replicate_zero, List.cons_append, List.nil_append, sOPar, sOOPar, dOIx, sNest, sCallP, dOLen, fnP, pC, pFrz, dPr, dVT, dTIx, sSetT, sParT, asTI, asI_iL, all_bindE]
  refine all_take (by omega) (by omega) fun r r0 r1 => ?_
  have := h (1 + r.toNat) (by omega) (by omega)
  rw [show ((1 + r.toNat : Nat) : Int) = 1 + r by omega] at this
  exact this
theorem all_law_near {n : Nat} {cs : List Int} {Q : PyData → Prop} (n0 : 1 ≤ n) (n1 : n ≤ 1000) (hc : InR n cs) (hl : cs.length ≤ 100) (h : ∀ ds : List Int, InR n ds → ds.length ≤ 4 * cs.length + 2 → Q (.list (iL ds))) : (m_law_near [.bx, .d (.int (n : Int)), .d (.list (iL cs))]).All Q := by
  have key : ∀ a b c : List Int, InR n a → InR n b → InR n c → a.length ≤ cs.length → b.length ≤ 2 * cs.length + 1 → c.length ≤ cs.length → ∃ ds : List Int, pAdd (.list (iL a)) (.list (iL b)) = some (.list (iL (a ++ b))) ∧ pAdd (.list (iL (a ++ b))) (.list (iL c)) = some (.list (iL ds)) ∧ InR n ds ∧ ds.length ≤ 4 * cs.length + 2 := fun a b c ha hb hc la lb lc => ⟨_, pAdd_l (by omega), pAdd_l (by simp; omega), inR_app (inR_app ha hb) hc, by simp; omega⟩
  simp only [m_law_near, b_law_near, Nat.reduceSub, Nat.reduceAdd, reduceIte, Tree.bind, liftO, dIdx, sAsgL, sPar4, dV, dC, d1, d2, t1, t2, l0, lC, dL, dT, aV, aE, a0, aC, dCall, dCallK, dIf, tTr, tV, truth, asB, tNot, tAnd, tOr, dAnd, dOr, sSet, sAsg, sPar, sRet, s0, sC, sIf, sX, sOwn, sApp, sFrz, frzE, sFor, outV, fnF, lenIs, ent, small, few, putE, putsE, wipeE, it_l, it_t, iS, iR1, iR2, wEn, wZ2, wZ3, dLc, dLf, dSl, oN, oS, pCut, pSub, cI, bD, pIx, pList, pTup, pLen, pNot, qIsN, qNotN, pIsN, pNotN, List.getElem?_cons_succ, List.getElem?_cons_zero, List.set_cons_succ, List.set_cons_zero, List.length_cons, List.length_nil, List.map_cons, List.map_nil, List.foldr_cons, List.foldr_nil, List.replicate_succ, List.replicate_zero, List.cons_append, List.nil_append, sOPar, sOOPar, dOIx, sNest, sCallP, dOLen, fnP, pC, pFrz, dPr, dVT, dTIx, sSetT, sParT, asTI, asI_iL, all_bindE, all_retE, iL_len, pAdd_ii]
  refine all_take (by omega) (by omega) fun w w0 w1 => ?_
  refine all_take (by omega) (by omega) fun s s0 s1 => ?_
  have part : ∀ lo hi : Option Int, ∃ ms : List Int, cutD (iL cs) lo hi = iL ms ∧ InR n ms ∧ ms.length ≤ cs.length := fun lo hi => by
    obtain ⟨ms, e, l, m⟩ := cut_iL cs lo hi
    exact ⟨ms, e, fun x hx => hc x (m x hx), by omega⟩
  obtain ⟨p1, e1, i1, l1⟩ := part none (some s)
  obtain ⟨p2, e2, i2, l2⟩ := part (some s) (some (s + 2))
  obtain ⟨p3, e3, i3, l3⟩ := part (some (s + 2)) none
  obtain ⟨p4, e4, i4, l4⟩ := part (some s) (some (s + 1))
  obtain ⟨p5, e5, i5, l5⟩ := part (some (s + 1)) none
  obtain ⟨p6, e6, i6, l6⟩ := part (some s) none
  have hw : w = 0 ∨ w = 1 ∨ w = 2 ∨ w = 3 ∨ w = 4 := by omega
  rcases hw with rfl | rfl | rfl | rfl | rfl
  · obtain ⟨ds, q1, q2, q3, q4⟩ := key p1 p2.reverse p3 i1 (inR_rev i2) i3 l1 (by simp; omega) l3
    simp only [pEq_ii, decide_true, Tree.bind, liftO, dIdx, sAsgL, sPar4, dV, dC, d1, d2, t1, t2, l0, lC, dL, dT, aV, aE, a0, aC, dCall, dCallK, dIf, tTr, tV, truth, asB, tNot, tAnd, tOr, dAnd, dOr, sSet, sAsg, sPar, sRet, s0, sC, sIf, sX, sOwn, sApp, sFrz, frzE, sFor, outV, fnF, lenIs, ent, small, few, putE, putsE, wipeE, it_l, it_t, iS, iR1, iR2, wEn, wZ2, wZ3, dLc, dLf, dSl, oN, oS, pCut, pSub, cI, bD, pIx, pList, pTup, pLen, pNot, qIsN, qNotN, pIsN, pNotN, List.getElem?_cons_succ, List.getElem?_cons_zero, List.set_cons_succ, List.set_cons_zero, List.length_cons, List.length_nil, List.map_cons, List.map_nil, List.foldr_cons, List.foldr_nil, List.replicate_succ, List.replicate_zero, List.cons_append, List.nil_append, sOPar, sOOPar, dOIx, sNest, sCallP, dOLen, fnP, pC, pFrz, dPr, dVT, dTIx, sSetT, sParT, asTI, asI_iL, all_bindE, all_retE, pAdd_ii, e1, e2, e3, pRev_of, q1, q2]
    exact h ds q3 q4
  · have hm : pMul (.list (iL p4)) (.int 2) = some (.list (iL (rep p4 2))) := pMul_l (m := 2) (by decide) (by omega)
    have hr : InR n (rep p4 2) := rep_in i4 2
    obtain ⟨ds, q1, q2, q3, q4⟩ := key p1 (rep p4 2) p5 i1 hr i5 l1 (by rw [rep_len]; omega) l5
    simp only [pEq_ii, show decide ((1 : Int) = 0) = false by decide, decide_true, Tree.bind, liftO, dIdx, sAsgL, sPar4, dV, dC, d1, d2, t1, t2, l0, lC, dL, dT, aV, aE, a0, aC, dCall, dCallK, dIf, tTr, tV, truth, asB, tNot, tAnd, tOr, dAnd, dOr, sSet, sAsg, sPar, sRet, s0, sC, sIf, sX, sOwn, sApp, sFrz, frzE, sFor, outV, fnF, lenIs, ent, small, few, putE, putsE, wipeE, it_l, it_t, iS, iR1, iR2, wEn, wZ2, wZ3, dLc, dLf, dSl, oN, oS, pCut, pSub, cI, bD, pIx, pList, pTup, pLen, pNot, qIsN, qNotN, pIsN, pNotN, List.getElem?_cons_succ, List.getElem?_cons_zero, List.set_cons_succ, List.set_cons_zero, List.length_cons, List.length_nil, List.map_cons, List.map_nil, List.foldr_cons, List.foldr_nil, List.replicate_succ, List.replicate_zero, List.cons_append, List.nil_append, sOPar, sOOPar, dOIx, sNest, sCallP, dOLen, fnP, pC, pFrz, dPr, dVT, dTIx, sSetT, sParT, asTI, asI_iL, all_bindE, all_retE, pAdd_ii, e1, e4, e5, hm, q1, q2]
    exact h ds q3 q4
  · simp only [pEq_ii, show decide ((2 : Int) = 0) = false by decide, show decide ((2 : Int) = 1) = false by decide, decide_true, Tree.bind, liftO, dIdx, sAsgL, sPar4, dV, dC, d1, d2, t1, t2, l0, lC, dL, dT, aV, aE, a0, aC, dCall, dCallK, dIf, tTr, tV, truth, asB, tNot, tAnd, tOr, dAnd, dOr, sSet, sAsg, sPar, sRet, s0, sC, sIf, sX, sOwn, sApp, sFrz, frzE, sFor, outV, fnF, lenIs, ent, small, few, putE, putsE, wipeE, it_l, it_t, iS, iR1, iR2, wEn, wZ2, wZ3, dLc, dLf, dSl, oN, oS, pCut, pSub, cI, bD, pIx, pList, pTup, pLen, pNot, qIsN, qNotN, pIsN, pNotN, List.getElem?_cons_succ, List.getElem?_cons_zero, List.set_cons_succ, List.set_cons_zero, List.length_cons, List.length_nil, List.map_cons, List.map_nil, List.foldr_cons, List.foldr_nil, List.replicate_succ, List.replicate_zero, List.cons_append, List.nil_append, sOPar, sOOPar, dOIx, sNest, sCallP, dOLen, fnP, pC, pFrz, dPr, dVT, dTIx, sSetT, sParT, asTI, asI_iL, all_bindE, all_retE, pAdd_ii, e1, e6]
    refine all_take (by omega) (by omega) fun v v0 v1 => ?_
    obtain ⟨ds, q1, q2, q3, q4⟩ := key p1 [v] p6 i1 (fun x hx => by rw [List.mem_singleton.mp hx]; exact ⟨v0, v1⟩) i6 l1 (by simp) l6
    simp only [Nat.reduceSub, Nat.reduceAdd, reduceIte, Tree.bind, liftO, dIdx, sAsgL, sPar4, dV, dC, d1, d2, t1, t2, l0, lC, dL, dT, aV, aE, a0, aC, dCall, dCallK, dIf, tTr, tV, truth, asB, tNot, tAnd, tOr, dAnd, dOr, sSet, sAsg, sPar, sRet, s0, sC, sIf, sX, sOwn, sApp, sFrz, frzE, sFor, outV, fnF, lenIs, ent, small, few, putE, putsE, wipeE, it_l, it_t, iS, iR1, iR2, wEn, wZ2, wZ3, dLc, dLf, dSl, oN, oS, pCut, pSub, cI, bD, pIx, pList, pTup, pLen, pNot, qIsN, qNotN, pIsN, pNotN, List.getElem?_cons_succ, List.getElem?_cons_zero, List.set_cons_succ, List.set_cons_zero, List.length_cons, List.length_nil, List.map_cons, List.map_nil, List.foldr_cons, List.foldr_nil, List.replicate_succ, List.replicate_zero, List.cons_append, List.nil_append, sOPar, sOOPar, dOIx, sNest, sCallP, dOLen, fnP, pC, pFrz, dPr, dVT, dTIx, sSetT, sParT, asTI, asI_iL, all_bindE, all_retE, Nat.reduceLeDiff]
    rw [show [PyData.int v] = iL [v] from rfl, q1]
    simp only [Tree.bind, liftO, dIdx, sAsgL, sPar4, dV, dC, d1, d2, t1, t2, l0, lC, dL, dT, aV, aE, a0, aC, dCall, dCallK, dIf, tTr, tV, truth, asB, tNot, tAnd, tOr, dAnd, dOr, sSet, sAsg, sPar, sRet, s0, sC, sIf, sX, sOwn, sApp, sFrz, frzE, sFor, outV, fnF, lenIs, ent, small, few, putE, putsE, wipeE, it_l, it_t, iS, iR1, iR2, wEn, wZ2, wZ3, dLc, dLf, dSl, oN, oS, pCut, pSub, cI, bD, pIx, pList, pTup, pLen, pNot, qIsN, qNotN, pIsN, pNotN, List.getElem?_cons_succ, List.getElem?_cons_zero, List.set_cons_succ, List.set_cons_zero, List.length_cons, List.length_nil, List.map_cons, List.map_nil, List.foldr_cons, List.foldr_nil, List.replicate_succ, List.replicate_zero, List.cons_append, List.nil_append, sOPar, sOOPar, dOIx, sNest, sCallP, dOLen, fnP, pC, pFrz, dPr, dVT, dTIx, sSetT, sParT, asTI, asI_iL, all_bindE, all_retE]
    rw [q2]
    exact h ds q3 q4
  · simp only [pEq_ii, show decide ((3 : Int) = 0) = false by decide, show decide ((3 : Int) = 1) = false by decide, show decide ((3 : Int) = 2) = false by decide, decide_true, Tree.bind, liftO, dIdx, sAsgL, sPar4, dV, dC, d1, d2, t1, t2, l0, lC, dL, dT, aV, aE, a0, aC, dCall, dCallK, dIf, tTr, tV, truth, asB, tNot, tAnd, tOr, dAnd, dOr, sSet, sAsg, sPar, sRet, s0, sC, sIf, sX, sOwn, sApp, sFrz, frzE, sFor, outV, fnF, lenIs, ent, small, few, putE, putsE, wipeE, it_l, it_t, iS, iR1, iR2, wEn, wZ2, wZ3, dLc, dLf, dSl, oN, oS, pCut, pSub, cI, bD, pIx, pList, pTup, pLen, pNot, qIsN, qNotN, pIsN, pNotN, List.getElem?_cons_succ, List.getElem?_cons_zero, List.set_cons_succ, List.set_cons_zero, List.length_cons, List.length_nil, List.map_cons, List.map_nil, List.foldr_cons, List.foldr_nil, List.replicate_succ, List.replicate_zero, List.cons_append, List.nil_append, sOPar, sOOPar, dOIx, sNest, sCallP, dOLen, fnP, pC, pFrz, dPr, dVT, dTIx, sSetT, sParT, asTI, asI_iL, all_bindE, all_retE, pAdd_ii, e1, e5]
    rw [pAdd_l (by omega)]
    exact h _ (inR_app i1 i5) (by simp; omega)
  · simp only [pEq_ii, show decide ((4 : Int) = 0) = false by decide, show decide ((4 : Int) = 1) = false by decide, show decide ((4 : Int) = 2) = false by decide, show decide ((4 : Int) = 3) = false by decide, Tree.bind, liftO, dIdx, sAsgL, sPar4, dV, dC, d1, d2, t1, t2, l0, lC, dL, dT, aV, aE, a0, aC, dCall, dCallK, dIf, tTr, tV, truth, asB, tNot, tAnd, tOr, dAnd, dOr, sSet, sAsg, sPar, sRet, s0, sC, sIf, sX, sOwn, sApp, sFrz, frzE, sFor, outV, fnF, lenIs, ent, small, few, putE, putsE, wipeE, it_l, it_t, iS, iR1, iR2, wEn, wZ2, wZ3, dLc, dLf, dSl, oN, oS, pCut, pSub, cI, bD, pIx, pList, pTup, pLen, pNot, qIsN, qNotN, pIsN, pNotN, List.getElem?_cons_succ, List.getElem?_cons_zero, List.set_cons_succ, List.set_cons_zero, List.length_cons, List.length_nil, List.map_cons, List.map_nil, List.foldr_cons, List.foldr_nil, List.replicate_succ, List.replicate_zero, List.cons_append, List.nil_append, sOPar, sOOPar, dOIx, sNest, sCallP, dOLen, fnP, pC, pFrz, dPr, dVT, dTIx, sSetT, sParT, asTI, asI_iL, all_bindE, all_retE]
    refine all_take (by omega) (by omega) fun v v0 v1 => ?_
    simp only [Nat.reduceSub, Nat.reduceAdd, reduceIte, Tree.bind, liftO, dIdx, sAsgL, sPar4, dV, dC, d1, d2, t1, t2, l0, lC, dL, dT, aV, aE, a0, aC, dCall, dCallK, dIf, tTr, tV, truth, asB, tNot, tAnd, tOr, dAnd, dOr, sSet, sAsg, sPar, sRet, s0, sC, sIf, sX, sOwn, sApp, sFrz, frzE, sFor, outV, fnF, lenIs, ent, small, few, putE, putsE, wipeE, it_l, it_t, iS, iR1, iR2, wEn, wZ2, wZ3, dLc, dLf, dSl, oN, oS, pCut, pSub, cI, bD, pIx, pList, pTup, pLen, pNot, qIsN, qNotN, pIsN, pNotN, List.getElem?_cons_succ, List.getElem?_cons_zero, List.set_cons_succ, List.set_cons_zero, List.length_cons, List.length_nil, List.map_cons, List.map_nil, List.foldr_cons, List.foldr_nil, List.replicate_succ, List.replicate_zero, List.cons_append, List.nil_append, sOPar, sOOPar, dOIx, sNest, sCallP, dOLen, fnP, pC, pFrz, dPr, dVT, dTIx, sSetT, sParT, asTI, asI_iL, all_bindE, all_retE, Nat.reduceLeDiff]
    rw [show [PyData.int v] = iL [v] from rfl, pAdd_l (by simp; omega)]
    exact h _ (inR_app (fun x hx => by rw [List.mem_singleton.mp hx]; exact ⟨v0, v1⟩) hc) (by simp; omega)
theorem ev_as_table {l : List Int} : m_as_table [.d (.list (iL l))] = .ret (.tuple (iL (srt l))) := by
  simp only [m_as_table, b_as_table, Nat.reduceSub, Nat.reduceAdd, reduceIte, Tree.bind, liftO, dIdx, sAsgL, sPar4, dV, dC, d1, d2, t1, t2, l0, lC, dL, dT, aV, aE, a0, aC, dCall, dCallK, dIf, tTr, tV, truth, asB, tNot, tAnd, tOr, dAnd, dOr, sSet, sAsg, sPar, sRet, s0, sC, sIf, sX, sOwn, sApp, sFrz, frzE, sFor, outV, fnF, lenIs, ent, small, few, putE, putsE, wipeE, it_l, it_t, iS, iR1, iR2, wEn, wZ2, wZ3, dLc, dLf, dSl, oN, oS, pCut, pSub, cI, bD, pIx, pList, pTup, pLen, pNot, qIsN, qNotN, pIsN, pNotN, List.getElem?_cons_succ, List.getElem?_cons_zero, List.set_cons_succ, List.set_cons_zero, List.length_cons, List.length_nil, List.map_cons, List.map_nil, List.foldr_cons, List.foldr_nil, List.replicate_succ, List.replicate_zero, List.cons_append, List.nil_append, sOPar, sOOPar, dOIx, sNest, sCallP, dOLen, fnP, pC, pFrz, dPr, dVT, dTIx, sSetT, sParT, asTI, asI_iL, pSrt_of]
theorem at_last {α : Type} {xs : List α} {k : Nat} {x : α} (hl : xs.length = k + 1) (h : xs[k]? = some x) : atI xs (-1) = some x := by
  unfold atI
  rw [hl, show ixN (k + 1) (-1) = some k from by
    unfold ixN
    rw [if_neg (by omega), if_pos (by omega)]
    congr 1
    omega]
  exact h
theorem mod_plc {n : Nat} {ss cs : List Int} (tb : Tbl n ss) (hne : ss ≠ []) (n0 : 0 < n) (hc : ∀ c ∈ cs, 0 ≤ c ∧ c < (n : Int)) : (ss.zip (stepsL n ss cs)).map (fun q => (q.1 - q.2) % (n : Int)) = runS n ss cs := by
  have e := plc_tbl tb hne n0 hc
  unfold plcL difL at e
  rw [runS_tbl tb hne n0 hc, ← e]
  unfold modL
  rw [List.map_map]
  rfl
theorem ev_table_by {n : Nat} {d t : PyData} {ss cs : List Int} (hM : Mv (mvL n ss.length cs) d) (ht : items t = some (iL ss)) (tb : Tbl n ss) (hne : ss ≠ []) (n0 : 0 < n) (n1 : n ≤ 1000) (kn : ss.length ≤ n) (hc : ∀ c ∈ cs, 0 ≤ c ∧ c < (n : Int)) : m_table_by [.d (.int (n : Int)), .d d, .d t] = .ret (.tuple (iL (tabA n ss cs))) := by
  have hz : (prs (iL ss) (iL (stepsL n ss cs))).length ≤ 50000 := by
    rw [prs_len, iL_len, iL_len]
    omega
  simp only [m_table_by, b_table_by, Nat.reduceSub, Nat.reduceAdd, reduceIte, Tree.bind, liftO, dIdx, sAsgL, sPar4, dV, dC, d1, d2, t1, t2, l0, lC, dL, dT, aV, aE, a0, aC, dCall, dCallK, dIf, tTr, tV, truth, asB, tNot, tAnd, tOr, dAnd, dOr, sSet, sAsg, sPar, sRet, s0, sC, sIf, sX, sOwn, sApp, sFrz, frzE, sFor, outV, fnF, lenIs, ent, small, few, putE, putsE, wipeE, it_l, it_t, iS, iR1, iR2, wEn, wZ2, wZ3, dLc, dLf, dSl, oN, oS, pCut, pSub, cI, bD, pIx, pList, pTup, pLen, pNot, qIsN, qNotN, pIsN, pNotN, List.getElem?_cons_succ, List.getElem?_cons_zero, List.set_cons_succ, List.set_cons_zero, List.length_cons, List.length_nil, List.map_cons, List.map_nil, List.foldr_cons, List.foldr_nil, List.replicate_succ, List.replicate_zero, List.cons_append, List.nil_append, sOPar, sOOPar, dOIx, sNest, sCallP, dOLen, fnP, pC, pFrz, dPr, dVT, dTIx, sSetT, sParT, asTI, asI_iL, ev_steps_by hM mOk_mvL ht n0 hne (by omega), stepsBy_tbl tb hne kn hc, ht, if_pos hz]
  rw [mapT_2 (g := fun q => (q.1 - q.2) % (n : Int)) fun q hq => by simp only [Nat.reduceSub, Nat.reduceAdd, reduceIte, Tree.bind, liftO, dIdx, sAsgL, sPar4, dV, dC, d1, d2, t1, t2, l0, lC, dL, dT, aV, aE, a0, aC, dCall, dCallK, dIf, tTr, tV, truth, asB, tNot, tAnd, tOr, dAnd, dOr, sSet, sAsg, sPar, sRet, s0, sC, sIf, sX, sOwn, sApp, sFrz, frzE, sFor, outV, fnF, lenIs, ent, small, few, putE, putsE, wipeE, it_l, it_t, iS, iR1, iR2, wEn, wZ2, wZ3, dLc, dLf, dSl, oN, oS, pCut, pSub, cI, bD, pIx, pList, pTup, pLen, pNot, qIsN, qNotN, pIsN, pNotN, List.getElem?_cons_succ, List.getElem?_cons_zero, List.set_cons_succ, List.set_cons_zero, List.length_cons, List.length_nil, List.map_cons, List.map_nil, List.foldr_cons, List.foldr_nil, List.replicate_succ, List.replicate_zero, List.cons_append, List.nil_append, sOPar, sOOPar, dOIx, sNest, sCallP, dOLen, fnP, pC, pFrz, dPr, dVT, dTIx, sSetT, sParT, asTI, asI_iL, pMod_of (show (0 : Int) < n by omega)]]
  rw [mod_plc tb hne n0 hc]
  simp only [Nat.reduceSub, Nat.reduceAdd, reduceIte, Tree.bind, liftO, dIdx, sAsgL, sPar4, dV, dC, d1, d2, t1, t2, l0, lC, dL, dT, aV, aE, a0, aC, dCall, dCallK, dIf, tTr, tV, truth, asB, tNot, tAnd, tOr, dAnd, dOr, sSet, sAsg, sPar, sRet, s0, sC, sIf, sX, sOwn, sApp, sFrz, frzE, sFor, outV, fnF, lenIs, ent, small, few, putE, putsE, wipeE, it_l, it_t, iS, iR1, iR2, wEn, wZ2, wZ3, dLc, dLf, dSl, oN, oS, pCut, pSub, cI, bD, pIx, pList, pTup, pLen, pNot, qIsN, qNotN, pIsN, pNotN, List.getElem?_cons_succ, List.getElem?_cons_zero, List.set_cons_succ, List.set_cons_zero, List.length_cons, List.length_nil, List.map_cons, List.map_nil, List.foldr_cons, List.foldr_nil, List.replicate_succ, List.replicate_zero, List.cons_append, List.nil_append, sOPar, sOOPar, dOIx, sNest, sCallP, dOLen, fnP, pC, pFrz, dPr, dVT, dTIx, sSetT, sParT, asTI, asI_iL, ev_as_table]
  rfl
theorem ev_moves_of_many {n k m : Nat} {e : PyData} {cs : List Int} (he : items e = some (iL cs)) (n0 : 0 < n) (n1 : n ≤ 1000) (k0 : 1 ≤ k) (kn : k ≤ n) (hc : ∀ c ∈ cs, 0 ≤ c ∧ c < (n : Int)) (hl : cs.length ≤ 1000) (hm : m < 2 ^ 99) : m_moves_of_many [.d (.int (n : Int)), .d (.int (k : Int)), .d e, .d (.int (m : Int))] = .ret (.tuple (rowsT (mvL n k (rep cs m)))) := by
  simp only [m_moves_of_many, b_moves_of_many, Nat.reduceSub, Nat.reduceAdd, reduceIte, Tree.bind, liftO, dIdx, sAsgL, sPar4, dV, dC, d1, d2, t1, t2, l0, lC, dL, dT, aV, aE, a0, aC, dCall, dCallK, dIf, tTr, tV, truth, asB, tNot, tAnd, tOr, dAnd, dOr, sSet, sAsg, sPar, sRet, s0, sC, sIf, sX, sOwn, sApp, sFrz, frzE, sFor, outV, fnF, lenIs, ent, small, few, putE, putsE, wipeE, it_l, it_t, iS, iR1, iR2, wEn, wZ2, wZ3, dLc, dLf, dSl, oN, oS, pCut, pSub, cI, bD, pIx, pList, pTup, pLen, pNot, qIsN, qNotN, pIsN, pNotN, List.getElem?_cons_succ, List.getElem?_cons_zero, List.set_cons_succ, List.set_cons_zero, List.length_cons, List.length_nil, List.map_cons, List.map_nil, List.foldr_cons, List.foldr_nil, List.replicate_succ, List.replicate_zero, List.cons_append, List.nil_append, sOPar, sOOPar, dOIx, sNest, sCallP, dOLen, fnP, pC, pFrz, dPr, dVT, dTIx, sSetT, sParT, asTI, asI_iL, ev_moves_of he n0 n1 k0 (by omega) hl, ev_repeated (mv_rows (mvL n k cs)) n0 n1 k0 kn hc hm]
theorem ev_steps_after_many {n m : Nat} {d e : PyData} {ss cs : List Int} (hd : items d = some (iL ss)) (he : items e = some (iL cs)) (tb : Tbl n ss) (hne : ss ≠ []) (n0 : 0 < n) (n1 : n ≤ 1000) (kn : ss.length ≤ n) (hc : ∀ c ∈ cs, 0 ≤ c ∧ c < (n : Int)) (hl : cs.length ≤ 1000) (hm : m < 2 ^ 99) : m_steps_after_many [.d (.int (n : Int)), .d d, .d e, .d (.int (m : Int))] = .ret (.list (iL (stepsL n ss (rep cs m)))) := by
  have k0 := List.length_pos_iff.mpr hne
  have hp : pLen d = some (.int (ss.length : Int)) := by
    unfold pLen
    rw [hd]
    show some (PyData.int ((iL ss).length : Int)) = _
    rw [iL_len]
  simp only [m_steps_after_many, b_steps_after_many, Nat.reduceSub, Nat.reduceAdd, reduceIte, Tree.bind, liftO, dIdx, sAsgL, sPar4, dV, dC, d1, d2, t1, t2, l0, lC, dL, dT, aV, aE, a0, aC, dCall, dCallK, dIf, tTr, tV, truth, asB, tNot, tAnd, tOr, dAnd, dOr, sSet, sAsg, sPar, sRet, s0, sC, sIf, sX, sOwn, sApp, sFrz, frzE, sFor, outV, fnF, lenIs, ent, small, few, putE, putsE, wipeE, it_l, it_t, iS, iR1, iR2, wEn, wZ2, wZ3, dLc, dLf, dSl, oN, oS, pCut, pSub, cI, bD, pIx, pList, pTup, pLen, pNot, qIsN, qNotN, pIsN, pNotN, List.getElem?_cons_succ, List.getElem?_cons_zero, List.set_cons_succ, List.set_cons_zero, List.length_cons, List.length_nil, List.map_cons, List.map_nil, List.foldr_cons, List.foldr_nil, List.replicate_succ, List.replicate_zero, List.cons_append, List.nil_append, sOPar, sOOPar, dOIx, sNest, sCallP, dOLen, fnP, pC, pFrz, dPr, dVT, dTIx, sSetT, sParT, asTI, asI_iL, hd, iL_len, ev_moves_of_many he n0 n1 k0 kn hc hl hm, ev_steps_by (mv_rows _) mOk_mvL hd n0 hne (show ss.length ≤ 1000 by omega), stepsBy_tbl tb hne kn (rep_in hc m)]
theorem ev_table_after_many {n m : Nat} {d e : PyData} {ss cs : List Int} (hd : items d = some (iL ss)) (he : items e = some (iL cs)) (tb : Tbl n ss) (hne : ss ≠ []) (n0 : 0 < n) (n1 : n ≤ 1000) (kn : ss.length ≤ n) (hc : ∀ c ∈ cs, 0 ≤ c ∧ c < (n : Int)) (hl : cs.length ≤ 1000) (hm : m < 2 ^ 99) : m_table_after_many [.d (.int (n : Int)), .d d, .d e, .d (.int (m : Int))] = .ret (.tuple (iL (tabA n ss (rep cs m)))) := by
  have k0 := List.length_pos_iff.mpr hne
  simp only [m_table_after_many, b_table_after_many, Nat.reduceSub, Nat.reduceAdd, reduceIte, Tree.bind, liftO, dIdx, sAsgL, sPar4, dV, dC, d1, d2, t1, t2, l0, lC, dL, dT, aV, aE, a0, aC, dCall, dCallK, dIf, tTr, tV, truth, asB, tNot, tAnd, tOr, dAnd, dOr, sSet, sAsg, sPar, sRet, s0, sC, sIf, sX, sOwn, sApp, sFrz, frzE, sFor, outV, fnF, lenIs, ent, small, few, putE, putsE, wipeE, it_l, it_t, iS, iR1, iR2, wEn, wZ2, wZ3, dLc, dLf, dSl, oN, oS, pCut, pSub, cI, bD, pIx, pList, pTup, pLen, pNot, qIsN, qNotN, pIsN, pNotN, List.getElem?_cons_succ, List.getElem?_cons_zero, List.set_cons_succ, List.set_cons_zero, List.length_cons, List.length_nil, List.map_cons, List.map_nil, List.foldr_cons, List.foldr_nil, List.replicate_succ, List.replicate_zero, List.cons_append, List.nil_append, sOPar, sOOPar, dOIx, sNest, sCallP, dOLen, fnP, pC, pFrz, dPr, dVT, dTIx, sSetT, sParT, asTI, asI_iL, hd, iL_len, ev_moves_of_many he n0 n1 k0 kn hc hl hm, ev_table_by (mv_rows _) hd tb hne n0 n1 kn (rep_in hc m)]
theorem eqv_iL : ∀ a b : List Int, PyData.eqvAll (iL a) (iL b) = decide (a = b)
  | [], [] => by simp [iL, PyData.eqvAll]
  | [], _ :: _ => by simp [iL, PyData.eqvAll]
  | _ :: _, [] => by simp [iL, PyData.eqvAll]
  | x :: a, y :: b => by
    have ih := eqv_iL a b
    have e : PyData.eqvAll (iL (x :: a)) (iL (y :: b)) = (PyData.eqv (.int x) (.int y) && PyData.eqvAll (iL a) (iL b)) := by
      show PyData.eqvAll (PyData.int x :: iL a) (PyData.int y :: iL b) = _
      simp only [PyData.eqvAll]
    rw [e, ih]
    by_cases h : x = y
    · subst h
      simp [PyData.eqv]
    · simp [PyData.eqv, h]
theorem dp_Is : ∀ ns : List Int, PyData.depthAll (iL ns) = 0
  | [] => rfl
  | n :: ns => by
    show PyData.depthAll (PyData.int n :: iL ns) = 0
    simp only [PyData.depthAll, dp_Is ns, PyData.depth]
    rfl
theorem lay_Is : ∀ ns : List Int, PyData.canLayAll0 (iL ns) = true
  | [] => rfl
  | n :: ns => by
    show PyData.canLayAll0 (PyData.int n :: iL ns) = true
    simp only [PyData.canLayAll0, lay_Is ns, PyData.canLay0]
    rfl
theorem shaped_tup (ns : List Int) : SeqAt.shaped (.tuple (iL ns)) = true := by
  show (PyData.canLay0 (.tuple (iL ns)) && decide (PyData.depth (.tuple (iL ns)) ≤ 64)) = true
  simp only [PyData.canLay0, PyData.depth, lay_Is, dp_Is]
  rfl
theorem pEq_tt (a b : List Int) : pEq (.tuple (iL a)) (.tuple (iL b)) = some (decide (a = b)) := by
  simp [pEq, shaped_tup, PyData.eqv, eqv_iL]
theorem pNe_tt (a b : List Int) : pNe (.tuple (iL a)) (.tuple (iL b)) = some (!decide (a = b)) := by
  simp [pNe, pEq, shaped_tup, PyData.eqv, eqv_iL]
theorem pEq_I (i : Int) : pEq (.int i) (.int i) = some true := by
  show some (decide (i = i)) = _
  simp
theorem pSum_of (l : List Int) : pSum (.list (iL l)) = some (.int l.sum) := by
  unfold pSum onI
  simp only [asI_iL]
  rw [sumI_eq]
theorem pAll_yes {ds : List PyData} (h : ∀ d ∈ ds, d = .bool true) : pAll (.list ds) = some (.bool true) := by
  have e : ds = (List.replicate ds.length true).map .bool := List.ext_getElem? fun i => by
    by_cases hi : i < ds.length
    · rw [List.getElem?_eq_getElem hi, h _ (List.getElem_mem hi), List.getElem?_map, List.getElem?_replicate, if_pos hi]
      rfl
    · rw [List.getElem?_eq_none (by omega), List.getElem?_eq_none (by simp; omega)]
  unfold pAll onB
  dsimp only
  rw [e, asBs_map]
  simp
theorem stepsL_len' {n : Int} {ss cs : List Int} : (stepsL n ss cs).length = ss.length := stT_len n ss cs cs.length
theorem at2_0 (a b : PyData) : atI [a, b] 0 = some a := rfl
theorem pow_6 : pPow (.int 10) (.int 6) = some (.int 1000000) := by
  show (if CPow 10 6 then some (PyData.int (10 ^ (6 : Int).toNat)) else none) = _
  rw [if_pos ⟨by decide, by decide, by decide⟩]
  rfl
def tD (t : List Int) : PyData := .tuple (iL t)
def okOn (t : List Int) (c : Nat) : Bool := t.isEmpty || decide (t.getLastD 0 < (c : Int))
def goOn (n : Nat) (t : List Int) : List (List Int) := (List.range n).filterMap fun (c : Nat) => if okOn t c then some (t ++ [(c : Int)]) else none
def tbs (n : Nat) : Nat → List (List Int)
  | 0 => [[]]
  | k + 1 => (tbs n k).flatMap (goOn n)
theorem tbs_few0 : ((List.range 11).all fun n => (List.range 11).all fun k => decide ((tbs n k).length ≤ 1000)) = true := by decide +kernel
theorem tbs_few {n k : Nat} (hn : n ≤ 10) (hk : k ≤ 10) : (tbs n k).length ≤ 1000 := by
  have h := List.all_eq_true.mp tbs_few0 n (List.mem_range.mpr (by omega))
  have g := List.all_eq_true.mp h k (List.mem_range.mpr (by omega))
  exact of_decide_eq_true g
theorem last_le {t : List Int} (h : t.Pairwise (· < ·)) : ∀ x ∈ t, x ≤ t.getLastD 0 := fun x hx => by
  obtain ⟨i, hi⟩ := List.getElem?_of_mem hx
  obtain ⟨hl, rfl⟩ := List.getElem?_eq_some_iff.mp hi
  have hne : t ≠ [] := fun e => by rw [e] at hl; simp at hl
  have e : t.getLastD 0 = t[t.length - 1]'(by omega) := by
    rw [List.getLastD_eq_getLast?, List.getLast?_eq_getElem?, List.getElem?_eq_getElem (by omega)]
    rfl
  rw [e]
  by_cases q : i = t.length - 1
  · subst q
    exact Int.le_refl _
  · exact Int.le_of_lt (List.pairwise_iff_getElem.mp h i (t.length - 1) hl (by omega) (by omega))
theorem tbs_mem {n : Nat} : ∀ {k : Nat} {t : List Int}, t ∈ tbs n k → Tbl n t ∧ t.length = k
  | 0, t, h => by
    rw [List.mem_singleton.mp (show t ∈ [[]] from h)]
    exact ⟨⟨List.Pairwise.nil, fun x hx => by cases hx⟩, rfl⟩
  | k + 1, t, h => by
    obtain ⟨u, hu, ht⟩ := List.mem_flatMap.mp (show t ∈ (tbs n k).flatMap (goOn n) from h)
    obtain ⟨tb, hl⟩ := tbs_mem hu
    unfold goOn at ht
    obtain ⟨c, hc, e⟩ := List.mem_filterMap.mp ht
    have hcn := List.mem_range.mp hc
    split at e
    · rename_i ok
      cases e
      refine ⟨⟨List.pairwise_append.mpr ⟨tb.asc, List.pairwise_singleton _ _, fun a ha b hb => ?_⟩, fun x hx => ?_⟩, by rw [List.length_append, hl]; rfl⟩
      · rw [List.mem_singleton.mp hb]
        rcases Bool.or_eq_true_iff.mp ok with q | q
        · rw [List.isEmpty_iff.mp q] at ha
          cases ha
        · exact Int.lt_of_le_of_lt (last_le tb.asc a ha) (of_decide_eq_true q)
      · rcases List.mem_append.mp hx with q | q
        · exact tb.mem x q
        · rw [List.mem_singleton.mp q]
          omega
    · cases e
theorem mapT_tD {β : Type} {f : PyData → Tree β} {g : List Int → β} {ts : List (List Int)} (h : ∀ t ∈ ts, f (tD t) = .ret (g t)) : mapT f (ts.map tD) = .ret (ts.map g) := by
  rw [mapT_map]
  exact mapT_ret h
theorem pAdd_t {a b : List Int} (h : a.length + b.length ≤ 100000) : pAdd (.tuple (iL a)) (.tuple (iL b)) = some (.tuple (iL (a ++ b))) := by
  show (if (iL a).length + (iL b).length ≤ 100000 then some (PyData.tuple (iL a ++ iL b)) else none) = _
  rw [if_pos (by rw [iL_len, iL_len]; exact h), show iL a ++ iL b = iL (a ++ b) from List.map_append.symm]
theorem ev_all_tables {n k : Nat} (n0 : 1 ≤ n) (n1 : n ≤ 10) (kn : k ≤ 10) : m_all_tables [.d (.int (n : Int)), .d (.int (k : Int))] = .ret (.list ((tbs n k).map tD)) := by
  simp only [m_all_tables, b_all_tables, Nat.reduceSub, Nat.reduceAdd, reduceIte, Tree.bind, liftO, dIdx, sAsgL, sPar4, dV, dC, d1, d2, t1, t2, l0, lC, dL, dT, aV, aE, a0, aC, dCall, dCallK, dIf, tTr, tV, truth, asB, tNot, tAnd, tOr, dAnd, dOr, sSet, sAsg, sPar, sRet, s0, sC, sIf, sX, sOwn, sApp, sFrz, frzE, sFor, outV, fnF, lenIs, ent, small, few, putE, putsE, wipeE, it_l, it_t, iS, iR1, iR2, wEn, wZ2, wZ3, dLc, dLf, dSl, oN, oS, pCut, pSub, cI, bD, pIx, pList, pTup, pLen, pNot, qIsN, qNotN, pIsN, pNotN, List.getElem?_cons_succ, List.getElem?_cons_zero, List.set_cons_succ, List.set_cons_zero, List.length_cons, List.length_nil, List.map_cons, List.map_nil, List.foldr_cons, List.foldr_nil, List.replicate_succ, List.replicate_zero, List.cons_append, List.nil_append, sOPar, sOOPar, dOIx, sNest, sCallP, dOLen, fnP, pC, pFrz, dPr, dVT, dTIx, sSetT, sParT, asTI, asI_iL, Nat.reduceLeDiff, rg1_nat (show k ≤ 100000 by omega)]
  refine forT_then (C := fun t => Tree.bind (Tree.bind t _) outV = _) (P := fun o => ∃ x3, o = .nx [some (.d (.int (n : Int))), some (.d (.int (k : Int))), some (.d (.list ((tbs n k).map tD))), x3, none, none]) (fun i E => ∃ x3, E = [some (.d (.int (n : Int))), some (.d (.int (k : Int))), some (.d (.list ((tbs n i).map tD))), x3, none, none]) ⟨_, rfl⟩ (fun i x E hx hI => ?_) (fun E hI => ?_) fun o ho => ?_
  · obtain ⟨x3, rfl⟩ := hI
    obtain ⟨hi, rfl⟩ := nums_at hx
    have hlen := tbs_few (k := i) n1 (by omega)
    refine ⟨_, rfl, ?_⟩
    simp only [Nat.reduceSub, Nat.reduceAdd, reduceIte, Tree.bind, liftO, dIdx, sAsgL, sPar4, dV, dC, d1, d2, t1, t2, l0, lC, dL, dT, aV, aE, a0, aC, dCall, dCallK, dIf, tTr, tV, truth, asB, tNot, tAnd, tOr, dAnd, dOr, sSet, sAsg, sPar, sRet, s0, sC, sIf, sX, sOwn, sApp, sFrz, frzE, sFor, outV, fnF, lenIs, ent, small, few, putE, putsE, wipeE, it_l, it_t, iS, iR1, iR2, wEn, wZ2, wZ3, dLc, dLf, dSl, oN, oS, pCut, pSub, cI, bD, pIx, pList, pTup, pLen, pNot, qIsN, qNotN, pIsN, pNotN, List.getElem?_cons_succ, List.getElem?_cons_zero, List.set_cons_succ, List.set_cons_zero, List.length_cons, List.length_nil, List.map_cons, List.map_nil, List.foldr_cons, List.foldr_nil, List.replicate_succ, List.replicate_zero, List.cons_append, List.nil_append, sOPar, sOOPar, dOIx, sNest, sCallP, dOLen, fnP, pC, pFrz, dPr, dVT, dTIx, sSetT, sParT, asTI, asI_iL, dLc2, atMost, List.length_map, if_pos hlen]
    rw [mapT_tD (g := fun t => (goOn n t).map tD) fun t ht => by
      obtain ⟨tb, hl⟩ := tbs_mem ht
      simp only [Nat.reduceSub, Nat.reduceAdd, reduceIte, Tree.bind, liftO, dIdx, sAsgL, sPar4, dV, dC, d1, d2, t1, t2, l0, lC, dL, dT, aV, aE, a0, aC, dCall, dCallK, dIf, tTr, tV, truth, asB, tNot, tAnd, tOr, dAnd, dOr, sSet, sAsg, sPar, sRet, s0, sC, sIf, sX, sOwn, sApp, sFrz, frzE, sFor, outV, fnF, lenIs, ent, small, few, putE, putsE, wipeE, it_l, it_t, iS, iR1, iR2, wEn, wZ2, wZ3, dLc, dLf, dSl, oN, oS, pCut, pSub, cI, bD, pIx, pList, pTup, pLen, pNot, qIsN, qNotN, pIsN, pNotN, List.getElem?_cons_succ, List.getElem?_cons_zero, List.set_cons_succ, List.set_cons_zero, List.length_cons, List.length_nil, List.map_cons, List.map_nil, List.foldr_cons, List.foldr_nil, List.replicate_succ, List.replicate_zero, List.cons_append, List.nil_append, sOPar, sOOPar, dOIx, sNest, sCallP, dOLen, fnP, pC, pFrz, dPr, dVT, dTIx, sSetT, sParT, asTI, asI_iL, in2, rg1_nat (show n ≤ 100000 by omega), atMost, nums_len, if_pos (show n ≤ 50 by omega)]
      rw [pickT_R (g := fun c => if okOn t c then some (tD (t ++ [(c : Int)])) else none) fun c hc => by
        have ha : pAdd (tD t) (.tuple [.int (c : Int)]) = some (tD (t ++ [(c : Int)])) := pAdd_t (b := [(c : Int)]) (by simp; omega)
        cases t with
        | nil =>
          have ha' : pAdd (.tuple []) (.tuple [.int (c : Int)]) = some (tD [(c : Int)]) := ha
          simp only [Nat.reduceSub, Nat.reduceAdd, reduceIte, Tree.bind, liftO, dIdx, sAsgL, sPar4, dV, dC, d1, d2, t1, t2, l0, lC, dL, dT, aV, aE, a0, aC, dCall, dCallK, dIf, tTr, tV, truth, asB, tNot, tAnd, tOr, dAnd, dOr, sSet, sAsg, sPar, sRet, s0, sC, sIf, sX, sOwn, sApp, sFrz, frzE, sFor, outV, fnF, lenIs, ent, small, few, putE, putsE, wipeE, it_l, it_t, iS, iR1, iR2, wEn, wZ2, wZ3, dLc, dLf, dSl, oN, oS, pCut, pSub, cI, bD, pIx, pList, pTup, pLen, pNot, qIsN, qNotN, pIsN, pNotN, List.getElem?_cons_succ, List.getElem?_cons_zero, List.set_cons_succ, List.set_cons_zero, List.length_cons, List.length_nil, List.map_cons, List.map_nil, List.foldr_cons, List.foldr_nil, List.replicate_succ, List.replicate_zero, List.cons_append, List.nil_append, sOPar, sOOPar, dOIx, sNest, sCallP, dOLen, fnP, pC, pFrz, dPr, dVT, dTIx, sSetT, sParT, asTI, asI_iL, in1, show tD [] = .tuple [] from rfl, Nat.reduceLeDiff, List.isEmpty, Bool.not_true, Bool.not_false, ha', show okOn [] c = true from rfl]
        | cons a t =>
          have hlast : atI (.int a :: iL t) (-1) = some (.int ((a :: t).getLastD 0)) := by
            have h1 : (iL (a :: t))[t.length]? = some (.int ((a :: t).getLastD 0)) := by
              unfold iL
              rw [List.getElem?_map, List.getLastD_eq_getLast?, List.getLast?_eq_getElem?, show (a :: t).length - 1 = t.length from rfl, List.getElem?_eq_getElem (by simp)]
              rfl
            exact at_last (k := t.length) (by show (iL (a :: t)).length = _; rw [iL_len]; rfl) h1
          have ha' : pAdd (.tuple (.int a :: iL t)) (.tuple [.int (c : Int)]) = some (tD (a :: t ++ [(c : Int)])) := ha
          simp only [Nat.reduceSub, Nat.reduceAdd, reduceIte, Tree.bind, liftO, dIdx, sAsgL, sPar4, dV, dC, d1, d2, t1, t2, l0, lC, dL, dT, aV, aE, a0, aC, dCall, dCallK, dIf, tTr, tV, truth, asB, tNot, tAnd, tOr, dAnd, dOr, sSet, sAsg, sPar, sRet, s0, sC, sIf, sX, sOwn, sApp, sFrz, frzE, sFor, outV, fnF, lenIs, ent, small, few, putE, putsE, wipeE, it_l, it_t, iS, iR1, iR2, wEn, wZ2, wZ3, dLc, dLf, dSl, oN, oS, pCut, pSub, cI, bD, pIx, pList, pTup, pLen, pNot, qIsN, qNotN, pIsN, pNotN, List.getElem?_cons_succ, List.getElem?_cons_zero, List.set_cons_succ, List.set_cons_zero, List.length_cons, List.length_nil, List.map_cons, List.map_nil, List.foldr_cons, List.foldr_nil, List.replicate_succ, List.replicate_zero, List.cons_append, List.nil_append, sOPar, sOOPar, dOIx, sNest, sCallP, dOLen, fnP, pC, pFrz, dPr, dVT, dTIx, sSetT, sParT, asTI, asI_iL, in1, show tD (a :: t) = .tuple (.int a :: iL t) from rfl, Nat.reduceLeDiff, List.isEmpty, Bool.not_true, Bool.not_false, pNeg, hlast, ha', okOn, cLt]
          by_cases q : (a :: t).getLastD 0 < (c : Int)
          · simp only [decide_eq_true q, Bool.or_true, if_true]
          · simp only [decide_eq_false q, Bool.or_false, Bool.false_eq_true, if_false]]
      unfold goOn
      rw [List.map_filterMap]
      congr 2
      funext c
      split <;> rfl]
    refine ⟨_, rfl, some (.d (.int (i : Int))), ?_⟩
    rw [show tbs n (i + 1) = (tbs n i).flatMap (goOn n) from rfl, List.map_flatMap]
    rfl
  · obtain ⟨x3, rfl⟩ := hI
    rw [nums_len]
    exact ⟨_, rfl⟩
  · obtain ⟨x3, rfl⟩ := ho
    simp only [Nat.reduceSub, Nat.reduceAdd, reduceIte, Tree.bind, liftO, dIdx, sAsgL, sPar4, dV, dC, d1, d2, t1, t2, l0, lC, dL, dT, aV, aE, a0, aC, dCall, dCallK, dIf, tTr, tV, truth, asB, tNot, tAnd, tOr, dAnd, dOr, sSet, sAsg, sPar, sRet, s0, sC, sIf, sX, sOwn, sApp, sFrz, frzE, sFor, outV, fnF, lenIs, ent, small, few, putE, putsE, wipeE, it_l, it_t, iS, iR1, iR2, wEn, wZ2, wZ3, dLc, dLf, dSl, oN, oS, pCut, pSub, cI, bD, pIx, pList, pTup, pLen, pNot, qIsN, qNotN, pIsN, pNotN, List.getElem?_cons_succ, List.getElem?_cons_zero, List.set_cons_succ, List.set_cons_zero, List.length_cons, List.length_nil, List.map_cons, List.map_nil, List.foldr_cons, List.foldr_nil, List.replicate_succ, List.replicate_zero, List.cons_append, List.nil_append, sOPar, sOOPar, dOIx, sNest, sCallP, dOLen, fnP, pC, pFrz, dPr, dVT, dTIx, sSetT, sParT, asTI, asI_iL]
theorem shaped_pair (a b : List Int) : SeqAt.shaped (.tuple [tD a, tD b]) = true := by
  show (PyData.canLay0 (.tuple [tD a, tD b]) && decide (PyData.depth (.tuple [tD a, tD b]) ≤ 64)) = true
  simp only [PyData.canLay0, PyData.canLayAll0, PyData.depth, PyData.depthAll, tD, lay_Is, dp_Is]
  rfl
theorem pEq_pair (a b c d : List Int) : pEq (.tuple [tD a, tD b]) (.tuple [tD c, tD d]) = some (decide (a = c) && decide (b = d)) := by
  have h1 := shaped_pair a b
  have h2 := shaped_pair c d
  unfold tD at h1 h2
  simp [pEq, h1, h2, PyData.eqv, PyData.eqvAll, tD, eqv_iL]
theorem pNe_pair (a b c d : List Int) : pNe (.tuple [tD a, tD b]) (.tuple [tD c, tD d]) = some (!(decide (a = c) && decide (b = d))) := by
  unfold pNe
  rw [pEq_pair]
theorem prs_map {α : Type} (f g : α → PyData) (ts : List α) : prs (ts.map f) (ts.map g) = ts.map fun t => .tuple [f t, g t] := by
  unfold prs
  rw [List.zip_map', List.map_map]
  rfl
def headT : List (List Int) → PyData
  | [] => .none
  | t :: _ => tD t
theorem ev_all_led {n k : Nat} {e : PyData} {cs : List Int} (he : items e = some (iL cs)) (n1 : n ≤ 10) (k0 : 1 ≤ k) (kn : k < n) (hc : ∀ c ∈ cs, 0 ≤ c ∧ c < (n : Int)) (hl : cs.length ≤ 1000) : m_all_led [.d (.int (n : Int)), .d (.int (k : Int)), .d e] = .ret (.list ((tbs n k).map fun t => .tuple [tD t, tD (tabA n t cs)])) := by
  have hlen := tbs_few (n := n) (k := k) n1 (by omega)
  simp only [m_all_led, b_all_led, Nat.reduceSub, Nat.reduceAdd, reduceIte, Tree.bind, liftO, dIdx, sAsgL, sPar4, dV, dC, d1, d2, t1, t2, l0, lC, dL, dT, aV, aE, a0, aC, dCall, dCallK, dIf, tTr, tV, truth, asB, tNot, tAnd, tOr, dAnd, dOr, sSet, sAsg, sPar, sRet, s0, sC, sIf, sX, sOwn, sApp, sFrz, frzE, sFor, outV, fnF, lenIs, ent, small, few, putE, putsE, wipeE, it_l, it_t, iS, iR1, iR2, wEn, wZ2, wZ3, dLc, dLf, dSl, oN, oS, pCut, pSub, cI, bD, pIx, pList, pTup, pLen, pNot, qIsN, qNotN, pIsN, pNotN, List.getElem?_cons_succ, List.getElem?_cons_zero, List.set_cons_succ, List.set_cons_zero, List.length_cons, List.length_nil, List.map_cons, List.map_nil, List.foldr_cons, List.foldr_nil, List.replicate_succ, List.replicate_zero, List.cons_append, List.nil_append, sOPar, sOOPar, dOIx, sNest, sCallP, dOLen, fnP, pC, pFrz, dPr, dVT, dTIx, sSetT, sParT, asTI, asI_iL, ev_moves_of he (show 0 < n by omega) (show n ≤ 1000 by omega) k0 (show k ≤ 1000 by omega) hl, ev_all_tables (show 1 ≤ n by omega) n1 (show k ≤ 10 by omega), List.length_map, if_pos (show (tbs n k).length ≤ 50000 by omega)]
  rw [mapT_tD (g := fun t => .tuple [tD t, tD (tabA n t cs)]) fun t ht => by
    obtain ⟨tb, htl⟩ := tbs_mem ht
    have hne : t ≠ [] := List.length_pos_iff.mp (by omega)
    have e2 := ev_table_by (d := .tuple (rowsT (mvL n k cs))) (t := tD t) (by rw [htl]; exact mv_rows _) (it_t _) tb hne (show 0 < n by omega) (by omega) (by omega) hc
    simp only [Nat.reduceSub, Nat.reduceAdd, reduceIte, Tree.bind, liftO, dIdx, sAsgL, sPar4, dV, dC, d1, d2, t1, t2, l0, lC, dL, dT, aV, aE, a0, aC, dCall, dCallK, dIf, tTr, tV, truth, asB, tNot, tAnd, tOr, dAnd, dOr, sSet, sAsg, sPar, sRet, s0, sC, sIf, sX, sOwn, sApp, sFrz, frzE, sFor, outV, fnF, lenIs, ent, small, few, putE, putsE, wipeE, it_l, it_t, iS, iR1, iR2, wEn, wZ2, wZ3, dLc, dLf, dSl, oN, oS, pCut, pSub, cI, bD, pIx, pList, pTup, pLen, pNot, qIsN, qNotN, pIsN, pNotN, List.getElem?_cons_succ, List.getElem?_cons_zero, List.set_cons_succ, List.set_cons_zero, List.length_cons, List.length_nil, List.map_cons, List.map_nil, List.foldr_cons, List.foldr_nil, List.replicate_succ, List.replicate_zero, List.cons_append, List.nil_append, sOPar, sOOPar, dOIx, sNest, sCallP, dOLen, fnP, pC, pFrz, dPr, dVT, dTIx, sSetT, sParT, asTI, asI_iL, e2, Nat.reduceLeDiff]
    rfl]
  simp only [Nat.reduceSub, Nat.reduceAdd, reduceIte, Tree.bind, liftO, dIdx, sAsgL, sPar4, dV, dC, d1, d2, t1, t2, l0, lC, dL, dT, aV, aE, a0, aC, dCall, dCallK, dIf, tTr, tV, truth, asB, tNot, tAnd, tOr, dAnd, dOr, sSet, sAsg, sPar, sRet, s0, sC, sIf, sX, sOwn, sApp, sFrz, frzE, sFor, outV, fnF, lenIs, ent, small, few, putE, putsE, wipeE, it_l, it_t, iS, iR1, iR2, wEn, wZ2, wZ3, dLc, dLf, dSl, oN, oS, pCut, pSub, cI, bD, pIx, pList, pTup, pLen, pNot, qIsN, qNotN, pIsN, pNotN, List.getElem?_cons_succ, List.getElem?_cons_zero, List.set_cons_succ, List.set_cons_zero, List.length_cons, List.length_nil, List.map_cons, List.map_nil, List.foldr_cons, List.foldr_nil, List.replicate_succ, List.replicate_zero, List.cons_append, List.nil_append, sOPar, sOOPar, dOIx, sNest, sCallP, dOLen, fnP, pC, pFrz, dPr, dVT, dTIx, sSetT, sParT, asTI, asI_iL]
theorem ev_leading_difference {n k : Nat} {e1 e2 : PyData} {cs ds : List Int} (h1 : items e1 = some (iL cs)) (h2 : items e2 = some (iL ds)) (n1 : n ≤ 10) (k0 : 1 ≤ k) (kn : k < n) (hc : ∀ c ∈ cs, 0 ≤ c ∧ c < (n : Int)) (hl : cs.length ≤ 1000) (hd : ∀ c ∈ ds, 0 ≤ c ∧ c < (n : Int)) (hl2 : ds.length ≤ 1000) : m_leading_difference [.d (.int (n : Int)), .d (.int (k : Int)), .d e1, .d e2] = .ret (headT ((tbs n k).filter fun t => !decide (tabA n t cs = tabA n t ds))) := by
  have hlen := tbs_few (n := n) (k := k) n1 (by omega)
  simp only [m_leading_difference, b_leading_difference, Nat.reduceSub, Nat.reduceAdd, reduceIte, Tree.bind, liftO, dIdx, sAsgL, sPar4, dV, dC, d1, d2, t1, t2, l0, lC, dL, dT, aV, aE, a0, aC, dCall, dCallK, dIf, tTr, tV, truth, asB, tNot, tAnd, tOr, dAnd, dOr, sSet, sAsg, sPar, sRet, s0, sC, sIf, sX, sOwn, sApp, sFrz, frzE, sFor, outV, fnF, lenIs, ent, small, few, putE, putsE, wipeE, it_l, it_t, iS, iR1, iR2, wEn, wZ2, wZ3, dLc, dLf, dSl, oN, oS, pCut, pSub, cI, bD, pIx, pList, pTup, pLen, pNot, qIsN, qNotN, pIsN, pNotN, List.getElem?_cons_succ, List.getElem?_cons_zero, List.set_cons_succ, List.set_cons_zero, List.length_cons, List.length_nil, List.map_cons, List.map_nil, List.foldr_cons, List.foldr_nil, List.replicate_succ, List.replicate_zero, List.cons_append, List.nil_append, sOPar, sOOPar, dOIx, sNest, sCallP, dOLen, fnP, pC, pFrz, dPr, dVT, dTIx, sSetT, sParT, asTI, asI_iL, ev_all_led h1 n1 k0 kn hc hl, ev_all_led h2 n1 k0 kn hd hl2, prs_map, List.length_map, if_pos (show (tbs n k).length ≤ 50000 by omega)]
  rw [pickT_map, pickT_ret (g := fun t => if tabA n t cs = tabA n t ds then none else some (tD t)) fun t ht => by
    simp only [Nat.reduceSub, Nat.reduceAdd, reduceIte, Tree.bind, liftO, dIdx, sAsgL, sPar4, dV, dC, d1, d2, t1, t2, l0, lC, dL, dT, aV, aE, a0, aC, dCall, dCallK, dIf, tTr, tV, truth, asB, tNot, tAnd, tOr, dAnd, dOr, sSet, sAsg, sPar, sRet, s0, sC, sIf, sX, sOwn, sApp, sFrz, frzE, sFor, outV, fnF, lenIs, ent, small, few, putE, putsE, wipeE, it_l, it_t, iS, iR1, iR2, wEn, wZ2, wZ3, dLc, dLf, dSl, oN, oS, pCut, pSub, cI, bD, pIx, pList, pTup, pLen, pNot, qIsN, qNotN, pIsN, pNotN, List.getElem?_cons_succ, List.getElem?_cons_zero, List.set_cons_succ, List.set_cons_zero, List.length_cons, List.length_nil, List.map_cons, List.map_nil, List.foldr_cons, List.foldr_nil, List.replicate_succ, List.replicate_zero, List.cons_append, List.nil_append, sOPar, sOOPar, dOIx, sNest, sCallP, dOLen, fnP, pC, pFrz, dPr, dVT, dTIx, sSetT, sParT, asTI, asI_iL, pNe_pair, decide_true, Bool.true_and]
    by_cases q : tabA n t cs = tabA n t ds
    · simp only [q, decide_true, Bool.not_true, if_true]
    · simp only [q, decide_false, Bool.not_false, if_false, Nat.reduceSub, Nat.reduceAdd, reduceIte, Tree.bind, liftO, dIdx, sAsgL, sPar4, dV, dC, d1, d2, t1, t2, l0, lC, dL, dT, aV, aE, a0, aC, dCall, dCallK, dIf, tTr, tV, truth, asB, tNot, tAnd, tOr, dAnd, dOr, sSet, sAsg, sPar, sRet, s0, sC, sIf, sX, sOwn, sApp, sFrz, frzE, sFor, outV, fnF, lenIs, ent, small, few, putE, putsE, wipeE, it_l, it_t, iS, iR1, iR2, wEn, wZ2, wZ3, dLc, dLf, dSl, oN, oS, pCut, pSub, cI, bD, pIx, pList, pTup, pLen, pNot, qIsN, qNotN, pIsN, pNotN, List.getElem?_cons_succ, List.getElem?_cons_zero, List.set_cons_succ, List.set_cons_zero, List.length_cons, List.length_nil, List.map_cons, List.map_nil, List.foldr_cons, List.foldr_nil, List.replicate_succ, List.replicate_zero, List.cons_append, List.nil_append, sOPar, sOOPar, dOIx, sNest, sCallP, dOLen, fnP, pC, pFrz, dPr, dVT, dTIx, sSetT, sParT, asTI, asI_iL, at2_0]]
  have e : ((tbs n k).filterMap fun t => if tabA n t cs = tabA n t ds then none else some (tD t)) = ((tbs n k).filter fun t => !decide (tabA n t cs = tabA n t ds)).map tD := by
    induction tbs n k with
    | nil => rfl
    | cons t ts ih =>
      rw [List.filterMap_cons, List.filter_cons, ih]
      by_cases q : tabA n t cs = tabA n t ds
      · simp [q]
      · simp [q]
  rw [e]
  cases (tbs n k).filter fun t => !decide (tabA n t cs = tabA n t ds) with
  | nil => simp only [Nat.reduceSub, Nat.reduceAdd, reduceIte, Tree.bind, liftO, dIdx, sAsgL, sPar4, dV, dC, d1, d2, t1, t2, l0, lC, dL, dT, aV, aE, a0, aC, dCall, dCallK, dIf, tTr, tV, truth, asB, tNot, tAnd, tOr, dAnd, dOr, sSet, sAsg, sPar, sRet, s0, sC, sIf, sX, sOwn, sApp, sFrz, frzE, sFor, outV, fnF, lenIs, ent, small, few, putE, putsE, wipeE, it_l, it_t, iS, iR1, iR2, wEn, wZ2, wZ3, dLc, dLf, dSl, oN, oS, pCut, pSub, cI, bD, pIx, pList, pTup, pLen, pNot, qIsN, qNotN, pIsN, pNotN, List.getElem?_cons_succ, List.getElem?_cons_zero, List.set_cons_succ, List.set_cons_zero, List.length_cons, List.length_nil, List.map_cons, List.map_nil, List.foldr_cons, List.foldr_nil, List.replicate_succ, List.replicate_zero, List.cons_append, List.nil_append, sOPar, sOOPar, dOIx, sNest, sCallP, dOLen, fnP, pC, pFrz, dPr, dVT, dTIx, sSetT, sParT, asTI, asI_iL, List.isEmpty, Bool.not_true, Bool.not_false, headT]
  | cons t ts =>
    have h0 : atI (tD t :: ts.map tD) 0 = some (tD t) := atI_nat (k := 0) rfl
    simp only [Nat.reduceSub, Nat.reduceAdd, reduceIte, Tree.bind, liftO, dIdx, sAsgL, sPar4, dV, dC, d1, d2, t1, t2, l0, lC, dL, dT, aV, aE, a0, aC, dCall, dCallK, dIf, tTr, tV, truth, asB, tNot, tAnd, tOr, dAnd, dOr, sSet, sAsg, sPar, sRet, s0, sC, sIf, sX, sOwn, sApp, sFrz, frzE, sFor, outV, fnF, lenIs, ent, small, few, putE, putsE, wipeE, it_l, it_t, iS, iR1, iR2, wEn, wZ2, wZ3, dLc, dLf, dSl, oN, oS, pCut, pSub, cI, bD, pIx, pList, pTup, pLen, pNot, qIsN, qNotN, pIsN, pNotN, List.getElem?_cons_succ, List.getElem?_cons_zero, List.set_cons_succ, List.set_cons_zero, List.length_cons, List.length_nil, List.map_cons, List.map_nil, List.foldr_cons, List.foldr_nil, List.replicate_succ, List.replicate_zero, List.cons_append, List.nil_append, sOPar, sOOPar, dOIx, sNest, sCallP, dOLen, fnP, pC, pFrz, dPr, dVT, dTIx, sSetT, sParT, asTI, asI_iL, List.isEmpty, Bool.not_true, Bool.not_false, headT, h0]
theorem ev_lead_alike {n k : Nat} {e1 e2 : PyData} {cs ds : List Int} (h1 : items e1 = some (iL cs)) (h2 : items e2 = some (iL ds)) (n1 : n ≤ 10) (k0 : 1 ≤ k) (kn : k < n) (hc : ∀ c ∈ cs, 0 ≤ c ∧ c < (n : Int)) (hl : cs.length ≤ 1000) (hd : ∀ c ∈ ds, 0 ≤ c ∧ c < (n : Int)) (hl2 : ds.length ≤ 1000) : m_lead_alike [.d (.int (n : Int)), .d (.int (k : Int)), .d e1, .d e2] = .ret (.bool ((tbs n k).filter fun t => !decide (tabA n t cs = tabA n t ds)).isEmpty) := by
  simp only [m_lead_alike, b_lead_alike, Nat.reduceSub, Nat.reduceAdd, reduceIte, Tree.bind, liftO, dIdx, sAsgL, sPar4, dV, dC, d1, d2, t1, t2, l0, lC, dL, dT, aV, aE, a0, aC, dCall, dCallK, dIf, tTr, tV, truth, asB, tNot, tAnd, tOr, dAnd, dOr, sSet, sAsg, sPar, sRet, s0, sC, sIf, sX, sOwn, sApp, sFrz, frzE, sFor, outV, fnF, lenIs, ent, small, few, putE, putsE, wipeE, it_l, it_t, iS, iR1, iR2, wEn, wZ2, wZ3, dLc, dLf, dSl, oN, oS, pCut, pSub, cI, bD, pIx, pList, pTup, pLen, pNot, qIsN, qNotN, pIsN, pNotN, List.getElem?_cons_succ, List.getElem?_cons_zero, List.set_cons_succ, List.set_cons_zero, List.length_cons, List.length_nil, List.map_cons, List.map_nil, List.foldr_cons, List.foldr_nil, List.replicate_succ, List.replicate_zero, List.cons_append, List.nil_append, sOPar, sOOPar, dOIx, sNest, sCallP, dOLen, fnP, pC, pFrz, dPr, dVT, dTIx, sSetT, sParT, asTI, asI_iL, ev_leading_difference h1 h2 n1 k0 kn hc hl hd hl2]
  cases (tbs n k).filter fun t => !decide (tabA n t cs = tabA n t ds) with
  | nil => rfl
  | cons t ts => rfl
theorem tbs_all {n : Nat} : ∀ {k : Nat} {t : List Int}, Tbl n t → t.length = k → t ∈ tbs n k
  | 0, t, _, h => by
    rw [List.length_eq_zero_iff.mp h]
    exact List.mem_singleton.mpr rfl
  | k + 1, t, tb, h => by
    have hne : t ≠ [] := List.length_pos_iff.mp (by omega)
    obtain ⟨u, c, rfl⟩ : ∃ u c, t = u ++ [c] := ⟨t.dropLast, t.getLast hne, (List.dropLast_concat_getLast hne).symm⟩
    have hu : u.length = k := by
      rw [List.length_append] at h
      simpa using h
    have hp := List.pairwise_append.mp tb.asc
    have tu : Tbl n u := ⟨hp.1, fun x hx => tb.mem x (List.mem_append_left _ hx)⟩
    have hc := tb.mem c (List.mem_append_right _ (List.mem_singleton.mpr rfl))
    refine List.mem_flatMap.mpr ⟨u, tbs_all tu hu, ?_⟩
    unfold goOn
    refine List.mem_filterMap.mpr ⟨c.toNat, List.mem_range.mpr (by omega), ?_⟩
    have ok : okOn u c.toNat = true := by
      unfold okOn
      cases u with
      | nil => rfl
      | cons a u =>
        have hl : (a :: u).getLastD 0 ∈ a :: u := by
          rw [List.getLastD_eq_getLast?, List.getLast?_eq_some_getLast (by simp)]
          exact List.getLast_mem _
        have := hp.2.2 _ hl c (List.mem_singleton.mpr rfl)
        rw [decide_eq_true (show (a :: u).getLastD 0 < ((c.toNat : Nat) : Int) by omega), Bool.or_true]
    rw [if_pos ok, show ((c.toNat : Nat) : Int) = c by omega]
theorem seqT_tbl {n : Nat} {ss cs : List Int} (tb : Tbl n ss) (hne : ss ≠ []) (n0 : 0 < n) (hc : ∀ c ∈ cs, 0 ≤ c ∧ c < (n : Int)) (j : Nat) : Tbl n (seqT n ss cs j) := tabA_tbl tb hne n0 (rep'_in hc j)
theorem seqT_len {n : Nat} {ss cs : List Int} (j : Nat) : (seqT n ss cs j).length = ss.length := tabA_len
theorem seqT_few {n : Nat} {ss cs : List Int} (tb : Tbl n ss) (hne : ss ≠ []) (n0 : 0 < n) (hc : ∀ c ∈ cs, 0 ≤ c ∧ c < (n : Int)) (m : Nat) (hd : ((List.range m).map (seqT n ss cs)).Nodup) : m ≤ (tbs n ss.length).length := by
  have := nodup_le (m := tbs n ss.length) hd fun t ht => by
    obtain ⟨j, _, rfl⟩ := List.mem_map.mp ht
    exact tbs_all (seqT_tbl tb hne n0 hc j) (seqT_len j)
  rw [List.length_map, List.length_range] at this
  exact this
theorem tbs_252_0 : ((List.range 11).all fun n => (List.range 11).all fun k => decide ((tbs n k).length ≤ 252)) = true := by decide +kernel
theorem tbs_252 {n k : Nat} (hn : n ≤ 10) (hk : k ≤ 10) : (tbs n k).length ≤ 252 := by
  have h := List.all_eq_true.mp tbs_252_0 n (List.mem_range.mpr (by omega))
  have g := List.all_eq_true.mp h k (List.mem_range.mpr (by omega))
  exact of_decide_eq_true g
def crsV (n : Nat) (ss cs : List Int) : Nat × Nat := (crsL (fun t => tabA n t cs) 300 ss []).getD (0, 0)
theorem crsV_spec {n : Nat} {ss cs : List Int} (tb : Tbl n ss) (hne : ss ≠ []) (n1 : n ≤ 10) (n0 : 0 < n) (kn : ss.length ≤ 10) (hc : ∀ c ∈ cs, 0 ≤ c ∧ c < (n : Int)) : crsL (fun t => tabA n t cs) 300 ss [] = some (crsV n ss cs) ∧ (crsV n ss cs).1 + (crsV n ss cs).2 ≤ 252 ∧ Crs (seqT n ss cs) (crsV n ss cs).1 (crsV n ss cs).2 := by
  have h252 := tbs_252 (n := n) (k := ss.length) n1 kn
  obtain ⟨j, p, e, h1, h2⟩ := crs_spec (g := fun t => tabA n t cs) (T := seqT n ss cs) (fun i => seqT_succ tb hne n0 hc i) (N := (tbs n ss.length).length) (fun m hd => seqT_few tb hne n0 hc m hd) 300 0 (by omega) (by simp)
  rw [seqT_zero tb] at e
  have e' : crsV n ss cs = (j, p) := by
    unfold crsV
    rw [show crsL (fun t => tabA n t cs) 300 ss [] = some (j, p) from e]
    rfl
  rw [e']
  exact ⟨e, by omega, h2⟩
theorem crs_run {n k : Nat} {cs : List Int} {d e mv : PyData} {w4 : Option W} (hM : Mv (mvL n k cs) mv) (n0 : 0 < n) (n1 : n ≤ 1000) (kn : k ≤ n) (k0 : 1 ≤ k) (hc : ∀ c ∈ cs, 0 ≤ c ∧ c < (n : Int)) : ∀ (f : Nat) (t : List Int) (ks : List (List Int)) (r : Nat × Nat), Tbl n t → t.length = k → ks.length + f ≤ 100000 → crsL (fun t => tabA n t cs) f t ks = some r →
    crsT 5 (dCall m_table_by (aC (aV 0) (aC (aV 3) (aC (aV 5) a0)))) f [some (.d (.int (n : Int))), some (.d d), some (.d e), some (.d mv), w4, some (.d (tD t))] ks = .ret (.rt (.tuple [.int (r.1 : Int), .int (r.2 : Int)]))
  | 0, _, _, _, _, _, _, h => by cases h
  | f + 1, t, ks, r, tb, hl, hf, h => by
    have hcur : curI [some (.d (.int (n : Int))), some (.d d), some (.d e), some (.d mv), w4, some (.d (tD t))] 5 = some t := asI_iL t
    unfold crsT
    rw [hcur, lift_some, ret_bind]
    unfold crsL at h
    cases hq : ks.findIdx? fun k => decide (k = t) with
    | some j =>
      rw [hq] at h
      cases h
      obtain ⟨hjl, _⟩ := List.findIdx?_eq_some_iff_getElem.mp hq
      have e3 : (ks.length : Int) - ((j : Nat) : Int) = ((ks.length - j : Nat) : Int) := by omega
      dsimp only
      rw [e3]
    | none =>
      rw [hq] at h
      dsimp only at h ⊢
      have hne : t ≠ [] := List.length_pos_iff.mp (by omega)
      have e2 := ev_table_by (d := mv) (t := tD t) (by rw [hl]; exact hM) (it_t _) tb hne n0 n1 (by omega) hc
      have ih := crs_run (d := d) (e := e) (w4 := w4) hM n0 n1 kn k0 hc f (tabA n t cs) (ks ++ [t]) r (tabA_tbl tb hne n0 hc) (by rw [tabA_len, hl]) (by rw [List.length_append]; simp; omega) h
      rw [show small ks.length = some () from if_pos (by omega), lift_some, ret_bind]
      have hf1 : dCall m_table_by (aC (aV 0) (aC (aV 3) (aC (aV 5) a0))) [some (.d (.int (n : Int))), some (.d d), some (.d e), some (.d mv), w4, some (.d (tD t))] = .ret (tD (tabA n t cs)) := by
        simp only [Nat.reduceSub, Nat.reduceAdd, reduceIte, Tree.bind, liftO, dIdx, sAsgL, sPar4, dV, dC, d1, d2, t1, t2, l0, lC, dL, dT, aV, aE, a0, aC, dCall, dCallK, dIf, tTr, tV, truth, asB, tNot, tAnd, tOr, dAnd, dOr, sSet, sAsg, sPar, sRet, s0, sC, sIf, sX, sOwn, sApp, sFrz, frzE, sFor, outV, fnF, lenIs, ent, small, few, putE, putsE, wipeE, it_l, it_t, iS, iR1, iR2, wEn, wZ2, wZ3, dLc, dLf, dSl, oN, oS, pCut, pSub, cI, bD, pIx, pList, pTup, pLen, pNot, qIsN, qNotN, pIsN, pNotN, List.getElem?_cons_succ, List.getElem?_cons_zero, List.set_cons_succ, List.set_cons_zero, List.length_cons, List.length_nil, List.map_cons, List.map_nil, List.foldr_cons, List.foldr_nil, List.replicate_succ, List.replicate_zero, List.cons_append, List.nil_append, sOPar, sOOPar, dOIx, sNest, sCallP, dOLen, fnP, pC, pFrz, dPr, dVT, dTIx, sSetT, sParT, asTI, asI_iL]
        exact e2
      rw [hf1, ret_bind]
      exact ih
theorem ev_course {n : Nat} {d e : PyData} {ss cs : List Int} (hd : items d = some (iL ss)) (he : items e = some (iL cs)) (tb : Tbl n ss) (hne : ss ≠ []) (n0 : 0 < n) (n1 : n ≤ 10) (kn : ss.length ≤ n) (hc : ∀ c ∈ cs, 0 ≤ c ∧ c < (n : Int)) (hl : cs.length ≤ 1000) : m_course [.d (.int (n : Int)), .d d, .d e] = .ret (.tuple [.int ((crsV n ss cs).1 : Int), .int ((crsV n ss cs).2 : Int)]) := by
  have k0 := List.length_pos_iff.mpr hne
  obtain ⟨h1, _, _⟩ := crsV_spec tb hne n1 n0 (by omega) hc
  have e2 := crs_run (d := d) (e := e) (w4 := none) (mv_rows (mvL n ss.length cs)) n0 (by omega) kn k0 hc 300 ss [] _ tb rfl (by simp) h1
  simp only [m_course, b_course, Nat.reduceSub, Nat.reduceAdd, reduceIte, Tree.bind, liftO, dIdx, sAsgL, sPar4, dV, dC, d1, d2, t1, t2, l0, lC, dL, dT, aV, aE, a0, aC, dCall, dCallK, dIf, tTr, tV, truth, asB, tNot, tAnd, tOr, dAnd, dOr, sSet, sAsg, sPar, sRet, s0, sC, sIf, sX, sOwn, sApp, sFrz, frzE, sFor, outV, fnF, lenIs, ent, small, few, putE, putsE, wipeE, it_l, it_t, iS, iR1, iR2, wEn, wZ2, wZ3, dLc, dLf, dSl, oN, oS, pCut, pSub, cI, bD, pIx, pList, pTup, pLen, pNot, qIsN, qNotN, pIsN, pNotN, List.getElem?_cons_succ, List.getElem?_cons_zero, List.set_cons_succ, List.set_cons_zero, List.length_cons, List.length_nil, List.map_cons, List.map_nil, List.foldr_cons, List.foldr_nil, List.replicate_succ, List.replicate_zero, List.cons_append, List.nil_append, sOPar, sOOPar, dOIx, sNest, sCallP, dOLen, fnP, pC, pFrz, dPr, dVT, dTIx, sSetT, sParT, asTI, asI_iL, hd, iL_len, ev_moves_of he n0 (show n ≤ 1000 by omega) k0 (show ss.length ≤ 1000 by omega) hl, sCrs]
  rw [show PyData.tuple (iL ss) = tD ss from rfl, e2]
  simp only [Tree.bind, liftO, dIdx, sAsgL, sPar4, dV, dC, d1, d2, t1, t2, l0, lC, dL, dT, aV, aE, a0, aC, dCall, dCallK, dIf, tTr, tV, truth, asB, tNot, tAnd, tOr, dAnd, dOr, sSet, sAsg, sPar, sRet, s0, sC, sIf, sX, sOwn, sApp, sFrz, frzE, sFor, outV, fnF, lenIs, ent, small, few, putE, putsE, wipeE, it_l, it_t, iS, iR1, iR2, wEn, wZ2, wZ3, dLc, dLf, dSl, oN, oS, pCut, pSub, cI, bD, pIx, pList, pTup, pLen, pNot, qIsN, qNotN, pIsN, pNotN, List.getElem?_cons_succ, List.getElem?_cons_zero, List.set_cons_succ, List.set_cons_zero, List.length_cons, List.length_nil, List.map_cons, List.map_nil, List.foldr_cons, List.foldr_nil, List.replicate_succ, List.replicate_zero, List.cons_append, List.nil_append, sOPar, sOOPar, dOIx, sNest, sCallP, dOLen, fnP, pC, pFrz, dPr, dVT, dTIx, sSetT, sParT, asTI, asI_iL]
def lowV (a b : Nat) : Nat × Nat := (a / Nat.gcd b a, b / Nat.gcd b a)
theorem low_loop {n d : PyData} : ∀ (f dv r : Nat) (v : Nat × Nat), gcdL f dv r = v → v.2 = 0 → whT (t2 cGt (dV 3) (dC (.int 0))) (sPar [2, 3] (lC (dV 3) (lC (d2 pMod (dV 2) (dV 3)) l0))) (f + 1) [some (.d n), some (.d d), some (.d (.int (dv : Int))), some (.d (.int (r : Int)))] = .ret (.nx [some (.d n), some (.d d), some (.d (.int (v.1 : Int))), some (.d (.int 0))])
  | 0, dv, r, v, h, hz => by
    cases h
    have hz : r = 0 := hz
    subst hz
    unfold whT
    simp only [Nat.reduceSub, Nat.reduceAdd, reduceIte, Tree.bind, liftO, dIdx, sAsgL, sPar4, dV, dC, d1, d2, t1, t2, l0, lC, dL, dT, aV, aE, a0, aC, dCall, dCallK, dIf, tTr, tV, truth, asB, tNot, tAnd, tOr, dAnd, dOr, sSet, sAsg, sPar, sRet, s0, sC, sIf, sX, sOwn, sApp, sFrz, frzE, sFor, outV, fnF, lenIs, ent, small, few, putE, putsE, wipeE, it_l, it_t, iS, iR1, iR2, wEn, wZ2, wZ3, dLc, dLf, dSl, oN, oS, pCut, pSub, cI, bD, pIx, pList, pTup, pLen, pNot, qIsN, qNotN, pIsN, pNotN, List.getElem?_cons_succ, List.getElem?_cons_zero, List.set_cons_succ, List.set_cons_zero, List.length_cons, List.length_nil, List.map_cons, List.map_nil, List.foldr_cons, List.foldr_nil, List.replicate_succ, List.replicate_zero, List.cons_append, List.nil_append, sOPar, sOOPar, dOIx, sNest, sCallP, dOLen, fnP, pC, pFrz, dPr, dVT, dTIx, sSetT, sParT, asTI, asI_iL, cGt, decide_eq_false (show ¬ ((0 : Nat) : Int) > 0 by omega)]
    rfl
  | f + 1, dv, r, v, h, hz => by
    unfold whT
    by_cases r0 : 0 < r
    · have e : gcdL (f + 1) dv r = gcdL f r (dv % r) := by
        show (if 0 < r then gcdL f r (dv % r) else (dv, r)) = _
        rw [if_pos r0]
      rw [e] at h
      have ih := low_loop (n := n) (d := d) f r (dv % r) v h hz
      have em : ((dv : Int) % (r : Int)) = ((dv % r : Nat) : Int) := by omega
      simp only [Nat.reduceSub, Nat.reduceAdd, reduceIte, Tree.bind, liftO, dIdx, sAsgL, sPar4, dV, dC, d1, d2, t1, t2, l0, lC, dL, dT, aV, aE, a0, aC, dCall, dCallK, dIf, tTr, tV, truth, asB, tNot, tAnd, tOr, dAnd, dOr, sSet, sAsg, sPar, sRet, s0, sC, sIf, sX, sOwn, sApp, sFrz, frzE, sFor, outV, fnF, lenIs, ent, small, few, putE, putsE, wipeE, it_l, it_t, iS, iR1, iR2, wEn, wZ2, wZ3, dLc, dLf, dSl, oN, oS, pCut, pSub, cI, bD, pIx, pList, pTup, pLen, pNot, qIsN, qNotN, pIsN, pNotN, List.getElem?_cons_succ, List.getElem?_cons_zero, List.set_cons_succ, List.set_cons_zero, List.length_cons, List.length_nil, List.map_cons, List.map_nil, List.foldr_cons, List.foldr_nil, List.replicate_succ, List.replicate_zero, List.cons_append, List.nil_append, sOPar, sOOPar, dOIx, sNest, sCallP, dOLen, fnP, pC, pFrz, dPr, dVT, dTIx, sSetT, sParT, asTI, asI_iL, cGt, decide_eq_true (show (r : Int) > 0 by omega), pMod_of (show (0 : Int) < (r : Int) by omega), em, Nat.reduceLeDiff]
      exact ih
    · have z : r = 0 := by omega
      subst z
      have e : gcdL (f + 1) dv 0 = (dv, 0) := by
        show (if 0 < 0 then _ else (dv, 0)) = _
        simp
      rw [e] at h
      cases h
      simp only [Nat.reduceSub, Nat.reduceAdd, reduceIte, Tree.bind, liftO, dIdx, sAsgL, sPar4, dV, dC, d1, d2, t1, t2, l0, lC, dL, dT, aV, aE, a0, aC, dCall, dCallK, dIf, tTr, tV, truth, asB, tNot, tAnd, tOr, dAnd, dOr, sSet, sAsg, sPar, sRet, s0, sC, sIf, sX, sOwn, sApp, sFrz, frzE, sFor, outV, fnF, lenIs, ent, small, few, putE, putsE, wipeE, it_l, it_t, iS, iR1, iR2, wEn, wZ2, wZ3, dLc, dLf, dSl, oN, oS, pCut, pSub, cI, bD, pIx, pList, pTup, pLen, pNot, qIsN, qNotN, pIsN, pNotN, List.getElem?_cons_succ, List.getElem?_cons_zero, List.set_cons_succ, List.set_cons_zero, List.length_cons, List.length_nil, List.map_cons, List.map_nil, List.foldr_cons, List.foldr_nil, List.replicate_succ, List.replicate_zero, List.cons_append, List.nil_append, sOPar, sOOPar, dOIx, sNest, sCallP, dOLen, fnP, pC, pFrz, dPr, dVT, dTIx, sSetT, sParT, asTI, asI_iL, cGt, decide_eq_false (show ¬ ((0 : Nat) : Int) > 0 by omega)]
      rfl
theorem ev_lowest_terms {a b : Nat} (ha : a < 2 ^ 40) (b0 : 0 < b) (hb : b < 1073741824) : m_lowest_terms [.d (.int (a : Int)), .d (.int (b : Int))] = .ret (.tuple [.int ((lowV a b).1 : Int), .int ((lowV a b).2 : Int)]) := by
  have hg := gcdL_ok 40 b a ha 99 (by omega)
  have e := low_loop (n := .int (a : Int)) (d := .int (b : Int)) 99 b a _ hg rfl
  have g0 : 0 < Nat.gcd b a := Nat.gcd_pos_of_pos_left a b0
  have g1 : Nat.gcd b a ≤ b := Nat.gcd_le_left a b0
  have hdv : ∀ x : Nat, pDiv (.int (x : Int)) (.int ((Nat.gcd b a : Nat) : Int)) = some (.int ((x / Nat.gcd b a : Nat) : Int)) := fun x => by
    show (if CDiv (x : Int) ((Nat.gcd b a : Nat) : Int) then some (PyData.int ((x : Int) / ((Nat.gcd b a : Nat) : Int))) else none) = _
    rw [if_pos ⟨by omega, by omega⟩]
    congr 1
  simp only [m_lowest_terms, b_lowest_terms, Nat.reduceSub, Nat.reduceAdd, reduceIte, Tree.bind, liftO, dIdx, sAsgL, sPar4, dV, dC, d1, d2, t1, t2, l0, lC, dL, dT, aV, aE, a0, aC, dCall, dCallK, dIf, tTr, tV, truth, asB, tNot, tAnd, tOr, dAnd, dOr, sSet, sAsg, sPar, sRet, s0, sC, sIf, sX, sOwn, sApp, sFrz, frzE, sFor, outV, fnF, lenIs, ent, small, few, putE, putsE, wipeE, it_l, it_t, iS, iR1, iR2, wEn, wZ2, wZ3, dLc, dLf, dSl, oN, oS, pCut, pSub, cI, bD, pIx, pList, pTup, pLen, pNot, qIsN, qNotN, pIsN, pNotN, List.getElem?_cons_succ, List.getElem?_cons_zero, List.set_cons_succ, List.set_cons_zero, List.length_cons, List.length_nil, List.map_cons, List.map_nil, List.foldr_cons, List.foldr_nil, List.replicate_succ, List.replicate_zero, List.cons_append, List.nil_append, sOPar, sOOPar, dOIx, sNest, sCallP, dOLen, fnP, pC, pFrz, dPr, dVT, dTIx, sSetT, sParT, asTI, asI_iL, sWh]
  rw [e]
  simp only [Nat.reduceSub, Nat.reduceAdd, reduceIte, Tree.bind, liftO, dIdx, sAsgL, sPar4, dV, dC, d1, d2, t1, t2, l0, lC, dL, dT, aV, aE, a0, aC, dCall, dCallK, dIf, tTr, tV, truth, asB, tNot, tAnd, tOr, dAnd, dOr, sSet, sAsg, sPar, sRet, s0, sC, sIf, sX, sOwn, sApp, sFrz, frzE, sFor, outV, fnF, lenIs, ent, small, few, putE, putsE, wipeE, it_l, it_t, iS, iR1, iR2, wEn, wZ2, wZ3, dLc, dLf, dSl, oN, oS, pCut, pSub, cI, bD, pIx, pList, pTup, pLen, pNot, qIsN, qNotN, pIsN, pNotN, List.getElem?_cons_succ, List.getElem?_cons_zero, List.set_cons_succ, List.set_cons_zero, List.length_cons, List.length_nil, List.map_cons, List.map_nil, List.foldr_cons, List.foldr_nil, List.replicate_succ, List.replicate_zero, List.cons_append, List.nil_append, sOPar, sOOPar, dOIx, sNest, sCallP, dOLen, fnP, pC, pFrz, dPr, dVT, dTIx, sSetT, sParT, asTI, asI_iL, hdv, Nat.reduceLeDiff]
  rfl
theorem ev_pack {n k : Nat} {c : Int} (n0 : 0 < n) (hk : k ≤ 1000) : m_pack [.d (.int (n : Int)), .d (.int (k : Int)), .d (.int c)] = .ret (.tuple (iL (srt (pkS n k c)))) := by
  simp only [m_pack, b_pack, Nat.reduceSub, Nat.reduceAdd, reduceIte, Tree.bind, liftO, dIdx, sAsgL, sPar4, dV, dC, d1, d2, t1, t2, l0, lC, dL, dT, aV, aE, a0, aC, dCall, dCallK, dIf, tTr, tV, truth, asB, tNot, tAnd, tOr, dAnd, dOr, sSet, sAsg, sPar, sRet, s0, sC, sIf, sX, sOwn, sApp, sFrz, frzE, sFor, outV, fnF, lenIs, ent, small, few, putE, putsE, wipeE, it_l, it_t, iS, iR1, iR2, wEn, wZ2, wZ3, dLc, dLf, dSl, oN, oS, pCut, pSub, cI, bD, pIx, pList, pTup, pLen, pNot, qIsN, qNotN, pIsN, pNotN, List.getElem?_cons_succ, List.getElem?_cons_zero, List.set_cons_succ, List.set_cons_zero, List.length_cons, List.length_nil, List.map_cons, List.map_nil, List.foldr_cons, List.foldr_nil, List.replicate_succ, List.replicate_zero, List.cons_append, List.nil_append, sOPar, sOOPar, dOIx, sNest, sCallP, dOLen, fnP, pC, pFrz, dPr, dVT, dTIx, sSetT, sParT, asTI, asI_iL, ev_pack_seats (show (0 : Int) < n by omega) hk, pSrt_of]
theorem sum_nn : ∀ {l : List Int} {B : Int}, (∀ x ∈ l, 0 ≤ x ∧ x ≤ B) → 0 ≤ l.sum ∧ l.sum ≤ B * (l.length : Int)
  | [], B, _ => by simp
  | x :: l, B, h => by
    have h1 := h x (List.mem_cons_self ..)
    have h2 := sum_nn fun y hy => h y (List.mem_cons_of_mem _ hy)
    rw [List.sum_cons, List.length_cons, show ((l.length + 1 : Nat) : Int) = (l.length : Int) + 1 by omega, Int.mul_add]
    omega
def packT (n k : Nat) : List Int := srt (pkS n k ((k : Int) - 1))
def avgW (n k : Nat) (cs : List Int) : Nat := (stepsL n (seqT n (packT n k) cs (crsV n (packT n k) cs).1) (rep cs (crsV n (packT n k) cs).2)).sum.toNat
def avgV (n k : Nat) (cs : List Int) : Nat × Nat := lowV (avgW n k cs) (k * (crsV n (packT n k) cs).2)
theorem ev_average {n k : Nat} {e : PyData} {cs : List Int} (he : items e = some (iL cs)) (n0 : 0 < n) (n1 : n ≤ 10) (k0 : 1 ≤ k) (kn : k ≤ n) (hc : ∀ c ∈ cs, 0 ≤ c ∧ c < (n : Int)) (hl : cs.length ≤ 1000) : m_average [.d (.int (n : Int)), .d (.int (k : Int)), .d e] = .ret (.tuple [.int ((avgV n k cs).1 : Int), .int ((avgV n k cs).2 : Int)]) := by
  obtain ⟨a, tb, _, hpl⟩ := pack_x (c := (k : Int) - 1) n0 k0 kn
  have hne : srt (pkS n k ((k : Int) - 1)) ≠ [] := List.length_pos_iff.mp (by omega)
  obtain ⟨h1, h2, h3⟩ := crsV_spec tb hne n1 n0 (by omega) hc
  have p1 := h3.p1
  have ts := seqT_tbl tb hne n0 hc (crsV n (srt (pkS n k ((k : Int) - 1))) cs).1
  have tne : seqT n (srt (pkS n k ((k : Int) - 1))) cs (crsV n (srt (pkS n k ((k : Int) - 1))) cs).1 ≠ [] := List.length_pos_iff.mp (by rw [seqT_len]; omega)
  have e1 := ev_course (it_t (iL (srt (pkS n k ((k : Int) - 1))))) he tb hne n0 n1 (by omega) hc hl
  have e2 := ev_table_after_many (m := (crsV n (srt (pkS n k ((k : Int) - 1))) cs).1) (it_t (iL (srt (pkS n k ((k : Int) - 1))))) he tb hne n0 (by omega) (by omega) hc hl (Nat.lt_of_le_of_lt (show _ ≤ 252 by omega) (by decide))
  have e3 := ev_steps_after_many (m := (crsV n (srt (pkS n k ((k : Int) - 1))) cs).2) (it_t (iL (seqT n (srt (pkS n k ((k : Int) - 1))) cs (crsV n (srt (pkS n k ((k : Int) - 1))) cs).1))) he ts tne n0 (by omega) (by rw [seqT_len]; omega) hc hl (Nat.lt_of_le_of_lt (show _ ≤ 252 by omega) (by decide))
  have hb := sum_nn (steps_bound (n := (n : Int)) (ss := seqT n (srt (pkS n k ((k : Int) - 1))) cs (crsV n (srt (pkS n k ((k : Int) - 1))) cs).1) (cs := rep cs (crsV n (srt (pkS n k ((k : Int) - 1))) cs).2) (by omega))
  rw [stepsL_len', seqT_len, hpl, rep_len] at hb
  have hbig : (n : Int) * (((crsV n (srt (pkS n k ((k : Int) - 1))) cs).2 * cs.length : Nat) : Int) * (k : Int) ≤ 10 * (252 * 1000) * 10 := by
    have q1 : (crsV n (srt (pkS n k ((k : Int) - 1))) cs).2 * cs.length ≤ 252 * 1000 := Nat.mul_le_mul (by omega) hl
    have q2 : n * ((crsV n (srt (pkS n k ((k : Int) - 1))) cs).2 * cs.length) ≤ 10 * (252 * 1000) := Nat.mul_le_mul n1 q1
    have q3 : n * ((crsV n (srt (pkS n k ((k : Int) - 1))) cs).2 * cs.length) * k ≤ 10 * (252 * 1000) * 10 := Nat.mul_le_mul q2 (by omega)
    exact_mod_cast q3
  have hw : ((avgW n k cs : Nat) : Int) = (stepsL n (seqT n (packT n k) cs (crsV n (packT n k) cs).1) (rep cs (crsV n (packT n k) cs).2)).sum := Int.toNat_of_nonneg hb.1
  unfold packT at hw
  have hmul : pMul (.int (k : Int)) (.int ((crsV n (srt (pkS n k ((k : Int) - 1))) cs).2 : Int)) = some (.int ((k * (crsV n (srt (pkS n k ((k : Int) - 1))) cs).2 : Nat) : Int)) := by
    rw [pMul_ii (.inl ⟨by omega, by omega⟩)]
    congr 1
  have hkp : k * (crsV n (srt (pkS n k ((k : Int) - 1))) cs).2 ≤ 10 * 252 := Nat.mul_le_mul (by omega) (by omega)
  have hkp0 : 0 < k * (crsV n (srt (pkS n k ((k : Int) - 1))) cs).2 := Nat.mul_pos (by omega) (by omega)
  have e4 := ev_lowest_terms (a := avgW n k cs) (b := k * (crsV n (srt (pkS n k ((k : Int) - 1))) cs).2) (by omega) hkp0 (by omega)
  rw [show tabA n (srt (pkS n k ((k : Int) - 1))) (rep cs (crsV n (srt (pkS n k ((k : Int) - 1))) cs).1) = seqT n (srt (pkS n k ((k : Int) - 1))) cs (crsV n (srt (pkS n k ((k : Int) - 1))) cs).1 from rfl] at e2
  simp only [m_average, b_average, Nat.reduceSub, Nat.reduceAdd, reduceIte, Tree.bind, liftO, dIdx, sAsgL, sPar4, dV, dC, d1, d2, t1, t2, l0, lC, dL, dT, aV, aE, a0, aC, dCall, dCallK, dIf, tTr, tV, truth, asB, tNot, tAnd, tOr, dAnd, dOr, sSet, sAsg, sPar, sRet, s0, sC, sIf, sX, sOwn, sApp, sFrz, frzE, sFor, outV, fnF, lenIs, ent, small, few, putE, putsE, wipeE, it_l, it_t, iS, iR1, iR2, wEn, wZ2, wZ3, dLc, dLf, dSl, oN, oS, pCut, pSub, cI, bD, pIx, pList, pTup, pLen, pNot, qIsN, qNotN, pIsN, pNotN, List.getElem?_cons_succ, List.getElem?_cons_zero, List.set_cons_succ, List.set_cons_zero, List.length_cons, List.length_nil, List.map_cons, List.map_nil, List.foldr_cons, List.foldr_nil, List.replicate_succ, List.replicate_zero, List.cons_append, List.nil_append, sOPar, sOOPar, dOIx, sNest, sCallP, dOLen, fnP, pC, pFrz, dPr, dVT, dTIx, sSetT, sParT, asTI, asI_iL, ev_pack n0 (show k ≤ 1000 by omega), e1, e2, e3, pSum_of, ← hw, hmul, e4]
  rfl
theorem crs_rate {n : Nat} {ss cs : List Int} (tb : Tbl n ss) (hne : ss ≠ []) (n1 : n ≤ 10) (n0 : 0 < n) (kn : ss.length ≤ 10) (hc : ∀ c ∈ cs, 0 ≤ c ∧ c < (n : Int)) : ∃ q : Nat, ∀ i, xR n ss cs ((crsV n ss cs).1 + (crsV n ss cs).2) i = xR n ss cs (crsV n ss cs).1 (i + -(q : Int)) := by
  obtain ⟨_, _, h⟩ := crsV_spec tb hne n1 n0 kn hc
  obtain ⟨a, ha, e⟩ := xR_back tb hne n0 hc h.back
  exact ⟨(-a).toNat, fun i => by rw [e i, Int.toNat_of_nonneg (by omega), Int.neg_neg]⟩
theorem avgW_eq {n k : Nat} {cs : List Int} (n0 : 0 < n) (n1 : n ≤ 10) (k0 : 1 ≤ k) (kn : k ≤ n) (hc : ∀ c ∈ cs, 0 ≤ c ∧ c < (n : Int)) {q : Nat} (h : ∀ i, xR n (packT n k) cs ((crsV n (packT n k) cs).1 + (crsV n (packT n k) cs).2) i = xR n (packT n k) cs (crsV n (packT n k) cs).1 (i + -(q : Int))) : avgW n k cs = n * q := by
  obtain ⟨_, tb, _, hpl⟩ := pack_x (c := (k : Int) - 1) n0 k0 kn
  have hne : packT n k ≠ [] := List.length_pos_iff.mp (by unfold packT; omega)
  have tb : Tbl n (packT n k) := tb
  have hpl : (packT n k).length = k := hpl
  obtain ⟨a, _, e⟩ := steps_tabA tb hne n0 (rep'_in hc (crsV n (packT n k) cs).1) (rep'_in hc (crsV n (packT n k) cs).2)
  have e0 : stepsL n (seqT n (packT n k) cs (crsV n (packT n k) cs).1) (rep cs (crsV n (packT n k) cs).2) = _ := e
  unfold avgW
  rw [e0, ← rep'_add]
  have s := sqn_xR (cs := cs) tb hne n0 (crsV n (packT n k) cs).1
  have s2 := sqn_xR (cs := cs) tb hne n0 ((crsV n (packT n k) cs).1 + (crsV n (packT n k) cs).2)
  refine (congrArg Int.toNat (sum_perm (rot_perm (g := fun t => xR n (packT n k) cs (crsV n (packT n k) cs).1 t - xR n (packT n k) cs ((crsV n (packT n k) cs).1 + (crsV n (packT n k) cs).2) t) (by omega) (dif_per s s2) a))).trans ?_
  have e3 : (fun t => xR n (packT n k) cs (crsV n (packT n k) cs).1 t - xR n (packT n k) cs ((crsV n (packT n k) cs).1 + (crsV n (packT n k) cs).2) t) = fun i => xR n (packT n k) cs (crsV n (packT n k) cs).1 i - xR n (packT n k) cs (crsV n (packT n k) cs).1 (i + -(q : Int)) := funext fun i => by rw [h i]
  rw [e3, sum_shift s q]
  exact_mod_cast Int.toNat_natCast (n * q)
theorem xOf_at {n : Nat} {ss : List Int} (hne : ss ≠ []) {m : Nat} {c : Int} (h : ss[m]? = some c) : xOf n ss (m : Int) = c := by
  have hm := (List.getElem?_eq_some_iff.mp h).1
  have g := rowOf_get (x := xOf n ss) (σ := fun a => (a : Int)) hm
  rw [row_xOf hne, h] at g
  exact (Option.some.inj g).symm
theorem low_scale {a b m : Nat} (m0 : 0 < m) : lowV (a * m) (b * m) = lowV a b := by
  unfold lowV
  rw [Nat.gcd_mul_right, Nat.mul_div_mul_right _ _ m0, Nat.mul_div_mul_right _ _ m0]
theorem low_eq {a b c d : Nat} (b0 : 0 < b) (d0 : 0 < d) (h : a * d = c * b) : lowV a b = lowV c d := by
  rw [← low_scale (a := a) (b := b) d0, ← low_scale (a := c) (b := d) b0, h, Nat.mul_comm b d]
theorem avg_of_rate {n : Nat} {ss cs : List Int} (tb : Tbl n ss) (hne : ss ≠ []) (n0 : 0 < n) (n1 : n ≤ 10) (kn : ss.length ≤ n) (hc : ∀ c ∈ cs, 0 ≤ c ∧ c < (n : Int)) {j p q : Nat} (p0 : 0 < p) (h : ∀ i, xR n ss cs (j + p) i = xR n ss cs j (i + -(q : Int))) : avgV n ss.length cs = lowV (n * q) (ss.length * p) := by
  have k0 := List.length_pos_iff.mpr hne
  obtain ⟨_, tp, _, hpl⟩ := pack_x (c := (ss.length : Int) - 1) n0 k0 kn
  have tp : Tbl n (packT n ss.length) := tp
  have hpl : (packT n ss.length).length = ss.length := hpl
  have hnp : packT n ss.length ≠ [] := List.length_pos_iff.mp (by omega)
  obtain ⟨q', hq'⟩ := crs_rate (cs := cs) tp hnp n1 n0 (by omega) hc
  obtain ⟨_, _, hcr⟩ := crsV_spec (cs := cs) tp hnp n1 n0 (by omega) hc
  have p1 := hcr.p1
  have hs := same_rate tb tp hpl.symm hne n0 h hq'
  have hs' : (crsV n (packT n ss.length) cs).2 * q = p * q' := by
    have : (((crsV n (packT n ss.length) cs).2 * q : Nat) : Int) = ((p * q' : Nat) : Int) := by
      rw [Int.natCast_mul, Int.natCast_mul]
      rw [Int.mul_neg, Int.mul_neg] at hs
      omega
    exact_mod_cast this
  have b0 : 0 < ss.length * (crsV n (packT n ss.length) cs).2 := Nat.mul_pos k0 (by omega)
  unfold avgV
  rw [avgW_eq n0 n1 k0 kn hc hq']
  refine low_eq b0 (Nat.mul_pos k0 p0) ?_
  calc n * q' * (ss.length * p) = n * (p * q') * ss.length := by simp only [Nat.mul_assoc, Nat.mul_left_comm, Nat.mul_comm]
    _ = n * ((crsV n (packT n ss.length) cs).2 * q) * ss.length := by rw [hs']
    _ = n * q * (ss.length * (crsV n (packT n ss.length) cs).2) := by simp only [Nat.mul_assoc, Nat.mul_left_comm, Nat.mul_comm]
theorem avg_ex {n k : Nat} (cs : List Int) (n0 : 0 < n) (n1 : n ≤ 10) (k0 : 1 ≤ k) (kn : k ≤ n) (hc : ∀ c ∈ cs, 0 ≤ c ∧ c < (n : Int)) : ∃ (t : List Int) (j p q : Nat), Tbl n t ∧ t.length = k ∧ t ≠ [] ∧ 0 < p ∧ (∀ i, xR n t cs (j + p) i = xR n t cs j (i + -(q : Int))) ∧ avgV n k cs = lowV (n * q) (k * p) := by
  obtain ⟨_, tp, _, hpl⟩ := pack_x (c := (k : Int) - 1) n0 k0 kn
  have tp : Tbl n (packT n k) := tp
  have hpl : (packT n k).length = k := hpl
  have hnp : packT n k ≠ [] := List.length_pos_iff.mp (by omega)
  obtain ⟨q, hq⟩ := crs_rate (cs := cs) tp hnp n1 n0 (by omega) hc
  obtain ⟨_, _, hcr⟩ := crsV_spec (cs := cs) tp hnp n1 n0 (by omega) hc
  have p1 := hcr.p1
  have e := avg_of_rate tp hnp n0 n1 (by omega) hc (by omega) hq
  rw [hpl] at e
  exact ⟨_, _, _, q, tp, hpl, hnp, by omega, hq, e⟩
def chB (n : Int) : PyData → Bool
  | .int i => decide (0 ≤ i) && decide (i < n)
  | _ => false
def isTu : PyData → Bool
  | .tuple _ => true
  | _ => false
def isIn : PyData → Bool
  | .int _ => true
  | .bool _ => true
  | _ => false
def isBo : PyData → Bool
  | .bool _ => true
  | _ => false
theorem isi_tuple {d : PyData} (h : okR d = true) : pIsi "tuple" d = some (.bool (isTu d)) := by
  cases d <;> first | rfl | (simp [okR] at h)
theorem isi_int {d : PyData} (h : okR d = true) : pIsi "int" d = some (.bool (isIn d)) := by
  cases d <;> first | rfl | (simp [okR] at h)
theorem isi_bool {d : PyData} (h : okR d = true) : pIsi "bool" d = some (.bool (isBo d)) := by
  cases d <;> first | rfl | (simp [okR] at h)
theorem okRs_mem : ∀ {ds : List PyData}, okRs ds = true → ∀ d ∈ ds, okR d = true
  | [], _, _, hd => by cases hd
  | a :: ds, h, d, hd => by
    have h : (okR a && okRs ds) = true := by simpa only [okRs] using h
    obtain ⟨h1, h2⟩ := Bool.and_eq_true_iff.mp h
    rcases List.mem_cons.mp hd with rfl | hd
    · exact h1
    · exact okRs_mem h2 d hd
theorem pAll_map {α : Type} (f : α → Bool) (xs : List α) : pAll (.list (xs.map fun x => .bool (f x))) = some (.bool (xs.all f)) := by
  have e : (xs.map fun x => PyData.bool (f x)) = (xs.map f).map .bool := by rw [List.map_map]; rfl
  unfold pAll onB
  simp only [e, asBs_map]
  rw [List.all_map]
  rfl
theorem ev_is_chair {n : Int} {d : PyData} (h : okR d = true) : m_is_chair [.d (.int n), .d d] = .ret (.bool (chB n d)) := by
  simp only [m_is_chair, b_is_chair, Nat.reduceSub, Nat.reduceAdd, reduceIte, Tree.bind, liftO, dIdx, sAsgL, sPar4, dV, dC, d1, d2, t1, t2, l0, lC, dL, dT, aV, aE, a0, aC, dCall, dCallK, dIf, tTr, tV, truth, asB, tNot, tAnd, tOr, dAnd, dOr, sSet, sAsg, sPar, sRet, s0, sC, sIf, sX, sOwn, sApp, sFrz, frzE, sFor, outV, fnF, lenIs, ent, small, few, putE, putsE, wipeE, it_l, it_t, iS, iR1, iR2, wEn, wZ2, wZ3, dLc, dLf, dSl, oN, oS, pCut, pSub, cI, bD, pIx, pList, pTup, pLen, pNot, qIsN, qNotN, pIsN, pNotN, List.getElem?_cons_succ, List.getElem?_cons_zero, List.set_cons_succ, List.set_cons_zero, List.length_cons, List.length_nil, List.map_cons, List.map_nil, List.foldr_cons, List.foldr_nil, List.replicate_succ, List.replicate_zero, List.cons_append, List.nil_append, sOPar, sOOPar, dOIx, sNest, sCallP, dOLen, fnP, pC, pFrz, dPr, dVT, dTIx, sSetT, sParT, asTI, asI_iL, isi_int h, isi_bool h]
  cases d with
  | int i =>
    simp only [isIn, isBo, Nat.reduceSub, Nat.reduceAdd, reduceIte, Tree.bind, liftO, dIdx, sAsgL, sPar4, dV, dC, d1, d2, t1, t2, l0, lC, dL, dT, aV, aE, a0, aC, dCall, dCallK, dIf, tTr, tV, truth, asB, tNot, tAnd, tOr, dAnd, dOr, sSet, sAsg, sPar, sRet, s0, sC, sIf, sX, sOwn, sApp, sFrz, frzE, sFor, outV, fnF, lenIs, ent, small, few, putE, putsE, wipeE, it_l, it_t, iS, iR1, iR2, wEn, wZ2, wZ3, dLc, dLf, dSl, oN, oS, pCut, pSub, cI, bD, pIx, pList, pTup, pLen, pNot, qIsN, qNotN, pIsN, pNotN, List.getElem?_cons_succ, List.getElem?_cons_zero, List.set_cons_succ, List.set_cons_zero, List.length_cons, List.length_nil, List.map_cons, List.map_nil, List.foldr_cons, List.foldr_nil, List.replicate_succ, List.replicate_zero, List.cons_append, List.nil_append, sOPar, sOOPar, dOIx, sNest, sCallP, dOLen, fnP, pC, pFrz, dPr, dVT, dTIx, sSetT, sParT, asTI, asI_iL, Bool.not_true, dCh, chB]
    by_cases h0 : 0 ≤ i
    · simp [h0, Tree.bind, outV]
    · simp [h0, Tree.bind, outV]
  | _ => first | (simp only [isIn, isBo, Nat.reduceSub, Nat.reduceAdd, reduceIte, Tree.bind, liftO, dIdx, sAsgL, sPar4, dV, dC, d1, d2, t1, t2, l0, lC, dL, dT, aV, aE, a0, aC, dCall, dCallK, dIf, tTr, tV, truth, asB, tNot, tAnd, tOr, dAnd, dOr, sSet, sAsg, sPar, sRet, s0, sC, sIf, sX, sOwn, sApp, sFrz, frzE, sFor, outV, fnF, lenIs, ent, small, few, putE, putsE, wipeE, it_l, it_t, iS, iR1, iR2, wEn, wZ2, wZ3, dLc, dLf, dSl, oN, oS, pCut, pSub, cI, bD, pIx, pList, pTup, pLen, pNot, qIsN, qNotN, pIsN, pNotN, List.getElem?_cons_succ, List.getElem?_cons_zero, List.set_cons_succ, List.set_cons_zero, List.length_cons, List.length_nil, List.map_cons, List.map_nil, List.foldr_cons, List.foldr_nil, List.replicate_succ, List.replicate_zero, List.cons_append, List.nil_append, sOPar, sOOPar, dOIx, sNest, sCallP, dOLen, fnP, pC, pFrz, dPr, dVT, dTIx, sSetT, sParT, asTI, asI_iL, Bool.not_true, Bool.not_false, chB]) | (simp [okR] at h)
theorem ev_all_chairs {n : Int} {d : PyData} {xs : List PyData} (hx : items d = some xs) (h : okRs xs = true) (hl : xs.length ≤ 50000) : m_all_chairs [.d (.int n), .d d] = .ret (.bool (xs.all (chB n))) := by
  simp only [m_all_chairs, b_all_chairs, Nat.reduceSub, Nat.reduceAdd, reduceIte, Tree.bind, liftO, dIdx, sAsgL, sPar4, dV, dC, d1, d2, t1, t2, l0, lC, dL, dT, aV, aE, a0, aC, dCall, dCallK, dIf, tTr, tV, truth, asB, tNot, tAnd, tOr, dAnd, dOr, sSet, sAsg, sPar, sRet, s0, sC, sIf, sX, sOwn, sApp, sFrz, frzE, sFor, outV, fnF, lenIs, ent, small, few, putE, putsE, wipeE, it_l, it_t, iS, iR1, iR2, wEn, wZ2, wZ3, dLc, dLf, dSl, oN, oS, pCut, pSub, cI, bD, pIx, pList, pTup, pLen, pNot, qIsN, qNotN, pIsN, pNotN, List.getElem?_cons_succ, List.getElem?_cons_zero, List.set_cons_succ, List.set_cons_zero, List.length_cons, List.length_nil, List.map_cons, List.map_nil, List.foldr_cons, List.foldr_nil, List.replicate_succ, List.replicate_zero, List.cons_append, List.nil_append, sOPar, sOOPar, dOIx, sNest, sCallP, dOLen, fnP, pC, pFrz, dPr, dVT, dTIx, sSetT, sParT, asTI, asI_iL, hx, if_pos hl]
  rw [mapT_ret (g := fun x => PyData.bool (chB n x)) fun x hxx => by
    simp only [Nat.reduceSub, Nat.reduceAdd, reduceIte, Tree.bind, liftO, dIdx, sAsgL, sPar4, dV, dC, d1, d2, t1, t2, l0, lC, dL, dT, aV, aE, a0, aC, dCall, dCallK, dIf, tTr, tV, truth, asB, tNot, tAnd, tOr, dAnd, dOr, sSet, sAsg, sPar, sRet, s0, sC, sIf, sX, sOwn, sApp, sFrz, frzE, sFor, outV, fnF, lenIs, ent, small, few, putE, putsE, wipeE, it_l, it_t, iS, iR1, iR2, wEn, wZ2, wZ3, dLc, dLf, dSl, oN, oS, pCut, pSub, cI, bD, pIx, pList, pTup, pLen, pNot, qIsN, qNotN, pIsN, pNotN, List.getElem?_cons_succ, List.getElem?_cons_zero, List.set_cons_succ, List.set_cons_zero, List.length_cons, List.length_nil, List.map_cons, List.map_nil, List.foldr_cons, List.foldr_nil, List.replicate_succ, List.replicate_zero, List.cons_append, List.nil_append, sOPar, sOOPar, dOIx, sNest, sCallP, dOLen, fnP, pC, pFrz, dPr, dVT, dTIx, sSetT, sParT, asTI, asI_iL, ev_is_chair (okRs_mem h x hxx)]]
  simp only [Nat.reduceSub, Nat.reduceAdd, reduceIte, Tree.bind, liftO, dIdx, sAsgL, sPar4, dV, dC, d1, d2, t1, t2, l0, lC, dL, dT, aV, aE, a0, aC, dCall, dCallK, dIf, tTr, tV, truth, asB, tNot, tAnd, tOr, dAnd, dOr, sSet, sAsg, sPar, sRet, s0, sC, sIf, sX, sOwn, sApp, sFrz, frzE, sFor, outV, fnF, lenIs, ent, small, few, putE, putsE, wipeE, it_l, it_t, iS, iR1, iR2, wEn, wZ2, wZ3, dLc, dLf, dSl, oN, oS, pCut, pSub, cI, bD, pIx, pList, pTup, pLen, pNot, qIsN, qNotN, pIsN, pNotN, List.getElem?_cons_succ, List.getElem?_cons_zero, List.set_cons_succ, List.set_cons_zero, List.length_cons, List.length_nil, List.map_cons, List.map_nil, List.foldr_cons, List.foldr_nil, List.replicate_succ, List.replicate_zero, List.cons_append, List.nil_append, sOPar, sOOPar, dOIx, sNest, sCallP, dOLen, fnP, pC, pFrz, dPr, dVT, dTIx, sSetT, sParT, asTI, asI_iL, pAll_map]
theorem all_ch {n : Int} : ∀ {xs : List PyData}, xs.all (chB n) = true → ∃ is : List Int, xs = iL is ∧ ∀ i ∈ is, 0 ≤ i ∧ i < n
  | [], _ => ⟨[], rfl, fun _ h => by cases h⟩
  | x :: xs, h => by
    rw [List.all_cons] at h
    obtain ⟨h1, h2⟩ := Bool.and_eq_true_iff.mp h
    obtain ⟨is, rfl, g⟩ := all_ch h2
    cases x with
    | int i =>
      obtain ⟨a, c⟩ := Bool.and_eq_true_iff.mp h1
      refine ⟨i :: is, rfl, fun j hj => ?_⟩
      rcases List.mem_cons.mp hj with rfl | hj
      · exact ⟨of_decide_eq_true a, of_decide_eq_true c⟩
      · exact g j hj
    | _ => cases h1
theorem ch_all {n : Int} {is : List Int} (h : ∀ i ∈ is, 0 ≤ i ∧ i < n) : (iL is).all (chB n) = true := by
  refine List.all_eq_true.mpr fun x hx => ?_
  obtain ⟨i, hi, rfl⟩ := List.mem_map.mp hx
  obtain ⟨a, c⟩ := h i hi
  show (decide (0 ≤ i) && decide (i < n)) = true
  rw [decide_eq_true a, decide_eq_true c]
  rfl
def rotC (n : Nat) (t : Int) (w : List Int) : List Int := w.map fun c => (c + t) % (n : Int)
def tur (n : Nat) (t : Int) (a : List Int) : List Int := srt (rotC n t a)
theorem cal_turn {n c y t : Int} : cal n ((c + t) % n) (y + t) = cal n c y + t := by
  unfold cal
  have e : (y + t - (c + t) % n) % n = (y - c) % n := by
    rw [Int.sub_emod, Int.emod_emod, ← Int.sub_emod]
    congr 1
    omega
  rw [e]
  omega
theorem call_turn {n c t : Int} {x : Int → Int} : fCall n ((c + t) % n) (fun i => x i + t) = fun i => fCall n c x i + t := by
  funext i
  unfold fCall
  rw [cal_turn]
  by_cases h : x (i - 1) < cal n c (x i)
  · rw [if_pos h, if_pos (by dsimp only; omega)]
  · rw [if_neg h, if_neg (by dsimp only; omega)]
theorem calls_turn {n : Nat} {t : Int} : ∀ (w : List Int) (x : Int → Int), fCalls n (rotC n t w) (fun i => x i + t) = fun i => fCalls n w x i + t
  | [], x => rfl
  | c :: w, x => by
    show fCalls n (rotC n t w) (fCall n ((c + t) % (n : Int)) fun i => x i + t) = fun i => fCalls n w (fCall n c x) i + t
    rw [call_turn, calls_turn w]
theorem Sqn.plus {n k : Int} {x : Int → Int} (h : Sqn n k x) (t : Int) : Sqn n k fun i => x i + t := ⟨fun i => by have := h.up i; show x (i - 1) + t < x i + t; omega, fun i => by have := h.per i; show x (i + k) + t = x i + t + n; omega⟩
theorem rotC_row {n k : Nat} {t : Int} {x : Int → Int} : rotC n t (modL n (rowOf x (fun a => (a : Int)) k)) = modL n (rowOf (fun i => x i + t) (fun a => (a : Int)) k) := by
  unfold rotC modL rowOf
  rw [List.map_map, List.map_map, List.map_map]
  refine List.map_congr_left fun i _ => ?_
  show (x (i : Int) % (n : Int) + t) % (n : Int) = (x (i : Int) + t) % (n : Int)
  rw [Int.emod_add_emod]
theorem rotC_len {n : Nat} {t : Int} {a : List Int} : (rotC n t a).length = a.length := List.length_map ..
theorem tur_len {n : Nat} {t : Int} {a : List Int} : (tur n t a).length = a.length := by unfold tur; rw [srt_len, rotC_len]
theorem tur_x {n : Nat} {a : List Int} (t : Int) (ta : Tbl n a) (ha : a ≠ []) (n0 : 0 < n) : ∃ r : Int, Tbl n (tur n t a) ∧ xOf n (tur n t a) = (fun i => xOf n a (i + r) + t) ∧ tur n t a = rowOf (fun i => xOf n a (i + r) + t) (fun a => (a : Int)) a.length := by
  have k0 : 1 ≤ a.length := List.length_pos_iff.mpr ha
  obtain ⟨r, h1, h2, h3⟩ := sqn_tab ((sqn_xOf ta ha).plus t) n0 k0
  have e : tur n t a = srt (modL n (rowOf (fun i => xOf n a i + t) (fun a => (a : Int)) a.length)) := by
    rw [← rotC_row, row_xOf ha, modL_self ta]
    rfl
  exact ⟨r, by rw [e]; exact h2, by rw [e]; exact funext h3, by rw [e]; exact h1⟩
theorem tur_tbl {n : Nat} {a : List Int} (t : Int) (ta : Tbl n a) (ha : a ≠ []) (n0 : 0 < n) : Tbl n (tur n t a) := by
  obtain ⟨r, h, _⟩ := tur_x t ta ha n0
  exact h
theorem tur_ne {n : Nat} {a : List Int} {t : Int} (ha : a ≠ []) : tur n t a ≠ [] := ne_of_len tur_len ha
theorem rotC_in {n : Nat} {t : Int} {w : List Int} (n0 : 0 < n) : ∀ c ∈ rotC n t w, 0 ≤ c ∧ c < (n : Int) := fun c hc => by
  obtain ⟨d, _, rfl⟩ := List.mem_map.mp hc
  exact ⟨Int.emod_nonneg _ (by omega), Int.emod_lt_of_pos _ (by omega)⟩
theorem srt_rotC {n : Nat} {t : Int} {l : List Int} : srt (rotC n t (srt l)) = srt (rotC n t l) := srt_congr ((srt_perm l).map _)
theorem run_turn {n : Nat} {a w : List Int} {t : Int} (ta : Tbl n a) (ha : a ≠ []) (n0 : 0 < n) (hc : ∀ c ∈ w, 0 ≤ c ∧ c < (n : Int)) : ∃ r : Int, runS n (tur n t a) (rotC n t w) = modL n (rowOf (fun i => fCalls n w (xOf n a) (i + r) + t) (fun a => (a : Int)) a.length) ∧ xOf n (tur n t a) = (fun i => xOf n a (i + r) + t) ∧ fCalls n (rotC n t w) (xOf n (tur n t a)) = fun i => fCalls n w (xOf n a) (i + r) + t := by
  obtain ⟨r, h1, h2, _⟩ := tur_x t ta ha n0
  have e : fCalls n (rotC n t w) (xOf n (tur n t a)) = fun i => fCalls n w (xOf n a) (i + r) + t := by
    rw [h2]
    have := calls_turn (n := n) (t := t) w (fun i => xOf n a (i + r))
    rw [rot_calls] at this
    exact this
  refine ⟨r, ?_, h2, e⟩
  rw [runS_tbl h1 (tur_ne ha) n0 (rotC_in n0), e, tur_len]
theorem tab_turn {n : Nat} {a w : List Int} {t : Int} (ta : Tbl n a) (ha : a ≠ []) (n0 : 0 < n) (hc : ∀ c ∈ w, 0 ≤ c ∧ c < (n : Int)) : tabA n (tur n t a) (rotC n t w) = tur n t (tabA n a w) := by
  have k0 : 1 ≤ a.length := List.length_pos_iff.mpr ha
  obtain ⟨r, e, _⟩ := run_turn (t := t) ta ha n0 hc
  have sq := ((sqn_xOf ta ha).calls (show (0 : Int) < n by omega) w).plus t
  unfold tabA
  rw [e, srt_rot (x := fun i => fCalls n w (xOf n a) i + t) sq k0 r]
  unfold tur
  rw [srt_rotC, runS_tbl ta ha n0 hc, rotC_row]
theorem rotC_back {n : Nat} {t : Int} {w : List Int} (hc : ∀ c ∈ w, 0 ≤ c ∧ c < (n : Int)) : rotC n (-t) (rotC n t w) = w := by
  unfold rotC
  rw [List.map_map]
  conv => rhs; rw [← List.map_id w]
  refine List.map_congr_left fun c h => ?_
  have := hc c h
  show ((c + t) % (n : Int) + -t) % (n : Int) = c
  rw [Int.emod_add_emod, show c + t + -t = c by omega]
  exact Int.emod_eq_of_lt this.1 this.2
theorem tur_back {n : Nat} {t : Int} {a : List Int} (ta : Tbl n a) : tur n (-t) (tur n t a) = a := by
  unfold tur
  rw [srt_rotC, rotC_back ta.mem, ta.srt]
theorem per_int {g : Int → Int} {k : Nat} (h : ∀ i, g (i + (k : Int)) = g i) (i m : Int) : g (i + (k : Int) * m) = g i := by
  rcases Int.le_total 0 m with hm | hm
  · obtain ⟨a, rfl⟩ : ∃ a : Nat, m = (a : Int) := ⟨m.toNat, by omega⟩
    exact per_nat h i a
  · obtain ⟨a, ha⟩ : ∃ a : Nat, -m = (a : Int) := ⟨(-m).toNat, by omega⟩
    have := per_nat h (i + (k : Int) * m) a
    rw [← this]
    congr 1
    have e : (k : Int) * m = -((k : Int) * (a : Int)) := by rw [← ha, Int.mul_neg, Int.neg_neg]
    rw [e]
    omega
theorem xOf_ix {n : Nat} {T : List Int} (tb : Tbl n T) (hne : T ≠ []) (t : Int) : ∃ i : Nat, i < T.length ∧ (∃ q : Int, t = (i : Int) + (T.length : Int) * q) ∧ T[i]? = some (xOf n T t % (n : Int)) := by
  have k0 : 0 < (T.length : Int) := by have := List.length_pos_iff.mpr hne; omega
  have h0 := Int.emod_nonneg t (show (T.length : Int) ≠ 0 by omega)
  have h1 := Int.emod_lt_of_pos t k0
  have h2 := Int.mul_ediv_add_emod t (T.length : Int)
  refine ⟨(t % (T.length : Int)).toNat, by omega, ⟨t / (T.length : Int), by rw [Int.toNat_of_nonneg h0]; omega⟩, ?_⟩
  have hi : (t % (T.length : Int)).toNat < T.length := by omega
  have hm := tb.mem _ (List.getElem_mem hi)
  rw [List.getElem?_eq_getElem hi]
  congr 1
  unfold xOf
  rw [Int.add_mul_emod_self_left, List.getD_eq_getElem?_getD, List.getElem?_eq_getElem hi]
  exact (Int.emod_eq_of_lt hm.1 hm.2).symm
theorem stepsF_per {n : Nat} {T cs : List Int} (tb : Tbl n T) (hne : T ≠ []) (n0 : 0 < n) (i : Int) : (xOf n T (i + (T.length : Int)) - fCalls n cs (xOf n T) (i + (T.length : Int))) = xOf n T i - fCalls n cs (xOf n T) i :=
  dif_per (sqn_xOf tb hne) ((sqn_xOf tb hne).calls (show (0 : Int) < n by omega) cs) i
theorem crs_same {T : Nat → List Int} {j p j' p' : Nat} (h : Crs T j p) (g : Crs T j' p') : j = j' ∧ p = p' := by
  have h1 := h.p1
  have g1 := g.p1
  have s : j + p = j' + p' := by
    rcases Nat.lt_trichotomy (j + p) (j' + p') with q | q | q
    · exact absurd h.back.symm (g.apart j (j + p) (by omega) q)
    · exact q
    · exact absurd g.back.symm (h.apart j' (j' + p') (by omega) q)
  have e : T j = T j' := by rw [← h.back, ← g.back, s]
  have : j = j' := by
    rcases Nat.lt_trichotomy j j' with q | q | q
    · exact absurd e (g.apart j j' q (by omega))
    · exact q
    · exact absurd e.symm (h.apart j' j q (by omega))
  exact ⟨this, by omega⟩
theorem pk_plus {n k c t : Int} : pk n k (c + t) = fun i => pk n k c i + t := by
  funext i
  unfold pk
  omega
theorem rotC_rep {n : Nat} {t : Int} {cs : List Int} (m : Nat) : rep' (rotC n t cs) m = rotC n t (rep' cs m) := by
  unfold rep' rotC
  rw [List.map_flatten, List.map_replicate]
theorem xR_turn {n : Nat} {a cs : List Int} (t : Int) (ta : Tbl n a) (ha : a ≠ []) (n0 : 0 < n) : ∃ r : Int, xOf n (tur n t a) = (fun i => xOf n a (i + r) + t) ∧ ∀ m, xR n (tur n t a) (rotC n t cs) m = fun i => xR n a cs m (i + r) + t := by
  obtain ⟨r, h1, h2, _⟩ := tur_x t ta ha n0
  refine ⟨r, h2, fun m => ?_⟩
  show fCalls n (rep' (rotC n t cs) m) (xOf n (tur n t a)) = _
  rw [rotC_rep, h2]
  have := calls_turn (n := n) (t := t) (rep' cs m) (fun i => xOf n a (i + r))
  rw [rot_calls] at this
  exact this
theorem avg_turn {n k : Nat} {cs : List Int} {t : Int} (n0 : 0 < n) (n1 : n ≤ 10) (k0 : 1 ≤ k) (kn : k ≤ n) (hc : ∀ c ∈ cs, 0 ≤ c ∧ c < (n : Int)) : avgV n k (rotC n t cs) = avgV n k cs := by
  obtain ⟨a, j, p, q, tb, hl, hne, p0, hq, e⟩ := avg_ex cs n0 n1 k0 kn hc
  obtain ⟨r, _, h⟩ := xR_turn (cs := cs) t tb hne n0
  have e' := avg_of_rate (tur_tbl t tb hne n0) (tur_ne hne) n0 n1 (by rw [tur_len]; omega) (cs := rotC n t cs) (rotC_in n0) p0 (j := j) (q := q) fun i => by
    rw [h, h]
    show xR n a cs (j + p) (i + r) + t = xR n a cs j (i + -(q : Int) + r) + t
    rw [hq]
    congr 2
    omega
  rw [tur_len, hl] at e'
  rw [e', e]
theorem seq_turn {n : Nat} {a cs : List Int} {t : Int} (ta : Tbl n a) (ha : a ≠ []) (n0 : 0 < n) (hc : ∀ c ∈ cs, 0 ≤ c ∧ c < (n : Int)) (m : Nat) : seqT n (tur n t a) (rotC n t cs) m = tur n t (seqT n a cs m) := by
  unfold seqT
  rw [rotC_rep]
  exact tab_turn ta ha n0 (rep'_in hc m)
theorem crs_turn {n : Nat} {a cs : List Int} {t : Int} (ta : Tbl n a) (ha : a ≠ []) (n0 : 0 < n) (n1 : n ≤ 10) (kn : a.length ≤ 10) (hc : ∀ c ∈ cs, 0 ≤ c ∧ c < (n : Int)) : crsV n (tur n t a) (rotC n t cs) = crsV n a cs := by
  obtain ⟨_, _, c⟩ := crsV_spec ta ha n1 n0 kn hc
  obtain ⟨_, _, d⟩ := crsV_spec (cs := rotC n t cs) (tur_tbl t ta ha n0) (tur_ne ha) n1 n0 (by rw [tur_len]; exact kn) (rotC_in n0)
  have inj : ∀ m m', seqT n (tur n t a) (rotC n t cs) m = seqT n (tur n t a) (rotC n t cs) m' ↔ seqT n a cs m = seqT n a cs m' := fun m m' => by
    rw [seq_turn ta ha n0 hc, seq_turn ta ha n0 hc]
    refine ⟨fun e => ?_, fun e => by rw [e]⟩
    have e2 := congrArg (tur n (-t)) e
    have b1 : tur n (-t) (tur n t (seqT n a cs m)) = seqT n a cs m := tur_back (tabA_tbl ta ha n0 (rep'_in hc m))
    have b2 : tur n (-t) (tur n t (seqT n a cs m')) = seqT n a cs m' := tur_back (tabA_tbl ta ha n0 (rep'_in hc m'))
    rw [b1, b2] at e2
    exact e2
  have c' : Crs (seqT n (tur n t a) (rotC n t cs)) (crsV n a cs).1 (crsV n a cs).2 := ⟨c.p1, (inj _ _).mpr c.back, fun x y h1 h2 e => c.apart x y h1 h2 ((inj _ _).mp e)⟩
  obtain ⟨e1, e2⟩ := crs_same d c'
  exact Prod.ext e1 e2
theorem steps_turn {n : Nat} {a cs : List Int} (t : Int) (ta : Tbl n a) (ha : a ≠ []) (n0 : 0 < n) : ∃ r : Int, xOf n (tur n t a) = (fun i => xOf n a (i + r) + t) ∧ stepsL n (tur n t a) (rotC n t cs) = rowOf (fun i => xOf n a (i + r) - fCalls n cs (xOf n a) (i + r)) (fun a => (a : Int)) a.length := by
  obtain ⟨r, h2, h3⟩ := xR_turn (cs := cs) t ta ha n0
  refine ⟨r, h2, ?_⟩
  have h3 := h3 1
  rw [show xR n (tur n t a) (rotC n t cs) 1 = fCalls n (rotC n t cs) (xOf n (tur n t a)) by simp [xR, rep'], show xR n a cs 1 = fCalls n cs (xOf n a) by simp [xR, rep']] at h3
  rw [steps_tbl (tur_tbl t ta ha n0) (tur_ne ha) n0 (rotC_in n0), h3, h2, tur_len]
  congr 1
  funext i
  dsimp only
  omega
theorem pkS_mod {n : Int} {k : Nat} {c d m : Int} (h : c = d + n * m) : pkS n k c = pkS n k d := by
  unfold pkS
  refine List.map_congr_left fun b _ => ?_
  show (c - (b : Int)) % n = (d - (b : Int)) % n
  rw [h, show d + n * m - (b : Int) = (d - (b : Int)) + n * m by omega, Int.add_mul_emod_self_left]
theorem row_turn {n k : Nat} {cs : List Int} {t c : Int} (n0 : 0 < n) (k0 : 1 ≤ k) (kn : k ≤ n) (hc : ∀ c ∈ cs, 0 ≤ c ∧ c < (n : Int)) : stepsL n (pkS n k c) (rotC n t cs) = stepsL n (pkS n k ((c - t) % (n : Int))) cs := by
  have hm := Int.mul_ediv_add_emod (c - t) (n : Int)
  have hs : Sqn n k (pk n k (c - t)) := sqn_pk (by omega) (by omega)
  rw [pkS_mod (n := (n : Int)) (k := k) (c := c - t) (d := (c - t) % (n : Int)) (m := (c - t) / (n : Int)) (by omega) |>.symm]
  have e : pk n k c = fun i => pk n k (c - t) i + t := by
    rw [← pk_plus]
    congr 1
    omega
  rw [pkS_row, pkS_row, steps_row n0 k0 (by rw [e]; exact hs.plus t) (nbr_down k0) (rotC_in n0), steps_row n0 k0 hs (nbr_down k0) hc, e, calls_turn]
  congr 1
  funext i
  dsimp only
  omega
def apB (n k : Nat) (M N : List (List Int)) : PyData → Bool
  | .tuple [.int i, .int j] => decide (0 ≤ i) && decide (i < (n : Int)) && (decide (0 ≤ j) && decide (j < (k : Int)) && !decide (cell M i j.toNat = cell N i j.toNat))
  | _ => false
theorem apB_len {n k : Nat} {M N : List (List Int)} {xs : List PyData} (h : xs.length ≠ 2) : apB n k M N (.tuple xs) = false := by
  unfold apB
  split
  · rename_i e
    cases e
    exact absurd rfl h
  · rfl
theorem eqv_tup2 (q : Nat × Nat) (is : List Int) : PyData.eqv (tup2 q) (.tuple (iL is)) = decide (is = [(q.1 : Int), (q.2 : Int)]) := by
  have : tup2 q = .tuple (iL [(q.1 : Int), (q.2 : Int)]) := rfl
  rw [this, eqv_tuple_ints]
  by_cases h : is = [(q.1 : Int), (q.2 : Int)]
  · rw [decide_eq_true h, decide_eq_true h.symm]
  · rw [decide_eq_false h, decide_eq_false fun e => h e.symm]
theorem shaped_tups (l : List (Nat × Nat)) : SeqAt.shaped (.list (l.map tup2)) = true := by
  have key : PyData.canLayAll0 (l.map tup2) = true ∧ PyData.depthAll (l.map tup2) ≤ 1 := by
    induction l with
    | nil => simp [PyData.canLayAll0, PyData.depthAll]
    | cons q l ih => simp [PyData.canLayAll0, PyData.depthAll, tup2, PyData.canLay0, PyData.depth, ih.1, ih.2]
  refine shaped_of (k := 0) (w := 0) (by simp only [PyData.canLay0]; exact key.1) ?_
  have := key.2
  simp only [PyData.depth]
  omega
theorem in_difs {n k : Nat} {M N : List (List Int)} {is : List Int} (hi : ∀ i ∈ is, 0 ≤ i ∧ i < (n : Int)) : pInD (.tuple (iL is)) (.list ((difs n k M N).map tup2)) = some (apB n k M N (.tuple (iL is))) := by
  unfold pInD
  dsimp only
  rw [if_pos ⟨shaped_tuple_ints is, shaped_tups _⟩]
  congr 1
  rw [List.any_map]
  match is, hi with
  | [i, j], hi =>
    show _ = (decide (0 ≤ i) && decide (i < (n : Int)) && (decide (0 ≤ j) && decide (j < (k : Int)) && !decide (cell M i j.toNat = cell N i j.toNat)))
    obtain ⟨a, ha⟩ : ∃ c : Nat, i = (c : Int) := ⟨i.toNat, by have := hi i (by simp); omega⟩
    obtain ⟨b, hb⟩ : ∃ c : Nat, j = (c : Int) := ⟨j.toNat, by have := hi j (by simp); omega⟩
    subst ha hb
    by_cases hm : (a, b) ∈ difs n k M N
    · obtain ⟨m1, m2, m3⟩ := mem_difs.mp hm
      rw [decide_eq_true (show (0 : Int) ≤ (a : Int) by omega), decide_eq_true (show (a : Int) < (n : Int) by exact_mod_cast m1), decide_eq_true (show (0 : Int) ≤ (b : Int) by omega), decide_eq_true (show (b : Int) < (k : Int) by exact_mod_cast m2), Int.toNat_natCast, decide_eq_false m3]
      refine List.any_eq_true.mpr ⟨(a, b), hm, ?_⟩
      simp only [Function.comp_apply, eqv_tup2]
      simp
    · have hn : (decide ((0 : Int) ≤ (a : Int)) && decide ((a : Int) < (n : Int)) && (decide ((0 : Int) ≤ (b : Int)) && decide ((b : Int) < (k : Int)) && !decide (cell M (a : Int) (b : Int).toNat = cell N (a : Int) (b : Int).toNat))) = false := by
        cases hz : (decide ((0 : Int) ≤ (a : Int)) && decide ((a : Int) < (n : Int)) && (decide ((0 : Int) ≤ (b : Int)) && decide ((b : Int) < (k : Int)) && !decide (cell M (a : Int) (b : Int).toNat = cell N (a : Int) (b : Int).toNat))) with
        | false => rfl
        | true =>
          simp only [Bool.and_eq_true, decide_eq_true_eq, Bool.not_eq_true', decide_eq_false_iff_not, Int.toNat_natCast] at hz
          exact absurd (mem_difs.mpr ⟨by have := hz.1.2; omega, by have := hz.2.1.2; omega, hz.2.2⟩) hm
      rw [hn]
      refine List.any_eq_false.mpr fun q hq => ?_
      simp only [Function.comp_apply, eqv_tup2]
      intro e
      have e := of_decide_eq_true e
      simp only [List.cons.injEq, and_true] at e
      have : q = (a, b) := Prod.ext (by have := e.1; omega) (by have := e.2; omega)
      rw [this] at hq
      exact hm hq
  | [], _ =>
    refine (List.any_eq_false.mpr fun q hq => ?_).trans (apB_len (by simp)).symm
    simp only [Function.comp_apply, eqv_tup2]
    simp
  | [i], _ =>
    refine (List.any_eq_false.mpr fun q hq => ?_).trans (apB_len (by simp)).symm
    simp only [Function.comp_apply, eqv_tup2]
    simp
  | i :: j :: l :: r, _ =>
    refine (List.any_eq_false.mpr fun q hq => ?_).trans (apB_len (by simp)).symm
    simp only [Function.comp_apply, eqv_tup2]
    simp
theorem ev_shows_difference {n k : Nat} {e1 e2 : PyData} {cs ds : List Int} (h1 : items e1 = some (iL cs)) (h2 : items e2 = some (iL ds)) (n0 : 0 < n) (n1 : n ≤ 50) (k0 : 1 ≤ k) (kn : k ≤ n) (hc : cs.length ≤ 1000) (hd : ds.length ≤ 1000) {d : PyData} (h : okR d = true) (hl : ∀ xs, items d = some xs → xs.length ≤ 50000) : m_shows_difference [.d (.int (n : Int)), .d (.int (k : Int)), .d e1, .d e2, .d d] = .ret (.bool (apB n k (mvL n k cs) (mvL n k ds) d)) := by
  cases d with
  | tuple xs =>
    have hx : okRs xs = true := by simpa only [okR] using h
    have hch := ev_all_chairs (n := (n : Int)) (it_t xs) hx (hl xs rfl)
    by_cases hall : (xs.all (chB n)) = true
    · obtain ⟨is, rfl, hi⟩ := all_ch hall
      have hp := in_difs (k := k) (M := mvL n k cs) (N := mvL n k ds) hi
      simp only [m_shows_difference, b_shows_difference, Nat.reduceSub, Nat.reduceAdd, reduceIte, Tree.bind, liftO, dIdx, sAsgL, sPar4, dV, dC, d1, d2, t1, t2, l0, lC, dL, dT, aV, aE, a0, aC, dCall, dCallK, dIf, tTr, tV, truth, asB, tNot, tAnd, tOr, dAnd, dOr, sSet, sAsg, sPar, sRet, s0, sC, sIf, sX, sOwn, sApp, sFrz, frzE, sFor, outV, fnF, lenIs, ent, small, few, putE, putsE, wipeE, it_l, it_t, iS, iR1, iR2, wEn, wZ2, wZ3, dLc, dLf, dSl, oN, oS, pCut, pSub, cI, bD, pIx, pList, pTup, pLen, pNot, qIsN, qNotN, pIsN, pNotN, List.getElem?_cons_succ, List.getElem?_cons_zero, List.set_cons_succ, List.set_cons_zero, List.length_cons, List.length_nil, List.map_cons, List.map_nil, List.foldr_cons, List.foldr_nil, List.replicate_succ, List.replicate_zero, List.cons_append, List.nil_append, sOPar, sOOPar, dOIx, sNest, sCallP, dOLen, fnP, pC, pFrz, dPr, dVT, dTIx, sSetT, sParT, asTI, asI_iL, isi_tuple h, isTu, Bool.not_true, hch, hall, ev_all_differences h1 h2 n0 n1 k0 (show k ≤ 50 by omega) hc hd, hp]
    · have hf : (xs.all (chB n)) = false := by simpa using hall
      have hp : apB n k (mvL n k cs) (mvL n k ds) (.tuple xs) = false := by
        cases hz : apB n k (mvL n k cs) (mvL n k ds) (.tuple xs) with
        | false => rfl
        | true =>
          unfold apB at hz
          split at hz
          · rename_i i j e
            cases e
            simp only [Bool.and_eq_true, decide_eq_true_eq] at hz
            refine absurd (ch_all (is := [i, j]) fun x hx => ?_) hall
            simp only [List.mem_cons, List.not_mem_nil, or_false] at hx
            rcases hx with rfl | rfl
            · exact hz.1
            · exact ⟨hz.2.1.1, by have := hz.2.1.2; omega⟩
          · cases hz
      simp only [m_shows_difference, b_shows_difference, Nat.reduceSub, Nat.reduceAdd, reduceIte, Tree.bind, liftO, dIdx, sAsgL, sPar4, dV, dC, d1, d2, t1, t2, l0, lC, dL, dT, aV, aE, a0, aC, dCall, dCallK, dIf, tTr, tV, truth, asB, tNot, tAnd, tOr, dAnd, dOr, sSet, sAsg, sPar, sRet, s0, sC, sIf, sX, sOwn, sApp, sFrz, frzE, sFor, outV, fnF, lenIs, ent, small, few, putE, putsE, wipeE, it_l, it_t, iS, iR1, iR2, wEn, wZ2, wZ3, dLc, dLf, dSl, oN, oS, pCut, pSub, cI, bD, pIx, pList, pTup, pLen, pNot, qIsN, qNotN, pIsN, pNotN, List.getElem?_cons_succ, List.getElem?_cons_zero, List.set_cons_succ, List.set_cons_zero, List.length_cons, List.length_nil, List.map_cons, List.map_nil, List.foldr_cons, List.foldr_nil, List.replicate_succ, List.replicate_zero, List.cons_append, List.nil_append, sOPar, sOOPar, dOIx, sNest, sCallP, dOLen, fnP, pC, pFrz, dPr, dVT, dTIx, sSetT, sParT, asTI, asI_iL, isi_tuple h, isTu, Bool.not_true, Bool.not_false, hch, hf, hp]
  | _ => simp only [m_shows_difference, b_shows_difference, Nat.reduceSub, Nat.reduceAdd, reduceIte, Tree.bind, liftO, dIdx, sAsgL, sPar4, dV, dC, d1, d2, t1, t2, l0, lC, dL, dT, aV, aE, a0, aC, dCall, dCallK, dIf, tTr, tV, truth, asB, tNot, tAnd, tOr, dAnd, dOr, sSet, sAsg, sPar, sRet, s0, sC, sIf, sX, sOwn, sApp, sFrz, frzE, sFor, outV, fnF, lenIs, ent, small, few, putE, putsE, wipeE, it_l, it_t, iS, iR1, iR2, wEn, wZ2, wZ3, dLc, dLf, dSl, oN, oS, pCut, pSub, cI, bD, pIx, pList, pTup, pLen, pNot, qIsN, qNotN, pIsN, pNotN, List.getElem?_cons_succ, List.getElem?_cons_zero, List.set_cons_succ, List.set_cons_zero, List.length_cons, List.length_nil, List.map_cons, List.map_nil, List.foldr_cons, List.foldr_nil, List.replicate_succ, List.replicate_zero, List.cons_append, List.nil_append, sOPar, sOOPar, dOIx, sNest, sCallP, dOLen, fnP, pC, pFrz, dPr, dVT, dTIx, sSetT, sParT, asTI, asI_iL, isi_tuple h, isTu, Bool.not_false, apB]
theorem idx_at : ∀ {l : List Int} {j : Nat} {v : Int}, l.Nodup → l[j]? = some v → l.idxOf v = j
  | [], _, _, _, h => by cases h
  | x :: l, 0, v, _, h => by
    cases h
    rw [List.idxOf_cons]
    simp
  | x :: l, j + 1, v, nd, h => by
    obtain ⟨h1, h2⟩ := List.nodup_cons.mp nd
    have h' : l[j]? = some v := h
    have ne : x ≠ v := fun e => h1 (e ▸ List.mem_of_getElem? h')
    rw [List.idxOf_cons, show (x == v) = false from beq_eq_false_iff_ne.mpr ne, idx_at h2 h']
    rfl
section
variable {n : Nat} {t : Int} {a cs ds : List Int}
theorem Tbl.nd {a : List Int} (tb : Tbl n a) : a.Nodup := tb.asc.imp fun {a b} h e => by omega
theorem steps_at (t : Int) (ta : Tbl n a) (ha : a ≠ []) (n0 : 0 < n) (hc : ∀ c ∈ cs, 0 ≤ c ∧ c < (n : Int)) {j : Nat} {x : Int} (hj : a[j]? = some x) :
    ∃ i z, (tur n t a)[i]? = some ((x + t) % (n : Int)) ∧ (tur n t a).idxOf ((x + t) % (n : Int)) = i ∧ (stepsL n (tur n t a) (rotC n t cs))[i]? = some z ∧ (stepsL n a cs)[j]? = some z := by
  obtain ⟨r, e1, e2⟩ := steps_turn (cs := cs) t ta ha n0
  have tt := tur_tbl t ta ha n0
  have hm : (x + t) % (n : Int) ∈ tur n t a := by
    unfold tur
    rw [srt_mem]
    exact List.mem_map.mpr ⟨x, List.mem_of_getElem? hj, rfl⟩
  obtain ⟨i, hi⟩ := List.getElem?_of_mem hm
  have hil : i < a.length := by
    have := (List.getElem?_eq_some_iff.mp hi).1
    rw [tur_len] at this
    exact this
  have hx := ta.mem x (List.mem_of_getElem? hj)
  refine ⟨i, xOf n a ((i : Int) + r) - fCalls n cs (xOf n a) ((i : Int) + r), hi, idx_at tt.nd hi, by rw [e2, rowOf_get hil], ?_⟩
  have hx1 := xOf_at (n := n) (tur_ne ha) hi
  rw [e1] at hx1
  have hx1 : xOf n a ((i : Int) + r) + t = (x + t) % (n : Int) := hx1
  obtain ⟨j', hj', ⟨q, hq⟩, hg⟩ := xOf_ix ta ha ((i : Int) + r)
  have hxx : xOf n a ((i : Int) + r) % (n : Int) = x := by
    have h1 : (xOf n a ((i : Int) + r) + t - t) % (n : Int) = (x + t - t) % (n : Int) := by
      rw [hx1, Int.sub_emod, Int.emod_emod, ← Int.sub_emod]
    rw [Int.add_sub_cancel, Int.add_sub_cancel, Int.emod_eq_of_lt hx.1 hx.2] at h1
    exact h1
  rw [hxx] at hg
  have ej : j' = j := by rw [← idx_at ta.nd hg, idx_at ta.nd hj]
  rw [steps_tbl ta ha n0 hc, ← ej, rowOf_get hj']
  have := per_int (g := fun i => xOf n a i - fCalls n cs (xOf n a) i) (k := a.length) (stepsF_per ta ha n0) (j' : Int) q
  rw [← hq] at this
  have this : xOf n a ((i : Int) + r) - fCalls n cs (xOf n a) ((i : Int) + r) = xOf n a (j' : Int) - fCalls n cs (xOf n a) (j' : Int) := this
  rw [this]
variable {k : Nat}
theorem row_get {c : Nat} (h : c < n) : (mvL n k cs)[c]? = some (stepsL n (pkS n k (c : Int)) cs) := by
  unfold mvL
  rw [List.getElem?_map, List.getElem?_range h]
  rfl
theorem cell_at {c : Int} {b : Nat} (h : 0 ≤ c ∧ c < (n : Int)) : cell (mvL n k cs) c b = (stepsL n (pkS n k c) cs).getD b 0 := by
  have h3 : (mvL n k cs).getD c.toNat [] = stepsL n (pkS n k c) cs := by
    rw [List.getD_eq_getElem?_getD, row_get (show c.toNat < n by omega), Int.toNat_of_nonneg h.1]
    rfl
  unfold cell
  rw [h3]
theorem cell_turn {c : Int} {b : Nat} (k0 : 1 ≤ k) (kn : k ≤ n) (hc : ∀ c ∈ cs, 0 ≤ c ∧ c < (n : Int)) (h : 0 ≤ c ∧ c < (n : Int)) : cell (mvL n k (rotC n t cs)) ((c + t) % (n : Int)) b = cell (mvL n k cs) c b := by
  rw [cell_at ⟨Int.emod_nonneg _ (by omega), Int.emod_lt_of_pos _ (by omega)⟩, cell_at h, row_turn (by omega) k0 kn hc, Int.sub_emod, Int.emod_emod, ← Int.sub_emod, Int.add_sub_cancel, Int.emod_eq_of_lt h.1 h.2]
theorem mv_turn1 (k0 : 1 ≤ k) (kn : k ≤ n) (hc : ∀ c ∈ cs, 0 ≤ c ∧ c < (n : Int)) (hd : ∀ c ∈ ds, 0 ≤ c ∧ c < (n : Int)) (e : mvL n k cs = mvL n k ds) : mvL n k (rotC n t cs) = mvL n k (rotC n t ds) := by
  unfold mvL
  refine List.map_congr_left fun c hc' => ?_
  rw [row_turn (by omega) k0 kn hc, row_turn (by omega) k0 kn hd]
  have h0 := Int.emod_nonneg ((c : Int) - t) (show (n : Int) ≠ 0 by omega)
  have h1 := Int.emod_lt_of_pos ((c : Int) - t) (show (0 : Int) < n by omega)
  obtain ⟨z, hz⟩ : ∃ z : Nat, ((c : Int) - t) % (n : Int) = (z : Int) := ⟨(((c : Int) - t) % (n : Int)).toNat, by omega⟩
  rw [hz]
  have g1 := row_get (n := n) (k := k) (cs := cs) (c := z) (by omega)
  have g2 := row_get (n := n) (k := k) (cs := ds) (c := z) (by omega)
  rw [e, g2] at g1
  exact (Option.some.inj g1).symm
theorem mv_turn (k0 : 1 ≤ k) (kn : k ≤ n) (hc : ∀ c ∈ cs, 0 ≤ c ∧ c < (n : Int)) (hd : ∀ c ∈ ds, 0 ≤ c ∧ c < (n : Int)) : mvL n k (rotC n t cs) = mvL n k (rotC n t ds) ↔ mvL n k cs = mvL n k ds := by
  refine ⟨fun e => ?_, mv_turn1 k0 kn hc hd⟩
  have := mv_turn1 (t := -t) k0 kn (rotC_in (t := t) (by omega)) (rotC_in (t := t) (by omega)) e
  rw [rotC_back hc, rotC_back hd] at this
  exact this
theorem led_turn1 (k0 : 1 ≤ k) (kn : k ≤ n) (hc : ∀ c ∈ cs, 0 ≤ c ∧ c < (n : Int)) (hd : ∀ c ∈ ds, 0 ≤ c ∧ c < (n : Int)) (e : ∀ a ∈ tbs n k, tabA n a cs = tabA n a ds) : ∀ a ∈ tbs n k, tabA n a (rotC n t cs) = tabA n a (rotC n t ds) := fun a h => by
  obtain ⟨ta, la⟩ := tbs_mem h
  have ha : a ≠ [] := List.length_pos_iff.mp (by omega)
  have n0 : 0 < n := by omega
  have tb := tur_tbl (-t) ta ha n0
  have hb : tur n (-t) a ≠ [] := tur_ne ha
  have hmem : tur n (-t) a ∈ tbs n k := tbs_all tb (by rw [tur_len, la])
  have q := e _ hmem
  have e1 : tur n t (tur n (-t) a) = a := by
    have := tur_back (n := n) (t := -t) ta
    rw [Int.neg_neg] at this
    exact this
  have h1 := tab_turn (t := t) tb hb n0 hc
  have h2 := tab_turn (t := t) tb hb n0 hd
  rw [e1] at h1 h2
  rw [h1, h2, q]
theorem led_turn (k0 : 1 ≤ k) (kn : k ≤ n) (hc : ∀ c ∈ cs, 0 ≤ c ∧ c < (n : Int)) (hd : ∀ c ∈ ds, 0 ≤ c ∧ c < (n : Int)) : ((tbs n k).filter fun a => !decide (tabA n a (rotC n t cs) = tabA n a (rotC n t ds))).isEmpty = ((tbs n k).filter fun a => !decide (tabA n a cs = tabA n a ds)).isEmpty := by
  have key : ∀ us vs : List Int, ((tbs n k).filter fun a => !decide (tabA n a us = tabA n a vs)).isEmpty = true ↔ ∀ a ∈ tbs n k, tabA n a us = tabA n a vs := fun us vs => by
    rw [List.isEmpty_iff, List.filter_eq_nil_iff]
    refine ⟨fun h a ha => ?_, fun h a ha => ?_⟩
    · have := h a ha
      simpa using this
    · simpa using h a ha
  refine Bool.eq_iff_iff.mpr ?_
  rw [key, key]
  refine ⟨fun h => ?_, led_turn1 k0 kn hc hd⟩
  have := led_turn1 (t := -t) k0 kn (rotC_in (t := t) (by omega)) (rotC_in (t := t) (by omega)) h
  rw [rotC_back hc, rotC_back hd] at this
  exact this
end
section
variable {n k : Nat} {t : Int} {cs ds : List Int}
theorem ev_moved_on {e : PyData} {w : List Int} (he : items e = some (iL w)) (n0 : 0 < n) (hl : w.length ≤ 1000) : m_law_moved_on [.d (.int (n : Int)), .d e, .d (.int t)] = .ret (.list (iL (rotC n t w))) := by
  have hl5 : (iL w).length ≤ 50000 := by rw [iL_len]; omega
  simp only [m_law_moved_on, b_law_moved_on, Nat.reduceSub, Nat.reduceAdd, Nat.reduceLeDiff, reduceIte, Tree.bind, liftO, dIdx, sAsgL, sPar4, dV, dC, d1, d2, t1, t2, l0, lC, dL, dT, aV, aE, a0, aC, dCall, dCallK, dIf, tTr, tV, truth, asB, tNot, tAnd, tOr, dAnd, dOr, sSet, sAsg, sPar, sRet, s0, sC, sIf, sX, sOwn, sApp, sFrz, frzE, sFor, outV, fnF, lenIs, ent, small, few, putE, putsE, wipeE, it_l, it_t, iS, iR1, iR2, wEn, wZ2, wZ3, dLc, dLf, dSl, oN, oS, pCut, pSub, cI, bD, pIx, pList, pTup, pLen, pNot, qIsN, qNotN, pIsN, pNotN, List.getElem?_cons_succ, List.getElem?_cons_zero, List.set_cons_succ, List.set_cons_zero, List.length_cons, List.length_nil, List.map_cons, List.map_nil, List.foldr_cons, List.foldr_nil, List.replicate_succ, List.replicate_zero, List.cons_append, List.nil_append, sOPar, sOOPar, dOIx, sNest, sCallP, dOLen, fnP, pC, pFrz, dPr, dVT, dTIx, sSetT, sParT, asTI, asI_iL, he, if_pos hl5]
  rw [show iL w = w.map PyData.int from rfl, mapT_map, mapT_ret (g := fun c => PyData.int ((c + t) % (n : Int))) fun c _ => by
    have h1 : pAdd (.int c) (.int t) = some (.int (c + t)) := rfl
    have h2 : pMod (.int (c + t)) (.int (n : Int)) = some (.int ((c + t) % (n : Int))) := if_pos (by omega)
    simp only [Nat.reduceSub, Nat.reduceAdd, Nat.reduceLeDiff, reduceIte, Tree.bind, liftO, dIdx, sAsgL, sPar4, dV, dC, d1, d2, t1, t2, l0, lC, dL, dT, aV, aE, a0, aC, dCall, dCallK, dIf, tTr, tV, truth, asB, tNot, tAnd, tOr, dAnd, dOr, sSet, sAsg, sPar, sRet, s0, sC, sIf, sX, sOwn, sApp, sFrz, frzE, sFor, outV, fnF, lenIs, ent, small, few, putE, putsE, wipeE, it_l, it_t, iS, iR1, iR2, wEn, wZ2, wZ3, dLc, dLf, dSl, oN, oS, pCut, pSub, cI, bD, pIx, pList, pTup, pLen, pNot, qIsN, qNotN, pIsN, pNotN, List.getElem?_cons_succ, List.getElem?_cons_zero, List.set_cons_succ, List.set_cons_zero, List.length_cons, List.length_nil, List.map_cons, List.map_nil, List.foldr_cons, List.foldr_nil, List.replicate_succ, List.replicate_zero, List.cons_append, List.nil_append, sOPar, sOOPar, dOIx, sNest, sCallP, dOLen, fnP, pC, pFrz, dPr, dVT, dTIx, sSetT, sParT, asTI, asI_iL, h1, h2]]
  have e : (w.map fun c => PyData.int ((c + t) % (n : Int))) = iL (rotC n t w) := by
    unfold iL rotC
    rw [List.map_map]
    rfl
  rw [e]
  rfl
theorem pNe_bb' (a b : Bool) : pNe (.bool a) (.bool b) = some (!decide (a = b)) := by cases a <;> cases b <;> rfl
theorem ev_lists (n0 : 2 ≤ n) (n1 : n ≤ 6) (k0 : 1 ≤ k) (kn : k < n) (t0 : 0 ≤ t ∧ t < (n : Int)) (hc : ∀ c ∈ cs, 0 ≤ c ∧ c < (n : Int)) (hd : ∀ c ∈ ds, 0 ≤ c ∧ c < (n : Int)) (lc : cs.length ≤ 100) (ld : ds.length ≤ 100) :
    m_law_lists_right [.d (.int (n : Int)), .d (.int (k : Int)), .d (.tuple [.list (iL cs), .list (iL ds)]), .d (.int t)] = .ret (.bool true) := by
  have e1 := ev_moved_on (n := n) (t := t) (it_l (iL cs)) (by omega) (by omega)
  have e2 := ev_moved_on (n := n) (t := t) (it_l (iL ds)) (by omega) (by omega)
  have rc := rotC_len (n := n) (t := t) (a := cs)
  have rd := rotC_len (n := n) (t := t) (a := ds)
  have ic := rotC_in (n := n) (t := t) (w := cs) (by omega)
  have id := rotC_in (n := n) (t := t) (w := ds) (by omega)
  have f1 := ev_move_alike (n := n) (k := k) (it_l (iL cs)) (it_l (iL ds)) (by omega) (by omega) k0 (by omega) (by omega) (by omega)
  have f2 := ev_move_alike (n := n) (k := k) (it_l (iL (rotC n t cs))) (it_l (iL (rotC n t ds))) (by omega) (by omega) k0 (by omega) (by omega) (by omega)
  have g1 := ev_lead_alike (n := n) (k := k) (it_l (iL cs)) (it_l (iL ds)) (by omega) k0 kn hc (by omega) hd (by omega)
  have g2 := ev_lead_alike (n := n) (k := k) (it_l (iL (rotC n t cs))) (it_l (iL (rotC n t ds))) (by omega) k0 kn ic (by omega) id (by omega)
  have h1 := ev_moving_difference (n := n) (k := k) (it_l (iL cs)) (it_l (iL ds)) (by omega) (by omega) k0 (by omega) (by omega) (by omega)
  have a1 := ev_average (n := n) (k := k) (it_l (iL cs)) (by omega) (by omega) k0 (by omega) hc (by omega)
  have a2 := ev_average (n := n) (k := k) (it_l (iL (rotC n t cs))) (by omega) (by omega) k0 (by omega) ic (by omega)
  rw [avg_turn (by omega) (by omega) k0 (by omega) hc] at a2
  rw [led_turn k0 (by omega) hc hd] at g2
  rw [show decide (mvL n k (rotC n t cs) = mvL n k (rotC n t ds)) = decide (mvL n k cs = mvL n k ds) from decide_eq_decide.mpr (mv_turn k0 (by omega) hc hd)] at f2
  have sh := fun d (q : okR d = true) w => ev_shows_difference (n := n) (k := k) (it_l (iL (rotC n t cs))) (it_l (iL (rotC n t ds))) (by omega) (by omega) k0 (by omega) (by omega) (by omega) (d := d) q w
  have hq : ∀ q ∈ difs n k (mvL n k cs) (mvL n k ds), m_shows_difference [.d (.int (n : Int)), .d (.int (k : Int)), .d (.list (iL (rotC n t cs))), .d (.list (iL (rotC n t ds))), .d (.tuple [.int (((q.1 : Int) + t) % (n : Int)), .int (q.2 : Int)])] = .ret (.bool true) := fun q hq => by
    obtain ⟨q1, q2, q3⟩ := mem_difs.mp hq
    have z0 := Int.emod_nonneg ((q.1 : Int) + t) (show (n : Int) ≠ 0 by omega)
    have z1 := Int.emod_lt_of_pos ((q.1 : Int) + t) (show (0 : Int) < n by omega)
    have hok : okR (.tuple [.int (((q.1 : Int) + t) % (n : Int)), .int (q.2 : Int)]) = true := by
      have : okRs (iL [((q.1 : Int) + t) % (n : Int), (q.2 : Int)]) = true := ok_iL fun x hx => by
        simp only [List.mem_cons, List.not_mem_nil, or_false] at hx
        rcases hx with rfl | rfl <;> omega
      exact this
    rw [sh _ hok fun xs e => by cases e; simp]
    have w : apB n k (mvL n k (rotC n t cs)) (mvL n k (rotC n t ds)) (.tuple [.int (((q.1 : Int) + t) % (n : Int)), .int (q.2 : Int)]) = true := by
      show (decide (0 ≤ ((q.1 : Int) + t) % (n : Int)) && decide (((q.1 : Int) + t) % (n : Int) < (n : Int)) && (decide (0 ≤ (q.2 : Int)) && decide ((q.2 : Int) < (k : Int)) && !decide (cell (mvL n k (rotC n t cs)) (((q.1 : Int) + t) % (n : Int)) (q.2 : Int).toNat = cell (mvL n k (rotC n t ds)) (((q.1 : Int) + t) % (n : Int)) (q.2 : Int).toNat))) = true
      rw [cell_turn k0 (by omega) hc ⟨by omega, by omega⟩, cell_turn k0 (by omega) hd ⟨by omega, by omega⟩, decide_eq_true z0, decide_eq_true z1, decide_eq_true (show 0 ≤ (q.2 : Int) by omega), decide_eq_true (show (q.2 : Int) < (k : Int) by omega), decide_eq_false (by rw [Int.toNat_natCast]; exact q3)]
      rfl
    rw [w]
  have av : pEq (.tuple [.int ((avgV n k cs).1 : Int), .int ((avgV n k cs).2 : Int)]) (.tuple [.int ((avgV n k cs).1 : Int), .int ((avgV n k cs).2 : Int)]) = some true := (pEq_tt [_, _] [_, _]).trans (by simp)
  generalize (.tuple [.int ((avgV n k cs).1 : Int), .int ((avgV n k cs).2 : Int)] : PyData) = AV at a1 a2 av
  generalize decide (mvL n k cs = mvL n k ds) = MA at f1 f2
  generalize ((tbs n k).filter fun a => !decide (tabA n a cs = tabA n a ds)).isEmpty = LA at g1 g2
  generalize difs n k (mvL n k cs) (mvL n k ds) = Q at h1 hq
  generalize iL (rotC n t cs) = C' at e1 f2 g2 a2 hq
  generalize iL (rotC n t ds) = D' at e2 f2 g2 hq
  generalize iL cs = C at e1 f1 g1 h1 a1 ⊢
  generalize iL ds = D at e2 f1 g1 h1 ⊢
  have bM : pNe (.bool MA) (.bool MA) = some false := by rw [pNe_bb']; simp
  have bL : pNe (.bool LA) (.bool LA) = some false := by rw [pNe_bb']; simp
  cases Q with
  | nil =>
    have h1 : m_moving_difference [.d (.int (n : Int)), .d (.int (k : Int)), .d (.list C), .d (.list D)] = .ret .none := h1
    simp only [m_law_lists_right, b_law_lists_right, Nat.reduceSub, Nat.reduceAdd, Nat.reduceLeDiff, Nat.reduceLT, reduceIte, Tree.bind, liftO, dIdx, sAsgL, sPar4, dV, dC, d1, d2, t1, t2, l0, lC, dL, dT, aV, aE, a0, aC, dCall, dCallK, dIf, tTr, tV, truth, asB, tNot, tAnd, tOr, dAnd, dOr, sSet, sAsg, sPar, sRet, s0, sC, sIf, sX, sOwn, sApp, sFrz, frzE, sFor, outV, fnF, lenIs, ent, small, few, putE, putsE, wipeE, it_l, it_t, iS, iR1, iR2, wEn, wZ2, wZ3, dLc, dLf, dSl, oN, oS, pCut, pSub, cI, bD, pIx, pList, pTup, pLen, pNot, qIsN, qNotN, pIsN, pNotN, List.getElem?_cons_succ, List.getElem?_cons_zero, List.set_cons_succ, List.set_cons_zero, List.length_cons, List.length_nil, List.map_cons, List.map_nil, List.foldr_cons, List.foldr_nil, List.replicate_succ, List.replicate_zero, List.cons_append, List.nil_append, sOPar, sOOPar, dOIx, sNest, sCallP, dOLen, fnP, pC, pFrz, dPr, dVT, dTIx, sSetT, sParT, asTI, asI_iL, e1, e2, f1, f2, g1, g2, bM, bL, h1, a1, a2, av]
  | cons q r =>
    have h1 : m_moving_difference [.d (.int (n : Int)), .d (.int (k : Int)), .d (.list C), .d (.list D)] = .ret (.tuple [.int (q.1 : Int), .int (q.2 : Int)]) := h1
    have hq := hq q (List.mem_cons_self ..)
    have i0 : atI [PyData.int (q.1 : Int), .int (q.2 : Int)] 0 = some (.int (q.1 : Int)) := rfl
    have i1 : atI [PyData.int (q.1 : Int), .int (q.2 : Int)] 1 = some (.int (q.2 : Int)) := rfl
    have p1 : pAdd (.int (q.1 : Int)) (.int t) = some (.int ((q.1 : Int) + t)) := rfl
    have p2 : pMod (.int ((q.1 : Int) + t)) (.int (n : Int)) = some (.int (((q.1 : Int) + t) % (n : Int))) := if_pos (by omega)
    simp only [m_law_lists_right, b_law_lists_right, Nat.reduceSub, Nat.reduceAdd, Nat.reduceLeDiff, Nat.reduceLT, reduceIte, Tree.bind, liftO, dIdx, sAsgL, sPar4, dV, dC, d1, d2, t1, t2, l0, lC, dL, dT, aV, aE, a0, aC, dCall, dCallK, dIf, tTr, tV, truth, asB, tNot, tAnd, tOr, dAnd, dOr, sSet, sAsg, sPar, sRet, s0, sC, sIf, sX, sOwn, sApp, sFrz, frzE, sFor, outV, fnF, lenIs, ent, small, few, putE, putsE, wipeE, it_l, it_t, iS, iR1, iR2, wEn, wZ2, wZ3, dLc, dLf, dSl, oN, oS, pCut, pSub, cI, bD, pIx, pList, pTup, pLen, pNot, qIsN, qNotN, pIsN, pNotN, List.getElem?_cons_succ, List.getElem?_cons_zero, List.set_cons_succ, List.set_cons_zero, List.length_cons, List.length_nil, List.map_cons, List.map_nil, List.foldr_cons, List.foldr_nil, List.replicate_succ, List.replicate_zero, List.cons_append, List.nil_append, sOPar, sOOPar, dOIx, sNest, sCallP, dOLen, fnP, pC, pFrz, dPr, dVT, dTIx, sSetT, sParT, asTI, asI_iL, e1, e2, f1, f2, g1, g2, bM, bL, h1, a1, a2, av, i0, i1, p1, p2, hq, Bool.not_true]
end
theorem mapT_enK {f : PyData → Tree PyData} {g : Nat → PyData} {ws : List Int} (h : ∀ (i : Nat) w, ws[i]? = some w → f (.tuple [.int (i : Int), .int w]) = .ret (g i)) : mapT f (prs (nums ws.length) (iL ws)) = .ret ((List.range ws.length).map g) := by
  have e : prs (nums ws.length) (iL ws) = (List.range ws.length).map fun i => .tuple [.int (i : Int), .int (ws.getD i 0)] := by
    rw [nums_cnt, prs_iL]
    refine List.ext_getElem? fun i => ?_
    by_cases hi : i < ws.length
    · have h1 : ((cnt ws.length).zip ws)[i]? = some ((i : Int), ws[i]) := List.getElem?_zip_eq_some.mpr ⟨cnt_get hi, List.getElem?_eq_getElem hi⟩
      rw [List.getElem?_map, List.getElem?_map, List.getElem?_range hi, h1, Option.map_some, Option.map_some, List.getD_eq_getElem?_getD, List.getElem?_eq_getElem hi]
      rfl
    · rw [List.getElem?_eq_none (by rw [List.length_map, List.length_zip, cnt_len]; omega), List.getElem?_eq_none (by rw [List.length_map, List.length_range]; omega)]
  rw [e, mapT_map]
  exact mapT_ret fun i hi => h i _ (by
    have := List.mem_range.mp hi
    rw [List.getD_eq_getElem?_getD, List.getElem?_eq_getElem this]
    rfl)
theorem right_ok : (m_law_right [.bx]).All fun d => d = .bool true := by
  have run : m_law_right [.bx] = (b_law_right [some .bx, none, none, none, none, none, none, none, none, none, none, none, none, none, none]).bind outV := rfl
  have eSp := fun (Q : PyData → Prop) h => all_law_span (m := 6) (Q := Q) (by decide) (by decide) h
  have eFo := fun (n : Nat) (Q : PyData → Prop) a b h => @all_law_folk n Q a b h
  have eTo := fun (n : Nat) (Q : PyData → Prop) a b c h => @all_law_tour n 9 Q a b c h
  have eNe := fun (n : Nat) (cs : List Int) (Q : PyData → Prop) a b c d h => @all_law_near n cs Q a b c d h
  have eCr := fun (n k : Nat) (Q : PyData → Prop) a b c h => @all_law_crowd n k Q a b c h
  have eL := fun (n k : Nat) (t : Int) (cs ds : List Int) a b c d e f g h i => @ev_lists n k t cs ds a b c d e f g h i
  have eM := fun (n : Nat) (t : Int) (e : PyData) (w : List Int) he a b => @ev_moved_on n t e w he a b
  have eC := fun (n : Nat) (ss cs : List Int) tb hne n0 n1 kn hc hl => @ev_course n (.tuple (iL ss)) (.list (iL cs)) ss cs (it_t _) (it_l _) tb hne n0 n1 kn hc hl
  have eT := fun (n m : Nat) (ss cs : List Int) tb hne n0 n1 kn hc hl hm => @ev_table_after_many n m (.tuple (iL ss)) (.list (iL cs)) ss cs (it_t _) (it_l _) tb hne n0 n1 kn hc hl hm
  have eS := fun (n m : Nat) (ss cs : List Int) tb hne n0 n1 kn hc hl hm => @ev_steps_after_many n m (.tuple (iL ss)) (.list (iL cs)) ss cs (it_t _) (it_l _) tb hne n0 n1 kn hc hl hm
  rw [run]
  unfold b_law_right
  generalize m_law_span = Sp at eSp ⊢
  generalize m_law_folk = Fo at eFo ⊢
  generalize m_law_tour = To at eTo ⊢
  generalize m_law_near = Ne at eNe ⊢
  generalize m_law_crowd = Cr at eCr ⊢
  generalize m_law_lists_right = LR at eL ⊢
  generalize m_law_moved_on = MO at eM ⊢
  generalize m_course = CO at eC ⊢
  generalize m_table_after_many = TA at eT ⊢
  generalize m_steps_after_many = SA at eS ⊢
  clear run
  simp only [Nat.reduceSub, Nat.reduceAdd, Nat.reduceLeDiff, reduceIte, Tree.bind, liftO, dIdx, sAsgL, sPar4, dV, dC, d1, d2, t1, t2, l0, lC, dL, dT, aV, aE, a0, aC, dCall, dCallK, dIf, tTr, tV, truth, asB, tNot, tAnd, tOr, dAnd, dOr, sSet, sAsg, sPar, sRet, s0, sC, sIf, sX, sOwn, sApp, sFrz, frzE, sFor, outV, fnF, lenIs, ent, small, few, putE, putsE, wipeE, it_l, it_t, iS, iR1, iR2, wEn, wZ2, wZ3, dLc, dLf, dSl, oN, oS, pCut, pSub, cI, bD, pIx, pList, pTup, pLen, pNot, qIsN, qNotN, pIsN, pNotN, List.getElem?_cons_succ, List.getElem?_cons_zero, List.set_cons_succ, List.set_cons_zero, List.length_cons, List.length_nil, List.map_cons, List.map_nil, List.foldr_cons, List.foldr_nil, List.replicate_succ, List.replicate_zero, List.cons_append, List.nil_append, sOPar, sOOPar, dOIx, sNest, sCallP, dOLen, fnP, pC, pFrz, dPr, dVT, dTIx, sSetT, sParT, asTI, asI_iL, all_bindE, all_retE]
  refine eSp _ fun n n0 n1 => ?_
  refine eFo n _ n0 (by omega) fun k k0 kn => ?_
  refine eTo n _ (by omega) (by omega) (by decide) fun cs hc lc => ?_
  refine eNe n cs _ (by omega) (by omega) hc (by omega) fun ds hd ld => ?_
  refine all_take (by omega) (by omega) fun t t0 t1 => ?_
  simp only [Nat.reduceSub, Nat.reduceAdd, Nat.reduceLeDiff, reduceIte, Tree.bind, liftO, dIdx, sAsgL, sPar4, dV, dC, d1, d2, t1, t2, l0, lC, dL, dT, aV, aE, a0, aC, dCall, dCallK, dIf, tTr, tV, truth, asB, tNot, tAnd, tOr, dAnd, dOr, sSet, sAsg, sPar, sRet, s0, sC, sIf, sX, sOwn, sApp, sFrz, frzE, sFor, outV, fnF, lenIs, ent, small, few, putE, putsE, wipeE, it_l, it_t, iS, iR1, iR2, wEn, wZ2, wZ3, dLc, dLf, dSl, oN, oS, pCut, pSub, cI, bD, pIx, pList, pTup, pLen, pNot, qIsN, qNotN, pIsN, pNotN, List.getElem?_cons_succ, List.getElem?_cons_zero, List.set_cons_succ, List.set_cons_zero, List.length_cons, List.length_nil, List.map_cons, List.map_nil, List.foldr_cons, List.foldr_nil, List.replicate_succ, List.replicate_zero, List.cons_append, List.nil_append, sOPar, sOOPar, dOIx, sNest, sCallP, dOLen, fnP, pC, pFrz, dPr, dVT, dTIx, sSetT, sParT, asTI, asI_iL, all_bindE, all_retE, pow_6]
  refine all_take (by decide) (by decide) fun r r0 r1 => ?_
  obtain ⟨m, rfl⟩ : ∃ m : Nat, r = (m : Int) := ⟨r.toNat, by omega⟩
  have hL := eL n k t cs ds n0 n1 k0 kn ⟨t0, t1⟩ hc hd (by omega) (by omega)
  simp only [Nat.reduceSub, Nat.reduceAdd, Nat.reduceLeDiff, reduceIte, Tree.bind, liftO, dIdx, sAsgL, sPar4, dV, dC, d1, d2, t1, t2, l0, lC, dL, dT, aV, aE, a0, aC, dCall, dCallK, dIf, tTr, tV, truth, asB, tNot, tAnd, tOr, dAnd, dOr, sSet, sAsg, sPar, sRet, s0, sC, sIf, sX, sOwn, sApp, sFrz, frzE, sFor, outV, fnF, lenIs, ent, small, few, putE, putsE, wipeE, it_l, it_t, iS, iR1, iR2, wEn, wZ2, wZ3, dLc, dLf, dSl, oN, oS, pCut, pSub, cI, bD, pIx, pList, pTup, pLen, pNot, qIsN, qNotN, pIsN, pNotN, List.getElem?_cons_succ, List.getElem?_cons_zero, List.set_cons_succ, List.set_cons_zero, List.length_cons, List.length_nil, List.map_cons, List.map_nil, List.foldr_cons, List.foldr_nil, List.replicate_succ, List.replicate_zero, List.cons_append, List.nil_append, sOPar, sOOPar, dOIx, sNest, sCallP, dOLen, fnP, pC, pFrz, dPr, dVT, dTIx, sSetT, sParT, asTI, asI_iL, all_bindE, all_retE, hL, Bool.not_true]
  refine eCr n k _ (by omega) (by omega) (by omega) fun a ta la => ?_
  have ha : a ≠ [] := List.length_pos_iff.mp (by omega)
  have n0' : 0 < n := by omega
  have tt := tur_tbl t ta ha n0'
  have tne := tur_ne (n := n) (t := t) ha
  have tl := tur_len (n := n) (t := t) (a := a)
  have rl := rotC_len (n := n) (t := t) (a := cs)
  have ic := rotC_in (n := n) (t := t) (w := cs) n0'
  have hm : m < 2 ^ 99 := Nat.lt_trans (show m < 1000000 by omega) (by decide)
  have g1 := eM n t (.list (iL cs)) cs (it_l _) n0' (by omega)
  have g2 := eM n t (.tuple (iL a)) a (it_t _) n0' (by omega)
  have g3 := eC n a cs ta ha n0' (by omega) (by omega) hc (by omega)
  have g4 := eC n (tur n t a) (rotC n t cs) tt tne n0' (by omega) (by omega) ic (by omega)
  rw [crs_turn ta ha n0' (by omega) (by omega) hc] at g4
  have g5 := eT n m a cs ta ha n0' (by omega) (by omega) hc (by omega) hm
  have g6 := eT n m (tur n t a) (rotC n t cs) tt tne n0' (by omega) (by omega) ic (by omega) hm
  have g7 := eM n t (.tuple (iL (tabA n a (rep cs m)))) (tabA n a (rep cs m)) (it_t _) n0' (by rw [tabA_len]; omega)
  have hst : tabA n (tur n t a) (rep (rotC n t cs) m) = tur n t (tabA n a (rep cs m)) := seq_turn ta ha n0' hc m
  rw [hst] at g6
  have g8 := eS n m a cs ta ha n0' (by omega) (by omega) hc (by omega) hm
  have g9 := eS n m (tur n t a) (rotC n t cs) tt tne n0' (by omega) (by omega) ic (by omega) hm
  rw [show rep (rotC n t cs) m = rotC n t (rep cs m) from rotC_rep m] at g9
  have st := fun j x => @steps_at n a (rep cs m) t ta ha n0' (rep'_in hc m) j x
  have s1 : srt (rotC n t a) = tur n t a := rfl
  have s2 : srt (rotC n t (tabA n a (rep cs m))) = tur n t (tabA n a (rep cs m)) := rfl
  have pC : pNe (.tuple [.int ((crsV n a cs).1 : Int), .int ((crsV n a cs).2 : Int)]) (.tuple [.int ((crsV n a cs).1 : Int), .int ((crsV n a cs).2 : Int)]) = some false := (pNe_tt [_, _] [_, _]).trans (by simp)
  have hl5 : (prs (nums a.length) (iL a)).length ≤ 50000 := by rw [prs_len, nums_len, iL_len]; omega
  generalize (.tuple [.int ((crsV n a cs).1 : Int), .int ((crsV n a cs).2 : Int)] : PyData) = CV at g3 g4 pC
  simp only [Nat.reduceSub, Nat.reduceAdd, Nat.reduceLeDiff, reduceIte, Tree.bind, liftO, dIdx, sAsgL, sPar4, dV, dC, d1, d2, t1, t2, l0, lC, dL, dT, aV, aE, a0, aC, dCall, dCallK, dIf, tTr, tV, truth, asB, tNot, tAnd, tOr, dAnd, dOr, sSet, sAsg, sPar, sRet, s0, sC, sIf, sX, sOwn, sApp, sFrz, frzE, sFor, outV, fnF, lenIs, ent, small, few, putE, putsE, wipeE, it_l, it_t, iS, iR1, iR2, wEn, wZ2, wZ3, dLc, dLf, dSl, oN, oS, pCut, pSub, cI, bD, pIx, pList, pTup, pLen, pNot, qIsN, qNotN, pIsN, pNotN, List.getElem?_cons_succ, List.getElem?_cons_zero, List.set_cons_succ, List.set_cons_zero, List.length_cons, List.length_nil, List.map_cons, List.map_nil, List.foldr_cons, List.foldr_nil, List.replicate_succ, List.replicate_zero, List.cons_append, List.nil_append, sOPar, sOOPar, dOIx, sNest, sCallP, dOLen, fnP, pC, pFrz, dPr, dVT, dTIx, sSetT, sParT, asTI, asI_iL, all_bindE, all_retE, g1, g2, pSrt_of, s1, g3, g4, pC, g5, g7, s2, g6, pNe_tt, decide_true, Bool.not_true, g8, g9, iL_len, if_pos hl5]
  rw [mapT_enK (g := fun _ => .bool true) fun j x hj => by
    obtain ⟨i, z, h1, h2, h3, h4⟩ := st j x hj
    have hm := List.mem_of_getElem? h1
    have p1 : pAdd (.int x) (.int t) = some (.int (x + t)) := rfl
    have p2 : pMod (.int (x + t)) (.int (n : Int)) = some (.int ((x + t) % (n : Int))) := if_pos (by omega)
    have h3 := iL_atI h3
    have h4 := iL_atI h4
    simp only [Nat.reduceSub, Nat.reduceAdd, Nat.reduceLeDiff, Nat.reduceLT, reduceIte, Tree.bind, liftO, dIdx, sAsgL, sPar4, dV, dC, d1, d2, t1, t2, l0, lC, dL, dT, aV, aE, a0, aC, dCall, dCallK, dIf, tTr, tV, truth, asB, tNot, tAnd, tOr, dAnd, dOr, sSet, sAsg, sPar, sRet, s0, sC, sIf, sX, sOwn, sApp, sFrz, frzE, sFor, outV, fnF, lenIs, ent, small, few, putE, putsE, wipeE, it_l, it_t, iS, iR1, iR2, wEn, wZ2, wZ3, dLc, dLf, dSl, oN, oS, pCut, pSub, cI, bD, pIx, pList, pTup, pLen, pNot, qIsN, qNotN, pIsN, pNotN, List.getElem?_cons_succ, List.getElem?_cons_zero, List.set_cons_succ, List.set_cons_zero, List.length_cons, List.length_nil, List.map_cons, List.map_nil, List.foldr_cons, List.foldr_nil, List.replicate_succ, List.replicate_zero, List.cons_append, List.nil_append, sOPar, sOOPar, dOIx, sNest, sCallP, dOLen, fnP, pC, pFrz, dPr, dVT, dTIx, sSetT, sParT, asTI, asI_iL, p1, p2, if_pos hm, h2, h3, h4, pEq_I], all_retE]
  rw [pAll_yes fun d hd => by
    obtain ⟨_, _, rfl⟩ := List.mem_map.mp hd
    rfl]
  rfl
end Nx
namespace Nx
open PySem PySem.Spec PyProof.Rows L2
def topS (i : Nat) : Stmt := PySem.Challenge.pw_nextstands_k76_whole_turned_round_the_ta.main.body.getD i (.Pass ⟨0, 0, 0, 0⟩)
abbrev s_is_chair : Stmt := topS 1
abbrev s_all_chairs : Stmt := topS 2
abbrev s_mover : Stmt := topS 3
abbrev s_seats_called : Stmt := topS 4
abbrev s_seats_along : Stmt := topS 5
abbrev s_as_table : Stmt := topS 6
abbrev s_steps : Stmt := topS 7
abbrev s_pack_seats : Stmt := topS 9
abbrev s_pack : Stmt := topS 10
abbrev s_moves_of : Stmt := topS 11
abbrev s_steps_of_one : Stmt := topS 12
abbrev s_steps_by : Stmt := topS 13
abbrev s_table_by : Stmt := topS 14
abbrev s_pack_followed : Stmt := topS 15
abbrev s_followed : Stmt := topS 16
abbrev s_repeated : Stmt := topS 17
abbrev s_moves_of_many : Stmt := topS 19
abbrev s_course : Stmt := topS 20
abbrev s_table_after_many : Stmt := topS 21
abbrev s_steps_after_many : Stmt := topS 22
abbrev s_lowest_terms : Stmt := topS 23
abbrev s_average : Stmt := topS 24
abbrev s_all_tables : Stmt := topS 26
abbrev s_all_led : Stmt := topS 27
abbrev s_all_differences : Stmt := topS 29
abbrev s_move_alike : Stmt := topS 30
abbrev s_moving_difference : Stmt := topS 31
abbrev s_shows_difference : Stmt := topS 32
abbrev s_lead_alike : Stmt := topS 33
abbrev s_leading_difference : Stmt := topS 34
abbrev s_law_box : Stmt := topS 36
abbrev s_law_take : Stmt := topS 37
abbrev s_law_cells : Stmt := topS 38
abbrev s_law_of : Stmt := topS 39
abbrev s_law_strewn : Stmt := topS 40
abbrev s_law_span : Stmt := topS 41
abbrev s_law_folk : Stmt := topS 42
abbrev s_law_crowd : Stmt := topS 43
abbrev s_law_tour : Stmt := topS 44
abbrev s_law_near : Stmt := topS 45
abbrev s_law_moved_on : Stmt := topS 46
abbrev s_law_lists_right : Stmt := topS 47
abbrev s_law_right : Stmt := topS 48
abbrev s_law : Stmt := topS 49
section
variable {P : Program} {w : World} {K : PySem.W.Frag} {mg : Str → Option Value} {base : Heap}
theorem sc_law_take : FnScope ["_law_box_here", "_law_below", "_law_blend", "_law_found"] ["_law_box_here", "_law_below"] (defScope s_law_take) := ⟨rfl, rfl, rfl, by decide +kernel, rfl, by decide +kernel, by decide +kernel⟩
def c_law_take : Ct := fun os μ Φ => ∃ b n p q t, os = [.own b, .im (.int n)] ∧ μ b = some (bx p q t) ∧ 0 < n ∧ n < 4611686018427387904 ∧ ∀ r p' t', 0 ≤ r → r < n → Φ (.im (.int r)) (μ.put b (bx p' q t'))
theorem f_law_take {f : Addr} {fd : FuncData} (F : Fun K "_law_take" "_law_take" s_law_take f fd) (hm : mg "_law_take" = some (.ref f)) : Fc P w K mg base "_law_take" s_law_take ["_law_box_here", "_law_below"] 1 c_law_take := by
  have sc := sc_law_take
  refine fc_of F hm sc (fun os μ Φ h => ?_) fun cdv A outer s H E os μ Φ hr h => ?_
  · obtain ⟨b, n, p, q, t, rfl, _⟩ := h
    rfl
  · obtain ⟨b, n, p, q, t, rfl, hb, n0, n1, k⟩ := h
    refine dss_cons (ds_if (dt_gt (de_ix (fun _ _ => rfl) (de_var 0 rfl (.inl rfl) rfl (de_int ⟨_, _, _, .own hb, rfl, rfl, de_int ⟨_, _, rfl, rfl, ?_⟩⟩)))))
    by_cases hp : 0 < p
    · rw [if_pos (decide_eq_true hp)]
      refine dss_cons (ds_set 3 sc.nd rfl (.inl rfl) (de_mod (de_ix (fun _ _ => rfl) (de_var 0 rfl (.inl rfl) rfl (de_int ⟨_, _, _, .own hb, rfl, rfl, de_var 1 rfl (.inl rfl) rfl ⟨_, _, rfl, rfl, n0, ?_⟩⟩)))))
      refine dss_cons (ds_sub (de_fdivW (de_ix (fun _ _ => rfl) (de_var 0 rfl (.inl rfl) rfl (de_int ⟨_, _, _, .own hb, rfl, rfl, de_var 1 rfl (.inl rfl) rfl ⟨_, _, rfl, rfl, wide_div (b := 62) n0 (by omega) (by decide) (by decide), de_var 0 rfl (.inl rfl) rfl (de_int ⟨_, _, _, _, rfl, rfl, hb, rfl, ?_⟩)⟩⟩)))) (hsub := pg_sub pwe pwe set_list))
      refine dss_one (ds_ret (de_var 3 rfl (.inl rfl) rfl ?_))
      exact k _ _ _ (Int.emod_nonneg _ (by omega)) (Int.emod_lt_of_pos _ n0)
    · rw [if_neg (by simpa using hp)]
      refine dss_nil ?_
      refine dss_cons (ds_sub (de_add (de_ix (fun _ _ => rfl) (de_var 0 rfl (.inl rfl) rfl (de_int ⟨_, _, _, .own hb, rfl, rfl, de_int (.inl ⟨_, _, rfl, rfl, de_var 0 rfl (.inl rfl) rfl (de_int ⟨_, _, _, _, rfl, rfl, hb, rfl, ?_⟩)⟩)⟩)))) (hsub := pg_sub pwe pwe set_list))
      refine dss_cons (ds_set 2 sc.nd rfl (.inl rfl) (de_mod (de_add (de_ix (fun _ _ => rfl) (de_var 0 rfl (.inl rfl) rfl (de_int ⟨_, _, _, .own put_same, rfl, rfl, de_mul (de_int (de_ix (fun _ _ => rfl) (de_var 0 rfl (.inl rfl) rfl (de_int ⟨_, _, _, .own put_same, rfl, rfl, ⟨_, _, rfl, rfl, .inl ⟨by decide, by decide⟩, .inl ⟨_, _, rfl, rfl, de_int ⟨_, _, rfl, rfl, by decide, ?_⟩⟩⟩⟩))))⟩))))))
      generalize hm1 : (q + 1442695040888963407 * (t + 1)) % 2305843009213693951 = m1
      have a1 := Int.emod_nonneg (q + 1442695040888963407 * (t + 1)) (show (2305843009213693951 : Int) ≠ 0 by decide)
      have a2 := Int.emod_lt_of_pos (q + 1442695040888963407 * (t + 1)) (show (0 : Int) < 2305843009213693951 by decide)
      rw [hm1] at a1 a2
      refine dss_cons (ds_set 2 sc.nd rfl (.inl rfl) (de_mod (de_add (de_add (de_mul (de_var 2 rfl (.inl rfl) rfl (de_var 2 rfl (.inl rfl) rfl ⟨_, _, rfl, rfl, .inl ⟨by omega, by omega⟩, de_mul (de_int (de_ix (fun _ _ => rfl) (de_var 0 rfl (.inl rfl) rfl (de_int ⟨_, _, _, .own put_same, rfl, rfl, ⟨_, _, rfl, rfl, .inl ⟨by decide, by decide⟩, .inl ⟨_, _, rfl, rfl, de_int (.inl ⟨_, _, rfl, rfl, de_int ⟨_, _, rfl, rfl, by decide, ?_⟩⟩)⟩⟩⟩))))⟩)))))))
      generalize hm2 : (m1 * m1 + 39373 * (t + 1) + 7) % 2305843009213693921 = m2
      have a3 := Int.emod_nonneg (m1 * m1 + 39373 * (t + 1) + 7) (show (2305843009213693921 : Int) ≠ 0 by decide)
      have a4 := Int.emod_lt_of_pos (m1 * m1 + 39373 * (t + 1) + 7) (show (0 : Int) < 2305843009213693921 by decide)
      rw [hm2] at a3 a4
      refine dss_cons (ds_set 2 sc.nd rfl (.inl rfl) (de_mod (de_add (de_mul (de_var 2 rfl (.inl rfl) rfl (de_add (de_fdiv (de_var 2 rfl (.inl rfl) rfl (de_int ⟨_, _, rfl, rfl, ⟨by decide, by decide⟩, de_int (.inl ⟨_, _, rfl, rfl, ⟨_, _, rfl, rfl, .inl ⟨by omega, by omega⟩, de_ix (fun _ _ => rfl) (de_var 0 rfl (.inl rfl) rfl (de_int ⟨_, _, _, .own put_same, rfl, rfl, .inl ⟨_, _, rfl, rfl, de_int ⟨_, _, rfl, rfl, by decide, ?_⟩⟩⟩))⟩⟩)⟩)))))))))
      refine dss_one (ds_ret (de_mod (de_fdiv (de_var 2 rfl (.inl rfl) rfl (de_int ⟨_, _, rfl, rfl, ⟨by decide, by decide⟩, de_var 1 rfl (.inl rfl) rfl ⟨_, _, rfl, rfl, n0, ?_⟩⟩)))))
      exact k _ _ _ (Int.emod_nonneg _ (by omega)) (Int.emod_lt_of_pos _ n0)
theorem sc_law_strewn : FnScope ["_law_box_here", "_law_some", "_law_left", "_law_found", "_law_turn"] ["_law_box_here", "_law_some"] (defScope s_law_strewn) := ⟨rfl, rfl, rfl, by decide +kernel, rfl, by decide +kernel, by decide +kernel⟩
def c_law_strewn : Ct := fun os μ Φ => ∃ (b : Addr) (ds : List PyData) (p q t : Int), os = [.own b, .im (.list ds)] ∧ μ b = some (bx p q t) ∧ ds.length ≤ 1000 ∧ ∀ es p' t', es.Perm ds → Φ (.im (.list es)) (μ.put b (bx p' q t'))
theorem f_law_strewn (B : Bt mg) (F_law_take : Fc P w K mg base "_law_take" s_law_take ["_law_box_here", "_law_below"] 1 c_law_take) {f : Addr} {fd : FuncData} (F : Fun K "_law_strewn" "_law_strewn" s_law_strewn f fd) (hm : mg "_law_strewn" = some (.ref f)) : Fc P w K mg base "_law_strewn" s_law_strewn ["_law_box_here", "_law_some"] 2 c_law_strewn := by
  have sc := sc_law_strewn
  refine fc_of F hm sc (fun os μ Φ h => ?_) fun cdv A outer s H E os μ Φ hr h => ?_
  · obtain ⟨b, ds, p, q, t, rfl, _⟩ := h
    rfl
  · obtain ⟨b, ds, p, q, t, rfl, hb, hz, k⟩ := h
    refine dss_cons (ds_par 2 3 rfl sc.nd rfl rfl (by decide) rfl rfl rfl (da_cons (de_listO B rfl (de_var 1 rfl (.inl rfl) rfl ⟨_, .lst _, fun la hla => da_cons (de_lstO (da_nil ⟨lz rfl, fun fa hfa => da_nil ⟨_, _, rfl, ?_⟩⟩))⟩))))
    have nlf : la ≠ fa := ne_own put_same hfa
    have nbl := ne_own hb hla
    have hfa0 : μ fa = none := by
      cases z : μ fa with
      | none => rfl
      | some l =>
        rw [put_ne (ne_own z hla), z] at hfa
        cases hfa
    have nbf := ne_own hb hfa0
    refine dss_cons (ds_for (.nm 4) PassesOwn.never rfl (pg_name (i := 4) sc.nd rfl (.inl rfl)) (di_range1 B rfl (de_len B rfl (de_var 2 rfl (.inl rfl) rfl ⟨_, .own ((put_ne nlf).trans put_same), ⟨_, rfl, by omega, ?_, ?_⟩⟩))))
    · rw [List.length_map]
      omega
    refine ⟨fun i ρ' μ' => ∃ es fs p t x, ρ' = [some (.own b), some (.im (.list ds)), some (.own la), some (.own fa), x] ∧ μ' b = some (bx p q t) ∧ μ' la = some (es.map OV.im) ∧ μ' fa = some (fs.map OV.im) ∧ (∀ a l, a ≠ b → μ a = some l → μ' a = some l) ∧ es.length + i = ds.length ∧ (fs ++ es).Perm ds,
      ⟨ds, [], p, t, none, rfl, ?_, (put_ne nlf).trans put_same, put_same, fun a l _ e => ?_, rfl, by simp⟩, fun _ _ _ _ => trivial, fun i z ρ' μ' hz' hP => ?_, fun ρ' μ' hP => ?_⟩
    · rw [put_ne nbf, put_ne nbl]
      exact hb
    · rw [put_ne (ne_own e hfa0), put_ne (ne_own e hla)]
      exact e
    · obtain ⟨es, fs, p1, t1, x, rfl, h1, h2, h3, h4, h5, h6⟩ := hP
      have hi := (List.getElem?_eq_some_iff.mp hz').1
      simp at hi
      refine ⟨_, rfl, ?_⟩
      refine dss_one (ds_expr (de_append (de_var 3 rfl (.inl rfl) rfl ⟨_, _, rfl, h3, de_popAt (de_var 2 rfl (.inl rfl) rfl ⟨_, _, rfl, h2, de_call F_law_take (hr.mono (by decide)) rfl (fun _ _ _ _ _ _ us hl => match us, hl with | [_, _], _ => rfl) (da_cons (de_var 0 rfl (.inl rfl) rfl (da_cons (de_len B rfl (de_var 2 rfl (.inl rfl) rfl ⟨_, .own h2, da_nil ⟨b, _, p1, q, t1, rfl, h1, ?_, ?_, fun r p2 t2 r0 r1 => ?_⟩⟩)))))⟩)⟩)))
      · rw [List.length_map]
        omega
      · rw [List.length_map]
        omega
      · rw [List.length_map] at r1
        obtain ⟨j, rfl⟩ : ∃ j : Nat, r = (j : Int) := ⟨r.toNat, by omega⟩
        have hj : j < es.length := by omega
        refine ⟨es.map OV.im, j, .im es[j], rfl, by omega, by rw [put_ne nbl.symm]; exact h2, by rw [List.getElem?_map, List.getElem?_eq_getElem hj]; rfl, fs.map OV.im, by rw [put_ne nlf.symm, put_ne nbf.symm]; exact h3, ?_, ?_⟩
        · have := h6.length_eq
          rw [List.length_append] at this
          rw [List.length_map]
          omega
        · refine ⟨es.eraseIdx j, fs ++ [es[j]], p2, t2, _, rfl, ?_, ?_, ?_, fun a l ha e => ?_, ?_, ?_⟩
          · rw [put_ne nbf, put_ne nbl, put_same]
          · rw [put_ne nlf, put_same, erase_map]
          · rw [put_same, List.map_append]
            rfl
          · rw [put_ne (ne_own e hfa0), put_ne (ne_own e hla), put_ne ha]
            exact h4 a l ha e
          · rw [List.length_eraseIdx_of_lt hj]
            omega
          · refine List.Perm.trans ?_ h6
            rw [List.append_assoc]
            refine List.Perm.append_left fs ?_
            exact erase_perm es j hj
    · obtain ⟨es, fs, p1, t1, x, rfl, h1, h2, h3, h4, h5, h6⟩ := hP
      simp at h5
      subst h5
      rw [List.append_nil] at h6
      refine dss_frz (i := 3) rfl h3 (dss_drop (μ' := μ.put b (bx p1 q t1)) (fun a l e => ?_) (dss_one (ds_ret (de_var 3 rfl (.inl rfl) rfl (k fs p1 t1 h6)))))
      show (if a = fa then none else μ' a) = some l
      by_cases ha : a = b
      · subst ha
        rw [put_same] at e
        cases e
        rw [if_neg nbf]
        exact h1
      · rw [put_ne ha] at e
        rw [if_neg (ne_own e hfa0)]
        exact h4 a l ha e
abbrev N_is_chair : List Str := ["size", "thing"]
theorem sc_is_chair : FnScope N_is_chair ["size", "thing"] (defScope s_is_chair) := ⟨rfl, rfl, rfl, by decide +kernel, rfl, by decide +kernel, by decide +kernel⟩
theorem f_is_chair (B : Bt mg)   {f : Addr} {fd : FuncData} (F : Fun K "is_chair" "is_chair" s_is_chair f fd) (hm : mg "is_chair" = some (.ref f)) : Fc P w K mg base "is_chair" s_is_chair ["size", "thing"] 1 (cF m_is_chair) := by
  have sc := sc_is_chair
  refine fc_body (k := 0) b_is_chair (m := m_is_chair) (by unfold m_is_chair; rfl) F hm sc rfl rfl fun b cdv A outer s H E hr => ?_
  exact (ss_cons (ss_if (st_w (sw_or (st_not (st_tru (se_isi B rfl rfl B.int rfl (se_v 1 rfl (.inl rfl))))) (sw_or1 (st_tru (se_isi B rfl rfl B.bool rfl (se_v 1 rfl (.inl rfl))))))) (ss_one (ss_ret se_bl)) ss_nil) (ss_one (ss_ret (se_chain op_le op_lt se_int (se_v 1 rfl (.inl rfl)) (se_v 0 rfl (.inl rfl))))))
abbrev N_all_chairs : List Str := ["size", "things", "thing"]
theorem sc_all_chairs : FnScope N_all_chairs ["size", "things"] (defScope s_all_chairs) := ⟨rfl, rfl, rfl, by decide +kernel, rfl, by decide +kernel, by decide +kernel⟩
theorem f_all_chairs (B : Bt mg) (F_is_chair : Fc P w K mg base "is_chair" s_is_chair ["size", "thing"] 1 (cF m_is_chair))  {f : Addr} {fd : FuncData} (F : Fun K "all_chairs" "all_chairs" s_all_chairs f fd) (hm : mg "all_chairs" = some (.ref f)) : Fc P w K mg base "all_chairs" s_all_chairs ["size", "things"] 2 (cF m_all_chairs) := by
  have sc := sc_all_chairs
  refine fc_body (k := 1) b_all_chairs (m := m_all_chairs) (by unfold m_all_chairs; rfl) F hm sc rfl rfl fun b cdv A outer s H E hr => ?_
  exact (ss_one (ss_ret (se_all B rfl rfl (se_lc (own := [("thing", 2)]) (.nm 2) rfl sc.nd (blkOk_by (N := N_all_chairs) (sc := defScope s_all_chairs) (by decide +kernel)) (by decide) (fun _ _ _ _ _ => pg_name (i := 2) sc.nd rfl (.inl rfl)) (si_seq (se_v 1 rfl (.inl rfl))) (fun _ _ _ _ _ => (se_call F_is_chair (hr.mono (by decide)) rfl (fun _ _ _ _ _ _ us hl => match us, hl with | [_, _], _ => rfl) (sa_cons (sv_v 0) (sa_cons (sv_v 2) sa_nil))))))))
abbrev N_mover : List Str := ["size", "table", "chair", "person", "nearest", "number", "seat", "distance"]
theorem sc_mover : FnScope N_mover ["size", "table", "chair"] (defScope s_mover) := ⟨rfl, rfl, rfl, by decide +kernel, rfl, by decide +kernel, by decide +kernel⟩
theorem f_mover (B : Bt mg)   {f : Addr} {fd : FuncData} (F : Fun K "mover" "mover" s_mover f fd) (hm : mg "mover" = some (.ref f)) : Fc P w K mg base "mover" s_mover ["size", "table", "chair"] 1 (cF m_mover) := by
  have sc := sc_mover
  refine fc_body (k := 0) b_mover (m := m_mover) (by unfold m_mover; rfl) F hm sc rfl rfl fun b cdv A outer s H E hr => ?_
  exact (ss_cons (ss_set 3 sc.nd rfl (.inl rfl) se_non) (ss_cons (ss_set 4 sc.nd rfl (.inl rfl) (se_v 0 rfl (.inl rfl))) (ss_cons (ss_for (.tp [5, 6]) PassesOwn.never rfl (pg_tup rfl (pgs_cons (pg_name (i := 5) sc.nd rfl (.inl rfl)) (pgs_cons (pg_name (i := 6) sc.nd rfl (.inl rfl)) pgs_nil))) (si_en B rfl (se_v 1 rfl (.inl rfl))) (ss_cons (ss_set 7 sc.nd rfl (.inl rfl) (se_mod (se_sub (se_v 6 rfl (.inl rfl)) (se_v 2 rfl (.inl rfl))) (se_v 0 rfl (.inl rfl)))) (ss_one (ss_if (st_cmp op_lt (nomark _) okI (se_v 7 rfl (.inl rfl)) (se_v 4 rfl (.inl rfl))) (ss_cons (ss_set 3 sc.nd rfl (.inl rfl) (se_v 5 rfl (.inl rfl))) (ss_one (ss_set 4 sc.nd rfl (.inl rfl) (se_v 7 rfl (.inl rfl))))) ss_nil)))) (ss_one (ss_ret (se_if (st_cmp ((op_eqI.or (op_eqD hr.room.units)).or op_eq) (nomark _) ok_eq (se_v 4 rfl (.inl rfl)) se_int) se_non (se_v 3 rfl (.inl rfl))))))))
abbrev N_seats_called : List Str := ["size", "seats", "chair", "person", "number", "seat"]
theorem sc_seats_called : FnScope N_seats_called ["size", "seats", "chair"] (defScope s_seats_called) := ⟨rfl, rfl, rfl, by decide +kernel, rfl, by decide +kernel, by decide +kernel⟩
theorem f_seats_called (B : Bt mg) (F_mover : Fc P w K mg base "mover" s_mover ["size", "table", "chair"] 1 (cF m_mover))  {f : Addr} {fd : FuncData} (F : Fun K "seats_called" "seats_called" s_seats_called f fd) (hm : mg "seats_called" = some (.ref f)) : Fc P w K mg base "seats_called" s_seats_called ["size", "seats", "chair"] 2 (cF m_seats_called) := by
  have sc := sc_seats_called
  refine fc_body (k := 1) b_seats_called (m := m_seats_called) (by unfold m_seats_called; rfl) F hm sc rfl rfl fun b cdv A outer s H E hr => ?_
  exact (ss_cons (ss_set 3 sc.nd rfl (.inr rfl) (se_call F_mover (hr.mono (by decide)) rfl (fun _ _ _ _ _ _ us hl => match us, hl with | [_, _, _], _ => rfl) (sa_cons (sv_v 0 rfl (.inl rfl)) (sa_cons (sv_v 1 rfl (.inl rfl)) (sa_cons (sv_v 2 rfl (.inr (.inl rfl))) sa_nil))))) (ss_one (ss_ret (se_lc (own := [("number", 4), ("seat", 5)]) (.tp [4, 5]) rfl sc.nd (blkOk_by (N := N_seats_called) (sc := defScope s_seats_called) (by decide +kernel)) (by decide) (fun _ _ _ _ _ => pg_tup rfl (pgs_cons (pg_name (i := 4) sc.nd rfl (.inl rfl)) (pgs_cons (pg_name (i := 5) sc.nd rfl (.inl rfl)) pgs_nil))) (si_en B rfl (se_v 1 rfl (.inl rfl))) (fun _ _ _ _ _ => (se_if (st_cmp ((op_eqI.or (op_eqD hr.room.units)).or op_eq) (nomark _) ok_eq (se_v 4) (se_v 3)) (se_v 2) (se_v 5)))))))
abbrev N_seats_along : List Str := ["size", "table", "calls", "seats", "along", "chair"]
theorem sc_seats_along : FnScope N_seats_along ["size", "table", "calls"] (defScope s_seats_along) := ⟨rfl, rfl, rfl, by decide +kernel, rfl, by decide +kernel, by decide +kernel⟩
theorem f_seats_along (B : Bt mg) (F_seats_called : Fc P w K mg base "seats_called" s_seats_called ["size", "seats", "chair"] 2 (cF m_seats_called))  {f : Addr} {fd : FuncData} (F : Fun K "seats_along" "seats_along" s_seats_along f fd) (hm : mg "seats_along" = some (.ref f)) : Fc P w K mg base "seats_along" s_seats_along ["size", "table", "calls"] 3 (cF m_seats_along) := by
  have sc := sc_seats_along
  refine fc_body (k := 2) b_seats_along (m := m_seats_along) (by unfold m_seats_along; rfl) F hm sc rfl rfl fun b cdv A outer s H E hr => ?_
  exact (ss_cons (ss_set 3 sc.nd rfl (.inl rfl) (se_list B rfl (se_v 1 rfl (.inl rfl)))) (ss_cons (ss_own 4 sc.nd rfl (.inl rfl) (so_lst (sd_cons (se_v 3 rfl (.inl rfl)) sd_nil))) (ss_cons (ss_for (.nm 5) PassesOwn.never rfl (pg_name (i := 5) sc.nd rfl (.inl rfl)) (si_seq (se_v 2 rfl (.inl rfl))) (ss_cons (ss_set 3 sc.nd rfl (.inl rfl) (se_call F_seats_called (hr.mono (by decide)) rfl (fun _ _ _ _ _ _ us hl => match us, hl with | [_, _, _], _ => rfl) (sa_cons (sv_v 0 rfl (.inl rfl)) (sa_cons (sv_v 3 rfl (.inl rfl)) (sa_cons (sv_v 5 rfl (.inl rfl)) sa_nil))))) (ss_one (ss_app 4 rfl (.inl rfl) (se_v 3 rfl (.inl rfl)))))) (ss_frz 4 (ss_one (ss_ret (se_v 4 rfl (.inl rfl))))))))
abbrev N_as_table : List Str := ["seats"]
theorem sc_as_table : FnScope N_as_table ["seats"] (defScope s_as_table) := ⟨rfl, rfl, rfl, by decide +kernel, rfl, by decide +kernel, by decide +kernel⟩
theorem f_as_table (B : Bt mg)   {f : Addr} {fd : FuncData} (F : Fun K "as_table" "as_table" s_as_table f fd) (hm : mg "as_table" = some (.ref f)) : Fc P w K mg base "as_table" s_as_table ["seats"] 1 (cF m_as_table) := by
  have sc := sc_as_table
  refine fc_body (k := 0) b_as_table (m := m_as_table) (by unfold m_as_table; rfl) F hm sc rfl rfl fun b cdv A outer s H E hr => ?_
  exact (ss_one (ss_ret (se_tuple B rfl (se_sorted B rfl (se_v 0 rfl (.inl rfl))))))
abbrev N_steps : List Str := ["size", "table", "calls", "along", "total", "before", "after", "seat", "so_far", "old", "new"]
theorem sc_steps : FnScope N_steps ["size", "table", "calls"] (defScope s_steps) := ⟨rfl, rfl, rfl, by decide +kernel, rfl, by decide +kernel, by decide +kernel⟩
theorem f_steps (B : Bt mg) (F_seats_along : Fc P w K mg base "seats_along" s_seats_along ["size", "table", "calls"] 3 (cF m_seats_along))  {f : Addr} {fd : FuncData} (F : Fun K "steps" "steps" s_steps f fd) (hm : mg "steps" = some (.ref f)) : Fc P w K mg base "steps" s_steps ["size", "table", "calls"] 4 (cF m_steps) := by
  have sc := sc_steps
  refine fc_body (k := 3) b_steps (m := m_steps) (by unfold m_steps; rfl) F hm sc rfl rfl fun b cdv A outer s H E hr => ?_
  exact (ss_cons (ss_set 3 sc.nd rfl (.inl rfl) (se_call F_seats_along (hr.mono (by decide)) rfl (fun _ _ _ _ _ _ us hl => match us, hl with | [_, _, _], _ => rfl) (sa_cons (sv_v 0 rfl (.inr (.inl rfl))) (sa_cons (sv_v 1 rfl (.inl rfl)) (sa_cons (sv_v 2 rfl (.inl rfl)) sa_nil))))) (ss_cons (ss_setLc (own := [("seat", 7)]) (.nm 7) 4 rfl sc.nd rfl rfl (sw_true rfl rfl rfl (by decide +kernel)) (blkOk_by (N := N_steps) (sc := defScope s_steps) (by decide +kernel)) (by decide) (fun _ _ _ _ _ => pg_name (i := 7) sc.nd rfl (.inl rfl)) (si_seq (se_v 1 rfl (.inl rfl))) (fun _ _ _ _ _ => se_int)) (ss_cons (ss_for (.tp [5, 6]) PassesOwn.never rfl (pg_tup rfl (pgs_cons (pg_name (i := 5) sc.nd rfl (.inl rfl)) (pgs_cons (pg_name (i := 6) sc.nd rfl (.inl rfl)) pgs_nil))) (si_z2 B rfl (se_v 3 rfl (.inl rfl)) (se_sl (se_v 3 rfl (.inl rfl)) (so_s se_int) so_n)) (ss_one (ss_setLc (own := [("new", 10), ("old", 9), ("so_far", 8)]) (.tp [8, 9, 10]) 4 rfl sc.nd rfl rfl (sw_true rfl rfl rfl (by decide +kernel)) (blkOk_by (N := N_steps) (sc := defScope s_steps) (by decide +kernel)) (by decide) (fun _ _ _ _ _ => pg_tup rfl (pgs_cons (pg_name (i := 8) sc.nd rfl (.inl rfl)) (pgs_cons (pg_name (i := 9) sc.nd rfl (.inl rfl)) (pgs_cons (pg_name (i := 10) sc.nd rfl (.inl rfl)) pgs_nil)))) (si_z3 B rfl (se_v 4 rfl (.inl rfl)) (se_v 5 rfl (.inl rfl)) (se_v 6 rfl (.inl rfl))) (fun _ _ _ _ _ => (se_add (se_v 8) (se_mod (se_sub (se_v 9) (se_v 10)) (se_v 0))))))) (ss_one (ss_ret (se_v 4 rfl (.inl rfl)))))))
abbrev N_pack_seats : List Str := ["size", "people", "chair", "back"]
theorem sc_pack_seats : FnScope N_pack_seats ["size", "people", "chair"] (defScope s_pack_seats) := ⟨rfl, rfl, rfl, by decide +kernel, rfl, by decide +kernel, by decide +kernel⟩
theorem f_pack_seats (B : Bt mg)   {f : Addr} {fd : FuncData} (F : Fun K "pack_seats" "pack_seats" s_pack_seats f fd) (hm : mg "pack_seats" = some (.ref f)) : Fc P w K mg base "pack_seats" s_pack_seats ["size", "people", "chair"] 1 (cF m_pack_seats) := by
  have sc := sc_pack_seats
  refine fc_body (k := 0) b_pack_seats (m := m_pack_seats) (by unfold m_pack_seats; rfl) F hm sc rfl rfl fun b cdv A outer s H E hr => ?_
  exact (ss_one (ss_ret (se_lc (own := [("back", 3)]) (.nm 3) rfl sc.nd (blkOk_by (N := N_pack_seats) (sc := defScope s_pack_seats) (by decide +kernel)) (by decide) (fun _ _ _ _ _ => pg_name (i := 3) sc.nd rfl (.inl rfl)) (si_r1 B rfl (se_v 1 rfl (.inl rfl))) (fun _ _ _ _ _ => (se_mod (se_sub (se_v 2) (se_v 3)) (se_v 0))))))
abbrev N_pack : List Str := ["size", "people", "chair"]
theorem sc_pack : FnScope N_pack ["size", "people", "chair"] (defScope s_pack) := ⟨rfl, rfl, rfl, by decide +kernel, rfl, by decide +kernel, by decide +kernel⟩
theorem f_pack (B : Bt mg) (F_pack_seats : Fc P w K mg base "pack_seats" s_pack_seats ["size", "people", "chair"] 1 (cF m_pack_seats))  {f : Addr} {fd : FuncData} (F : Fun K "pack" "pack" s_pack f fd) (hm : mg "pack" = some (.ref f)) : Fc P w K mg base "pack" s_pack ["size", "people", "chair"] 2 (cF m_pack) := by
  have sc := sc_pack
  refine fc_body (k := 1) b_pack (m := m_pack) (by unfold m_pack; rfl) F hm sc rfl rfl fun b cdv A outer s H E hr => ?_
  exact (ss_one (ss_ret (se_tuple B rfl (se_sorted B rfl (se_call F_pack_seats (hr.mono (by decide)) rfl (fun _ _ _ _ _ _ us hl => match us, hl with | [_, _, _], _ => rfl) (sa_cons (sv_v 0 rfl (.inl rfl)) (sa_cons (sv_v 1 rfl (.inl rfl)) (sa_cons (sv_v 2 rfl (.inl rfl)) sa_nil))))))))
abbrev N_moves_of : List Str := ["size", "people", "calls", "chair"]
theorem sc_moves_of : FnScope N_moves_of ["size", "people", "calls"] (defScope s_moves_of) := ⟨rfl, rfl, rfl, by decide +kernel, rfl, by decide +kernel, by decide +kernel⟩
theorem f_moves_of (B : Bt mg) (F_steps : Fc P w K mg base "steps" s_steps ["size", "table", "calls"] 4 (cF m_steps)) (F_pack_seats : Fc P w K mg base "pack_seats" s_pack_seats ["size", "people", "chair"] 1 (cF m_pack_seats))  {f : Addr} {fd : FuncData} (F : Fun K "moves_of" "moves_of" s_moves_of f fd) (hm : mg "moves_of" = some (.ref f)) : Fc P w K mg base "moves_of" s_moves_of ["size", "people", "calls"] 5 (cF m_moves_of) := by
  have sc := sc_moves_of
  refine fc_body (k := 4) b_moves_of (m := m_moves_of) (by unfold m_moves_of; rfl) F hm sc rfl rfl fun b cdv A outer s H E hr => ?_
  exact (ss_one (ss_ret (se_tuple B rfl (se_lc (own := [("chair", 3)]) (.nm 3) rfl sc.nd (blkOk_by (N := N_moves_of) (sc := defScope s_moves_of) (by decide +kernel)) (by decide) (fun _ _ _ _ _ => pg_name (i := 3) sc.nd rfl (.inl rfl)) (si_r1 B rfl (se_v 0 rfl (.inr (.inl rfl)))) (fun _ _ _ _ _ => (se_tuple B rfl (se_call F_steps (hr.mono (by decide)) rfl (fun _ _ _ _ _ _ us hl => match us, hl with | [_, _, _], _ => rfl) (sa_cons (sv_v 0) (sa_cons (sv_e (se_call F_pack_seats (hr.mono (by decide)) rfl (fun _ _ _ _ _ _ us hl => match us, hl with | [_, _, _], _ => rfl) (sa_cons (sv_v 0) (sa_cons (sv_v 1) (sa_cons (sv_v 3) sa_nil))))) (sa_cons (sv_v 2) sa_nil))))))))))
abbrev N_steps_of_one : List Str := ["size", "moves", "table", "seat", "distances", "other", "people", "distance"]
theorem sc_steps_of_one : FnScope N_steps_of_one ["size", "moves", "table", "seat"] (defScope s_steps_of_one) := ⟨rfl, rfl, rfl, by decide +kernel, rfl, by decide +kernel, by decide +kernel⟩
theorem f_steps_of_one (B : Bt mg)   {f : Addr} {fd : FuncData} (F : Fun K "steps_of_one" "steps_of_one" s_steps_of_one f fd) (hm : mg "steps_of_one" = some (.ref f)) : Fc P w K mg base "steps_of_one" s_steps_of_one ["size", "moves", "table", "seat"] 1 (cF m_steps_of_one) := by
  have sc := sc_steps_of_one
  refine fc_body (k := 0) b_steps_of_one (m := m_steps_of_one) (by unfold m_steps_of_one; rfl) F hm sc rfl rfl fun b cdv A outer s H E hr => ?_
  exact (ss_cons (ss_set 4 sc.nd rfl (.inl rfl) (se_sorted B rfl (se_lc (own := [("other", 5)]) (.nm 5) rfl sc.nd (blkOk_by (N := N_steps_of_one) (sc := defScope s_steps_of_one) (by decide +kernel)) (by decide) (fun _ _ _ _ _ => pg_name (i := 5) sc.nd rfl (.inl rfl)) (si_seq (se_v 2 rfl (.inl rfl))) (fun _ _ _ _ _ => (se_mod (se_sub (se_v 5) (se_v 3)) (se_v 0)))))) (ss_one (ss_ret (se_max B rfl rfl (se_lc (own := [("distance", 7), ("people", 6)]) (.tp [6, 7]) rfl sc.nd (blkOk_by (N := N_steps_of_one) (sc := defScope s_steps_of_one) (by decide +kernel)) (by decide) (fun _ _ _ _ _ => pg_tup rfl (pgs_cons (pg_name (i := 6) sc.nd rfl (.inl rfl)) (pgs_cons (pg_name (i := 7) sc.nd rfl (.inl rfl)) pgs_nil))) (si_en B rfl (se_v 4 rfl (.inl rfl))) (fun _ _ _ _ _ => (se_sub (se_ix (fun _ _ => rfl) (se_ix (fun _ _ => rfl) (se_v 1) (se_mod (se_add (se_v 3) (se_v 7)) (se_v 0))) (se_v 6)) (se_sub (se_v 7) (se_v 6)))))))))
abbrev N_steps_by : List Str := ["size", "moves", "table", "seat"]
theorem sc_steps_by : FnScope N_steps_by ["size", "moves", "table"] (defScope s_steps_by) := ⟨rfl, rfl, rfl, by decide +kernel, rfl, by decide +kernel, by decide +kernel⟩
theorem f_steps_by (B : Bt mg) (F_steps_of_one : Fc P w K mg base "steps_of_one" s_steps_of_one ["size", "moves", "table", "seat"] 1 (cF m_steps_of_one))  {f : Addr} {fd : FuncData} (F : Fun K "steps_by" "steps_by" s_steps_by f fd) (hm : mg "steps_by" = some (.ref f)) : Fc P w K mg base "steps_by" s_steps_by ["size", "moves", "table"] 2 (cF m_steps_by) := by
  have sc := sc_steps_by
  refine fc_body (k := 1) b_steps_by (m := m_steps_by) (by unfold m_steps_by; rfl) F hm sc rfl rfl fun b cdv A outer s H E hr => ?_
  exact (ss_one (ss_ret (se_lc (own := [("seat", 3)]) (.nm 3) rfl sc.nd (blkOk_by (N := N_steps_by) (sc := defScope s_steps_by) (by decide +kernel)) (by decide) (fun _ _ _ _ _ => pg_name (i := 3) sc.nd rfl (.inl rfl)) (si_seq (se_v 2 rfl (.inr (.inl rfl)))) (fun _ _ _ _ _ => (se_call F_steps_of_one (hr.mono (by decide)) rfl (fun _ _ _ _ _ _ us hl => match us, hl with | [_, _, _, _], _ => rfl) (sa_cons (sv_v 0) (sa_cons (sv_v 1) (sa_cons (sv_v 2) (sa_cons (sv_v 3) sa_nil)))))))))
abbrev N_table_by : List Str := ["size", "moves", "table", "walked", "seat", "many"]
theorem sc_table_by : FnScope N_table_by ["size", "moves", "table"] (defScope s_table_by) := ⟨rfl, rfl, rfl, by decide +kernel, rfl, by decide +kernel, by decide +kernel⟩
theorem f_table_by (B : Bt mg) (F_steps_by : Fc P w K mg base "steps_by" s_steps_by ["size", "moves", "table"] 2 (cF m_steps_by)) (F_as_table : Fc P w K mg base "as_table" s_as_table ["seats"] 1 (cF m_as_table))  {f : Addr} {fd : FuncData} (F : Fun K "table_by" "table_by" s_table_by f fd) (hm : mg "table_by" = some (.ref f)) : Fc P w K mg base "table_by" s_table_by ["size", "moves", "table"] 3 (cF m_table_by) := by
  have sc := sc_table_by
  refine fc_body (k := 2) b_table_by (m := m_table_by) (by unfold m_table_by; rfl) F hm sc rfl rfl fun b cdv A outer s H E hr => ?_
  exact (ss_cons (ss_set 3 sc.nd rfl (.inl rfl) (se_call F_steps_by (hr.mono (by decide)) rfl (fun _ _ _ _ _ _ us hl => match us, hl with | [_, _, _], _ => rfl) (sa_cons (sv_v 0 rfl (.inr (.inl rfl))) (sa_cons (sv_v 1 rfl (.inl rfl)) (sa_cons (sv_v 2 rfl (.inl rfl)) sa_nil))))) (ss_one (ss_ret (se_call F_as_table (hr.mono (by decide)) rfl (fun _ _ _ _ _ _ us hl => match us, hl with | [_], _ => rfl) (sa_cons (sv_e (se_lc (own := [("many", 5), ("seat", 4)]) (.tp [4, 5]) rfl sc.nd (blkOk_by (N := N_table_by) (sc := defScope s_table_by) (by decide +kernel)) (by decide) (fun _ _ _ _ _ => pg_tup rfl (pgs_cons (pg_name (i := 4) sc.nd rfl (.inl rfl)) (pgs_cons (pg_name (i := 5) sc.nd rfl (.inl rfl)) pgs_nil))) (si_z2 B rfl (se_v 2 rfl (.inl rfl)) (se_v 3 rfl (.inl rfl))) (fun _ _ _ _ _ => (se_mod (se_sub (se_v 4) (se_v 5)) (se_v 0))))) sa_nil)))))
abbrev N_pack_followed : List Str := ["size", "chair", "walked", "second", "seats", "back", "many", "more"]
theorem sc_pack_followed : FnScope N_pack_followed ["size", "chair", "walked", "second"] (defScope s_pack_followed) := ⟨rfl, rfl, rfl, by decide +kernel, rfl, by decide +kernel, by decide +kernel⟩
theorem f_pack_followed (B : Bt mg) (F_steps_by : Fc P w K mg base "steps_by" s_steps_by ["size", "moves", "table"] 2 (cF m_steps_by))  {f : Addr} {fd : FuncData} (F : Fun K "pack_followed" "pack_followed" s_pack_followed f fd) (hm : mg "pack_followed" = some (.ref f)) : Fc P w K mg base "pack_followed" s_pack_followed ["size", "chair", "walked", "second"] 3 (cF m_pack_followed) := by
  have sc := sc_pack_followed
  refine fc_body (k := 2) b_pack_followed (m := m_pack_followed) (by unfold m_pack_followed; rfl) F hm sc rfl rfl fun b cdv A outer s H E hr => ?_
  exact (ss_cons (ss_setLc (own := [("back", 5), ("many", 6)]) (.tp [5, 6]) 4 rfl sc.nd rfl rfl (sw_true rfl rfl rfl (by decide +kernel)) (blkOk_by (N := N_pack_followed) (sc := defScope s_pack_followed) (by decide +kernel)) (by decide) (fun _ _ _ _ _ => pg_tup rfl (pgs_cons (pg_name (i := 5) sc.nd rfl (.inl rfl)) (pgs_cons (pg_name (i := 6) sc.nd rfl (.inl rfl)) pgs_nil))) (si_en B rfl (se_v 2 rfl (.inl rfl))) (fun _ _ _ _ _ => (se_mod (se_sub (se_sub (se_v 1) (se_v 5)) (se_v 6)) (se_v 0)))) (ss_one (ss_ret (se_tuple B rfl (se_lc (own := [("many", 6), ("more", 7)]) (.tp [6, 7]) rfl sc.nd (blkOk_by (N := N_pack_followed) (sc := defScope s_pack_followed) (by decide +kernel)) (by decide) (fun _ _ _ _ _ => pg_tup rfl (pgs_cons (pg_name (i := 6) sc.nd rfl (.inl rfl)) (pgs_cons (pg_name (i := 7) sc.nd rfl (.inl rfl)) pgs_nil))) (si_z2 B rfl (se_v 2 rfl (.inl rfl)) (se_call F_steps_by (hr.mono (by decide)) rfl (fun _ _ _ _ _ _ us hl => match us, hl with | [_, _, _], _ => rfl) (sa_cons (sv_v 0 rfl (.inr (.inl rfl))) (sa_cons (sv_v 3 rfl (.inl rfl)) (sa_cons (sv_v 4 rfl (.inl rfl)) sa_nil))))) (fun _ _ _ _ _ => (se_add (se_v 6) (se_v 7))))))))
abbrev N_followed : List Str := ["size", "first", "second", "chair"]
theorem sc_followed : FnScope N_followed ["size", "first", "second"] (defScope s_followed) := ⟨rfl, rfl, rfl, by decide +kernel, rfl, by decide +kernel, by decide +kernel⟩
theorem f_followed (B : Bt mg) (F_pack_followed : Fc P w K mg base "pack_followed" s_pack_followed ["size", "chair", "walked", "second"] 3 (cF m_pack_followed))  {f : Addr} {fd : FuncData} (F : Fun K "followed" "followed" s_followed f fd) (hm : mg "followed" = some (.ref f)) : Fc P w K mg base "followed" s_followed ["size", "first", "second"] 4 (cF m_followed) := by
  have sc := sc_followed
  refine fc_body (k := 3) b_followed (m := m_followed) (by unfold m_followed; rfl) F hm sc rfl rfl fun b cdv A outer s H E hr => ?_
  exact (ss_one (ss_ret (se_tuple B rfl (se_lc (own := [("chair", 3)]) (.nm 3) rfl sc.nd (blkOk_by (N := N_followed) (sc := defScope s_followed) (by decide +kernel)) (by decide) (fun _ _ _ _ _ => pg_name (i := 3) sc.nd rfl (.inl rfl)) (si_r1 B rfl (se_v 0 rfl (.inr (.inl rfl)))) (fun _ _ _ _ _ => (se_call F_pack_followed (hr.mono (by decide)) rfl (fun _ _ _ _ _ _ us hl => match us, hl with | [_, _, _, _], _ => rfl) (sa_cons (sv_v 0) (sa_cons (sv_v 3) (sa_cons (sv_e (se_ix (fun _ _ => rfl) (se_v 1) (se_v 3))) (sa_cons (sv_v 2) sa_nil))))))))))
abbrev N_repeated : List Str := ["size", "moves", "many", "result", "power", "left"]
theorem sc_repeated : FnScope N_repeated ["size", "moves", "many"] (defScope s_repeated) := ⟨rfl, rfl, rfl, by decide +kernel, rfl, by decide +kernel, by decide +kernel⟩
theorem f_repeated (B : Bt mg) (F_moves_of : Fc P w K mg base "moves_of" s_moves_of ["size", "people", "calls"] 5 (cF m_moves_of)) (F_followed : Fc P w K mg base "followed" s_followed ["size", "first", "second"] 4 (cF m_followed))  {f : Addr} {fd : FuncData} (F : Fun K "repeated" "repeated" s_repeated f fd) (hm : mg "repeated" = some (.ref f)) : Fc P w K mg base "repeated" s_repeated ["size", "moves", "many"] 6 (cF m_repeated) := by
  have sc := sc_repeated
  refine fc_body (k := 5) b_repeated (m := m_repeated) (by unfold m_repeated; rfl) F hm sc rfl rfl fun b cdv A outer s H E hr => ?_
  exact (ss_cons (ss_set 3 sc.nd rfl (.inl rfl) (se_call F_moves_of (hr.mono (by decide)) rfl (fun _ _ _ _ _ _ us hl => match us, hl with | [_, _, _], _ => rfl) (sa_cons (sv_v 0 rfl (.inl rfl)) (sa_cons (sv_e (se_len B rfl (se_ix (fun _ _ => rfl) (se_v 1 rfl (.inl rfl)) se_int))) (sa_cons (sv_e (se_lst sd_nil)) sa_nil))))) (ss_cons (ss_set 4 sc.nd rfl (.inl rfl) (se_v 1 rfl (.inl rfl))) (ss_cons (ss_set 5 sc.nd rfl (.inl rfl) (se_v 2 rfl (.inl rfl))) (ss_cons (ss_wh 100 PassesOwn.never (st_cmp op_gt (nomark _) okI (se_v 5 rfl (.inl rfl)) se_int) (ss_cons (ss_if (st_cmp ((op_eqI.or (op_eqD hr.room.units)).or op_eq) (nomark _) ok_eq (se_mod (se_v 5 rfl (.inl rfl)) se_int) se_int) (ss_one (ss_set 3 sc.nd rfl (.inl rfl) (se_call F_followed (hr.mono (by decide)) rfl (fun _ _ _ _ _ _ us hl => match us, hl with | [_, _, _], _ => rfl) (sa_cons (sv_v 0 rfl (.inl rfl)) (sa_cons (sv_v 3 rfl (.inl rfl)) (sa_cons (sv_v 4 rfl (.inl rfl)) sa_nil)))))) ss_nil) (ss_cons (ss_set 4 sc.nd rfl (.inl rfl) (se_call F_followed (hr.mono (by decide)) rfl (fun _ _ _ _ _ _ us hl => match us, hl with | [_, _, _], _ => rfl) (sa_cons (sv_v 0 rfl (.inl rfl)) (sa_cons (sv_v 4 rfl (.inl rfl)) (sa_cons (sv_v 4 rfl (.inl rfl)) sa_nil))))) (ss_one (ss_set 5 sc.nd rfl (.inl rfl) (se_div (se_v 5 rfl (.inl rfl)) se_int)))))) (ss_one (ss_ret (se_v 3 rfl (.inl rfl))))))))
abbrev N_moves_of_many : List Str := ["size", "people", "calls", "many"]
theorem sc_moves_of_many : FnScope N_moves_of_many ["size", "people", "calls", "many"] (defScope s_moves_of_many) := ⟨rfl, rfl, rfl, by decide +kernel, rfl, by decide +kernel, by decide +kernel⟩
theorem f_moves_of_many (B : Bt mg) (F_repeated : Fc P w K mg base "repeated" s_repeated ["size", "moves", "many"] 6 (cF m_repeated)) (F_moves_of : Fc P w K mg base "moves_of" s_moves_of ["size", "people", "calls"] 5 (cF m_moves_of))  {f : Addr} {fd : FuncData} (F : Fun K "moves_of_many" "moves_of_many" s_moves_of_many f fd) (hm : mg "moves_of_many" = some (.ref f)) : Fc P w K mg base "moves_of_many" s_moves_of_many ["size", "people", "calls", "many"] 7 (cF m_moves_of_many) := by
  have sc := sc_moves_of_many
  refine fc_body (k := 6) b_moves_of_many (m := m_moves_of_many) (by unfold m_moves_of_many; rfl) F hm sc rfl rfl fun b cdv A outer s H E hr => ?_
  exact (ss_one (ss_ret (se_call F_repeated (hr.mono (by decide)) rfl (fun _ _ _ _ _ _ us hl => match us, hl with | [_, _, _], _ => rfl) (sa_cons (sv_v 0 rfl (.inl rfl)) (sa_cons (sv_e (se_call F_moves_of (hr.mono (by decide)) rfl (fun _ _ _ _ _ _ us hl => match us, hl with | [_, _, _], _ => rfl) (sa_cons (sv_v 0 rfl (.inl rfl)) (sa_cons (sv_v 1 rfl (.inl rfl)) (sa_cons (sv_v 2 rfl (.inl rfl)) sa_nil))))) (sa_cons (sv_v 3 rfl (.inl rfl)) sa_nil))))))
abbrev N_course : List Str := ["size", "table", "calls", "moves", "met", "current"]
theorem sc_course : FnScope N_course ["size", "table", "calls"] (defScope s_course) := ⟨rfl, rfl, rfl, by decide +kernel, rfl, by decide +kernel, by decide +kernel⟩
theorem f_course (B : Bt mg) (F_moves_of : Fc P w K mg base "moves_of" s_moves_of ["size", "people", "calls"] 5 (cF m_moves_of)) (F_table_by : Fc P w K mg base "table_by" s_table_by ["size", "moves", "table"] 3 (cF m_table_by))  {f : Addr} {fd : FuncData} (F : Fun K "course" "course" s_course f fd) (hm : mg "course" = some (.ref f)) : Fc P w K mg base "course" s_course ["size", "table", "calls"] 6 (cF m_course) := by
  have sc := sc_course
  refine fc_body (k := 5) b_course (m := m_course) (by unfold m_course; rfl) F hm sc rfl rfl fun b cdv A outer s H E hr => ?_
  exact (ss_cons (ss_set 3 sc.nd rfl (.inl rfl) (se_call F_moves_of (hr.mono (by decide)) rfl (fun _ _ _ _ _ _ us hl => match us, hl with | [_, _, _], _ => rfl) (sa_cons (sv_v 0 rfl (.inl rfl)) (sa_cons (sv_e (se_len B rfl (se_v 1 rfl (.inl rfl)))) (sa_cons (sv_v 2 rfl (.inl rfl)) sa_nil))))) (sss_courseX 300 sc.nd rfl rfl (by decide) (.inl rfl) (.inl rfl) (.inl rfl) (.inl rfl) B rfl hr PassesOwn.never (se_tuple B rfl (se_v 1 rfl (.inl rfl))) (se_call F_table_by (hr.mono (by decide)) rfl (fun _ _ _ _ _ _ us hl => match us, hl with | [_, _, _], _ => rfl) (sa_cons (sv_v 0 rfl (.inl rfl)) (sa_cons (sv_v 3 rfl (.inl rfl)) (sa_cons (sv_v 5 rfl (.inl rfl)) sa_nil))))))
abbrev N_table_after_many : List Str := ["size", "table", "calls", "many"]
theorem sc_table_after_many : FnScope N_table_after_many ["size", "table", "calls", "many"] (defScope s_table_after_many) := ⟨rfl, rfl, rfl, by decide +kernel, rfl, by decide +kernel, by decide +kernel⟩
theorem f_table_after_many (B : Bt mg) (F_table_by : Fc P w K mg base "table_by" s_table_by ["size", "moves", "table"] 3 (cF m_table_by)) (F_moves_of_many : Fc P w K mg base "moves_of_many" s_moves_of_many ["size", "people", "calls", "many"] 7 (cF m_moves_of_many))  {f : Addr} {fd : FuncData} (F : Fun K "table_after_many" "table_after_many" s_table_after_many f fd) (hm : mg "table_after_many" = some (.ref f)) : Fc P w K mg base "table_after_many" s_table_after_many ["size", "table", "calls", "many"] 8 (cF m_table_after_many) := by
  have sc := sc_table_after_many
  refine fc_body (k := 7) b_table_after_many (m := m_table_after_many) (by unfold m_table_after_many; rfl) F hm sc rfl rfl fun b cdv A outer s H E hr => ?_
  exact (ss_one (ss_ret (se_call F_table_by (hr.mono (by decide)) rfl (fun _ _ _ _ _ _ us hl => match us, hl with | [_, _, _], _ => rfl) (sa_cons (sv_v 0 rfl (.inl rfl)) (sa_cons (sv_e (se_call F_moves_of_many (hr.mono (by decide)) rfl (fun _ _ _ _ _ _ us hl => match us, hl with | [_, _, _, _], _ => rfl) (sa_cons (sv_v 0 rfl (.inl rfl)) (sa_cons (sv_e (se_len B rfl (se_v 1 rfl (.inl rfl)))) (sa_cons (sv_v 2 rfl (.inl rfl)) (sa_cons (sv_v 3 rfl (.inl rfl)) sa_nil)))))) (sa_cons (sv_v 1 rfl (.inl rfl)) sa_nil))))))
abbrev N_steps_after_many : List Str := ["size", "table", "calls", "many"]
theorem sc_steps_after_many : FnScope N_steps_after_many ["size", "table", "calls", "many"] (defScope s_steps_after_many) := ⟨rfl, rfl, rfl, by decide +kernel, rfl, by decide +kernel, by decide +kernel⟩
theorem f_steps_after_many (B : Bt mg) (F_steps_by : Fc P w K mg base "steps_by" s_steps_by ["size", "moves", "table"] 2 (cF m_steps_by)) (F_moves_of_many : Fc P w K mg base "moves_of_many" s_moves_of_many ["size", "people", "calls", "many"] 7 (cF m_moves_of_many))  {f : Addr} {fd : FuncData} (F : Fun K "steps_after_many" "steps_after_many" s_steps_after_many f fd) (hm : mg "steps_after_many" = some (.ref f)) : Fc P w K mg base "steps_after_many" s_steps_after_many ["size", "table", "calls", "many"] 8 (cF m_steps_after_many) := by
  have sc := sc_steps_after_many
  refine fc_body (k := 7) b_steps_after_many (m := m_steps_after_many) (by unfold m_steps_after_many; rfl) F hm sc rfl rfl fun b cdv A outer s H E hr => ?_
  exact (ss_one (ss_ret (se_call F_steps_by (hr.mono (by decide)) rfl (fun _ _ _ _ _ _ us hl => match us, hl with | [_, _, _], _ => rfl) (sa_cons (sv_v 0 rfl (.inl rfl)) (sa_cons (sv_e (se_call F_moves_of_many (hr.mono (by decide)) rfl (fun _ _ _ _ _ _ us hl => match us, hl with | [_, _, _, _], _ => rfl) (sa_cons (sv_v 0 rfl (.inl rfl)) (sa_cons (sv_e (se_len B rfl (se_v 1 rfl (.inl rfl)))) (sa_cons (sv_v 2 rfl (.inl rfl)) (sa_cons (sv_v 3 rfl (.inl rfl)) sa_nil)))))) (sa_cons (sv_v 1 rfl (.inl rfl)) sa_nil))))))
abbrev N_lowest_terms : List Str := ["numerator", "denominator", "divisor", "rest"]
theorem sc_lowest_terms : FnScope N_lowest_terms ["numerator", "denominator"] (defScope s_lowest_terms) := ⟨rfl, rfl, rfl, by decide +kernel, rfl, by decide +kernel, by decide +kernel⟩
theorem f_lowest_terms (B : Bt mg)   {f : Addr} {fd : FuncData} (F : Fun K "lowest_terms" "lowest_terms" s_lowest_terms f fd) (hm : mg "lowest_terms" = some (.ref f)) : Fc P w K mg base "lowest_terms" s_lowest_terms ["numerator", "denominator"] 1 (cF m_lowest_terms) := by
  have sc := sc_lowest_terms
  refine fc_body (k := 0) b_lowest_terms (m := m_lowest_terms) (by unfold m_lowest_terms; rfl) F hm sc rfl rfl fun b cdv A outer s H E hr => ?_
  exact (ss_cons (ss_set 2 sc.nd rfl (.inl rfl) (se_v 1 rfl (.inl rfl))) (ss_cons (ss_set 3 sc.nd rfl (.inl rfl) (se_v 0 rfl (.inl rfl))) (ss_cons (ss_wh 100 PassesOwn.never (st_cmp op_gt (nomark _) okI (se_v 3 rfl (.inl rfl)) se_int) (ss_one (ss_par 2 3 rfl sc.nd rfl rfl (by decide) rfl rfl rfl (sd_cons (se_v 3 rfl (.inl rfl)) (sd_cons (se_mod (se_v 2 rfl (.inl rfl)) (se_v 3 rfl (.inl rfl))) sd_nil))))) (ss_one (ss_ret (se_tup (sd_cons (se_div (se_v 0 rfl (.inl rfl)) (se_v 2 rfl (.inl rfl))) (sd_cons (se_div (se_v 1 rfl (.inl rfl)) (se_v 2 rfl (.inl rfl))) sd_nil))))))))
abbrev N_average : List Str := ["size", "people", "calls", "table", "returning", "walked", "lead", "period"]
theorem sc_average : FnScope N_average ["size", "people", "calls"] (defScope s_average) := ⟨rfl, rfl, rfl, by decide +kernel, rfl, by decide +kernel, by decide +kernel⟩
theorem f_average (B : Bt mg) (F_pack : Fc P w K mg base "pack" s_pack ["size", "people", "chair"] 2 (cF m_pack)) (F_course : Fc P w K mg base "course" s_course ["size", "table", "calls"] 6 (cF m_course)) (F_table_after_many : Fc P w K mg base "table_after_many" s_table_after_many ["size", "table", "calls", "many"] 8 (cF m_table_after_many)) (F_lowest_terms : Fc P w K mg base "lowest_terms" s_lowest_terms ["numerator", "denominator"] 1 (cF m_lowest_terms)) (F_steps_after_many : Fc P w K mg base "steps_after_many" s_steps_after_many ["size", "table", "calls", "many"] 8 (cF m_steps_after_many))  {f : Addr} {fd : FuncData} (F : Fun K "average" "average" s_average f fd) (hm : mg "average" = some (.ref f)) : Fc P w K mg base "average" s_average ["size", "people", "calls"] 9 (cF m_average) := by
  have sc := sc_average
  refine fc_body (k := 8) b_average (m := m_average) (by unfold m_average; rfl) F hm sc rfl rfl fun b cdv A outer s H E hr => ?_
  exact (ss_cons (ss_set 3 sc.nd rfl (.inl rfl) (se_call F_pack (hr.mono (by decide)) rfl (fun _ _ _ _ _ _ us hl => match us, hl with | [_, _, _], _ => rfl) (sa_cons (sv_v 0 rfl (.inl rfl)) (sa_cons (sv_v 1 rfl (.inl rfl)) (sa_cons (sv_e (se_sub (se_v 1 rfl (.inl rfl)) se_int)) sa_nil))))) (ss_cons (ss_asg (.tp [6, 7]) (pg_tup rfl (pgs_cons (pg_name (i := 6) sc.nd rfl (.inl rfl)) (pgs_cons (pg_name (i := 7) sc.nd rfl (.inl rfl)) pgs_nil))) (se_call F_course (hr.mono (by decide)) rfl (fun _ _ _ _ _ _ us hl => match us, hl with | [_, _, _], _ => rfl) (sa_cons (sv_v 0 rfl (.inl rfl)) (sa_cons (sv_v 3 rfl (.inl rfl)) (sa_cons (sv_v 2 rfl (.inl rfl)) sa_nil))))) (ss_cons (ss_set 4 sc.nd rfl (.inl rfl) (se_call F_table_after_many (hr.mono (by decide)) rfl (fun _ _ _ _ _ _ us hl => match us, hl with | [_, _, _, _], _ => rfl) (sa_cons (sv_v 0 rfl (.inl rfl)) (sa_cons (sv_v 3 rfl (.inl rfl)) (sa_cons (sv_v 2 rfl (.inl rfl)) (sa_cons (sv_v 6 rfl (.inl rfl)) sa_nil)))))) (ss_cons (ss_set 5 sc.nd rfl (.inl rfl) (se_sum B rfl rfl (se_call F_steps_after_many (hr.mono (by decide)) rfl (fun _ _ _ _ _ _ us hl => match us, hl with | [_, _, _, _], _ => rfl) (sa_cons (sv_v 0 rfl (.inl rfl)) (sa_cons (sv_v 4 rfl (.inl rfl)) (sa_cons (sv_v 2 rfl (.inl rfl)) (sa_cons (sv_v 7 rfl (.inl rfl)) sa_nil))))))) (ss_one (ss_ret (se_call F_lowest_terms (hr.mono (by decide)) rfl (fun _ _ _ _ _ _ us hl => match us, hl with | [_, _], _ => rfl) (sa_cons (sv_v 5 rfl (.inl rfl)) (sa_cons (sv_e (se_mul (se_v 1 rfl (.inl rfl)) (se_v 7 rfl (.inl rfl)))) sa_nil)))))))))
abbrev N_all_tables : List Str := ["size", "people", "found", "taken", "table", "chair"]
theorem sc_all_tables : FnScope N_all_tables ["size", "people"] (defScope s_all_tables) := ⟨rfl, rfl, rfl, by decide +kernel, rfl, by decide +kernel, by decide +kernel⟩
theorem f_all_tables (B : Bt mg)   {f : Addr} {fd : FuncData} (F : Fun K "all_tables" "all_tables" s_all_tables f fd) (hm : mg "all_tables" = some (.ref f)) : Fc P w K mg base "all_tables" s_all_tables ["size", "people"] 1 (cF m_all_tables) := by
  have sc := sc_all_tables
  refine fc_body (k := 0) b_all_tables (m := m_all_tables) (by unfold m_all_tables; rfl) F hm sc rfl rfl fun b cdv A outer s H E hr => ?_
  exact (ss_cons (ss_set 2 sc.nd rfl (.inl rfl) (se_lst (sd_cons (se_tup sd_nil) sd_nil))) (ss_cons (ss_for (.nm 3) PassesOwn.never rfl (pg_name (i := 3) sc.nd rfl (.inl rfl)) (si_r1 B rfl (se_v 1 rfl (.inl rfl))) (ss_one (ss_setLc2 (own := [("chair", 5), ("table", 4)]) (.nm 4) (.nm 5) 2 rfl sc.nd rfl rfl (sw_true rfl rfl rfl (by decide +kernel)) (blkOk_by (N := N_all_tables) (sc := defScope s_all_tables) (by decide +kernel)) (by decide) (by decide) (fun _ _ _ _ _ => pg_name (i := 4) sc.nd rfl (.inl rfl)) (fun _ _ _ _ _ => pg_name (i := 5) sc.nd rfl (.inl rfl)) (si_seq (se_v 2 rfl (.inl rfl))) (fun _ _ _ _ _ => (si_r1 B rfl (se_v 0))) (fun _ _ _ _ _ => (st_w (sw_or (st_not (st_tru (se_v 4))) (sw_or1 (st_cmp op_lt (nomark _) okI (se_ix (fun _ _ => rfl) (se_v 4) (se_neg se_int)) (se_v 5)))))) (fun _ _ _ _ _ => (se_add (se_v 4) (se_tup (sd_cons (se_v 5) sd_nil))))))) (ss_one (ss_ret (se_v 2 rfl (.inl rfl))))))
abbrev N_all_led : List Str := ["size", "people", "calls", "moves", "table"]
theorem sc_all_led : FnScope N_all_led ["size", "people", "calls"] (defScope s_all_led) := ⟨rfl, rfl, rfl, by decide +kernel, rfl, by decide +kernel, by decide +kernel⟩
theorem f_all_led (B : Bt mg) (F_moves_of : Fc P w K mg base "moves_of" s_moves_of ["size", "people", "calls"] 5 (cF m_moves_of)) (F_table_by : Fc P w K mg base "table_by" s_table_by ["size", "moves", "table"] 3 (cF m_table_by)) (F_all_tables : Fc P w K mg base "all_tables" s_all_tables ["size", "people"] 1 (cF m_all_tables))  {f : Addr} {fd : FuncData} (F : Fun K "all_led" "all_led" s_all_led f fd) (hm : mg "all_led" = some (.ref f)) : Fc P w K mg base "all_led" s_all_led ["size", "people", "calls"] 6 (cF m_all_led) := by
  have sc := sc_all_led
  refine fc_body (k := 5) b_all_led (m := m_all_led) (by unfold m_all_led; rfl) F hm sc rfl rfl fun b cdv A outer s H E hr => ?_
  exact (ss_cons (ss_set 3 sc.nd rfl (.inr rfl) (se_call F_moves_of (hr.mono (by decide)) rfl (fun _ _ _ _ _ _ us hl => match us, hl with | [_, _, _], _ => rfl) (sa_cons (sv_v 0 rfl (.inr (.inl rfl))) (sa_cons (sv_v 1 rfl (.inl rfl)) (sa_cons (sv_v 2 rfl (.inl rfl)) sa_nil))))) (ss_one (ss_ret (se_lc (own := [("table", 4)]) (.nm 4) rfl sc.nd (blkOk_by (N := N_all_led) (sc := defScope s_all_led) (by decide +kernel)) (by decide) (fun _ _ _ _ _ => pg_name (i := 4) sc.nd rfl (.inl rfl)) (si_seq (se_call F_all_tables (hr.mono (by decide)) rfl (fun _ _ _ _ _ _ us hl => match us, hl with | [_, _], _ => rfl) (sa_cons (sv_v 0 rfl (.inr (.inl rfl))) (sa_cons (sv_v 1 rfl (.inl rfl)) sa_nil)))) (fun _ _ _ _ _ => (se_tup (sd_cons (se_v 4) (sd_cons (se_call F_table_by (hr.mono (by decide)) rfl (fun _ _ _ _ _ _ us hl => match us, hl with | [_, _, _], _ => rfl) (sa_cons (sv_v 0) (sa_cons (sv_v 3) (sa_cons (sv_v 4) sa_nil)))) sd_nil))))))))
abbrev N_all_differences : List Str := ["size", "people", "first", "second", "ones", "others", "chair", "back"]
theorem sc_all_differences : FnScope N_all_differences ["size", "people", "first", "second"] (defScope s_all_differences) := ⟨rfl, rfl, rfl, by decide +kernel, rfl, by decide +kernel, by decide +kernel⟩
theorem f_all_differences (B : Bt mg) (F_moves_of : Fc P w K mg base "moves_of" s_moves_of ["size", "people", "calls"] 5 (cF m_moves_of))  {f : Addr} {fd : FuncData} (F : Fun K "all_differences" "all_differences" s_all_differences f fd) (hm : mg "all_differences" = some (.ref f)) : Fc P w K mg base "all_differences" s_all_differences ["size", "people", "first", "second"] 6 (cF m_all_differences) := by
  have sc := sc_all_differences
  refine fc_body (k := 5) b_all_differences (m := m_all_differences) (by unfold m_all_differences; rfl) F hm sc rfl rfl fun b cdv A outer s H E hr => ?_
  exact (ss_cons (ss_set 4 sc.nd rfl (.inr rfl) (se_call F_moves_of (hr.mono (by decide)) rfl (fun _ _ _ _ _ _ us hl => match us, hl with | [_, _, _], _ => rfl) (sa_cons (sv_v 0 rfl (.inl rfl)) (sa_cons (sv_v 1 rfl (.inr (.inl rfl))) (sa_cons (sv_v 2 rfl (.inl rfl)) sa_nil))))) (ss_cons (ss_set 5 sc.nd rfl (.inr rfl) (se_call F_moves_of (hr.mono (by decide)) rfl (fun _ _ _ _ _ _ us hl => match us, hl with | [_, _, _], _ => rfl) (sa_cons (sv_v 0 rfl (.inl rfl)) (sa_cons (sv_v 1 rfl (.inr (.inl rfl))) (sa_cons (sv_v 3 rfl (.inl rfl)) sa_nil))))) (ss_one (ss_ret (se_lc2 (own := [("back", 7), ("chair", 6)]) (.nm 6) (.nm 7) rfl sc.nd (blkOk_by (N := N_all_differences) (sc := defScope s_all_differences) (by decide +kernel)) (by decide) (by decide) (fun _ _ _ _ _ => pg_name (i := 6) sc.nd rfl (.inl rfl)) (fun _ _ _ _ _ => pg_name (i := 7) sc.nd rfl (.inl rfl)) (si_r1 B rfl (se_v 0 rfl (.inl rfl))) (fun _ _ _ _ _ => (si_r1 B rfl (se_v 1))) (fun _ _ _ _ _ => (st_cmp ((op_neI.or (op_neD hr.room.units)).or op_ne) (nomark _) ok_ne (se_ix (fun _ _ => rfl) (se_ix (fun _ _ => rfl) (se_v 4) (se_v 6)) (se_v 7)) (se_ix (fun _ _ => rfl) (se_ix (fun _ _ => rfl) (se_v 5) (se_v 6)) (se_v 7)))) (fun _ _ _ _ _ => (se_tup (sd_cons (se_v 6) (sd_cons (se_v 7) sd_nil)))))))))
abbrev N_move_alike : List Str := ["size", "people", "first", "second"]
theorem sc_move_alike : FnScope N_move_alike ["size", "people", "first", "second"] (defScope s_move_alike) := ⟨rfl, rfl, rfl, by decide +kernel, rfl, by decide +kernel, by decide +kernel⟩
theorem f_move_alike (B : Bt mg) (F_moves_of : Fc P w K mg base "moves_of" s_moves_of ["size", "people", "calls"] 5 (cF m_moves_of))  {f : Addr} {fd : FuncData} (F : Fun K "move_alike" "move_alike" s_move_alike f fd) (hm : mg "move_alike" = some (.ref f)) : Fc P w K mg base "move_alike" s_move_alike ["size", "people", "first", "second"] 6 (cF m_move_alike) := by
  have sc := sc_move_alike
  refine fc_body (k := 5) b_move_alike (m := m_move_alike) (by unfold m_move_alike; rfl) F hm sc rfl rfl fun b cdv A outer s H E hr => ?_
  exact (ss_one (ss_ret (se_cmp ((op_eqI.or (op_eqD hr.room.units)).or op_eq) (nomark _) ok_eq (se_call F_moves_of (hr.mono (by decide)) rfl (fun _ _ _ _ _ _ us hl => match us, hl with | [_, _, _], _ => rfl) (sa_cons (sv_v 0 rfl (.inl rfl)) (sa_cons (sv_v 1 rfl (.inl rfl)) (sa_cons (sv_v 2 rfl (.inl rfl)) sa_nil)))) (se_call F_moves_of (hr.mono (by decide)) rfl (fun _ _ _ _ _ _ us hl => match us, hl with | [_, _, _], _ => rfl) (sa_cons (sv_v 0 rfl (.inl rfl)) (sa_cons (sv_v 1 rfl (.inl rfl)) (sa_cons (sv_v 3 rfl (.inl rfl)) sa_nil)))))))
abbrev N_moving_difference : List Str := ["size", "people", "first", "second", "differences"]
theorem sc_moving_difference : FnScope N_moving_difference ["size", "people", "first", "second"] (defScope s_moving_difference) := ⟨rfl, rfl, rfl, by decide +kernel, rfl, by decide +kernel, by decide +kernel⟩
theorem f_moving_difference (B : Bt mg) (F_all_differences : Fc P w K mg base "all_differences" s_all_differences ["size", "people", "first", "second"] 6 (cF m_all_differences))  {f : Addr} {fd : FuncData} (F : Fun K "moving_difference" "moving_difference" s_moving_difference f fd) (hm : mg "moving_difference" = some (.ref f)) : Fc P w K mg base "moving_difference" s_moving_difference ["size", "people", "first", "second"] 7 (cF m_moving_difference) := by
  have sc := sc_moving_difference
  refine fc_body (k := 6) b_moving_difference (m := m_moving_difference) (by unfold m_moving_difference; rfl) F hm sc rfl rfl fun b cdv A outer s H E hr => ?_
  exact (ss_cons (ss_set 4 sc.nd rfl (.inl rfl) (se_call F_all_differences (hr.mono (by decide)) rfl (fun _ _ _ _ _ _ us hl => match us, hl with | [_, _, _, _], _ => rfl) (sa_cons (sv_v 0 rfl (.inl rfl)) (sa_cons (sv_v 1 rfl (.inl rfl)) (sa_cons (sv_v 2 rfl (.inl rfl)) (sa_cons (sv_v 3 rfl (.inl rfl)) sa_nil)))))) (ss_one (ss_ret (se_if (st_tru (se_v 4 rfl (.inl rfl))) (se_ix (fun _ _ => rfl) (se_v 4 rfl (.inl rfl)) se_int) se_non))))
abbrev N_shows_difference : List Str := ["size", "people", "first", "second", "thing"]
theorem sc_shows_difference : FnScope N_shows_difference ["size", "people", "first", "second", "thing"] (defScope s_shows_difference) := ⟨rfl, rfl, rfl, by decide +kernel, rfl, by decide +kernel, by decide +kernel⟩
theorem f_shows_difference (B : Bt mg) (F_all_differences : Fc P w K mg base "all_differences" s_all_differences ["size", "people", "first", "second"] 6 (cF m_all_differences)) (F_all_chairs : Fc P w K mg base "all_chairs" s_all_chairs ["size", "things"] 2 (cF m_all_chairs))  {f : Addr} {fd : FuncData} (F : Fun K "shows_difference" "shows_difference" s_shows_difference f fd) (hm : mg "shows_difference" = some (.ref f)) : Fc P w K mg base "shows_difference" s_shows_difference ["size", "people", "first", "second", "thing"] 7 (cF m_shows_difference) := by
  have sc := sc_shows_difference
  refine fc_body (k := 6) b_shows_difference (m := m_shows_difference) (by unfold m_shows_difference; rfl) F hm sc rfl rfl fun b cdv A outer s H E hr => ?_
  exact (ss_cons (ss_if (st_w (sw_or (st_not (st_tru (se_isi B rfl rfl B.tuple rfl (se_v 4 rfl (.inl rfl))))) (sw_or1 (st_not (st_tru (se_call F_all_chairs (hr.mono (by decide)) rfl (fun _ _ _ _ _ _ us hl => match us, hl with | [_, _], _ => rfl) (sa_cons (sv_v 0 rfl (.inl rfl)) (sa_cons (sv_v 4 rfl (.inl rfl)) sa_nil)))))))) (ss_one (ss_ret se_bl)) ss_nil) (ss_one (ss_ret (se_cmp (op_inD (units65 hr.room)) rfl ok_inD (se_v 4 rfl (.inl rfl)) (se_call F_all_differences (hr.mono (by decide)) rfl (fun _ _ _ _ _ _ us hl => match us, hl with | [_, _, _, _], _ => rfl) (sa_cons (sv_v 0 rfl (.inl rfl)) (sa_cons (sv_v 1 rfl (.inl rfl)) (sa_cons (sv_v 2 rfl (.inl rfl)) (sa_cons (sv_v 3 rfl (.inl rfl)) sa_nil)))))))))
abbrev N_leading_difference : List Str := ["size", "people", "first", "second", "ones", "others", "tables", "one", "other"]
theorem sc_leading_difference : FnScope N_leading_difference ["size", "people", "first", "second"] (defScope s_leading_difference) := ⟨rfl, rfl, rfl, by decide +kernel, rfl, by decide +kernel, by decide +kernel⟩
theorem f_leading_difference (B : Bt mg) (F_all_led : Fc P w K mg base "all_led" s_all_led ["size", "people", "calls"] 6 (cF m_all_led))  {f : Addr} {fd : FuncData} (F : Fun K "leading_difference" "leading_difference" s_leading_difference f fd) (hm : mg "leading_difference" = some (.ref f)) : Fc P w K mg base "leading_difference" s_leading_difference ["size", "people", "first", "second"] 7 (cF m_leading_difference) := by
  have sc := sc_leading_difference
  refine fc_body (k := 6) b_leading_difference (m := m_leading_difference) (by unfold m_leading_difference; rfl) F hm sc rfl rfl fun b cdv A outer s H E hr => ?_
  exact (ss_cons (ss_set 4 sc.nd rfl (.inl rfl) (se_call F_all_led (hr.mono (by decide)) rfl (fun _ _ _ _ _ _ us hl => match us, hl with | [_, _, _], _ => rfl) (sa_cons (sv_v 0 rfl (.inl rfl)) (sa_cons (sv_v 1 rfl (.inl rfl)) (sa_cons (sv_v 2 rfl (.inl rfl)) sa_nil))))) (ss_cons (ss_set 5 sc.nd rfl (.inl rfl) (se_call F_all_led (hr.mono (by decide)) rfl (fun _ _ _ _ _ _ us hl => match us, hl with | [_, _, _], _ => rfl) (sa_cons (sv_v 0 rfl (.inl rfl)) (sa_cons (sv_v 1 rfl (.inl rfl)) (sa_cons (sv_v 3 rfl (.inl rfl)) sa_nil))))) (ss_cons (ss_setLf (own := [("one", 7), ("other", 8)]) (.tp [7, 8]) 6 rfl sc.nd rfl rfl (sw_true rfl rfl rfl (by decide +kernel)) (blkOk_by (N := N_leading_difference) (sc := defScope s_leading_difference) (by decide +kernel)) (by decide) (fun _ _ _ _ _ => pg_tup rfl (pgs_cons (pg_name (i := 7) sc.nd rfl (.inl rfl)) (pgs_cons (pg_name (i := 8) sc.nd rfl (.inl rfl)) pgs_nil))) (si_z2 B rfl (se_v 4 rfl (.inl rfl)) (se_v 5 rfl (.inl rfl))) (fun _ _ _ _ _ => (st_cmp ((op_neI.or (op_neD hr.room.units)).or op_ne) (nomark _) ok_ne (se_v 7) (se_v 8))) (fun _ _ _ _ _ => (se_ix (fun _ _ => rfl) (se_v 7) se_int))) (ss_one (ss_ret (se_if (st_tru (se_v 6 rfl (.inl rfl))) (se_ix (fun _ _ => rfl) (se_v 6 rfl (.inl rfl)) se_int) se_non))))))
abbrev N_lead_alike : List Str := ["size", "people", "first", "second"]
theorem sc_lead_alike : FnScope N_lead_alike ["size", "people", "first", "second"] (defScope s_lead_alike) := ⟨rfl, rfl, rfl, by decide +kernel, rfl, by decide +kernel, by decide +kernel⟩
theorem f_lead_alike (B : Bt mg) (F_leading_difference : Fc P w K mg base "leading_difference" s_leading_difference ["size", "people", "first", "second"] 7 (cF m_leading_difference))  {f : Addr} {fd : FuncData} (F : Fun K "lead_alike" "lead_alike" s_lead_alike f fd) (hm : mg "lead_alike" = some (.ref f)) : Fc P w K mg base "lead_alike" s_lead_alike ["size", "people", "first", "second"] 8 (cF m_lead_alike) := by
  have sc := sc_lead_alike
  refine fc_body (k := 7) b_lead_alike (m := m_lead_alike) (by unfold m_lead_alike; rfl) F hm sc rfl rfl fun b cdv A outer s H E hr => ?_
  exact (ss_one (ss_ret (se_isN (se_call F_leading_difference (hr.mono (by decide)) rfl (fun _ _ _ _ _ _ us hl => match us, hl with | [_, _, _, _], _ => rfl) (sa_cons (sv_v 0 rfl (.inl rfl)) (sa_cons (sv_v 1 rfl (.inl rfl)) (sa_cons (sv_v 2 rfl (.inl rfl)) (sa_cons (sv_v 3 rfl (.inl rfl)) sa_nil))))))))
abbrev N_law_of : List Str := ["_law_box_here", "_law_some"]
theorem sc_law_of : FnScope N_law_of ["_law_box_here", "_law_some"] (defScope s_law_of) := ⟨rfl, rfl, rfl, by decide +kernel, rfl, by decide +kernel, by decide +kernel⟩
theorem f_law_of (B : Bt mg) (F_law_take : Fc P w K mg base "_law_take" s_law_take ["_law_box_here", "_law_below"] 1 (cF takeF))  {f : Addr} {fd : FuncData} (F : Fun K "_law_of" "_law_of" s_law_of f fd) (hm : mg "_law_of" = some (.ref f)) : Fc P w K mg base "_law_of" s_law_of ["_law_box_here", "_law_some"] 2 (cF m_law_of) := by
  have sc := sc_law_of
  refine fc_body (k := 1) b_law_of (m := m_law_of) (by unfold m_law_of; rfl) F hm sc rfl rfl fun b cdv A outer s H E hr => ?_
  exact (ss_one (ss_ret (se_ix (fun _ _ => rfl) (se_v 1 rfl (.inl rfl)) (se_call F_law_take (hr.mono (by decide)) rfl (fun _ _ _ _ _ _ us hl => match us, hl with | [_, _], _ => rfl) (sa_cons (sv_v 0 rfl (.inl rfl)) (sa_cons (sv_e (se_len B rfl (se_v 1 rfl (.inl rfl)))) sa_nil))))))
abbrev N_law_span : List Str := ["_law_box_here", "_law_most"]
theorem sc_law_span : FnScope N_law_span ["_law_box_here", "_law_most"] (defScope s_law_span) := ⟨rfl, rfl, rfl, by decide +kernel, rfl, by decide +kernel, by decide +kernel⟩
theorem f_law_span (B : Bt mg) (F_law_take : Fc P w K mg base "_law_take" s_law_take ["_law_box_here", "_law_below"] 1 (cF takeF))  {f : Addr} {fd : FuncData} (F : Fun K "_law_span" "_law_span" s_law_span f fd) (hm : mg "_law_span" = some (.ref f)) : Fc P w K mg base "_law_span" s_law_span ["_law_box_here", "_law_most"] 2 (cF m_law_span) := by
  have sc := sc_law_span
  refine fc_body (k := 1) b_law_span (m := m_law_span) (by unfold m_law_span; rfl) F hm sc rfl rfl fun b cdv A outer s H E hr => ?_
  exact (ss_one (ss_ret (se_add se_int (se_call F_law_take (hr.mono (by decide)) rfl (fun _ _ _ _ _ _ us hl => match us, hl with | [_, _], _ => rfl) (sa_cons (sv_v 0 rfl (.inl rfl)) (sa_cons (sv_e (se_sub (se_v 1 rfl (.inl rfl)) se_int)) sa_nil))))))
abbrev N_law_folk : List Str := ["_law_box_here", "_law_span_here"]
theorem sc_law_folk : FnScope N_law_folk ["_law_box_here", "_law_span_here"] (defScope s_law_folk) := ⟨rfl, rfl, rfl, by decide +kernel, rfl, by decide +kernel, by decide +kernel⟩
theorem f_law_folk (B : Bt mg) (F_law_take : Fc P w K mg base "_law_take" s_law_take ["_law_box_here", "_law_below"] 1 (cF takeF))  {f : Addr} {fd : FuncData} (F : Fun K "_law_folk" "_law_folk" s_law_folk f fd) (hm : mg "_law_folk" = some (.ref f)) : Fc P w K mg base "_law_folk" s_law_folk ["_law_box_here", "_law_span_here"] 2 (cF m_law_folk) := by
  have sc := sc_law_folk
  refine fc_body (k := 1) b_law_folk (m := m_law_folk) (by unfold m_law_folk; rfl) F hm sc rfl rfl fun b cdv A outer s H E hr => ?_
  exact (ss_one (ss_ret (se_add se_int (se_call F_law_take (hr.mono (by decide)) rfl (fun _ _ _ _ _ _ us hl => match us, hl with | [_, _], _ => rfl) (sa_cons (sv_v 0 rfl (.inl rfl)) (sa_cons (sv_e (se_sub (se_v 1 rfl (.inl rfl)) se_int)) sa_nil))))))
abbrev N_law_crowd : List Str := ["_law_box_here", "_law_span_here", "_law_folk_here", "_law_base", "_law_k"]
theorem sc_law_crowd : FnScope N_law_crowd ["_law_box_here", "_law_span_here", "_law_folk_here"] (defScope s_law_crowd) := ⟨rfl, rfl, rfl, by decide +kernel, rfl, by decide +kernel, by decide +kernel⟩
theorem f_law_crowd (B : Bt mg) (F_law_take : Fc P w K mg base "_law_take" s_law_take ["_law_box_here", "_law_below"] 1 (cF takeF)) (F_law_strewn : Fc P w K mg base "_law_strewn" s_law_strewn ["_law_box_here", "_law_some"] 2 (cF strewnF))  {f : Addr} {fd : FuncData} (F : Fun K "_law_crowd" "_law_crowd" s_law_crowd f fd) (hm : mg "_law_crowd" = some (.ref f)) : Fc P w K mg base "_law_crowd" s_law_crowd ["_law_box_here", "_law_span_here", "_law_folk_here"] 3 (cF m_law_crowd) := by
  have sc := sc_law_crowd
  refine fc_body (k := 2) b_law_crowd (m := m_law_crowd) (by unfold m_law_crowd; rfl) F hm sc rfl rfl fun b cdv A outer s H E hr => ?_
  exact (ss_cons (ss_if (st_cmp ((op_eqI.or (op_eqD hr.room.units)).or op_eq) (nomark _) ok_eq (se_call F_law_take (hr.mono (by decide)) rfl (fun _ _ _ _ _ _ us hl => match us, hl with | [_, _], _ => rfl) (sa_cons (sv_v 0 rfl (.inl rfl)) (sa_cons (sv_e se_int) sa_nil))) se_int) (ss_cons (ss_set 3 sc.nd rfl (.inr rfl) (se_call F_law_take (hr.mono (by decide)) rfl (fun _ _ _ _ _ _ us hl => match us, hl with | [_, _], _ => rfl) (sa_cons (sv_v 0 rfl (.inl rfl)) (sa_cons (sv_v 1 rfl (.inr (.inl rfl))) sa_nil)))) (ss_one (ss_ret (se_tuple B rfl (se_sorted B rfl (se_lc (own := [("_law_k", 4)]) (.nm 4) rfl sc.nd (blkOk_by (N := N_law_crowd) (sc := defScope s_law_crowd) (by decide +kernel)) (by decide) (fun _ _ _ _ _ => pg_name (i := 4) sc.nd rfl (.inl rfl)) (si_r1 B rfl (se_v 2 rfl (.inl rfl))) (fun _ _ _ _ _ => (se_mod (se_add (se_v 3) (se_v 4)) (se_v 1))))))))) ss_nil) (ss_one (ss_ret (se_tuple B rfl (se_sorted B rfl (se_sl (se_call F_law_strewn (hr.mono (by decide)) rfl (fun _ _ _ _ _ _ us hl => match us, hl with | [_, _], _ => rfl) (sa_cons (sv_v 0 rfl (.inl rfl)) (sa_cons (sv_e (se_listRg B rfl rfl rfl (se_v 1 rfl (.inr (.inl rfl))))) sa_nil))) so_n (so_s (se_v 2 rfl (.inl rfl)))))))))
abbrev N_law_tour : List Str := ["_law_box_here", "_law_span_here", "_law_most", "_law_few", "_law_turn", "_law_way", "_law_found"]
theorem sc_law_tour : FnScope N_law_tour ["_law_box_here", "_law_span_here", "_law_most"] (defScope s_law_tour) := ⟨rfl, rfl, rfl, by decide +kernel, rfl, by decide +kernel, by decide +kernel⟩
theorem f_law_tour (B : Bt mg) (F_law_take : Fc P w K mg base "_law_take" s_law_take ["_law_box_here", "_law_below"] 1 (cF takeF)) (F_law_of : Fc P w K mg base "_law_of" s_law_of ["_law_box_here", "_law_some"] 2 (cF m_law_of))  {f : Addr} {fd : FuncData} (F : Fun K "_law_tour" "_law_tour" s_law_tour f fd) (hm : mg "_law_tour" = some (.ref f)) : Fc P w K mg base "_law_tour" s_law_tour ["_law_box_here", "_law_span_here", "_law_most"] 3 (cF m_law_tour) := by
  have sc := sc_law_tour
  refine fc_body (k := 2) b_law_tour (m := m_law_tour) (by unfold m_law_tour; rfl) F hm sc rfl rfl fun b cdv A outer s H E hr => ?_
  exact (ss_cons (ss_parO 5 6 rfl sc.nd rfl rfl (by decide) rfl rfl rfl (se_call F_law_take (hr.mono (by decide)) rfl (fun _ _ _ _ _ _ us hl => match us, hl with | [_, _], _ => rfl) (sa_cons (sv_v 0 rfl (.inr (.inl rfl))) (sa_cons (sv_e se_int) sa_nil))) (so_lst sd_nil)) (ss_cons (ss_setLc (own := [("_law_turn", 4)]) (.nm 4) 3 rfl sc.nd rfl rfl (sw_true rfl rfl rfl (by decide +kernel)) (blkOk_by (N := N_law_tour) (sc := defScope s_law_tour) (by decide +kernel)) (by decide) (fun _ _ _ _ _ => pg_name (i := 4) sc.nd rfl (.inl rfl)) (si_r1 B rfl se_int) (fun _ _ _ _ _ => (se_call F_law_take (hr.mono (by decide)) rfl (fun _ _ _ _ _ _ us hl => match us, hl with | [_, _], _ => rfl) (sa_cons (sv_v 0) (sa_cons (sv_v 1) sa_nil))))) (ss_cons (ss_for (.nm 4) PassesOwn.never rfl (pg_name (i := 4) sc.nd rfl (.inl rfl)) (si_r1 B rfl (se_call F_law_take (hr.mono (by decide)) rfl (fun _ _ _ _ _ _ us hl => match us, hl with | [_, _], _ => rfl) (sa_cons (sv_v 0 rfl (.inr (.inl rfl))) (sa_cons (sv_e (se_add (se_v 2 rfl (.inl rfl)) se_int)) sa_nil)))) (ss_one (ss_app 6 rfl (.inl rfl) (se_if (st_cmp ((op_eqI.or (op_eqD hr.room.units)).or op_eq) (nomark _) ok_eq (se_v 5 rfl (.inl rfl)) se_int) (se_call F_law_of (hr.mono (by decide)) rfl (fun _ _ _ _ _ _ us hl => match us, hl with | [_, _], _ => rfl) (sa_cons (sv_v 0 rfl (.inr (.inl rfl))) (sa_cons (sv_v 3 rfl (.inl rfl)) sa_nil))) (se_call F_law_take (hr.mono (by decide)) rfl (fun _ _ _ _ _ _ us hl => match us, hl with | [_, _], _ => rfl) (sa_cons (sv_v 0 rfl (.inr (.inl rfl))) (sa_cons (sv_v 1 rfl (.inr (.inl rfl))) sa_nil))))))) (ss_frz 6 (ss_one (ss_ret (se_ix (fun _ _ => rfl) (se_lst (sd_cons (se_v 6 rfl (.inl rfl)) (sd_cons (se_v 6 rfl (.inl rfl)) (sd_cons (se_v 6 rfl (.inl rfl)) (sd_cons (se_sorted B rfl (se_v 6 rfl (.inl rfl))) (sd_cons (se_rev (se_sorted B rfl (se_v 6 rfl (.inl rfl)))) sd_nil)))))) (se_v 5 rfl (.inl rfl)))))))))
abbrev N_law_near : List Str := ["_law_box_here", "_law_span_here", "_law_tour_here", "_law_way", "_law_spot", "_law_both"]
theorem sc_law_near : FnScope N_law_near ["_law_box_here", "_law_span_here", "_law_tour_here"] (defScope s_law_near) := ⟨rfl, rfl, rfl, by decide +kernel, rfl, by decide +kernel, by decide +kernel⟩
theorem f_law_near (B : Bt mg) (F_law_take : Fc P w K mg base "_law_take" s_law_take ["_law_box_here", "_law_below"] 1 (cF takeF))  {f : Addr} {fd : FuncData} (F : Fun K "_law_near" "_law_near" s_law_near f fd) (hm : mg "_law_near" = some (.ref f)) : Fc P w K mg base "_law_near" s_law_near ["_law_box_here", "_law_span_here", "_law_tour_here"] 2 (cF m_law_near) := by
  have sc := sc_law_near
  refine fc_body (k := 1) b_law_near (m := m_law_near) (by unfold m_law_near; rfl) F hm sc rfl rfl fun b cdv A outer s H E hr => ?_
  exact (ss_cons (ss_par 3 4 rfl sc.nd rfl rfl (by decide) rfl rfl rfl (sd_cons (se_call F_law_take (hr.mono (by decide)) rfl (fun _ _ _ _ _ _ us hl => match us, hl with | [_, _], _ => rfl) (sa_cons (sv_v 0 rfl (.inl rfl)) (sa_cons (sv_e se_int) sa_nil))) (sd_cons (se_call F_law_take (hr.mono (by decide)) rfl (fun _ _ _ _ _ _ us hl => match us, hl with | [_, _], _ => rfl) (sa_cons (sv_v 0 rfl (.inl rfl)) (sa_cons (sv_e (se_add (se_len B rfl (se_v 2 rfl (.inl rfl))) se_int)) sa_nil))) sd_nil))) (ss_cons (ss_if (st_cmp ((op_eqI.or (op_eqD hr.room.units)).or op_eq) (nomark _) ok_eq (se_v 3 rfl (.inl rfl)) se_int) (ss_cons (ss_set 5 sc.nd rfl (.inl rfl) (se_rev (se_sl (se_v 2 rfl (.inl rfl)) (so_s (se_v 4 rfl (.inl rfl))) (so_s (se_add (se_v 4 rfl (.inl rfl)) se_int))))) (ss_one (ss_ret (se_add (se_add (se_sl (se_v 2 rfl (.inl rfl)) so_n (so_s (se_v 4 rfl (.inl rfl)))) (se_v 5 rfl (.inl rfl))) (se_sl (se_v 2 rfl (.inl rfl)) (so_s (se_add (se_v 4 rfl (.inl rfl)) se_int)) so_n))))) ss_nil) (ss_cons (ss_if (st_cmp ((op_eqI.or (op_eqD hr.room.units)).or op_eq) (nomark _) ok_eq (se_v 3 rfl (.inl rfl)) se_int) (ss_one (ss_ret (se_add (se_add (se_sl (se_v 2 rfl (.inl rfl)) so_n (so_s (se_v 4 rfl (.inl rfl)))) (se_mul (se_sl (se_v 2 rfl (.inl rfl)) (so_s (se_v 4 rfl (.inl rfl))) (so_s (se_add (se_v 4 rfl (.inl rfl)) se_int))) se_int)) (se_sl (se_v 2 rfl (.inl rfl)) (so_s (se_add (se_v 4 rfl (.inl rfl)) se_int)) so_n)))) ss_nil) (ss_cons (ss_if (st_cmp ((op_eqI.or (op_eqD hr.room.units)).or op_eq) (nomark _) ok_eq (se_v 3 rfl (.inl rfl)) se_int) (ss_one (ss_ret (se_add (se_add (se_sl (se_v 2 rfl (.inl rfl)) so_n (so_s (se_v 4 rfl (.inl rfl)))) (se_lst (sd_cons (se_call F_law_take (hr.mono (by decide)) rfl (fun _ _ _ _ _ _ us hl => match us, hl with | [_, _], _ => rfl) (sa_cons (sv_v 0 rfl (.inl rfl)) (sa_cons (sv_v 1 rfl (.inl rfl)) sa_nil))) sd_nil))) (se_sl (se_v 2 rfl (.inl rfl)) (so_s (se_v 4 rfl (.inl rfl))) so_n)))) ss_nil) (ss_one (ss_ret (se_if (st_cmp ((op_eqI.or (op_eqD hr.room.units)).or op_eq) (nomark _) ok_eq (se_v 3 rfl (.inl rfl)) se_int) (se_add (se_sl (se_v 2 rfl (.inl rfl)) so_n (so_s (se_v 4 rfl (.inl rfl)))) (se_sl (se_v 2 rfl (.inl rfl)) (so_s (se_add (se_v 4 rfl (.inl rfl)) se_int)) so_n)) (se_add (se_lst (sd_cons (se_call F_law_take (hr.mono (by decide)) rfl (fun _ _ _ _ _ _ us hl => match us, hl with | [_, _], _ => rfl) (sa_cons (sv_v 0 rfl (.inl rfl)) (sa_cons (sv_v 1 rfl (.inl rfl)) sa_nil))) sd_nil)) (se_v 2 rfl (.inl rfl))))))))))
abbrev N_law_moved_on : List Str := ["_law_span_here", "_law_some", "_law_by", "_law_mark"]
theorem sc_law_moved_on : FnScope N_law_moved_on ["_law_span_here", "_law_some", "_law_by"] (defScope s_law_moved_on) := ⟨rfl, rfl, rfl, by decide +kernel, rfl, by decide +kernel, by decide +kernel⟩
theorem f_law_moved_on (B : Bt mg)   {f : Addr} {fd : FuncData} (F : Fun K "_law_moved_on" "_law_moved_on" s_law_moved_on f fd) (hm : mg "_law_moved_on" = some (.ref f)) : Fc P w K mg base "_law_moved_on" s_law_moved_on ["_law_span_here", "_law_some", "_law_by"] 1 (cF m_law_moved_on) := by
  have sc := sc_law_moved_on
  refine fc_body (k := 0) b_law_moved_on (m := m_law_moved_on) (by unfold m_law_moved_on; rfl) F hm sc rfl rfl fun b cdv A outer s H E hr => ?_
  exact (ss_one (ss_ret (se_lc (own := [("_law_mark", 3)]) (.nm 3) rfl sc.nd (blkOk_by (N := N_law_moved_on) (sc := defScope s_law_moved_on) (by decide +kernel)) (by decide) (fun _ _ _ _ _ => pg_name (i := 3) sc.nd rfl (.inl rfl)) (si_seq (se_v 1 rfl (.inl rfl))) (fun _ _ _ _ _ => (se_mod (se_add (se_v 3) (se_v 2)) (se_v 0))))))
abbrev N_law_lists_right : List Str := ["_law_span_here", "_law_folk_here", "_law_tours", "_law_by", "_law_knot", "_law_tour_here", "_law_more", "_law_mine", "_law_its", "_law_later"]
theorem sc_law_lists_right : FnScope N_law_lists_right ["_law_span_here", "_law_folk_here", "_law_tours", "_law_by"] (defScope s_law_lists_right) := ⟨rfl, rfl, rfl, by decide +kernel, rfl, by decide +kernel, by decide +kernel⟩
theorem f_law_lists_right (B : Bt mg) (F_moving_difference : Fc P w K mg base "moving_difference" s_moving_difference ["size", "people", "first", "second"] 7 (cF m_moving_difference)) (F_law_moved_on : Fc P w K mg base "_law_moved_on" s_law_moved_on ["_law_span_here", "_law_some", "_law_by"] 1 (cF m_law_moved_on)) (F_move_alike : Fc P w K mg base "move_alike" s_move_alike ["size", "people", "first", "second"] 6 (cF m_move_alike)) (F_lead_alike : Fc P w K mg base "lead_alike" s_lead_alike ["size", "people", "first", "second"] 8 (cF m_lead_alike)) (F_average : Fc P w K mg base "average" s_average ["size", "people", "calls"] 9 (cF m_average)) (F_shows_difference : Fc P w K mg base "shows_difference" s_shows_difference ["size", "people", "first", "second", "thing"] 7 (cF m_shows_difference))  {f : Addr} {fd : FuncData} (F : Fun K "_law_lists_right" "_law_lists_right" s_law_lists_right f fd) (hm : mg "_law_lists_right" = some (.ref f)) : Fc P w K mg base "_law_lists_right" s_law_lists_right ["_law_span_here", "_law_folk_here", "_law_tours", "_law_by"] 10 (cF m_law_lists_right) := by
  have sc := sc_law_lists_right
  refine fc_body (k := 9) b_law_lists_right (m := m_law_lists_right) (by unfold m_law_lists_right; rfl) F hm sc rfl rfl fun b cdv A outer s H E hr => ?_
  exact (ss_cons (ss_asg (.tp [5, 6]) (pg_tup rfl (pgs_cons (pg_name (i := 5) sc.nd rfl (.inl rfl)) (pgs_cons (pg_name (i := 6) sc.nd rfl (.inl rfl)) pgs_nil))) (se_v 2 rfl (.inl rfl))) (ss_cons (ss_par 7 8 rfl sc.nd rfl rfl (by decide) rfl rfl rfl (sd_cons (se_call F_law_moved_on (hr.mono (by decide)) rfl (fun _ _ _ _ _ _ us hl => match us, hl with | [_, _, _], _ => rfl) (sa_cons (sv_v 0 rfl (.inl rfl)) (sa_cons (sv_v 5 rfl (.inl rfl)) (sa_cons (sv_v 3 rfl (.inl rfl)) sa_nil)))) (sd_cons (se_call F_law_moved_on (hr.mono (by decide)) rfl (fun _ _ _ _ _ _ us hl => match us, hl with | [_, _, _], _ => rfl) (sa_cons (sv_v 0 rfl (.inl rfl)) (sa_cons (sv_v 6 rfl (.inl rfl)) (sa_cons (sv_v 3 rfl (.inl rfl)) sa_nil)))) sd_nil))) (ss_cons (ss_if (st_cmp ((op_neI.or (op_neD hr.room.units)).or op_ne) (nomark _) ok_ne (se_call F_move_alike (hr.mono (by decide)) rfl (fun _ _ _ _ _ _ us hl => match us, hl with | [_, _, _, _], _ => rfl) (sa_cons (sv_v 0 rfl (.inl rfl)) (sa_cons (sv_v 1 rfl (.inl rfl)) (sa_cons (sv_v 7 rfl (.inl rfl)) (sa_cons (sv_v 8 rfl (.inl rfl)) sa_nil))))) (se_call F_move_alike (hr.mono (by decide)) rfl (fun _ _ _ _ _ _ us hl => match us, hl with | [_, _, _, _], _ => rfl) (sa_cons (sv_v 0 rfl (.inl rfl)) (sa_cons (sv_v 1 rfl (.inl rfl)) (sa_cons (sv_v 5 rfl (.inl rfl)) (sa_cons (sv_v 6 rfl (.inl rfl)) sa_nil)))))) (ss_one (ss_ret se_bl)) ss_nil) (ss_cons (ss_if (st_cmp ((op_neI.or (op_neD hr.room.units)).or op_ne) (nomark _) ok_ne (se_call F_lead_alike (hr.mono (by decide)) rfl (fun _ _ _ _ _ _ us hl => match us, hl with | [_, _, _, _], _ => rfl) (sa_cons (sv_v 0 rfl (.inl rfl)) (sa_cons (sv_v 1 rfl (.inl rfl)) (sa_cons (sv_v 7 rfl (.inl rfl)) (sa_cons (sv_v 8 rfl (.inl rfl)) sa_nil))))) (se_call F_lead_alike (hr.mono (by decide)) rfl (fun _ _ _ _ _ _ us hl => match us, hl with | [_, _, _, _], _ => rfl) (sa_cons (sv_v 0 rfl (.inl rfl)) (sa_cons (sv_v 1 rfl (.inl rfl)) (sa_cons (sv_v 5 rfl (.inl rfl)) (sa_cons (sv_v 6 rfl (.inl rfl)) sa_nil)))))) (ss_one (ss_ret se_bl)) ss_nil) (ss_cons (ss_set 4 sc.nd rfl (.inl rfl) (se_call F_moving_difference (hr.mono (by decide)) rfl (fun _ _ _ _ _ _ us hl => match us, hl with | [_, _, _, _], _ => rfl) (sa_cons (sv_v 0 rfl (.inl rfl)) (sa_cons (sv_v 1 rfl (.inl rfl)) (sa_cons (sv_v 5 rfl (.inl rfl)) (sa_cons (sv_v 6 rfl (.inl rfl)) sa_nil)))))) (ss_cons (ss_if (st_notN (se_v 4 rfl (.inl rfl))) (ss_cons (ss_set 9 sc.nd rfl (.inl rfl) (se_tup (sd_cons (se_mod (se_add (se_ix (fun _ _ => rfl) (se_v 4 rfl (.inl rfl)) se_int) (se_v 3 rfl (.inl rfl))) (se_v 0 rfl (.inl rfl))) (sd_cons (se_ix (fun _ _ => rfl) (se_v 4 rfl (.inl rfl)) se_int) sd_nil)))) (ss_one (ss_if (st_not (st_tru (se_call F_shows_difference (hr.mono (by decide)) rfl (fun _ _ _ _ _ _ us hl => match us, hl with | [_, _, _, _, _], _ => rfl) (sa_cons (sv_v 0 rfl (.inl rfl)) (sa_cons (sv_v 1 rfl (.inl rfl)) (sa_cons (sv_v 7 rfl (.inl rfl)) (sa_cons (sv_v 8 rfl (.inl rfl)) (sa_cons (sv_v 9 rfl (.inl rfl)) sa_nil)))))))) (ss_one (ss_ret se_bl)) ss_nil))) ss_nil) (ss_one (ss_ret (se_cmp ((op_eqI.or (op_eqD hr.room.units)).or op_eq) (nomark _) ok_eq (se_call F_average (hr.mono (by decide)) rfl (fun _ _ _ _ _ _ us hl => match us, hl with | [_, _, _], _ => rfl) (sa_cons (sv_v 0 rfl (.inl rfl)) (sa_cons (sv_v 1 rfl (.inl rfl)) (sa_cons (sv_v 7 rfl (.inl rfl)) sa_nil)))) (se_call F_average (hr.mono (by decide)) rfl (fun _ _ _ _ _ _ us hl => match us, hl with | [_, _, _], _ => rfl) (sa_cons (sv_v 0 rfl (.inl rfl)) (sa_cons (sv_v 1 rfl (.inl rfl)) (sa_cons (sv_v 5 rfl (.inl rfl)) sa_nil)))))))))))))
abbrev N_law_right : List Str := ["_law_box_here", "_law_span_here", "_law_there", "_law_due", "_law_folk_here", "_law_tour_here", "_law_more", "_law_by", "_law_far", "_law_crowd_here", "_law_mine", "_law_early", "_law_late", "_law_who", "_law_mark"]
theorem sc_law_right : FnScope N_law_right ["_law_box_here"] (defScope s_law_right) := ⟨rfl, rfl, rfl, by decide +kernel, rfl, by decide +kernel, by decide +kernel⟩
theorem f_law_right (B : Bt mg) (F_law_span : Fc P w K mg base "_law_span" s_law_span ["_law_box_here", "_law_most"] 2 (cF m_law_span)) (F_law_folk : Fc P w K mg base "_law_folk" s_law_folk ["_law_box_here", "_law_span_here"] 2 (cF m_law_folk)) (F_law_tour : Fc P w K mg base "_law_tour" s_law_tour ["_law_box_here", "_law_span_here", "_law_most"] 3 (cF m_law_tour)) (F_law_near : Fc P w K mg base "_law_near" s_law_near ["_law_box_here", "_law_span_here", "_law_tour_here"] 2 (cF m_law_near)) (F_law_take : Fc P w K mg base "_law_take" s_law_take ["_law_box_here", "_law_below"] 1 (cF takeF)) (F_law_lists_right : Fc P w K mg base "_law_lists_right" s_law_lists_right ["_law_span_here", "_law_folk_here", "_law_tours", "_law_by"] 10 (cF m_law_lists_right)) (F_law_crowd : Fc P w K mg base "_law_crowd" s_law_crowd ["_law_box_here", "_law_span_here", "_law_folk_here"] 3 (cF m_law_crowd)) (F_law_moved_on : Fc P w K mg base "_law_moved_on" s_law_moved_on ["_law_span_here", "_law_some", "_law_by"] 1 (cF m_law_moved_on)) (F_course : Fc P w K mg base "course" s_course ["size", "table", "calls"] 6 (cF m_course)) (F_table_after_many : Fc P w K mg base "table_after_many" s_table_after_many ["size", "table", "calls", "many"] 8 (cF m_table_after_many)) (F_steps_after_many : Fc P w K mg base "steps_after_many" s_steps_after_many ["size", "table", "calls", "many"] 8 (cF m_steps_after_many))  {f : Addr} {fd : FuncData} (F : Fun K "_law_right" "_law_right" s_law_right f fd) (hm : mg "_law_right" = some (.ref f)) : Fc P w K mg base "_law_right" s_law_right ["_law_box_here"] 11 (cF m_law_right) := by
  have sc := sc_law_right
  refine fc_body (k := 10) b_law_right (m := m_law_right) (by unfold m_law_right; rfl) F hm sc rfl rfl fun b cdv A outer s H E hr => ?_
  exact (ss_cons (ss_set 1 sc.nd rfl (.inr rfl) (se_call F_law_span (hr.mono (by decide)) rfl (fun _ _ _ _ _ _ us hl => match us, hl with | [_, _], _ => rfl) (sa_cons (sv_v 0 rfl (.inl rfl)) (sa_cons (sv_e se_int) sa_nil)))) (ss_cons (ss_par 4 5 rfl sc.nd rfl rfl (by decide) rfl rfl rfl (sd_cons (se_call F_law_folk (hr.mono (by decide)) rfl (fun _ _ _ _ _ _ us hl => match us, hl with | [_, _], _ => rfl) (sa_cons (sv_v 0 rfl (.inl rfl)) (sa_cons (sv_v 1 rfl (.inr (.inl rfl))) sa_nil))) (sd_cons (se_call F_law_tour (hr.mono (by decide)) rfl (fun _ _ _ _ _ _ us hl => match us, hl with | [_, _, _], _ => rfl) (sa_cons (sv_v 0 rfl (.inl rfl)) (sa_cons (sv_v 1 rfl (.inr (.inl rfl))) (sa_cons (sv_e se_int) sa_nil)))) sd_nil))) (ss_cons (ss_asg (.tp [6, 7, 8]) (pg_tup rfl (pgs_cons (pg_name (i := 6) sc.nd rfl (.inl rfl)) (pgs_cons (pg_name (i := 7) sc.nd rfl (.inr rfl)) (pgs_cons (pg_name (i := 8) sc.nd rfl (.inl rfl)) pgs_nil)))) (se_tup (sd_cons (se_call F_law_near (hr.mono (by decide)) rfl (fun _ _ _ _ _ _ us hl => match us, hl with | [_, _, _], _ => rfl) (sa_cons (sv_v 0 rfl (.inl rfl)) (sa_cons (sv_v 1 rfl (.inr (.inl rfl))) (sa_cons (sv_v 5 rfl (.inl rfl)) sa_nil)))) (sd_cons (se_call F_law_take (hr.mono (by decide)) rfl (fun _ _ _ _ _ _ us hl => match us, hl with | [_, _], _ => rfl) (sa_cons (sv_v 0 rfl (.inl rfl)) (sa_cons (sv_v 1 rfl (.inr (.inl rfl))) sa_nil))) (sd_cons (se_call F_law_take (hr.mono (by decide)) rfl (fun _ _ _ _ _ _ us hl => match us, hl with | [_, _], _ => rfl) (sa_cons (sv_v 0 rfl (.inl rfl)) (sa_cons (sv_e (se_pow se_int se_int)) sa_nil))) sd_nil))))) (ss_cons (ss_if (st_not (st_tru (se_call F_law_lists_right (hr.mono (by decide)) rfl (fun _ _ _ _ _ _ us hl => match us, hl with | [_, _, _, _], _ => rfl) (sa_cons (sv_v 1 rfl (.inr (.inl rfl))) (sa_cons (sv_v 4 rfl (.inl rfl)) (sa_cons (sv_e (se_tup (sd_cons (se_v 5 rfl (.inl rfl)) (sd_cons (se_v 6 rfl (.inl rfl)) sd_nil)))) (sa_cons (sv_v 7 rfl (.inr (.inl rfl))) sa_nil))))))) (ss_one (ss_ret se_bl)) ss_nil) (ss_cons (ss_par 9 10 rfl sc.nd rfl rfl (by decide) rfl rfl rfl (sd_cons (se_call F_law_crowd (hr.mono (by decide)) rfl (fun _ _ _ _ _ _ us hl => match us, hl with | [_, _, _], _ => rfl) (sa_cons (sv_v 0 rfl (.inl rfl)) (sa_cons (sv_v 1 rfl (.inr (.inl rfl))) (sa_cons (sv_v 4 rfl (.inl rfl)) sa_nil)))) (sd_cons (se_call F_law_moved_on (hr.mono (by decide)) rfl (fun _ _ _ _ _ _ us hl => match us, hl with | [_, _, _], _ => rfl) (sa_cons (sv_v 1 rfl (.inr (.inl rfl))) (sa_cons (sv_v 5 rfl (.inl rfl)) (sa_cons (sv_v 7 rfl (.inr (.inl rfl))) sa_nil)))) sd_nil))) (ss_cons (ss_tupT 2 (by decide) sc.nd rfl (.inr rfl) B rfl (se_sorted B rfl (se_call F_law_moved_on (hr.mono (by decide)) rfl (fun _ _ _ _ _ _ us hl => match us, hl with | [_, _, _], _ => rfl) (sa_cons (sv_v 1 rfl (.inr (.inl rfl))) (sa_cons (sv_v 9 rfl (.inl rfl)) (sa_cons (sv_v 7 rfl (.inr (.inl rfl))) sa_nil)))))) (ss_cons (ss_if (st_cmp ((op_neI.or (op_neD hr.room.units)).or op_ne) (nomark _) ok_ne (se_call F_course (hr.mono (by decide)) rfl (fun _ _ _ _ _ _ us hl => match us, hl with | [_, _, _], _ => rfl) (sa_cons (sv_v 1 rfl (.inr (.inl rfl))) (sa_cons (sv_e (se_vT 2 rfl (.inr (.inl rfl)))) (sa_cons (sv_v 10 rfl (.inl rfl)) sa_nil)))) (se_call F_course (hr.mono (by decide)) rfl (fun _ _ _ _ _ _ us hl => match us, hl with | [_, _, _], _ => rfl) (sa_cons (sv_v 1 rfl (.inr (.inl rfl))) (sa_cons (sv_v 9 rfl (.inl rfl)) (sa_cons (sv_v 5 rfl (.inl rfl)) sa_nil))))) (ss_one (ss_ret se_bl)) ss_nil) (ss_cons (ss_set 3 sc.nd rfl (.inl rfl) (se_tuple B rfl (se_sorted B rfl (se_call F_law_moved_on (hr.mono (by decide)) rfl (fun _ _ _ _ _ _ us hl => match us, hl with | [_, _, _], _ => rfl) (sa_cons (sv_v 1 rfl (.inr (.inl rfl))) (sa_cons (sv_e (se_call F_table_after_many (hr.mono (by decide)) rfl (fun _ _ _ _ _ _ us hl => match us, hl with | [_, _, _, _], _ => rfl) (sa_cons (sv_v 1 rfl (.inr (.inl rfl))) (sa_cons (sv_v 9 rfl (.inl rfl)) (sa_cons (sv_v 5 rfl (.inl rfl)) (sa_cons (sv_v 8 rfl (.inl rfl)) sa_nil)))))) (sa_cons (sv_v 7 rfl (.inr (.inl rfl))) sa_nil))))))) (ss_cons (ss_if (st_cmp ((op_neI.or (op_neD hr.room.units)).or op_ne) (nomark _) ok_ne (se_call F_table_after_many (hr.mono (by decide)) rfl (fun _ _ _ _ _ _ us hl => match us, hl with | [_, _, _, _], _ => rfl) (sa_cons (sv_v 1 rfl (.inr (.inl rfl))) (sa_cons (sv_e (se_vT 2 rfl (.inr (.inl rfl)))) (sa_cons (sv_v 10 rfl (.inl rfl)) (sa_cons (sv_v 8 rfl (.inl rfl)) sa_nil))))) (se_v 3 rfl (.inl rfl))) (ss_one (ss_ret se_bl)) ss_nil) (ss_cons (ss_asg (.tp [11, 12]) (pg_tup rfl (pgs_cons (pg_name (i := 11) sc.nd rfl (.inr rfl)) (pgs_cons (pg_name (i := 12) sc.nd rfl (.inr rfl)) pgs_nil))) (se_tup (sd_cons (se_call F_steps_after_many (hr.mono (by decide)) rfl (fun _ _ _ _ _ _ us hl => match us, hl with | [_, _, _, _], _ => rfl) (sa_cons (sv_v 1 rfl (.inr (.inl rfl))) (sa_cons (sv_v 9 rfl (.inl rfl)) (sa_cons (sv_v 5 rfl (.inl rfl)) (sa_cons (sv_v 8 rfl (.inl rfl)) sa_nil))))) (sd_cons (se_call F_steps_after_many (hr.mono (by decide)) rfl (fun _ _ _ _ _ _ us hl => match us, hl with | [_, _, _, _], _ => rfl) (sa_cons (sv_v 1 rfl (.inr (.inl rfl))) (sa_cons (sv_e (se_vT 2 rfl (.inr (.inl rfl)))) (sa_cons (sv_v 10 rfl (.inl rfl)) (sa_cons (sv_v 8 rfl (.inl rfl)) sa_nil))))) sd_nil)))) (ss_one (ss_ret (se_all B rfl rfl (se_lc (own := [("_law_mark", 14), ("_law_who", 13)]) (.tp [13, 14]) rfl sc.nd (blkOk_by (N := N_law_right) (sc := defScope s_law_right) (by decide +kernel)) (by decide) (fun _ _ _ _ _ => pg_tup rfl (pgs_cons (pg_name (i := 13) sc.nd rfl (.inl rfl)) (pgs_cons (pg_name (i := 14) sc.nd rfl (.inl rfl)) pgs_nil))) (si_en B rfl (se_v 9 rfl (.inl rfl))) (fun _ _ _ _ _ => (se_cmp ((op_eqI.or (op_eqD hr.room.units)).or op_eq) (nomark _) ok_eq (se_ix (fun _ _ => rfl) (se_v 12) (se_tix 2 (se_mod (se_add (se_v 14) (se_v 7)) (se_v 1)))) (se_ix (fun _ _ => rfl) (se_v 11) (se_v 13))))))))))))))))))
theorem sc_law_box : FnScope ["_law_cells_here", "_law_k", "_law_cell"] ["_law_cells_here", "_law_k"] (defScope s_law_box) := ⟨rfl, rfl, rfl, by decide +kernel, rfl, by decide +kernel, by decide +kernel⟩
def c_law_box : Ct := fun os μ Φ => ∃ (cs : List Int) (k : Nat), os = [.im (.list (iL cs)), .im (.int (k : Int))] ∧ k < cs.length ∧ ∀ b p q, μ b = none → Φ (.own b) (μ.put b (bx p q 0))
theorem f_law_box (B : Bt mg) {f : Addr} {fd : FuncData} (F : Fun K "_law_box" "_law_box" s_law_box f fd) (hm : mg "_law_box" = some (.ref f)) : Fc P w K mg base "_law_box" s_law_box ["_law_cells_here", "_law_k"] 1 c_law_box := by
  have sc := sc_law_box
  refine fc_of F hm sc (fun os μ Φ h => ?_) fun cdv A outer s H E os μ Φ hr h => ?_
  · obtain ⟨cs, k, rfl, _⟩ := h
    rfl
  · obtain ⟨cs, k, rfl, hk, q⟩ := h
    refine dss_cons (ds_set 2 sc.nd rfl (.inl rfl) (de_ix (fun _ _ => rfl) (de_var 0 rfl (.inl rfl) rfl (de_var 1 rfl (.inl rfl) rfl ⟨_, _, _, .lst _, rfl, atI_iL hk, ?_⟩))))
    refine dss_one (ds_ret (de_lstO (da_cons (de_mul (de_abs B rfl (de_var 2 rfl (.inl rfl) rfl ⟨_, rfl, de_int1 B rfl (de_ge (de_abs B rfl (de_var 2 rfl (.inl rfl) rfl ⟨_, rfl, de_pow (de_int (de_int ⟨_, _, rfl, rfl, ⟨by decide, by decide, by decide⟩, ⟨_, _, rfl, rfl, .inr ⟨_, rfl, ⟨_, _, rfl, rfl, .inr c01, da_cons (de_add (de_add (de_mod (de_var 2 rfl (.inl rfl) rfl (de_int ⟨_, _, rfl, rfl, by decide, de_mul (de_int (de_var 1 rfl (.inl rfl) rfl ⟨_, _, rfl, rfl, .inl ⟨by decide, by decide⟩, .inl ⟨_, _, rfl, rfl, de_int (.inl ⟨_, _, rfl, rfl, da_cons (de_int (da_nil ⟨lz rfl, fun b hb => q b _ _ hb⟩))⟩)⟩⟩))⟩)))))⟩⟩⟩⟩))⟩)))⟩))))))
theorem sc_law_cells : FnScope ["_law_script", "_law_utmost", "_law_cells_here", "_law_k", "_law_cell"] ["_law_script", "_law_utmost"] (defScope s_law_cells) := ⟨rfl, rfl, rfl, by decide +kernel, rfl, by decide +kernel, by decide +kernel⟩
def c_law_cells (K : PySem.W.Frag) : Ct := fun os μ Φ => ∃ (ns : List Int) (u : Nat), os = [.scr K ns, .im (.int (u : Int))] ∧ 0 < u ∧ u ≤ 1000 ∧ ns.length ≤ 63 ∧ ∀ cs : List Int, cs ≠ [] → cs.length ≤ u → Φ (.im (.list (iL cs))) μ
theorem f_law_cells (B : Bt mg) {f : Addr} {fd : FuncData} (F : Fun K "_law_cells" "_law_cells" s_law_cells f fd) (hm : mg "_law_cells" = some (.ref f)) : Fc P w K mg base "_law_cells" s_law_cells ["_law_script", "_law_utmost"] 1 (c_law_cells K) := by
  have sc := sc_law_cells
  refine fc_of F hm sc (fun os μ Φ h => ?_) fun cdv A outer s H E os μ Φ hr h => ?_
  · obtain ⟨ns, u, rfl, _⟩ := h
    rfl
  · obtain ⟨ns, u, rfl, u0, u1, hn, q⟩ := h
    refine dss_cons (ds_set 2 sc.nd rfl (.inl rfl) (de_orL (de_listO B rfl (de_slS (de_var 0 rfl (.inl rfl) rfl (de_var 1 rfl (.inl rfl) rfl ⟨_, rfl, ⟨_, rfl, ⟨_, .lst _, fun p hp => ?_⟩⟩⟩))))))
    rw [cutI_to]
    have go : ∀ (p : Addr) (μ1 : Mu) (cs : List Int), Sub μ μ1 → μ p = none → μ1 p = some ((iL cs).map OV.im) → cs ≠ [] → cs.length ≤ u → (u < ns.length → cs.length = u) →
        DSs (cxOf CX0 P w K mg base ["_law_script", "_law_utmost", "_law_cells_here", "_law_k", "_law_cell"] "_law_cells" (defScope s_law_cells) f cdv A outer s H E).nox (defBody s_law_cells).tail [some (.scr K ns), some (.im (.int (u : Int))), some (.own p), none, none] μ1 { nx := fun _ μ' => Φ (.im .none) μ', rt := Φ } := by
      intro p μ1 cs hs hp h1 hc hcl hcu
      refine dss_cons (ds_for (.tp [3, 4]) PassesOwn.never rfl (pg_tup rfl (pgs_cons (pg_name (i := 3) sc.nd rfl (.inl rfl)) (pgs_cons (pg_name (i := 4) sc.nd rfl (.inl rfl)) pgs_nil))) (di_en B rfl (de_slS (de_var 0 rfl (.inl rfl) rfl (de_var 1 rfl (.inl rfl) rfl ⟨_, rfl, de_int ⟨_, rfl, ⟨_, rfl, ⟨_, .lst, ?_⟩⟩⟩⟩)))))
      refine ⟨fun i ρ' μ' => ∃ cs' x y, ρ' = [some (.scr K ns), some (.im (.int (u : Int))), some (.own p), x, y] ∧ Sub μ μ' ∧ μ' p = some ((iL cs').map OV.im) ∧ cs'.length = cs.length, ⟨cs, none, none, rfl, hs, h1, rfl⟩, fun _ _ _ _ => trivial, fun i z ρ' μ' hz hP => ?_, fun ρ' μ' hP => ?_⟩
      · obtain ⟨cs', x, y, rfl, hs', hp', hl⟩ := hP
        obtain ⟨d, hd, rfl⟩ := prs_at hz
        obtain ⟨c, hc1, rfl⟩ := iL_get hd
        have hi := (List.getElem?_eq_some_iff.mp hc1).1
        have hlen := cutI_len ns u 63
        have hi' : i < (cutI ns (some (u : Int)) (some ((63 : Nat) : Int))).length := hi
        have hul : cs'.length = u := by rw [hl]; exact hcu (by omega)
        refine ⟨_, rfl, ?_⟩
        have em : ((i : Int) % (u : Int)) = ((i % u : Nat) : Int) := by omega
        have hm' : i % u < cs'.length := by rw [hul]; exact Nat.mod_lt _ u0
        have hix : ixN ((iL cs').map OV.im).length ((i : Int) % (u : Int)) = some (i % u) := by
          rw [em]
          exact ixN_nat (by rw [List.length_map, List.length_map]; exact hm')
        refine dss_one (ds_sub (de_add (de_ix (fun _ _ => rfl) (de_var 2 rfl (.inl rfl) rfl (de_mod (de_var 3 rfl (.inl rfl) rfl (de_var 1 rfl (.inl rfl) rfl ⟨_, _, rfl, rfl, by omega, ⟨_, _, _, .own hp', rfl, (by rw [em]; exact atI_iL hm'), de_mul (de_var 4 rfl (.inl rfl) rfl (de_add (de_var 3 rfl (.inl rfl) rfl (de_int (.inl ⟨_, _, rfl, rfl, ⟨_, _, rfl, rfl, .inr ⟨by omega, by omega⟩, .inl ⟨_, _, rfl, rfl, de_var 2 rfl (.inl rfl) rfl (de_mod (de_var 3 rfl (.inl rfl) rfl (de_var 1 rfl (.inl rfl) rfl ⟨_, _, rfl, rfl, by omega, ⟨_, _, _, _, rfl, rfl, hp', hix, ?_⟩⟩)))⟩⟩⟩)))))⟩⟩)))))) (hsub := pg_sub pwe pwe set_list))
        refine ⟨cs'.set (i % u) (cs'[i % u] + c * ((i : Int) + 2)), _, _, rfl, fun a l e => ?_, ?_, by rw [List.length_set, hl]⟩
        · rw [put_ne (ne_own e hp)]
          exact hs' a l e
        · rw [put_same, ← List.map_set, ← List.map_set]
      · obtain ⟨cs', x, y, rfl, hs', hp', hl⟩ := hP
        refine dss_frz (i := 2) rfl hp' (dss_drop (μ' := μ) (fun a l e => ?_) (dss_one (ds_ret (de_var 2 rfl (.inl rfl) rfl (q cs' ?_ ?_)))))
        · show (if a = p then none else μ' a) = some l
          rw [if_neg (ne_own e hp)]
          exact hs' a l e
        · intro e
          rw [e] at hl
          exact hc (List.length_eq_zero_iff.mp hl.symm)
        · omega
    by_cases hne : ns.take u = []
    · refine ⟨[], ?_, ?_⟩
      · rw [hne]
        exact .own put_same
      · rw [if_neg (by simp)]
        refine de_one (de_lstO (da_cons (de_int (da_nil ⟨lz rfl, fun p2 hp2 => ?_⟩))))
        have hp3 : μ p2 = none := by
          cases z : μ p2 with
          | none => rfl
          | some l =>
            rw [put_ne (ne_own z hp), z] at hp2
            cases hp2
        refine go p2 _ [0] (fun a l e => ?_) hp3 put_same (by simp) (by simp; omega) fun hu => ?_
        · rw [put_ne (ne_own e hp3), put_ne (ne_own e hp)]
          exact e
        · have := congrArg List.length hne
          rw [List.length_take, List.length_nil] at this
          omega
    · refine ⟨iL (ns.take u), .own put_same, ?_⟩
      rw [if_pos (by simpa using hne)]
      refine go p _ (ns.take u) (fun a l e => ?_) hp put_same hne (by rw [List.length_take]; omega) fun hu => by rw [List.length_take]; omega
      rw [put_ne (ne_own e hp)]
      exact e
abbrev N_law : List Str := ["_law_script", "_law_cells_here", "_law_k"]
theorem sc_law : FnScope N_law ["_law_script"] (defScope s_law) := ⟨rfl, rfl, rfl, by decide +kernel, rfl, by decide +kernel, by decide +kernel⟩
theorem f_law {kr : Nat} (B : Bt mg) (F_law_cells : Fc P w K mg base "_law_cells" s_law_cells ["_law_script", "_law_utmost"] 1 (c_law_cells K)) (F_law_box : Fc P w K mg base "_law_box" s_law_box ["_law_cells_here", "_law_k"] 1 c_law_box) (F_law_right : Fc P w K mg base "_law_right" s_law_right ["_law_box_here"] (kr + 1) cR) {f : Addr} {fd : FuncData} (F : Fun K "law" "law" s_law f fd) : FnG P w K mg base CX0 (kr + 2) f fd ["_law_script"] (spOf (c_law K)) := by
  have sc := sc_law
  refine fg_of F sc (fun os μ Φ h => ?_) fun cdv A outer s H E os μ Φ hr h => ?_
  · obtain ⟨ns, rfl, _⟩ := h
    rfl
  · obtain ⟨ns, rfl, hn, k⟩ := h
    refine dss_cons (ds_set 1 sc.nd rfl (.inl rfl) (de_call F_law_cells (hr.mono (by omega)) rfl (fun _ _ _ _ _ _ us hl => match us, hl with | [_, _], _ => rfl) (da_cons (de_var 0 rfl (.inl rfl) rfl (da_cons (de_int (da_nil ⟨ns, 2, rfl, by decide, by decide, hn, fun cs hc hcl => ?_⟩)))))))
    refine dss_cons (ds_for (.nm 2) PassesOwn.never rfl (pg_name (i := 2) sc.nd rfl (.inl rfl)) (di_range1 B rfl (de_len B rfl (de_var 1 rfl (.inl rfl) rfl ⟨_, .lst _, ⟨_, rfl, by omega, ?_, ?_⟩⟩))))
    · rw [List.length_map, List.length_map]
      omega
    refine ⟨fun i ρ' μ' => ∃ x, ρ' = [some (.scr K ns), some (.im (.list (iL cs))), x], ⟨none, rfl⟩, fun _ _ _ _ => trivial, fun i z ρ' μ' hz hP => ?_, fun ρ' μ' hP => ?_⟩
    · obtain ⟨x, rfl⟩ := hP
      have hi : i < cs.length := by simpa using (List.getElem?_eq_some_iff.mp hz).1
      simp only [List.length_map, Int.toNat_natCast, List.getElem?_map, List.getElem?_range hi, Option.map_some, Option.some.injEq] at hz
      subst hz
      refine ⟨_, rfl, ?_⟩
      refine dss_one (ds_if (dt_not (dt_val (de_call F_law_right hr rfl (fun _ _ _ _ _ _ us hl => match us, hl with | [_], _ => rfl) (da_cons (de_call F_law_box (hr.mono (by omega)) rfl (fun _ _ _ _ _ _ us hl => match us, hl with | [_, _], _ => rfl) (da_cons (de_var 1 rfl (.inl rfl) rfl (da_cons (de_var 2 rfl (.inl rfl) rfl (da_nil ⟨cs, i, rfl, hi, fun b p q hb => da_nil ⟨b, p, q, 0, rfl, put_same, fun μ3 s3 => ⟨true, rfl, ?_⟩⟩⟩)))))))))))
      exact iteF (dss_nil ⟨_, rfl⟩)
    · obtain ⟨x, rfl⟩ := hP
      exact dss_one (ds_ret (de_bl (k _)))
end
theorem all_mk {l : PySem.W.OpenLaw} {w : World} {K : PySem.W.Frag} {h : Heap} {mg : Str → Option Value} {fa : Addr} (X : K.In h) (G : h.Ns mainGlobals mg) (hfa : mg "law" = some (.ref fa))
    {f0 : Addr} {od0 an0 : Option Addr} {sl0 : Array (Option Value)} {oc0 kV0 dc0 pm0 cd0 ct0 : Value} (a0 : PySem.W.nsIn K mainGlobals "is_chair" = some (some (.ref f0))) (l0 : K.lookup f0 = some ⟨oc0, od0, .func (PySem.W.fnOf "is_chair" "is_chair" (defArgs s_is_chair) (defBody s_is_chair) (defScope s_is_chair) .none kV0 dc0 pm0 an0 cd0 ct0), sl0⟩) (c0 : PySem.W.codeIn K cd0 "is_chair" = true) (k0 : PySem.W.keepIn K (.ref f0) = true)
    {f1 : Addr} {od1 an1 : Option Addr} {sl1 : Array (Option Value)} {oc1 kV1 dc1 pm1 cd1 ct1 : Value} (a1 : PySem.W.nsIn K mainGlobals "all_chairs" = some (some (.ref f1))) (l1 : K.lookup f1 = some ⟨oc1, od1, .func (PySem.W.fnOf "all_chairs" "all_chairs" (defArgs s_all_chairs) (defBody s_all_chairs) (defScope s_all_chairs) .none kV1 dc1 pm1 an1 cd1 ct1), sl1⟩) (c1 : PySem.W.codeIn K cd1 "all_chairs" = true) (k1 : PySem.W.keepIn K (.ref f1) = true)
    {f2 : Addr} {od2 an2 : Option Addr} {sl2 : Array (Option Value)} {oc2 kV2 dc2 pm2 cd2 ct2 : Value} (a2 : PySem.W.nsIn K mainGlobals "mover" = some (some (.ref f2))) (l2 : K.lookup f2 = some ⟨oc2, od2, .func (PySem.W.fnOf "mover" "mover" (defArgs s_mover) (defBody s_mover) (defScope s_mover) .none kV2 dc2 pm2 an2 cd2 ct2), sl2⟩) (c2 : PySem.W.codeIn K cd2 "mover" = true) (k2 : PySem.W.keepIn K (.ref f2) = true)
    {f3 : Addr} {od3 an3 : Option Addr} {sl3 : Array (Option Value)} {oc3 kV3 dc3 pm3 cd3 ct3 : Value} (a3 : PySem.W.nsIn K mainGlobals "seats_called" = some (some (.ref f3))) (l3 : K.lookup f3 = some ⟨oc3, od3, .func (PySem.W.fnOf "seats_called" "seats_called" (defArgs s_seats_called) (defBody s_seats_called) (defScope s_seats_called) .none kV3 dc3 pm3 an3 cd3 ct3), sl3⟩) (c3 : PySem.W.codeIn K cd3 "seats_called" = true) (k3 : PySem.W.keepIn K (.ref f3) = true)
    {f4 : Addr} {od4 an4 : Option Addr} {sl4 : Array (Option Value)} {oc4 kV4 dc4 pm4 cd4 ct4 : Value} (a4 : PySem.W.nsIn K mainGlobals "seats_along" = some (some (.ref f4))) (l4 : K.lookup f4 = some ⟨oc4, od4, .func (PySem.W.fnOf "seats_along" "seats_along" (defArgs s_seats_along) (defBody s_seats_along) (defScope s_seats_along) .none kV4 dc4 pm4 an4 cd4 ct4), sl4⟩) (c4 : PySem.W.codeIn K cd4 "seats_along" = true) (k4 : PySem.W.keepIn K (.ref f4) = true)
    {f5 : Addr} {od5 an5 : Option Addr} {sl5 : Array (Option Value)} {oc5 kV5 dc5 pm5 cd5 ct5 : Value} (a5 : PySem.W.nsIn K mainGlobals "as_table" = some (some (.ref f5))) (l5 : K.lookup f5 = some ⟨oc5, od5, .func (PySem.W.fnOf "as_table" "as_table" (defArgs s_as_table) (defBody s_as_table) (defScope s_as_table) .none kV5 dc5 pm5 an5 cd5 ct5), sl5⟩) (c5 : PySem.W.codeIn K cd5 "as_table" = true) (k5 : PySem.W.keepIn K (.ref f5) = true)
    {f6 : Addr} {od6 an6 : Option Addr} {sl6 : Array (Option Value)} {oc6 kV6 dc6 pm6 cd6 ct6 : Value} (a6 : PySem.W.nsIn K mainGlobals "steps" = some (some (.ref f6))) (l6 : K.lookup f6 = some ⟨oc6, od6, .func (PySem.W.fnOf "steps" "steps" (defArgs s_steps) (defBody s_steps) (defScope s_steps) .none kV6 dc6 pm6 an6 cd6 ct6), sl6⟩) (c6 : PySem.W.codeIn K cd6 "steps" = true) (k6 : PySem.W.keepIn K (.ref f6) = true)
    {f7 : Addr} {od7 an7 : Option Addr} {sl7 : Array (Option Value)} {oc7 kV7 dc7 pm7 cd7 ct7 : Value} (a7 : PySem.W.nsIn K mainGlobals "pack_seats" = some (some (.ref f7))) (l7 : K.lookup f7 = some ⟨oc7, od7, .func (PySem.W.fnOf "pack_seats" "pack_seats" (defArgs s_pack_seats) (defBody s_pack_seats) (defScope s_pack_seats) .none kV7 dc7 pm7 an7 cd7 ct7), sl7⟩) (c7 : PySem.W.codeIn K cd7 "pack_seats" = true) (k7 : PySem.W.keepIn K (.ref f7) = true)
    {f8 : Addr} {od8 an8 : Option Addr} {sl8 : Array (Option Value)} {oc8 kV8 dc8 pm8 cd8 ct8 : Value} (a8 : PySem.W.nsIn K mainGlobals "pack" = some (some (.ref f8))) (l8 : K.lookup f8 = some ⟨oc8, od8, .func (PySem.W.fnOf "pack" "pack" (defArgs s_pack) (defBody s_pack) (defScope s_pack) .none kV8 dc8 pm8 an8 cd8 ct8), sl8⟩) (c8 : PySem.W.codeIn K cd8 "pack" = true) (k8 : PySem.W.keepIn K (.ref f8) = true)
    {f9 : Addr} {od9 an9 : Option Addr} {sl9 : Array (Option Value)} {oc9 kV9 dc9 pm9 cd9 ct9 : Value} (a9 : PySem.W.nsIn K mainGlobals "moves_of" = some (some (.ref f9))) (l9 : K.lookup f9 = some ⟨oc9, od9, .func (PySem.W.fnOf "moves_of" "moves_of" (defArgs s_moves_of) (defBody s_moves_of) (defScope s_moves_of) .none kV9 dc9 pm9 an9 cd9 ct9), sl9⟩) (c9 : PySem.W.codeIn K cd9 "moves_of" = true) (k9 : PySem.W.keepIn K (.ref f9) = true)
    {f10 : Addr} {od10 an10 : Option Addr} {sl10 : Array (Option Value)} {oc10 kV10 dc10 pm10 cd10 ct10 : Value} (a10 : PySem.W.nsIn K mainGlobals "steps_of_one" = some (some (.ref f10))) (l10 : K.lookup f10 = some ⟨oc10, od10, .func (PySem.W.fnOf "steps_of_one" "steps_of_one" (defArgs s_steps_of_one) (defBody s_steps_of_one) (defScope s_steps_of_one) .none kV10 dc10 pm10 an10 cd10 ct10), sl10⟩) (c10 : PySem.W.codeIn K cd10 "steps_of_one" = true) (k10 : PySem.W.keepIn K (.ref f10) = true)
    {f11 : Addr} {od11 an11 : Option Addr} {sl11 : Array (Option Value)} {oc11 kV11 dc11 pm11 cd11 ct11 : Value} (a11 : PySem.W.nsIn K mainGlobals "steps_by" = some (some (.ref f11))) (l11 : K.lookup f11 = some ⟨oc11, od11, .func (PySem.W.fnOf "steps_by" "steps_by" (defArgs s_steps_by) (defBody s_steps_by) (defScope s_steps_by) .none kV11 dc11 pm11 an11 cd11 ct11), sl11⟩) (c11 : PySem.W.codeIn K cd11 "steps_by" = true) (k11 : PySem.W.keepIn K (.ref f11) = true)
    {f12 : Addr} {od12 an12 : Option Addr} {sl12 : Array (Option Value)} {oc12 kV12 dc12 pm12 cd12 ct12 : Value} (a12 : PySem.W.nsIn K mainGlobals "table_by" = some (some (.ref f12))) (l12 : K.lookup f12 = some ⟨oc12, od12, .func (PySem.W.fnOf "table_by" "table_by" (defArgs s_table_by) (defBody s_table_by) (defScope s_table_by) .none kV12 dc12 pm12 an12 cd12 ct12), sl12⟩) (c12 : PySem.W.codeIn K cd12 "table_by" = true) (k12 : PySem.W.keepIn K (.ref f12) = true)
    {f13 : Addr} {od13 an13 : Option Addr} {sl13 : Array (Option Value)} {oc13 kV13 dc13 pm13 cd13 ct13 : Value} (a13 : PySem.W.nsIn K mainGlobals "pack_followed" = some (some (.ref f13))) (l13 : K.lookup f13 = some ⟨oc13, od13, .func (PySem.W.fnOf "pack_followed" "pack_followed" (defArgs s_pack_followed) (defBody s_pack_followed) (defScope s_pack_followed) .none kV13 dc13 pm13 an13 cd13 ct13), sl13⟩) (c13 : PySem.W.codeIn K cd13 "pack_followed" = true) (k13 : PySem.W.keepIn K (.ref f13) = true)
    {f14 : Addr} {od14 an14 : Option Addr} {sl14 : Array (Option Value)} {oc14 kV14 dc14 pm14 cd14 ct14 : Value} (a14 : PySem.W.nsIn K mainGlobals "followed" = some (some (.ref f14))) (l14 : K.lookup f14 = some ⟨oc14, od14, .func (PySem.W.fnOf "followed" "followed" (defArgs s_followed) (defBody s_followed) (defScope s_followed) .none kV14 dc14 pm14 an14 cd14 ct14), sl14⟩) (c14 : PySem.W.codeIn K cd14 "followed" = true) (k14 : PySem.W.keepIn K (.ref f14) = true)
    {f15 : Addr} {od15 an15 : Option Addr} {sl15 : Array (Option Value)} {oc15 kV15 dc15 pm15 cd15 ct15 : Value} (a15 : PySem.W.nsIn K mainGlobals "repeated" = some (some (.ref f15))) (l15 : K.lookup f15 = some ⟨oc15, od15, .func (PySem.W.fnOf "repeated" "repeated" (defArgs s_repeated) (defBody s_repeated) (defScope s_repeated) .none kV15 dc15 pm15 an15 cd15 ct15), sl15⟩) (c15 : PySem.W.codeIn K cd15 "repeated" = true) (k15 : PySem.W.keepIn K (.ref f15) = true)
    {f16 : Addr} {od16 an16 : Option Addr} {sl16 : Array (Option Value)} {oc16 kV16 dc16 pm16 cd16 ct16 : Value} (a16 : PySem.W.nsIn K mainGlobals "moves_of_many" = some (some (.ref f16))) (l16 : K.lookup f16 = some ⟨oc16, od16, .func (PySem.W.fnOf "moves_of_many" "moves_of_many" (defArgs s_moves_of_many) (defBody s_moves_of_many) (defScope s_moves_of_many) .none kV16 dc16 pm16 an16 cd16 ct16), sl16⟩) (c16 : PySem.W.codeIn K cd16 "moves_of_many" = true) (k16 : PySem.W.keepIn K (.ref f16) = true)
    {f17 : Addr} {od17 an17 : Option Addr} {sl17 : Array (Option Value)} {oc17 kV17 dc17 pm17 cd17 ct17 : Value} (a17 : PySem.W.nsIn K mainGlobals "course" = some (some (.ref f17))) (l17 : K.lookup f17 = some ⟨oc17, od17, .func (PySem.W.fnOf "course" "course" (defArgs s_course) (defBody s_course) (defScope s_course) .none kV17 dc17 pm17 an17 cd17 ct17), sl17⟩) (c17 : PySem.W.codeIn K cd17 "course" = true) (k17 : PySem.W.keepIn K (.ref f17) = true)
    {f18 : Addr} {od18 an18 : Option Addr} {sl18 : Array (Option Value)} {oc18 kV18 dc18 pm18 cd18 ct18 : Value} (a18 : PySem.W.nsIn K mainGlobals "table_after_many" = some (some (.ref f18))) (l18 : K.lookup f18 = some ⟨oc18, od18, .func (PySem.W.fnOf "table_after_many" "table_after_many" (defArgs s_table_after_many) (defBody s_table_after_many) (defScope s_table_after_many) .none kV18 dc18 pm18 an18 cd18 ct18), sl18⟩) (c18 : PySem.W.codeIn K cd18 "table_after_many" = true) (k18 : PySem.W.keepIn K (.ref f18) = true)
    {f19 : Addr} {od19 an19 : Option Addr} {sl19 : Array (Option Value)} {oc19 kV19 dc19 pm19 cd19 ct19 : Value} (a19 : PySem.W.nsIn K mainGlobals "steps_after_many" = some (some (.ref f19))) (l19 : K.lookup f19 = some ⟨oc19, od19, .func (PySem.W.fnOf "steps_after_many" "steps_after_many" (defArgs s_steps_after_many) (defBody s_steps_after_many) (defScope s_steps_after_many) .none kV19 dc19 pm19 an19 cd19 ct19), sl19⟩) (c19 : PySem.W.codeIn K cd19 "steps_after_many" = true) (k19 : PySem.W.keepIn K (.ref f19) = true)
    {f20 : Addr} {od20 an20 : Option Addr} {sl20 : Array (Option Value)} {oc20 kV20 dc20 pm20 cd20 ct20 : Value} (a20 : PySem.W.nsIn K mainGlobals "lowest_terms" = some (some (.ref f20))) (l20 : K.lookup f20 = some ⟨oc20, od20, .func (PySem.W.fnOf "lowest_terms" "lowest_terms" (defArgs s_lowest_terms) (defBody s_lowest_terms) (defScope s_lowest_terms) .none kV20 dc20 pm20 an20 cd20 ct20), sl20⟩) (c20 : PySem.W.codeIn K cd20 "lowest_terms" = true) (k20 : PySem.W.keepIn K (.ref f20) = true)
    {f21 : Addr} {od21 an21 : Option Addr} {sl21 : Array (Option Value)} {oc21 kV21 dc21 pm21 cd21 ct21 : Value} (a21 : PySem.W.nsIn K mainGlobals "average" = some (some (.ref f21))) (l21 : K.lookup f21 = some ⟨oc21, od21, .func (PySem.W.fnOf "average" "average" (defArgs s_average) (defBody s_average) (defScope s_average) .none kV21 dc21 pm21 an21 cd21 ct21), sl21⟩) (c21 : PySem.W.codeIn K cd21 "average" = true) (k21 : PySem.W.keepIn K (.ref f21) = true)
    {f22 : Addr} {od22 an22 : Option Addr} {sl22 : Array (Option Value)} {oc22 kV22 dc22 pm22 cd22 ct22 : Value} (a22 : PySem.W.nsIn K mainGlobals "all_tables" = some (some (.ref f22))) (l22 : K.lookup f22 = some ⟨oc22, od22, .func (PySem.W.fnOf "all_tables" "all_tables" (defArgs s_all_tables) (defBody s_all_tables) (defScope s_all_tables) .none kV22 dc22 pm22 an22 cd22 ct22), sl22⟩) (c22 : PySem.W.codeIn K cd22 "all_tables" = true) (k22 : PySem.W.keepIn K (.ref f22) = true)
    {f23 : Addr} {od23 an23 : Option Addr} {sl23 : Array (Option Value)} {oc23 kV23 dc23 pm23 cd23 ct23 : Value} (a23 : PySem.W.nsIn K mainGlobals "all_led" = some (some (.ref f23))) (l23 : K.lookup f23 = some ⟨oc23, od23, .func (PySem.W.fnOf "all_led" "all_led" (defArgs s_all_led) (defBody s_all_led) (defScope s_all_led) .none kV23 dc23 pm23 an23 cd23 ct23), sl23⟩) (c23 : PySem.W.codeIn K cd23 "all_led" = true) (k23 : PySem.W.keepIn K (.ref f23) = true)
    {f24 : Addr} {od24 an24 : Option Addr} {sl24 : Array (Option Value)} {oc24 kV24 dc24 pm24 cd24 ct24 : Value} (a24 : PySem.W.nsIn K mainGlobals "all_differences" = some (some (.ref f24))) (l24 : K.lookup f24 = some ⟨oc24, od24, .func (PySem.W.fnOf "all_differences" "all_differences" (defArgs s_all_differences) (defBody s_all_differences) (defScope s_all_differences) .none kV24 dc24 pm24 an24 cd24 ct24), sl24⟩) (c24 : PySem.W.codeIn K cd24 "all_differences" = true) (k24 : PySem.W.keepIn K (.ref f24) = true)
    {f25 : Addr} {od25 an25 : Option Addr} {sl25 : Array (Option Value)} {oc25 kV25 dc25 pm25 cd25 ct25 : Value} (a25 : PySem.W.nsIn K mainGlobals "move_alike" = some (some (.ref f25))) (l25 : K.lookup f25 = some ⟨oc25, od25, .func (PySem.W.fnOf "move_alike" "move_alike" (defArgs s_move_alike) (defBody s_move_alike) (defScope s_move_alike) .none kV25 dc25 pm25 an25 cd25 ct25), sl25⟩) (c25 : PySem.W.codeIn K cd25 "move_alike" = true) (k25 : PySem.W.keepIn K (.ref f25) = true)
    {f26 : Addr} {od26 an26 : Option Addr} {sl26 : Array (Option Value)} {oc26 kV26 dc26 pm26 cd26 ct26 : Value} (a26 : PySem.W.nsIn K mainGlobals "moving_difference" = some (some (.ref f26))) (l26 : K.lookup f26 = some ⟨oc26, od26, .func (PySem.W.fnOf "moving_difference" "moving_difference" (defArgs s_moving_difference) (defBody s_moving_difference) (defScope s_moving_difference) .none kV26 dc26 pm26 an26 cd26 ct26), sl26⟩) (c26 : PySem.W.codeIn K cd26 "moving_difference" = true) (k26 : PySem.W.keepIn K (.ref f26) = true)
    {f27 : Addr} {od27 an27 : Option Addr} {sl27 : Array (Option Value)} {oc27 kV27 dc27 pm27 cd27 ct27 : Value} (a27 : PySem.W.nsIn K mainGlobals "shows_difference" = some (some (.ref f27))) (l27 : K.lookup f27 = some ⟨oc27, od27, .func (PySem.W.fnOf "shows_difference" "shows_difference" (defArgs s_shows_difference) (defBody s_shows_difference) (defScope s_shows_difference) .none kV27 dc27 pm27 an27 cd27 ct27), sl27⟩) (c27 : PySem.W.codeIn K cd27 "shows_difference" = true) (k27 : PySem.W.keepIn K (.ref f27) = true)
    {f28 : Addr} {od28 an28 : Option Addr} {sl28 : Array (Option Value)} {oc28 kV28 dc28 pm28 cd28 ct28 : Value} (a28 : PySem.W.nsIn K mainGlobals "lead_alike" = some (some (.ref f28))) (l28 : K.lookup f28 = some ⟨oc28, od28, .func (PySem.W.fnOf "lead_alike" "lead_alike" (defArgs s_lead_alike) (defBody s_lead_alike) (defScope s_lead_alike) .none kV28 dc28 pm28 an28 cd28 ct28), sl28⟩) (c28 : PySem.W.codeIn K cd28 "lead_alike" = true) (k28 : PySem.W.keepIn K (.ref f28) = true)
    {f29 : Addr} {od29 an29 : Option Addr} {sl29 : Array (Option Value)} {oc29 kV29 dc29 pm29 cd29 ct29 : Value} (a29 : PySem.W.nsIn K mainGlobals "leading_difference" = some (some (.ref f29))) (l29 : K.lookup f29 = some ⟨oc29, od29, .func (PySem.W.fnOf "leading_difference" "leading_difference" (defArgs s_leading_difference) (defBody s_leading_difference) (defScope s_leading_difference) .none kV29 dc29 pm29 an29 cd29 ct29), sl29⟩) (c29 : PySem.W.codeIn K cd29 "leading_difference" = true) (k29 : PySem.W.keepIn K (.ref f29) = true)
    {f30 : Addr} {od30 an30 : Option Addr} {sl30 : Array (Option Value)} {oc30 kV30 dc30 pm30 cd30 ct30 : Value} (a30 : PySem.W.nsIn K mainGlobals "_law_box" = some (some (.ref f30))) (l30 : K.lookup f30 = some ⟨oc30, od30, .func (PySem.W.fnOf "_law_box" "_law_box" (defArgs s_law_box) (defBody s_law_box) (defScope s_law_box) .none kV30 dc30 pm30 an30 cd30 ct30), sl30⟩) (c30 : PySem.W.codeIn K cd30 "_law_box" = true) (k30 : PySem.W.keepIn K (.ref f30) = true)
    {f31 : Addr} {od31 an31 : Option Addr} {sl31 : Array (Option Value)} {oc31 kV31 dc31 pm31 cd31 ct31 : Value} (a31 : PySem.W.nsIn K mainGlobals "_law_take" = some (some (.ref f31))) (l31 : K.lookup f31 = some ⟨oc31, od31, .func (PySem.W.fnOf "_law_take" "_law_take" (defArgs s_law_take) (defBody s_law_take) (defScope s_law_take) .none kV31 dc31 pm31 an31 cd31 ct31), sl31⟩) (c31 : PySem.W.codeIn K cd31 "_law_take" = true) (k31 : PySem.W.keepIn K (.ref f31) = true)
    {f32 : Addr} {od32 an32 : Option Addr} {sl32 : Array (Option Value)} {oc32 kV32 dc32 pm32 cd32 ct32 : Value} (a32 : PySem.W.nsIn K mainGlobals "_law_cells" = some (some (.ref f32))) (l32 : K.lookup f32 = some ⟨oc32, od32, .func (PySem.W.fnOf "_law_cells" "_law_cells" (defArgs s_law_cells) (defBody s_law_cells) (defScope s_law_cells) .none kV32 dc32 pm32 an32 cd32 ct32), sl32⟩) (c32 : PySem.W.codeIn K cd32 "_law_cells" = true) (k32 : PySem.W.keepIn K (.ref f32) = true)
    {f33 : Addr} {od33 an33 : Option Addr} {sl33 : Array (Option Value)} {oc33 kV33 dc33 pm33 cd33 ct33 : Value} (a33 : PySem.W.nsIn K mainGlobals "_law_of" = some (some (.ref f33))) (l33 : K.lookup f33 = some ⟨oc33, od33, .func (PySem.W.fnOf "_law_of" "_law_of" (defArgs s_law_of) (defBody s_law_of) (defScope s_law_of) .none kV33 dc33 pm33 an33 cd33 ct33), sl33⟩) (c33 : PySem.W.codeIn K cd33 "_law_of" = true) (k33 : PySem.W.keepIn K (.ref f33) = true)
    {f34 : Addr} {od34 an34 : Option Addr} {sl34 : Array (Option Value)} {oc34 kV34 dc34 pm34 cd34 ct34 : Value} (a34 : PySem.W.nsIn K mainGlobals "_law_strewn" = some (some (.ref f34))) (l34 : K.lookup f34 = some ⟨oc34, od34, .func (PySem.W.fnOf "_law_strewn" "_law_strewn" (defArgs s_law_strewn) (defBody s_law_strewn) (defScope s_law_strewn) .none kV34 dc34 pm34 an34 cd34 ct34), sl34⟩) (c34 : PySem.W.codeIn K cd34 "_law_strewn" = true) (k34 : PySem.W.keepIn K (.ref f34) = true)
    {f35 : Addr} {od35 an35 : Option Addr} {sl35 : Array (Option Value)} {oc35 kV35 dc35 pm35 cd35 ct35 : Value} (a35 : PySem.W.nsIn K mainGlobals "_law_span" = some (some (.ref f35))) (l35 : K.lookup f35 = some ⟨oc35, od35, .func (PySem.W.fnOf "_law_span" "_law_span" (defArgs s_law_span) (defBody s_law_span) (defScope s_law_span) .none kV35 dc35 pm35 an35 cd35 ct35), sl35⟩) (c35 : PySem.W.codeIn K cd35 "_law_span" = true) (k35 : PySem.W.keepIn K (.ref f35) = true)
    {f36 : Addr} {od36 an36 : Option Addr} {sl36 : Array (Option Value)} {oc36 kV36 dc36 pm36 cd36 ct36 : Value} (a36 : PySem.W.nsIn K mainGlobals "_law_folk" = some (some (.ref f36))) (l36 : K.lookup f36 = some ⟨oc36, od36, .func (PySem.W.fnOf "_law_folk" "_law_folk" (defArgs s_law_folk) (defBody s_law_folk) (defScope s_law_folk) .none kV36 dc36 pm36 an36 cd36 ct36), sl36⟩) (c36 : PySem.W.codeIn K cd36 "_law_folk" = true) (k36 : PySem.W.keepIn K (.ref f36) = true)
    {f37 : Addr} {od37 an37 : Option Addr} {sl37 : Array (Option Value)} {oc37 kV37 dc37 pm37 cd37 ct37 : Value} (a37 : PySem.W.nsIn K mainGlobals "_law_crowd" = some (some (.ref f37))) (l37 : K.lookup f37 = some ⟨oc37, od37, .func (PySem.W.fnOf "_law_crowd" "_law_crowd" (defArgs s_law_crowd) (defBody s_law_crowd) (defScope s_law_crowd) .none kV37 dc37 pm37 an37 cd37 ct37), sl37⟩) (c37 : PySem.W.codeIn K cd37 "_law_crowd" = true) (k37 : PySem.W.keepIn K (.ref f37) = true)
    {f38 : Addr} {od38 an38 : Option Addr} {sl38 : Array (Option Value)} {oc38 kV38 dc38 pm38 cd38 ct38 : Value} (a38 : PySem.W.nsIn K mainGlobals "_law_tour" = some (some (.ref f38))) (l38 : K.lookup f38 = some ⟨oc38, od38, .func (PySem.W.fnOf "_law_tour" "_law_tour" (defArgs s_law_tour) (defBody s_law_tour) (defScope s_law_tour) .none kV38 dc38 pm38 an38 cd38 ct38), sl38⟩) (c38 : PySem.W.codeIn K cd38 "_law_tour" = true) (k38 : PySem.W.keepIn K (.ref f38) = true)
    {f39 : Addr} {od39 an39 : Option Addr} {sl39 : Array (Option Value)} {oc39 kV39 dc39 pm39 cd39 ct39 : Value} (a39 : PySem.W.nsIn K mainGlobals "_law_near" = some (some (.ref f39))) (l39 : K.lookup f39 = some ⟨oc39, od39, .func (PySem.W.fnOf "_law_near" "_law_near" (defArgs s_law_near) (defBody s_law_near) (defScope s_law_near) .none kV39 dc39 pm39 an39 cd39 ct39), sl39⟩) (c39 : PySem.W.codeIn K cd39 "_law_near" = true) (k39 : PySem.W.keepIn K (.ref f39) = true)
    {f40 : Addr} {od40 an40 : Option Addr} {sl40 : Array (Option Value)} {oc40 kV40 dc40 pm40 cd40 ct40 : Value} (a40 : PySem.W.nsIn K mainGlobals "_law_moved_on" = some (some (.ref f40))) (l40 : K.lookup f40 = some ⟨oc40, od40, .func (PySem.W.fnOf "_law_moved_on" "_law_moved_on" (defArgs s_law_moved_on) (defBody s_law_moved_on) (defScope s_law_moved_on) .none kV40 dc40 pm40 an40 cd40 ct40), sl40⟩) (c40 : PySem.W.codeIn K cd40 "_law_moved_on" = true) (k40 : PySem.W.keepIn K (.ref f40) = true)
    {f41 : Addr} {od41 an41 : Option Addr} {sl41 : Array (Option Value)} {oc41 kV41 dc41 pm41 cd41 ct41 : Value} (a41 : PySem.W.nsIn K mainGlobals "_law_lists_right" = some (some (.ref f41))) (l41 : K.lookup f41 = some ⟨oc41, od41, .func (PySem.W.fnOf "_law_lists_right" "_law_lists_right" (defArgs s_law_lists_right) (defBody s_law_lists_right) (defScope s_law_lists_right) .none kV41 dc41 pm41 an41 cd41 ct41), sl41⟩) (c41 : PySem.W.codeIn K cd41 "_law_lists_right" = true) (k41 : PySem.W.keepIn K (.ref f41) = true)
    {f42 : Addr} {od42 an42 : Option Addr} {sl42 : Array (Option Value)} {oc42 kV42 dc42 pm42 cd42 ct42 : Value} (a42 : PySem.W.nsIn K mainGlobals "_law_right" = some (some (.ref f42))) (l42 : K.lookup f42 = some ⟨oc42, od42, .func (PySem.W.fnOf "_law_right" "_law_right" (defArgs s_law_right) (defBody s_law_right) (defScope s_law_right) .none kV42 dc42 pm42 an42 cd42 ct42), sl42⟩) (c42 : PySem.W.codeIn K cd42 "_law_right" = true) (k42 : PySem.W.keepIn K (.ref f42) = true)
    {f43 : Addr} {od43 an43 : Option Addr} {sl43 : Array (Option Value)} {oc43 kV43 dc43 pm43 cd43 ct43 : Value} (a43 : PySem.W.nsIn K mainGlobals "law" = some (some (.ref f43))) (l43 : K.lookup f43 = some ⟨oc43, od43, .func (PySem.W.fnOf "law" "law" (defArgs s_law) (defBody s_law) (defScope s_law) .none kV43 dc43 pm43 an43 cd43 ct43), sl43⟩) (c43 : PySem.W.codeIn K cd43 "law" = true) (k43 : PySem.W.keepIn K (.ref f43) = true)
    (z_len : PySem.W.nsIn K mainGlobals "len" = some none)
    (z_range : PySem.W.nsIn K mainGlobals "range" = some none)
    (z_list : PySem.W.nsIn K mainGlobals "list" = some none)
    (z_tuple : PySem.W.nsIn K mainGlobals "tuple" = some none)
    (z_sorted : PySem.W.nsIn K mainGlobals "sorted" = some none)
    (z_abs : PySem.W.nsIn K mainGlobals "abs" = some none)
    (z_int : PySem.W.nsIn K mainGlobals "int" = some none)
    (z_str : PySem.W.nsIn K mainGlobals "str" = some none)
    (z_repr : PySem.W.nsIn K mainGlobals "repr" = some none)
    (z_all : PySem.W.nsIn K mainGlobals "all" = some none)
    (z_any : PySem.W.nsIn K mainGlobals "any" = some none)
    (z_max : PySem.W.nsIn K mainGlobals "max" = some none)
    (z_min : PySem.W.nsIn K mainGlobals "min" = some none)
    (z_sum : PySem.W.nsIn K mainGlobals "sum" = some none)
    (z_enumerate : PySem.W.nsIn K mainGlobals "enumerate" = some none)
    (z_zip : PySem.W.nsIn K mainGlobals "zip" = some none)
    (z_isinstance : PySem.W.nsIn K mainGlobals "isinstance" = some none)
    (z_bool : PySem.W.nsIn K mainGlobals "bool" = some none)
    (z_set : PySem.W.nsIn K mainGlobals "set" = some none)
    (z_dict : PySem.W.nsIn K mainGlobals "dict" = some none)
    : ∃ fd : FuncData, (∀ (s : Shared) (v : Value), BindsTo s fd ⟨[v], []⟩ [("_law_script", v)]) ∧ ∀ base : Heap, K.In base → base.Ns mainGlobals mg → FnG l.prog w K mg base CX0 12 fa fd ["_law_script"] (spOf (c_law K)) := by
  have e := hfa.symm.trans (PySem.W.mg_of X G a43)
  cases e
  have B : Bt mg := ⟨PySem.W.mg_none_of X G z_len, PySem.W.mg_none_of X G z_range, PySem.W.mg_none_of X G z_list, PySem.W.mg_none_of X G z_tuple, PySem.W.mg_none_of X G z_sorted, PySem.W.mg_none_of X G z_abs, PySem.W.mg_none_of X G z_int, PySem.W.mg_none_of X G z_str, PySem.W.mg_none_of X G z_repr, PySem.W.mg_none_of X G z_all, PySem.W.mg_none_of X G z_any, PySem.W.mg_none_of X G z_max, PySem.W.mg_none_of X G z_min, PySem.W.mg_none_of X G z_sum, PySem.W.mg_none_of X G z_enumerate, PySem.W.mg_none_of X G z_zip, PySem.W.mg_none_of X G z_isinstance, PySem.W.mg_none_of X G z_bool, PySem.W.mg_none_of X G z_set, PySem.W.mg_none_of X G z_dict⟩
  have G_law_cells := fun base : Heap => f_law_cells (P := l.prog) (w := w) (base := base) B (fun_mk (st := s_law_cells) l32 c32 k32) (PySem.W.mg_of X G a32)
  have G_law_box := fun base : Heap => f_law_box (P := l.prog) (w := w) (base := base) B (fun_mk (st := s_law_box) l30 c30 k30) (PySem.W.mg_of X G a30)
  have H_law_take := fun base : Heap => f_law_take (P := l.prog) (w := w) (base := base)  (fun_mk (st := s_law_take) l31 c31 k31) (PySem.W.mg_of X G a31)
  have G_law_take := fun base : Heap => (H_law_take base).imp take_ok
  have G_law_span := fun base : Heap => f_law_span (P := l.prog) (w := w) (base := base) B (G_law_take base) (fun_mk (st := s_law_span) l35 c35 k35) (PySem.W.mg_of X G a35)
  have G_law_folk := fun base : Heap => f_law_folk (P := l.prog) (w := w) (base := base) B (G_law_take base) (fun_mk (st := s_law_folk) l36 c36 k36) (PySem.W.mg_of X G a36)
  have G_law_of := fun base : Heap => f_law_of (P := l.prog) (w := w) (base := base) B (G_law_take base) (fun_mk (st := s_law_of) l33 c33 k33) (PySem.W.mg_of X G a33)
  have G_law_tour := fun base : Heap => f_law_tour (P := l.prog) (w := w) (base := base) B (G_law_take base) (G_law_of base) (fun_mk (st := s_law_tour) l38 c38 k38) (PySem.W.mg_of X G a38)
  have G_law_near := fun base : Heap => f_law_near (P := l.prog) (w := w) (base := base) B (G_law_take base) (fun_mk (st := s_law_near) l39 c39 k39) (PySem.W.mg_of X G a39)
  have G_mover := fun base : Heap => f_mover (P := l.prog) (w := w) (base := base) B (fun_mk (st := s_mover) l2 c2 k2) (PySem.W.mg_of X G a2)
  have G_seats_called := fun base : Heap => f_seats_called (P := l.prog) (w := w) (base := base) B (G_mover base) (fun_mk (st := s_seats_called) l3 c3 k3) (PySem.W.mg_of X G a3)
  have G_seats_along := fun base : Heap => f_seats_along (P := l.prog) (w := w) (base := base) B (G_seats_called base) (fun_mk (st := s_seats_along) l4 c4 k4) (PySem.W.mg_of X G a4)
  have G_steps := fun base : Heap => f_steps (P := l.prog) (w := w) (base := base) B (G_seats_along base) (fun_mk (st := s_steps) l6 c6 k6) (PySem.W.mg_of X G a6)
  have G_pack_seats := fun base : Heap => f_pack_seats (P := l.prog) (w := w) (base := base) B (fun_mk (st := s_pack_seats) l7 c7 k7) (PySem.W.mg_of X G a7)
  have G_moves_of := fun base : Heap => f_moves_of (P := l.prog) (w := w) (base := base) B (G_steps base) (G_pack_seats base) (fun_mk (st := s_moves_of) l9 c9 k9) (PySem.W.mg_of X G a9)
  have G_all_differences := fun base : Heap => f_all_differences (P := l.prog) (w := w) (base := base) B (G_moves_of base) (fun_mk (st := s_all_differences) l24 c24 k24) (PySem.W.mg_of X G a24)
  have G_moving_difference := fun base : Heap => f_moving_difference (P := l.prog) (w := w) (base := base) B (G_all_differences base) (fun_mk (st := s_moving_difference) l26 c26 k26) (PySem.W.mg_of X G a26)
  have G_law_moved_on := fun base : Heap => f_law_moved_on (P := l.prog) (w := w) (base := base) B (fun_mk (st := s_law_moved_on) l40 c40 k40) (PySem.W.mg_of X G a40)
  have G_move_alike := fun base : Heap => f_move_alike (P := l.prog) (w := w) (base := base) B (G_moves_of base) (fun_mk (st := s_move_alike) l25 c25 k25) (PySem.W.mg_of X G a25)
  have G_steps_of_one := fun base : Heap => f_steps_of_one (P := l.prog) (w := w) (base := base) B (fun_mk (st := s_steps_of_one) l10 c10 k10) (PySem.W.mg_of X G a10)
  have G_steps_by := fun base : Heap => f_steps_by (P := l.prog) (w := w) (base := base) B (G_steps_of_one base) (fun_mk (st := s_steps_by) l11 c11 k11) (PySem.W.mg_of X G a11)
  have G_as_table := fun base : Heap => f_as_table (P := l.prog) (w := w) (base := base) B (fun_mk (st := s_as_table) l5 c5 k5) (PySem.W.mg_of X G a5)
  have G_table_by := fun base : Heap => f_table_by (P := l.prog) (w := w) (base := base) B (G_steps_by base) (G_as_table base) (fun_mk (st := s_table_by) l12 c12 k12) (PySem.W.mg_of X G a12)
  have G_all_tables := fun base : Heap => f_all_tables (P := l.prog) (w := w) (base := base) B (fun_mk (st := s_all_tables) l22 c22 k22) (PySem.W.mg_of X G a22)
  have G_all_led := fun base : Heap => f_all_led (P := l.prog) (w := w) (base := base) B (G_moves_of base) (G_table_by base) (G_all_tables base) (fun_mk (st := s_all_led) l23 c23 k23) (PySem.W.mg_of X G a23)
  have G_leading_difference := fun base : Heap => f_leading_difference (P := l.prog) (w := w) (base := base) B (G_all_led base) (fun_mk (st := s_leading_difference) l29 c29 k29) (PySem.W.mg_of X G a29)
  have G_lead_alike := fun base : Heap => f_lead_alike (P := l.prog) (w := w) (base := base) B (G_leading_difference base) (fun_mk (st := s_lead_alike) l28 c28 k28) (PySem.W.mg_of X G a28)
  have G_pack := fun base : Heap => f_pack (P := l.prog) (w := w) (base := base) B (G_pack_seats base) (fun_mk (st := s_pack) l8 c8 k8) (PySem.W.mg_of X G a8)
  have G_course := fun base : Heap => f_course (P := l.prog) (w := w) (base := base) B (G_moves_of base) (G_table_by base) (fun_mk (st := s_course) l17 c17 k17) (PySem.W.mg_of X G a17)
  have G_pack_followed := fun base : Heap => f_pack_followed (P := l.prog) (w := w) (base := base) B (G_steps_by base) (fun_mk (st := s_pack_followed) l13 c13 k13) (PySem.W.mg_of X G a13)
  have G_followed := fun base : Heap => f_followed (P := l.prog) (w := w) (base := base) B (G_pack_followed base) (fun_mk (st := s_followed) l14 c14 k14) (PySem.W.mg_of X G a14)
  have G_repeated := fun base : Heap => f_repeated (P := l.prog) (w := w) (base := base) B (G_moves_of base) (G_followed base) (fun_mk (st := s_repeated) l15 c15 k15) (PySem.W.mg_of X G a15)
  have G_moves_of_many := fun base : Heap => f_moves_of_many (P := l.prog) (w := w) (base := base) B (G_repeated base) (G_moves_of base) (fun_mk (st := s_moves_of_many) l16 c16 k16) (PySem.W.mg_of X G a16)
  have G_table_after_many := fun base : Heap => f_table_after_many (P := l.prog) (w := w) (base := base) B (G_table_by base) (G_moves_of_many base) (fun_mk (st := s_table_after_many) l18 c18 k18) (PySem.W.mg_of X G a18)
  have G_lowest_terms := fun base : Heap => f_lowest_terms (P := l.prog) (w := w) (base := base) B (fun_mk (st := s_lowest_terms) l20 c20 k20) (PySem.W.mg_of X G a20)
  have G_steps_after_many := fun base : Heap => f_steps_after_many (P := l.prog) (w := w) (base := base) B (G_steps_by base) (G_moves_of_many base) (fun_mk (st := s_steps_after_many) l19 c19 k19) (PySem.W.mg_of X G a19)
  have G_average := fun base : Heap => f_average (P := l.prog) (w := w) (base := base) B (G_pack base) (G_course base) (G_table_after_many base) (G_lowest_terms base) (G_steps_after_many base) (fun_mk (st := s_average) l21 c21 k21) (PySem.W.mg_of X G a21)
  have G_is_chair := fun base : Heap => f_is_chair (P := l.prog) (w := w) (base := base) B (fun_mk (st := s_is_chair) l0 c0 k0) (PySem.W.mg_of X G a0)
  have G_all_chairs := fun base : Heap => f_all_chairs (P := l.prog) (w := w) (base := base) B (G_is_chair base) (fun_mk (st := s_all_chairs) l1 c1 k1) (PySem.W.mg_of X G a1)
  have G_shows_difference := fun base : Heap => f_shows_difference (P := l.prog) (w := w) (base := base) B (G_all_differences base) (G_all_chairs base) (fun_mk (st := s_shows_difference) l27 c27 k27) (PySem.W.mg_of X G a27)
  have G_law_lists_right := fun base : Heap => f_law_lists_right (P := l.prog) (w := w) (base := base) B (G_moving_difference base) (G_law_moved_on base) (G_move_alike base) (G_lead_alike base) (G_average base) (G_shows_difference base) (fun_mk (st := s_law_lists_right) l41 c41 k41) (PySem.W.mg_of X G a41)
  have H_law_strewn := fun base : Heap => f_law_strewn (P := l.prog) (w := w) (base := base) B (H_law_take base) (fun_mk (st := s_law_strewn) l34 c34 k34) (PySem.W.mg_of X G a34)
  have G_law_strewn := fun base : Heap => (H_law_strewn base).imp strewn_ok
  have G_law_crowd := fun base : Heap => f_law_crowd (P := l.prog) (w := w) (base := base) B (G_law_take base) (G_law_strewn base) (fun_mk (st := s_law_crowd) l37 c37 k37) (PySem.W.mg_of X G a37)
  have H_law_right := fun base : Heap => f_law_right (P := l.prog) (w := w) (base := base) B (G_law_span base) (G_law_folk base) (G_law_tour base) (G_law_near base) (G_law_take base) (G_law_lists_right base) (G_law_crowd base) (G_law_moved_on base) (G_course base) (G_table_after_many base) (G_steps_after_many base) (fun_mk (st := s_law_right) l42 c42 k42) (PySem.W.mg_of X G a42)
  have G_law_right := fun base : Heap => (H_law_right base).imp (cR_of right_ok)
  exact ⟨_, fun s v => .of_eq rfl, fun base _ _ => f_law B (G_law_cells base) (G_law_box base) (G_law_right base) (fun_mk (st := s_law) l43 c43 k43)⟩
end Nx
open PySem PySem.W PyProof.Rows
set_option maxHeartbeats 0 in
theorem PySem.Challenge.cw_nextstands_k76_whole_turned_round_the_ta_holds : PySem.Challenge.rw_nextstands_k76_whole_turned_round_the_ta.Holds := by
  w_on; o_law; k_head; (case hw => w_witness2)
  k_fill
  refine Nx.walk_G (l := PySem.Challenge.rw_nextstands_k76_whole_turned_round_the_ta) (n := 63) (k := 12) (x := "_law_script") (sp := fun K => Nx.spOf (Nx.c_law K)) rfl (by decide) rfl ⟨⟨rfl, by decide, by decide⟩, rfl⟩ (fun w h Y => PySem.W.kIn_of Y) ?F (fun K H a ns hl _ hS => Nx.law_sp K H a ns hl hS)
  case F =>
    intro w mg fa h KX G hmg
    refine' Nx.all_mk KX G hmg ?a0 ?l0 ?c0 ?k0 ?a1 ?l1 ?c1 ?k1 ?a2 ?l2 ?c2 ?k2 ?a3 ?l3 ?c3 ?k3 ?a4 ?l4 ?c4 ?k4 ?a5 ?l5 ?c5 ?k5 ?a6 ?l6 ?c6 ?k6 ?a7 ?l7 ?c7 ?k7 ?a8 ?l8 ?c8 ?k8 ?a9 ?l9 ?c9 ?k9 ?a10 ?l10 ?c10 ?k10 ?a11 ?l11 ?c11 ?k11 ?a12 ?l12 ?c12 ?k12 ?a13 ?l13 ?c13 ?k13 ?a14 ?l14 ?c14 ?k14 ?a15 ?l15 ?c15 ?k15 ?a16 ?l16 ?c16 ?k16 ?a17 ?l17 ?c17 ?k17 ?a18 ?l18 ?c18 ?k18 ?a19 ?l19 ?c19 ?k19 ?a20 ?l20 ?c20 ?k20 ?a21 ?l21 ?c21 ?k21 ?a22 ?l22 ?c22 ?k22 ?a23 ?l23 ?c23 ?k23 ?a24 ?l24 ?c24 ?k24 ?a25 ?l25 ?c25 ?k25 ?a26 ?l26 ?c26 ?k26 ?a27 ?l27 ?c27 ?k27 ?a28 ?l28 ?c28 ?k28 ?a29 ?l29 ?c29 ?k29 ?a30 ?l30 ?c30 ?k30 ?a31 ?l31 ?c31 ?k31 ?a32 ?l32 ?c32 ?k32 ?a33 ?l33 ?c33 ?k33 ?a34 ?l34 ?c34 ?k34 ?a35 ?l35 ?c35 ?k35 ?a36 ?l36 ?c36 ?k36 ?a37 ?l37 ?c37 ?k37 ?a38 ?l38 ?c38 ?k38 ?a39 ?l39 ?c39 ?k39 ?a40 ?l40 ?c40 ?k40 ?a41 ?l41 ?c41 ?k41 ?a42 ?l42 ?c42 ?k42 ?a43 ?l43 ?c43 ?k43 ?z_len ?z_range ?z_list ?z_tuple ?z_sorted ?z_abs ?z_int ?z_str ?z_repr ?z_all ?z_any ?z_max ?z_min ?z_sum ?z_enumerate ?z_zip ?z_isinstance ?z_bool ?z_set ?z_dict
    (case a0 => k_is); (case l0 => k_is); (case c0 => k_is); (case k0 => k_is); (case a1 => k_is); (case l1 => k_is); (case c1 => k_is); (case k1 => k_is); (case a2 => k_is); (case l2 => k_is); (case c2 => k_is); (case k2 => k_is); (case a3 => k_is); (case l3 => k_is); (case c3 => k_is); (case k3 => k_is); (case a4 => k_is); (case l4 => k_is); (case c4 => k_is); (case k4 => k_is); (case a5 => k_is); (case l5 => k_is); (case c5 => k_is); (case k5 => k_is); (case a6 => k_is); (case l6 => k_is); (case c6 => k_is); (case k6 => k_is); (case a7 => k_is); (case l7 => k_is); (case c7 => k_is); (case k7 => k_is); (case a8 => k_is); (case l8 => k_is); (case c8 => k_is); (case k8 => k_is); (case a9 => k_is); (case l9 => k_is); (case c9 => k_is); (case k9 => k_is); (case a10 => k_is); (case l10 => k_is); (case c10 => k_is); (case k10 => k_is); (case a11 => k_is); (case l11 => k_is); (case c11 => k_is); (case k11 => k_is); (case a12 => k_is); (case l12 => k_is); (case c12 => k_is); (case k12 => k_is); (case a13 => k_is); (case l13 => k_is); (case c13 => k_is); (case k13 => k_is); (case a14 => k_is); (case l14 => k_is); (case c14 => k_is); (case k14 => k_is); (case a15 => k_is); (case l15 => k_is); (case c15 => k_is); (case k15 => k_is); (case a16 => k_is); (case l16 => k_is); (case c16 => k_is); (case k16 => k_is); (case a17 => k_is); (case l17 => k_is); (case c17 => k_is); (case k17 => k_is); (case a18 => k_is); (case l18 => k_is); (case c18 => k_is); (case k18 => k_is); (case a19 => k_is); (case l19 => k_is); (case c19 => k_is); (case k19 => k_is); (case a20 => k_is); (case l20 => k_is); (case c20 => k_is); (case k20 => k_is); (case a21 => k_is); (case l21 => k_is); (case c21 => k_is); (case k21 => k_is); (case a22 => k_is); (case l22 => k_is); (case c22 => k_is); (case k22 => k_is); (case a23 => k_is); (case l23 => k_is); (case c23 => k_is); (case k23 => k_is); (case a24 => k_is); (case l24 => k_is); (case c24 => k_is); (case k24 => k_is); (case a25 => k_is); (case l25 => k_is); (case c25 => k_is); (case k25 => k_is); (case a26 => k_is); (case l26 => k_is); (case c26 => k_is); (case k26 => k_is); (case a27 => k_is); (case l27 => k_is); (case c27 => k_is); (case k27 => k_is); (case a28 => k_is); (case l28 => k_is); (case c28 => k_is); (case k28 => k_is); (case a29 => k_is); (case l29 => k_is); (case c29 => k_is); (case k29 => k_is); (case a30 => k_is); (case l30 => k_is); (case c30 => k_is); (case k30 => k_is); (case a31 => k_is); (case l31 => k_is); (case c31 => k_is); (case k31 => k_is); (case a32 => k_is); (case l32 => k_is); (case c32 => k_is); (case k32 => k_is); (case a33 => k_is); (case l33 => k_is); (case c33 => k_is); (case k33 => k_is); (case a34 => k_is); (case l34 => k_is); (case c34 => k_is); (case k34 => k_is); (case a35 => k_is); (case l35 => k_is); (case c35 => k_is); (case k35 => k_is); (case a36 => k_is); (case l36 => k_is); (case c36 => k_is); (case k36 => k_is); (case a37 => k_is); (case l37 => k_is); (case c37 => k_is); (case k37 => k_is); (case a38 => k_is); (case l38 => k_is); (case c38 => k_is); (case k38 => k_is); (case a39 => k_is); (case l39 => k_is); (case c39 => k_is); (case k39 => k_is); (case a40 => k_is); (case l40 => k_is); (case c40 => k_is); (case k40 => k_is); (case a41 => k_is); (case l41 => k_is); (case c41 => k_is); (case k41 => k_is); (case a42 => k_is); (case l42 => k_is); (case c42 => k_is); (case k42 => k_is); (case a43 => k_is); (case l43 => k_is); (case c43 => k_is); (case k43 => k_is); (case z_len => k_is); (case z_range => k_is); (case z_list => k_is); (case z_tuple => k_is); (case z_sorted => k_is); (case z_abs => k_is); (case z_int => k_is); (case z_str => k_is); (case z_repr => k_is); (case z_all => k_is); (case z_any => k_is); (case z_max => k_is); (case z_min => k_is); (case z_sum => k_is); (case z_enumerate => k_is); (case z_zip => k_is); (case z_isinstance => k_is); (case z_bool => k_is); (case z_set => k_is); (case z_dict => k_is)
