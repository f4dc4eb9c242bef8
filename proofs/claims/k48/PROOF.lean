import PyProof.Rows.All
import Wide.All
import OpenK.AllK
import Wide.FinOn
import HandS.ForMost
import HandS.Walk
import HandS.Deep
import HandS.Flow
import HandS.SortInts
import HandS.Zip
import HandS.Conv
import HandS.Wide
import HandS.RaiseMore
import HandS.TupAny
import HandS.Style
import KE.GoesNew
import HandS.IsInst
import HandS.TupMul
import HandS.Dict
import HandS.TupLen
import HandS.Iter
import HandS.NoneIn
import HandS.SetFor
import HandS.TupSets
import HandS.Strs
import KE.KDictZip
import KE.GoesMore
import HandS.DictComp
import HandS.SetBool
import KE.SortData
import KE.KDictSum
import KE.KDictDisplayH
import KE.KEqDict
import KE.KDictPairs
import HandS.ExcInit
import KE.KExcInit
import KE.KExcIs
import HandS.ExcOwn
import KE.KTryMore
import PySem.Challenge.RW_nextstands_k48_tables_with_other_people
set_option Elab.async false
set_option linter.all false
set_option maxRecDepth 100000
set_option maxHeartbeats 4000000
namespace Nx
open PySem PySem.Spec PyProof.Rows L2
def WE (X : Cx) (e : Expr) : TE := fun σ H Q => ∀ pins s, Inv X pins σ H s → wpAny (model X.prog X.w) X.A (eval e X.env) (EP X pins σ Q) X.xe s
def WT (X : Cx) (e : Expr) : TT := fun σ H Q => ∀ pins s, Inv X pins σ H s → wpAny (model X.prog X.w) X.A (isTrue e X.env (eval e X.env)) (TP X pins σ Q) X.xe s
def WA (X : Cx) (es : List Expr) : TA := fun σ H Q => ∀ pos pins s, Inv X pins σ H s → wpAny (model X.prog X.w) X.A (spliced (backTo pos (starEach es X.env))) (AP X pins σ Q) X.xe s
def WK (X : Cx) (ks : List Keyword) : TA := fun σ H Q => ∀ pos pins s, Inv X pins σ H s → wpAny (model X.prog X.w) X.A (evalAll ((backToKw pos (keywordEach ks X.env)).map (·.2))) (AP X pins σ Q) X.xe s
def WS (X : Cx) (st : Stmt) : TS := fun D σ H => ∀ pins s, Inv X pins σ H s → wpAny (model X.prog X.w) X.A (exec st X.env) (SP X pins D) X.xe s
def WSs (X : Cx) (st : List Stmt) : TS := fun D σ H => ∀ pins s, Inv X pins σ H s → wpAny (model X.prog X.w) X.A (execs st X.env) (SP X pins D) X.xe s
section
variable {X : Cx} {e : Expr} {es : List Expr} {ks : List Keyword} {st : Stmt} {ss : List Stmt}
theorem pwe : PE X e (WE X e) := ⟨fun pins s _ _ _ I h => h pins s I⟩
theorem pwt : PT X e (WT X e) := ⟨fun pins s _ _ _ I h => h pins s I⟩
theorem pwa : PA X es (WA X es) := ⟨fun pos pins s _ _ _ I h => h pos pins s I⟩
theorem pwk : PK X ks (WK X ks) := ⟨fun pos pins s _ _ _ I h => h pos pins s I⟩
theorem pws : PS X st (WS X st) := ⟨fun pins s _ _ _ I h => h pins s I⟩
theorem pwss : PSs X ss (WSs X ss) := ⟨fun pins s _ _ _ I h => h pins s I⟩
variable {σ : L2.St} {H : Hp}
theorem WE.of {t : TE} {Q : VK} (h : PE X e t) (q : t σ H Q) : WE X e σ H Q := fun pins s I => h.run pins s σ H Q I q
theorem WT.of {t : TT} {Q : Bool → Hp → Prop} (h : PT X e t) (q : t σ H Q) : WT X e σ H Q := fun pins s I => h.run pins s σ H Q I q
theorem WA.of {t : TA} {Q : List V → Hp → Prop} (h : PA X es t) (q : t σ H Q) : WA X es σ H Q := fun pos pins s I => h.run pos pins s σ H Q I q
theorem WK.of {t : TA} {Q : List V → Hp → Prop} (h : PK X ks t) (q : t σ H Q) : WK X ks σ H Q := fun pos pins s I => h.run pos pins s σ H Q I q
theorem WS.of {t : TS} {D : Ends} (h : PS X st t) (q : t D σ H) : WS X st D σ H := fun pins s I => h.run pins s σ H D I q
theorem WSs.of {t : TS} {D : Ends} (h : PSs X ss t) (q : t D σ H) : WSs X ss D σ H := fun pins s I => h.run pins s σ H D I q
end
def Ex (H H' : Hp) : Prop := ∀ a o, H a = some o → H' a = some o
theorem Ex.refl (H : Hp) : Ex H H := fun _ _ h => h
theorem Ex.trans {H H1 H2 : Hp} (a : Ex H H1) (b : Ex H1 H2) : Ex H H2 := fun x o h => b x o (a x o h)
theorem Ex.new {H : Hp} {p : Addr} {o : HO} (h : H p = none) : Ex H (upd H p o) := fun a u e => by
  rw [upd_ne (ne_of_none e h)]
  exact e
theorem Ex.free {H H' : Hp} {p : Addr} (e : Ex H H') (h : H' p = none) : H p = none := by
  cases h1 : H p with
  | none => rfl
  | some o =>
    rw [e p o h1] at h
    cases h
mutual
inductive Dv (H : Hp) : V → PyData → Prop
  | non : Dv H .non .none
  | bl (b : Bool) : Dv H (.bl b) (.bool b)
  | int (i : Int) : Dv H (.int i) (.int i)
  | str (x : Str) : Dv H (.str x) (.str x)
  | lst {a : Addr} {xs : List V} {ds : List PyData} : H a = some (.lst xs) → DvA H xs ds → Dv H (.ref a) (.list ds)
  | tup {a : Addr} {xs : List V} {ds : List PyData} : H a = some (.tup xs) → DvA H xs ds → Dv H (.ref a) (.tuple ds)
inductive DvA (H : Hp) : List V → List PyData → Prop
  | nil : DvA H [] []
  | cons {v : V} {vs : List V} {d : PyData} {ds : List PyData} : Dv H v d → DvA H vs ds → DvA H (v :: vs) (d :: ds)
end
section
variable {H H' : Hp}
mutual
theorem Dv.mono (e : Ex H H') : ∀ {v : V} {d : PyData}, Dv H v d → Dv H' v d
  | _, _, .non => .non
  | _, _, .bl b => .bl b
  | _, _, .int i => .int i
  | _, _, .str x => .str x
  | _, _, .lst h hs => .lst (e _ _ h) (DvA.mono e hs)
  | _, _, .tup h hs => .tup (e _ _ h) (DvA.mono e hs)
theorem DvA.mono (e : Ex H H') : ∀ {vs : List V} {ds : List PyData}, DvA H vs ds → DvA H' vs ds
  | _, _, .nil => .nil
  | _, _, .cons h hs => .cons (Dv.mono e h) (DvA.mono e hs)
end
mutual
theorem Dv.dp {K : PySem.W.Frag} : ∀ {v : V} {d : PyData}, Dv H v d → Dp K H v d
  | _, _, .non => .non
  | _, _, .bl b => .bl b
  | _, _, .int i => .int i
  | _, _, .str x => .str x
  | _, _, .lst h hs => .lst (.inl (.inl h)) (DvA.dp hs)
  | _, _, .tup h hs => .tup (.inl (.inl h)) (DvA.dp hs)
theorem DvA.dp {K : PySem.W.Frag} : ∀ {vs : List V} {ds : List PyData}, DvA H vs ds → DpAll K H vs ds
  | _, _, .nil => .nil
  | _, _, .cons h hs => .cons (Dv.dp h) (DvA.dp hs)
end
theorem DvA.length : ∀ {vs : List V} {ds : List PyData}, DvA H vs ds → vs.length = ds.length
  | _, _, .nil => rfl
  | _, _, .cons _ hs => by rw [List.length_cons, List.length_cons, DvA.length hs]
theorem DvA.get : ∀ {vs : List V} {ds : List PyData} {i : Nat} {d : PyData}, DvA H vs ds → ds[i]? = some d → ∃ v, vs[i]? = some v ∧ Dv H v d
  | _, _, _, _, .nil, e => by simp at e
  | _, _, 0, _, .cons h _, e => by
    simp at e
    subst e
    exact ⟨_, rfl, h⟩
  | _, _, i + 1, d, .cons _ hs, e => by
    obtain ⟨v, h1, h2⟩ := DvA.get (i := i) hs (by simpa using e)
    exact ⟨v, by simpa using h1, h2⟩
theorem DvA.getV : ∀ {vs : List V} {ds : List PyData} {i : Nat} {v : V}, DvA H vs ds → vs[i]? = some v → ∃ d, ds[i]? = some d ∧ Dv H v d
  | _, _, _, _, .nil, e => by simp at e
  | _, _, 0, _, .cons h _, e => by
    simp at e
    subst e
    exact ⟨_, rfl, h⟩
  | _, _, i + 1, d, .cons _ hs, e => by
    obtain ⟨v, h1, h2⟩ := DvA.getV (i := i) hs (by simpa using e)
    exact ⟨v, by simpa using h1, h2⟩
theorem DvA.append : ∀ {vs ws : List V} {ds es : List PyData}, DvA H vs ds → DvA H ws es → DvA H (vs ++ ws) (ds ++ es)
  | _, _, _, _, .nil, s => s
  | _, _, _, _, .cons h t, s => .cons h (DvA.append t s)
theorem DvA.take : ∀ {vs : List V} {ds : List PyData} (n : Nat), DvA H vs ds → DvA H (vs.take n) (ds.take n)
  | _, _, 0, _ => .nil
  | _, _, _ + 1, .nil => .nil
  | _, _, n + 1, .cons r t => .cons r (DvA.take n t)
theorem DvA.drop : ∀ {vs : List V} {ds : List PyData} (n : Nat), DvA H vs ds → DvA H (vs.drop n) (ds.drop n)
  | _, _, 0, r => r
  | _, _, _ + 1, .nil => .nil
  | _, _, n + 1, .cons _ t => DvA.drop n t
theorem DvA.ints : ∀ (ns : List Int) {vs : List V}, DvA H vs (ns.map PyData.int) → vs = ns.map V.int
  | [], _, .nil => rfl
  | n :: ns, _, .cons (.int _) t => by rw [DvA.ints ns t]; rfl
theorem DvA.of_ints : ∀ (ns : List Int), DvA H (ns.map V.int) (ns.map PyData.int)
  | [] => .nil
  | n :: ns => .cons (.int n) (DvA.of_ints ns)
end
def Ez (G G' : Hp) : Prop := ∀ a o, G a = some o → (∀ φ, o ≠ .ext φ) → G' a = some o
theorem Ex.ez {G G' : Hp} (e : Ex G G') : Ez G G' := fun a o h _ => e a o h
section
variable {G G' : Hp}
mutual
theorem Dv.ez (e : Ez G G') : ∀ {v : V} {d : PyData}, Dv G v d → Dv G' v d
  | _, _, .non => .non
  | _, _, .bl b => .bl b
  | _, _, .int i => .int i
  | _, _, .str x => .str x
  | _, _, .lst h hs => .lst (e _ _ h fun _ z => nomatch z) (DvA.ez e hs)
  | _, _, .tup h hs => .tup (e _ _ h fun _ z => nomatch z) (DvA.ez e hs)
theorem DvA.ez (e : Ez G G') : ∀ {vs : List V} {ds : List PyData}, DvA G vs ds → DvA G' vs ds
  | _, _, .nil => .nil
  | _, _, .cons h hs => .cons (Dv.ez e h) (DvA.ez e hs)
end
end
structure ObP where
  p : Hp → V → Prop
  mono : ∀ {G G' : Hp} {v : V}, Ez G G' → p G v → p G' v
  ref : ∀ {G : Hp} {v : V}, p G v → ∃ a, v = .ref a
inductive OV where
  | im (d : PyData) | own (a : Addr) | scr (K : PySem.W.Frag) (ns : List Int) | pr (a : Addr) (d : PyData) | dic (kvs : List (PyData × PyData)) | ob (P : ObP)
def DicAt (G : Hp) (a : Addr) (ks : List PyData) (xs : List V) : Prop :=
  (∃ is : List Int, ks = is.map .int ∧ G a = some (.dK ((is.map fun i => (Sum.inl i : Key)).zip xs))) ∨
  ∃ (iss : List (List Int)) (o : Obj), ks = iss.map (fun is => .tuple (is.map .int)) ∧ G a = some (.frz o (.dT ((iss.map fun is => is.map fun i => (Sum.inl i : Key)).zip xs)))
theorem DicAt.mono {G G' : Hp} (e : Ex G G') {a : Addr} {ks : List PyData} {xs : List V} (h : DicAt G a ks xs) : DicAt G' a ks xs := by
  rcases h with ⟨is, h1, h2⟩ | ⟨iss, o, h1, h2⟩
  · exact .inl ⟨is, h1, e _ _ h2⟩
  · exact .inr ⟨iss, o, h1, e _ _ h2⟩
def RO (G : Hp) (v : V) : OV → Prop
  | .im d => Dv G v d
  | .own a => v = .ref a
  | .scr K ns => ∃ a, v = .ref a ∧ SqL K G a (ns.map V.int)
  | .pr a d => ∃ t v2, v = .ref t ∧ G t = some (.tup [.ref a, v2]) ∧ Dv G v2 d
  | .dic kvs => ∃ a xs, v = .ref a ∧ DicAt G a (kvs.map (·.1)) xs ∧ DvA G xs (kvs.map (·.2))
  | .ob P => P.p G v
abbrev ROs (G : Hp) : List V → List OV → Prop := Paired (RO G)
theorem sql_mono {K : PySem.W.Frag} {G G' : Hp} (e : Ex G G') {a : Addr} {xs : List V} (h : SqL K G a xs) : SqL K G' a xs := by
  rcases h with (h | ⟨o, h⟩) | h
  · exact .inl (.inl (e _ _ h))
  · exact .inl (.inr ⟨o, e _ _ h⟩)
  · exact .inr h
theorem RO.mono {G G' : Hp} (e : Ex G G') {v : V} : ∀ {o : OV}, RO G v o → RO G' v o
  | .im _, h => Dv.mono e h
  | .own _, h => h
  | .scr _ _, ⟨a, h1, h2⟩ => ⟨a, h1, sql_mono e h2⟩
  | .pr _ _, ⟨t, v2, h1, h2, h3⟩ => ⟨t, v2, h1, e _ _ h2, h3.mono e⟩
  | .dic _, ⟨a, xs, h1, h2, h3⟩ => ⟨a, xs, h1, h2.mono e, h3.mono e⟩
  | .ob P, h => P.mono e.ez h
theorem ROs.mono {G G' : Hp} (e : Ex G G') : ∀ {vs : List V} {os : List OV}, ROs G vs os → ROs G' vs os
  | _, _, .nil => .nil
  | _, _, .cons h t => .cons (h.mono e) (ROs.mono e t)
theorem ROs.length {G : Hp} {vs : List V} {os : List OV} (h : ROs G vs os) : vs.length = os.length := Paired.length h
theorem ROs.ims {G : Hp} : ∀ {vs : List V} {ds : List PyData}, ROs G vs (ds.map .im) → DvA G vs ds
  | _, [], .nil => .nil
  | _, _ :: _, .cons h t => .cons h (ROs.ims t)
theorem ROs.of_ims {G : Hp} : ∀ {vs : List V} {ds : List PyData}, DvA G vs ds → ROs G vs (ds.map .im)
  | _, _, .nil => .nil
  | _, _, .cons h t => .cons h (ROs.of_ims t)
theorem ROs.append {G : Hp} : ∀ {vs ws : List V} {os ps : List OV}, ROs G vs os → ROs G ws ps → ROs G (vs ++ ws) (os ++ ps)
  | _, _, _, _, .nil, s => s
  | _, _, _, _, .cons h t, s => .cons h (ROs.append t s)
theorem ROs.get {G : Hp} : ∀ {vs : List V} {os : List OV} {i : Nat} {o : OV}, ROs G vs os → os[i]? = some o → ∃ v, vs[i]? = some v ∧ RO G v o
  | _, _, _, _, .nil, e => by simp at e
  | _, _, 0, _, .cons h _, e => by
    simp at e
    subst e
    exact ⟨_, rfl, h⟩
  | _, _, i + 1, d, .cons _ hs, e => by
    obtain ⟨v, h1, h2⟩ := ROs.get (i := i) hs (by simpa using e)
    exact ⟨v, by simpa using h1, h2⟩
theorem ROs.getV {G : Hp} : ∀ {vs : List V} {os : List OV} {i : Nat} {v : V}, ROs G vs os → vs[i]? = some v → ∃ o, os[i]? = some o ∧ RO G v o
  | _, _, _, _, .nil, e => by simp at e
  | _, _, 0, _, .cons h _, e => by
    simp at e
    subst e
    exact ⟨_, rfl, h⟩
  | _, _, i + 1, d, .cons _ hs, e => by
    obtain ⟨v, h1, h2⟩ := ROs.getV (i := i) hs (by simpa using e)
    exact ⟨v, by simpa using h1, h2⟩
theorem ROs.set {G : Hp} {v : V} {o : OV} (r : RO G v o) : ∀ {vs : List V} {os : List OV} (i : Nat), ROs G vs os → ROs G (vs.set i v) (os.set i o)
  | _, _, _, .nil => .nil
  | _, _, 0, .cons _ t => .cons r t
  | _, _, i + 1, .cons q t => .cons q (ROs.set r i t)
theorem ROs.erase {G : Hp} : ∀ {vs : List V} {os : List OV} (i : Nat), ROs G vs os → ROs G (vs.eraseIdx i) (os.eraseIdx i)
  | _, _, _, .nil => .nil
  | _, _, 0, .cons _ t => t
  | _, _, i + 1, .cons q t => .cons q (ROs.erase i t)
theorem ROs.take {G : Hp} : ∀ {vs : List V} {ds : List OV} (n : Nat), ROs G vs ds → ROs G (vs.take n) (ds.take n)
  | _, _, 0, _ => .nil
  | _, _, _ + 1, .nil => .nil
  | _, _, n + 1, .cons r t => .cons r (ROs.take n t)
theorem ROs.drop {G : Hp} : ∀ {vs : List V} {ds : List OV} (n : Nat), ROs G vs ds → ROs G (vs.drop n) (ds.drop n)
  | _, _, 0, r => r
  | _, _, _ + 1, .nil => .nil
  | _, _, n + 1, .cons _ t => ROs.drop n t
theorem ROs.snoc {G : Hp} {vs : List V} {os : List OV} {v : V} {o : OV} (h : ROs G vs os) (r : RO G v o) : ROs G (vs ++ [v]) (os ++ [o]) := h.append (.cons r .nil)
structure Cir where
  C : Addr
  sz : Int
  bg : List Int
  ops : List (List Int)
  ent : List Str
inductive Th where
  | dT (kvs : List (List Int × OV))
  | cir (c : Cir)
structure Mu where
  l : Addr → Option (List OV)
  d : Addr → Option Th
  C : Addr
instance : CoeFun Mu (fun _ => Addr → Option (List OV)) := ⟨Mu.l⟩
theorem mu_ext {μ ν : Mu} (h : ∀ b : Addr, μ b = ν b) (hd : μ.d = ν.d) (hC : μ.C = ν.C) : μ = ν := by
  obtain ⟨l, d, C⟩ := μ
  obtain ⟨l', d', C'⟩ := ν
  have h : l = l' := funext h
  cases h
  cases hd
  cases hC
  rfl
def Mu.put (μ : Mu) (a : Addr) (l : List OV) : Mu := { μ with l := fun b => if b = a then some l else μ b }
def Mu.del (μ : Mu) (a : Addr) : Mu := { μ with l := fun b => if b = a then none else μ b }
theorem put_same {μ : Mu} {a : Addr} {l : List OV} : μ.put a l a = some l := if_pos rfl
theorem put_ne {μ : Mu} {a b : Addr} {l : List OV} (h : b ≠ a) : μ.put a l b = μ b := if_neg h
theorem put_put {μ : Mu} {a : Addr} {l m : List OV} : (μ.put a l).put a m = μ.put a m := by
  unfold Mu.put
  congr 1
  funext b
  dsimp only
  split <;> rfl
def keyT (is : List Int) : List Key := is.map fun i => Sum.inl i
def ThOk (C : Addr) (who : Addr → Option Addr) (G H : Hp) (a : Addr) : Th → Prop
  | .dT kvs => ∃ xs : List V, H a = some (.dT ((kvs.map fun p => keyT p.1).zip xs)) ∧ ROs G xs (kvs.map (·.2))
  | .cir c => ∃ dx q r vb xs ys, H a = some (.ins c.C dx [("size", .int c.sz), ("beginning", vb), ("operations", .ref q), ("entries", .ref r)]) ∧ H dx = some (.own a) ∧ H q = some (.lst xs) ∧ H r = some (.lst ys) ∧
      who dx = some a ∧ who q = some a ∧ who r = some a ∧ q ≠ r ∧ Dv G vb (.tuple (c.bg.map .int)) ∧ DvA G xs (c.ops.map fun is => .tuple (is.map .int)) ∧ DvA G ys (c.ent.map .str)
theorem ThOk.mono {C : Addr} {who : Addr → Option Addr} {G G' H : Hp} {a : Addr} (e : Ex G G') : ∀ {t : Th}, ThOk C who G H a t → ThOk C who G' H a t
  | .dT kvs, ⟨xs, h1, h2⟩ => ⟨xs, h1, h2.mono e⟩
  | .cir c, ⟨dx, q, r, vb, xs, ys, h1, h2, h3, h4, h5, h6, h7, h8, h9, h10, h11⟩ => ⟨dx, q, r, vb, xs, ys, h1, h2, h3, h4, h5, h6, h7, h8, h9.mono e, h10.mono e, h11.mono e⟩
theorem ThOk.keep {C : Addr} {who : Addr → Option Addr} {G H H' : Hp} {a : Addr} (hw : who a = some a) (k : ∀ x, who x = some a → H' x = H x) : ∀ {t : Th}, ThOk C who G H a t → ThOk C who G H' a t
  | .dT kvs, ⟨xs, h1, h2⟩ => ⟨xs, (k _ hw).trans h1, h2⟩
  | .cir c, ⟨dx, q, r, vb, xs, ys, h1, h2, h3, h4, h5, h6, h7, h8, h9, h10, h11⟩ => ⟨dx, q, r, vb, xs, ys, (k _ hw).trans h1, (k _ h5).trans h2, (k _ h6).trans h3, (k _ h7).trans h4, h5, h6, h7, h8, h9, h10, h11⟩
def Mutb : HO → Prop
  | .lst _ => True
  | .dT _ => True
  | .ins _ _ _ => True
  | .own _ => True
  | _ => False
structure Thg (who : Addr → Option Addr) (G H : Hp) (μ : Mu) : Prop where
  ok : ∀ a t, μ.d a = some t → who a = some a ∧ ThOk μ.C who G H a t
  of : ∀ x a, who x = some a → G x = none ∧ μ x = none ∧ (∃ o, H x = some o ∧ Mutb o) ∧ (μ.d a).isSome = true
theorem Thg.keep {who : Addr → Option Addr} {G G' H H' : Hp} {μ μ' : Mu} (h : Thg who G H μ) (e : Ex G G') (hd : μ'.d = μ.d) (hC : μ'.C = μ.C) (k : ∀ x a, who x = some a → H' x = H x ∧ G' x = none ∧ μ' x = none) : Thg who G' H' μ' :=
  ⟨fun a t q => by
    rw [hd] at q
    obtain ⟨h1, h2⟩ := h.ok a t q
    rw [hC]
    exact ⟨h1, (h2.mono e).keep h1 fun x hx => (k x a hx).1⟩, fun x a hx => by
    obtain ⟨h1, h2, h3, h4⟩ := h.of x a hx
    obtain ⟨k1, k2, k3⟩ := k x a hx
    exact ⟨k2, k3, by rw [k1]; exact h3, by rw [hd]; exact h4⟩⟩
structure RM (G H : Hp) (μ : Mu) : Prop where
  ex : Ex G H
  own : ∀ a l, μ a = some l → G a = none ∧ ∃ vs, H a = some (.lst vs) ∧ ROs G vs l
  thg : ∃ who, Thg who G H μ
abbrev Rho := List (Option OV)
structure RV (G : Hp) (ρ : Rho) (σ : L2.St) : Prop where
  len : σ.length = ρ.length
  get : ∀ (i : Nat) o, ρ[i]? = some (some o) → ∃ v, σ[i]? = some (some v) ∧ RO G v o
section
variable {G G' H H' : Hp} {μ : Mu} {ρ : Rho} {σ : L2.St}
theorem RV.mono (h : RV G ρ σ) (e : Ex G G') : RV G' ρ σ := ⟨h.len, fun i o q => let ⟨v, a, b⟩ := h.get i o q; ⟨v, a, b.mono e⟩⟩
theorem RV.set (h : RV G ρ σ) {i : Nat} {v : V} {o : OV} (r : RO G v o) : RV G (ρ.set i (some o)) (σ.set i (some v)) := by
  refine ⟨by rw [List.length_set, List.length_set, h.len], fun j p q => ?_⟩
  by_cases e : i = j
  · subst e
    by_cases hl : i < ρ.length
    · rw [List.getElem?_set_self hl] at q
      cases q
      exact ⟨v, List.getElem?_set_self (by rw [h.len]; exact hl), r⟩
    · rw [List.getElem?_eq_none (by rw [List.length_set]; omega)] at q
      cases q
  · rw [List.getElem?_set_ne e] at q ⊢
    exact h.get j p q
theorem RV.wipe (h : RV G ρ σ) : ∀ (vs : List Nat), RV G (vs.foldr (fun v r => r.set v none) ρ) (L2.wipe σ vs)
  | [] => h
  | v :: vs => by
    have ih := RV.wipe h vs
    refine ⟨by show ((L2.wipe σ vs).set v none).length = _; rw [List.length_set, ih.len, List.foldr_cons, List.length_set], fun j p q => ?_⟩
    rw [List.foldr_cons] at q
    by_cases e : v = j
    · subst e
      by_cases hl : v < (vs.foldr (fun v r => r.set v none) ρ).length
      · rw [List.getElem?_set_self hl] at q
        cases q
      · rw [List.getElem?_eq_none (by rw [List.length_set]; omega)] at q
        cases q
    · rw [List.getElem?_set_ne e] at q
      obtain ⟨v', a, b⟩ := ih.get j p q
      refine ⟨v', ?_, b⟩
      show ((L2.wipe σ vs).set v none)[j]? = _
      rw [List.getElem?_set_ne e]
      exact a
theorem RM.fresh (r : RM G H μ) {p : Addr} (h : H p = none) : μ p = none := by
  cases q : μ p with
  | none => rfl
  | some l =>
    obtain ⟨_, vs, e, _⟩ := r.own p l q
    rw [h] at e
    cases e
theorem Thg.ne {who : Addr → Option Addr} (t : Thg who G H μ) {p x a : Addr} (h : H p = none) (hx : who x = some a) : x ≠ p := fun e => by
  obtain ⟨o, ho, _⟩ := (t.of x a hx).2.2.1
  rw [e, h] at ho
  cases ho
theorem Thg.neL {who : Addr → Option Addr} (t : Thg who G H μ) {p x a : Addr} {l : List OV} (h : μ p = some l) (hx : who x = some a) : x ≠ p := fun e => by
  have := (t.of x a hx).2.1
  rw [e, h] at this
  cases this
theorem RM.lay (r : RM G H μ) {p : Addr} {o : HO} (h : H p = none) : RM (upd G p o) (upd H p o) μ := by
  refine ⟨fun a u e => ?_, fun a l q => ?_, ?_⟩
  · by_cases ha : a = p
    · subst ha
      rw [upd_same] at e ⊢
      exact e
    · rw [upd_ne ha] at e ⊢
      exact r.ex a u e
  · obtain ⟨g, vs, e, w⟩ := r.own a l q
    have ha : a ≠ p := ne_of_none e h
    refine ⟨by rw [upd_ne ha]; exact g, vs, by rw [upd_ne ha]; exact e, w.mono (Ex.new (r.ex.free h))⟩
  · obtain ⟨who, t⟩ := r.thg
    refine ⟨who, t.keep (Ex.new (r.ex.free h)) rfl rfl fun x a hx => ?_⟩
    have n := t.ne h hx
    exact ⟨upd_ne n, by rw [upd_ne n]; exact (t.of x a hx).1, (t.of x a hx).2.1⟩
theorem RM.new (r : RM G H μ) {p : Addr} {vs : List V} {l : List OV} (h : H p = none) (w : ROs G vs l) : RM G (upd H p (.lst vs)) (μ.put p l) := by
  refine ⟨r.ex.trans (Ex.new h), fun a m q => ?_, ?_⟩
  · by_cases ha : a = p
    · subst ha
      rw [put_same] at q
      cases q
      exact ⟨r.ex.free h, vs, upd_same, w⟩
    · rw [put_ne ha] at q
      obtain ⟨g, us, e, w⟩ := r.own a m q
      exact ⟨g, us, by rw [upd_ne ha]; exact e, w⟩
  · obtain ⟨who, t⟩ := r.thg
    refine ⟨who, t.keep (Ex.refl G) rfl rfl fun x a hx => ?_⟩
    have n := t.ne h hx
    exact ⟨upd_ne n, (t.of x a hx).1, by rw [put_ne n]; exact (t.of x a hx).2.1⟩
theorem RM.chg (r : RM G H μ) {p : Addr} {vs : List V} {l m : List OV} (h : μ p = some m) (w : ROs G vs l) : RM G (upd H p (.lst vs)) (μ.put p l) := by
  obtain ⟨g0, us0, e0, _⟩ := r.own p m h
  refine ⟨fun a u e => ?_, fun a m q => ?_, ?_⟩
  · rw [upd_ne (ne_of_none e g0)]
    exact r.ex a u e
  · by_cases ha : a = p
    · subst ha
      rw [put_same] at q
      cases q
      exact ⟨g0, vs, upd_same, w⟩
    · rw [put_ne ha] at q
      obtain ⟨g, us, e, w⟩ := r.own a m q
      exact ⟨g, us, by rw [upd_ne ha]; exact e, w⟩
  · obtain ⟨who, t⟩ := r.thg
    refine ⟨who, t.keep (Ex.refl G) rfl rfl fun x a hx => ?_⟩
    have n := t.neL h hx
    exact ⟨upd_ne n, (t.of x a hx).1, by rw [put_ne n]; exact (t.of x a hx).2.1⟩
theorem RM.frz (r : RM G H μ) {p : Addr} {ds : List PyData} (h : μ p = some (ds.map .im)) : ∃ vs, H p = some (.lst vs) ∧ G p = none ∧ DvA G vs ds ∧ RM (upd G p (.lst vs)) H (μ.del p) := by
  obtain ⟨g0, vs, e0, w⟩ := r.own p _ h
  refine ⟨vs, e0, g0, ROs.ims w, fun a u e => ?_, fun a m q => ?_, ?_⟩
  · by_cases ha : a = p
    · subst ha
      rw [upd_same] at e
      cases e
      exact e0
    · rw [upd_ne ha] at e
      exact r.ex a u e
  · by_cases ha : a = p
    · subst ha
      rw [show μ.del a a = none from if_pos rfl] at q
      cases q
    · rw [show μ.del p a = μ a from if_neg ha] at q
      obtain ⟨g, us, e, w⟩ := r.own a m q
      exact ⟨by rw [upd_ne ha]; exact g, us, e, w.mono (Ex.new g0)⟩
  · obtain ⟨who, t⟩ := r.thg
    refine ⟨who, t.keep (Ex.new g0) rfl rfl fun x a hx => ?_⟩
    have n := t.neL h hx
    exact ⟨rfl, by rw [upd_ne n]; exact (t.of x a hx).1, by rw [show μ.del p x = μ x from if_neg n]; exact (t.of x a hx).2.1⟩
theorem RM.drop (r : RM G H μ) {μ' : Mu} (h : ∀ a l, μ' a = some l → μ a = some l) (hd : μ'.d = μ.d) (hC : μ'.C = μ.C) : RM G H μ' := ⟨r.ex, fun a l q => r.own a l (h a l q), by
  obtain ⟨who, t⟩ := r.thg
  refine ⟨who, t.keep (Ex.refl G) hd hC fun x a hx => ⟨rfl, (t.of x a hx).1, ?_⟩⟩
  cases q : μ' x with
  | none => rfl
  | some l =>
    have := (t.of x a hx).2.1
    rw [h x l q] at this
    cases this⟩
theorem RM.zero (C : Addr) : RM H H ⟨fun _ => none, fun _ => none, C⟩ := ⟨Ex.refl H, fun _ _ h => (nomatch h : False).elim, fun _ => none, fun _ _ h => (nomatch h : False).elim, fun _ _ h => (nomatch h : False).elim⟩
theorem RM.raw (r : RM G H μ) {p : Addr} {o : HO} (h : H p = none) : RM G (upd H p o) μ := ⟨r.ex.trans (Ex.new h), fun a l q => by
  obtain ⟨g, vs, e, w⟩ := r.own a l q
  exact ⟨g, vs, by rw [upd_ne (ne_of_none e h)]; exact e, w⟩, by
  obtain ⟨who, t⟩ := r.thg
  exact ⟨who, t.keep (Ex.refl G) rfl rfl fun x a hx => ⟨upd_ne (t.ne h hx), (t.of x a hx).1, (t.of x a hx).2.1⟩⟩⟩
end
end Nx
namespace Nx
open PySem PySem.Spec PyProof.Rows L2
def Fin (G : Hp) (Φ : OV → Mu → Prop) (Q : VK) : Prop := ∀ v o μ' G' H', Φ o μ' → Ex G G' → RM G' H' μ' → RO G' v o → Q v H'
theorem Fin.later {G G' : Hp} {Φ : OV → Mu → Prop} {Q : VK} (f : Fin G Φ Q) (e : Ex G G') : Fin G' Φ Q := fun v o μ' G2 H' h e2 => f v o μ' G2 H' h (e.trans e2)
def DE (X : Cx) (e : Expr) (ρ : Rho) (μ : Mu) (Φ : OV → Mu → Prop) : Prop := ∀ G H σ, RM G H μ → RV G ρ σ → ∀ Q : VK, Fin G Φ Q → WE X e σ H Q
def DT (X : Cx) (e : Expr) (ρ : Rho) (μ : Mu) (Φ : Bool → Mu → Prop) : Prop := ∀ G H σ, RM G H μ → RV G ρ σ → ∀ Q : Bool → Hp → Prop, (∀ b μ' G' H', Φ b μ' → Ex G G' → RM G' H' μ' → Q b H') → WT X e σ H Q
def DA (X : Cx) (es : List Expr) (ρ : Rho) (μ : Mu) (Φ : List OV → Mu → Prop) : Prop := ∀ G H σ, RM G H μ → RV G ρ σ → ∀ Q : List V → Hp → Prop, (∀ vs os μ' G' H', Φ os μ' → Ex G G' → RM G' H' μ' → ROs G' vs os → Q vs H') → WA X es σ H Q
def DK (X : Cx) (ks : List Keyword) (ρ : Rho) (μ : Mu) (Φ : List OV → Mu → Prop) : Prop := ∀ G H σ, RM G H μ → RV G ρ σ → ∀ Q : List V → Hp → Prop, (∀ vs os μ' G' H', Φ os μ' → Ex G G' → RM G' H' μ' → ROs G' vs os → Q vs H') → WK X ks σ H Q
structure DEnds where
  nx : Rho → Mu → Prop
  rt : OV → Mu → Prop
  bk : Rho → Mu → Prop := fun _ _ => False
  ct : Rho → Mu → Prop := fun _ _ => False
def FinS (G : Hp) (P : Rho → Mu → Prop) (Q : L2.St → Hp → Prop) : Prop := ∀ ρ' μ' G' H' σ', P ρ' μ' → Ex G G' → RM G' H' μ' → RV G' ρ' σ' → Q σ' H'
theorem FinS.later {G G' : Hp} {P : Rho → Mu → Prop} {Q : L2.St → Hp → Prop} (f : FinS G P Q) (e : Ex G G') : FinS G' P Q := fun ρ' μ' G2 H' σ' h e2 => f ρ' μ' G2 H' σ' h (e.trans e2)
structure FinE (G : Hp) (D : DEnds) (E : Ends) : Prop where
  nx : FinS G D.nx E.nx
  rt : Fin G D.rt E.rt
  bk : FinS G D.bk E.bk
  ct : FinS G D.ct E.ct
theorem FinE.later {G G' : Hp} {D : DEnds} {E : Ends} (f : FinE G D E) (e : Ex G G') : FinE G' D E := ⟨f.nx.later e, f.rt.later e, f.bk.later e, f.ct.later e⟩
def DS (X : Cx) (st : Stmt) (ρ : Rho) (μ : Mu) (D : DEnds) : Prop := ∀ G H σ, RM G H μ → RV G ρ σ → ∀ E : Ends, FinE G D E → WS X st E σ H
def DSs (X : Cx) (ss : List Stmt) (ρ : Rho) (μ : Mu) (D : DEnds) : Prop := ∀ G H σ, RM G H μ → RV G ρ σ → ∀ E : Ends, FinE G D E → WSs X ss E σ H
section
variable {X : Cx} {a b c e : Expr} {es : List Expr} {ρ : Rho} {μ : Mu} {Φ : OV → Mu → Prop} {pos : Pos}
theorem DE.imp {Ψ : OV → Mu → Prop} (h : DE X e ρ μ Φ) (k : ∀ o μ', Φ o μ' → Ψ o μ') : DE X e ρ μ Ψ := fun G H σ r v Q f => h G H σ r v Q fun v o μ' G' H' q => f v o μ' G' H' (k o μ' q)
theorem DT.imp {Φ Ψ : Bool → Mu → Prop} (h : DT X e ρ μ Φ) (k : ∀ o μ', Φ o μ' → Ψ o μ') : DT X e ρ μ Ψ := fun G H σ r v Q f => h G H σ r v Q fun o μ' G' H' q => f o μ' G' H' (k o μ' q)
theorem DA.imp {Φ Ψ : List OV → Mu → Prop} (h : DA X es ρ μ Φ) (k : ∀ o μ', Φ o μ' → Ψ o μ') : DA X es ρ μ Ψ := fun G H σ r v Q f => h G H σ r v Q fun v o μ' G' H' q => f v o μ' G' H' (k o μ' q)
theorem DSs.imp {ss : List Stmt} {D D' : DEnds} (h : DSs X ss ρ μ D) (k1 : ∀ r m, D.nx r m → D'.nx r m) (k2 : ∀ o m, D.rt o m → D'.rt o m) (k3 : ∀ r m, D.bk r m → D'.bk r m) (k4 : ∀ r m, D.ct r m → D'.ct r m) : DSs X ss ρ μ D' :=
  fun G H σ r v E f => h G H σ r v E ⟨fun ρ' μ' G' H' σ' q => f.nx ρ' μ' G' H' σ' (k1 _ _ q), fun v o μ' G' H' q => f.rt v o μ' G' H' (k2 _ _ q), fun ρ' μ' G' H' σ' q => f.bk ρ' μ' G' H' σ' (k3 _ _ q), fun ρ' μ' G' H' σ' q => f.ct ρ' μ' G' H' σ' (k4 _ _ q)⟩
theorem DS.imp {ss : Stmt} {D D' : DEnds} (h : DS X ss ρ μ D) (k1 : ∀ r m, D.nx r m → D'.nx r m) (k2 : ∀ o m, D.rt o m → D'.rt o m) (k3 : ∀ r m, D.bk r m → D'.bk r m) (k4 : ∀ r m, D.ct r m → D'.ct r m) : DS X ss ρ μ D' :=
  fun G H σ r v E f => h G H σ r v E ⟨fun ρ' μ' G' H' σ' q => f.nx ρ' μ' G' H' σ' (k1 _ _ q), fun v o μ' G' H' q => f.rt v o μ' G' H' (k2 _ _ q), fun ρ' μ' G' H' σ' q => f.bk ρ' μ' G' H' σ' (k3 _ _ q), fun ρ' μ' G' H' σ' q => f.ct ρ' μ' G' H' σ' (k4 _ _ q)⟩
theorem de_frz {ds : List PyData} {p : Addr} (h : DE X e ρ μ fun o μ' => ∃ p ds, o = .own p ∧ μ' p = some (ds.map .im) ∧ Φ (.im (.list ds)) (μ'.del p)) : DE X e ρ μ Φ := fun G H σ r v Q f =>
  h G H σ r v Q fun v o μ' G' H' q e m ro => by
    obtain ⟨p, ds, rfl, hp, q⟩ := q
    obtain ⟨vs, e0, g0, w, m'⟩ := m.frz hp
    have ro : v = .ref p := ro
    subst ro
    exact f _ _ _ _ _ q (e.trans (Ex.new g0)) m' (Dv.lst upd_same (w.mono (Ex.new g0)))
theorem de_var (i : Nat) {x : Str} {o : OV} (hN : X.N[i]? = some x) (hv : Vis X.env.scope x) (hρ : ρ[i]? = some (some o)) (h : Φ o μ) (hd : (x == ("__debug__" : Str)) = false := by decide) (hcd : (x == ("__classdict__" : Str)) = false := by decide) : DE X (.Name x pos) ρ μ Φ := fun G H σ r v Q f => by
  obtain ⟨u, h1, h2⟩ := v.get i o hρ
  exact WE.of (pe_var hN hv hd hcd) ⟨u, h1, f u o μ G H h (Ex.refl G) r h2⟩
theorem de_v (i : Nat) {x : Str} {o : OV} (hρ : ρ[i]? = some (some o)) (h : Φ o μ) (hN : X.N[i]? = some x := by rfl) (hv : Vis X.env.scope x := by first | exact Or.inl rfl | exact Or.inr (Or.inl rfl) | exact Or.inr (Or.inr rfl))
    (hd : (x == ("__debug__" : Str)) = false := by decide) (hcd : (x == ("__classdict__" : Str)) = false := by decide) : DE X (.Name x pos) ρ μ Φ := de_var i hN hv hρ h hd hcd
theorem de_int {i : Int} {j : Nat} (h : Φ (.im (.int i)) μ) : DE X (.Constant (.int i) j pos) ρ μ Φ := fun G H σ r v Q f => WE.of pe_int (f _ _ _ _ _ h (Ex.refl G) r (Dv.int i))
theorem de_bl {i : Bool} {j : Nat} (h : Φ (.im (.bool i)) μ) : DE X (.Constant (.bool i) j pos) ρ μ Φ := fun G H σ r v Q f => WE.of pe_bl (f _ _ _ _ _ h (Ex.refl G) r (Dv.bl i))
theorem de_non {j : Nat} (h : Φ (.im .none) μ) : DE X (.Constant .none j pos) ρ μ Φ := fun G H σ r v Q f => WE.of pe_non (f _ _ _ _ _ h (Ex.refl G) r Dv.non)
theorem de_str {i : Str} {j : Nat} (h : Φ (.im (.str i)) μ) : DE X (.Constant (.str i) j pos) ρ μ Φ := fun G H σ r v Q f => WE.of pe_str (f _ _ _ _ _ h (Ex.refl G) r (Dv.str i))
def OpD (r : R2) (x y : OV) (μ : Mu) (Φ : OV → Mu → Prop) : Prop := ∀ G H vx vy, RM G H μ → RO G vx x → RO G vy y → ∀ Q : VK, Fin G Φ Q → r vx vy H Q
theorem de_op {op : Operator} {r : R2} (ho : OpR X (binaryOp op) r) (h : DE X a ρ μ fun x μ1 => DE X b ρ μ1 fun y μ2 => OpD r x y μ2 Φ) : DE X (.BinOp a op b pos) ρ μ Φ := fun G H σ m v Q f =>
  WE.of (pe_op ho pwe pwe) (h G H σ m v _ fun vx x μ1 G1 H1 q1 e1 m1 r1 => q1 G1 H1 σ m1 (v.mono e1) _ fun vy y μ2 G2 H2 q2 e2 m2 r2 => q2 G2 H2 vx vy m2 (r1.mono e2) r2 Q (f.later (e1.trans e2)))
theorem de_cmp {op : CmpOp} {r : R2} (ho : OpR X (compareOp op) r) (hm : behindInMarks op b = false) (h : DE X a ρ μ fun x μ1 => DE X b ρ μ1 fun y μ2 => OpD r x y μ2 Φ) : DE X (.Compare a [op] [b] pos) ρ μ Φ := fun G H σ m v Q f =>
  WE.of (pe_cmpR ho pwe pwe hm) (h G H σ m v _ fun vx x μ1 G1 H1 q1 e1 m1 r1 => q1 G1 H1 σ m1 (v.mono e1) _ fun vy y μ2 G2 H2 q2 e2 m2 r2 => q2 G2 H2 vx vy m2 (r1.mono e2) r2 Q (f.later (e1.trans e2)))
theorem dt_cmp {Φ : Bool → Mu → Prop} {op : CmpOp} {r : R2} (ho : OpR X (compareOp op) r) (hm : behindInMarks op b = false) (h : DE X a ρ μ fun x μ1 => DE X b ρ μ1 fun y μ2 => OpD r x y μ2 fun z μ3 => ∃ k, z = .im (.bool k) ∧ Φ k μ3) : DT X (.Compare a [op] [b] pos) ρ μ Φ := fun G H σ m v Q f =>
  WT.of (pt_cmpR ho pwe pwe hm) (h G H σ m v _ fun vx x μ1 G1 H1 q1 e1 m1 r1 => q1 G1 H1 σ m1 (v.mono e1) _ fun vy y μ2 G2 H2 q2 e2 m2 r2 => q2 G2 H2 vx vy m2 (r1.mono e2) r2 _ fun vz z μ3 G3 H3 q3 e3 m3 r3 => by
    obtain ⟨k, rfl, q⟩ := q3
    cases r3
    exact ⟨k, rfl, f k μ3 G3 H3 q ((e1.trans e2).trans e3) m3⟩)
theorem od_I0 {g : Int → Int → Int} {i j : Int} (h : Φ (.im (.int (g i j))) μ) : OpD (rI0 fun i j => .int (g i j)) (.im (.int i)) (.im (.int j)) μ Φ := fun G H vx vy m rx ry Q f => by
  cases rx
  cases ry
  exact ⟨i, j, rfl, rfl, f _ _ μ G H h (Ex.refl G) m (Dv.int _)⟩
theorem od_B0 {g : Int → Int → Bool} {i j : Int} (h : Φ (.im (.bool (g i j))) μ) : OpD (rI0 fun i j => .bl (g i j)) (.im (.int i)) (.im (.int j)) μ Φ := fun G H vx vy m rx ry Q f => by
  cases rx
  cases ry
  exact ⟨i, j, rfl, rfl, f _ _ μ G H h (Ex.refl G) m (Dv.bl _)⟩
theorem od_I {C : Int → Int → Prop} {g : Int → Int → Int} {i j : Int} (hc : C i j) (h : Φ (.im (.int (g i j))) μ) : OpD (rI C fun i j => .int (g i j)) (.im (.int i)) (.im (.int j)) μ Φ := fun G H vx vy m rx ry Q f => by
  cases rx
  cases ry
  exact ⟨i, j, rfl, rfl, hc, f _ _ μ G H h (Ex.refl G) m (Dv.int _)⟩
theorem OpD.or {r r' : R2} {x y : OV} (h : OpD r x y μ Φ ∨ OpD r' x y μ Φ) : OpD (fun x y H Q => r x y H Q ∨ r' x y H Q) x y μ Φ := fun G H vx vy m rx ry Q f => by
  rcases h with h | h
  · exact .inl (h G H vx vy m rx ry Q f)
  · exact .inr (h G H vx vy m rx ry Q f)
def AddD (x y : OV) (μ : Mu) (Φ : OV → Mu → Prop) : Prop :=
  (∃ i j, x = .im (.int i) ∧ y = .im (.int j) ∧ Φ (.im (.int (i + j))) μ) ∨
  (∃ xs ys, x = .im (.list xs) ∧ y = .im (.list ys) ∧ xs.length + ys.length ≤ 100000 ∧ Φ (.im (.list (xs ++ ys))) μ) ∨
  (∃ x' y', x = .im (.str x') ∧ y = .im (.str y') ∧ x'.length + y'.length ≤ 100000 ∧ Φ (.im (.str (x' ++ y'))) μ)
theorem od_cat {xs ys : List PyData} (hz : xs.length + ys.length ≤ 100000) (h : Φ (.im (.list (xs ++ ys))) μ) : OpD rCat (.im (.list xs)) (.im (.list ys)) μ Φ := fun G H vx vy m rx ry Q f => by
  cases rx with
  | lst h1 w1 =>
    cases ry with
    | lst h2 w2 =>
      refine ⟨_, _, _, _, rfl, rfl, m.ex _ _ h1, m.ex _ _ h2, by rw [w1.length, w2.length]; exact Nat.le_trans hz (by decide), fun p hp => ?_⟩
      have n := m.ex.free hp
      exact f _ _ μ _ _ h (Ex.new n) (m.lay hp) (Dv.lst upd_same ((w1.append w2).mono (Ex.new n)))
theorem de_add (h : DE X a ρ μ fun x μ1 => DE X b ρ μ1 fun y μ2 => AddD x y μ2 Φ) : DE X (.BinOp a .Add b pos) ρ μ Φ := by
  refine de_op ((op_add.or op_cat).or op_add_str) (h.imp fun x μ1 h1 => h1.imp fun y μ2 h2 => ?_)
  rcases h2 with ⟨i, j, rfl, rfl, q⟩ | ⟨xs, ys, rfl, rfl, hz, q⟩ | ⟨xs, ys, rfl, rfl, hz, q⟩
  · exact .or (.inl (.or (.inl (od_I0 q))))
  · exact .or (.inl (.or (.inr (od_cat hz q))))
  · refine .or (.inr fun G H vx vy m rx ry Q f => ?_)
    cases rx
    cases ry
    exact ⟨_, _, rfl, rfl, Nat.le_trans hz (by decide), f _ _ _ _ _ q (Ex.refl G) m (Dv.str _)⟩
theorem de_mod (h : DE X a ρ μ fun x μ1 => DE X b ρ μ1 fun y μ2 => ∃ i j, x = .im (.int i) ∧ y = .im (.int j) ∧ 0 < j ∧ Φ (.im (.int (i % j))) μ2) : DE X (.BinOp a .Mod b pos) ρ μ Φ := by
  refine de_op op_mod (h.imp fun x μ1 h1 => h1.imp fun y μ2 h2 => ?_)
  obtain ⟨i, j, rfl, rfl, hj, q⟩ := h2
  exact od_I hj q
theorem de_fdiv (h : DE X a ρ μ fun x μ1 => DE X b ρ μ1 fun y μ2 => ∃ i j, x = .im (.int i) ∧ y = .im (.int j) ∧ CDiv i j ∧ Φ (.im (.int (i / j))) μ2) : DE X (.BinOp a .FloorDiv b pos) ρ μ Φ := by
  refine de_op op_fdiv (h.imp fun x μ1 h1 => h1.imp fun y μ2 h2 => ?_)
  obtain ⟨i, j, rfl, rfl, hj, q⟩ := h2
  exact od_I hj q
theorem de_mul (h : DE X a ρ μ fun x μ1 => DE X b ρ μ1 fun y μ2 => ∃ i j, x = .im (.int i) ∧ y = .im (.int j) ∧ CMul i j ∧ Φ (.im (.int (i * j))) μ2) : DE X (.BinOp a .Mult b pos) ρ μ Φ := by
  refine de_op op_mul (h.imp fun x μ1 h1 => h1.imp fun y μ2 h2 => ?_)
  obtain ⟨i, j, rfl, rfl, hj, q⟩ := h2
  exact od_I hj q
theorem de_pow (h : DE X a ρ μ fun x μ1 => DE X b ρ μ1 fun y μ2 => ∃ i j, x = .im (.int i) ∧ y = .im (.int j) ∧ CPow i j ∧ Φ (.im (.int (i ^ j.toNat))) μ2) : DE X (.BinOp a .Pow b pos) ρ μ Φ := by
  refine de_op op_pow (h.imp fun x μ1 h1 => h1.imp fun y μ2 h2 => ?_)
  obtain ⟨i, j, rfl, rfl, hj, q⟩ := h2
  exact od_I hj q
inductive RdD (μ : Mu) : OV → PyData → Prop
  | im (d : PyData) : RdD μ (.im d) d
  | own {a : Addr} {ds : List PyData} : μ a = some (ds.map .im) → RdD μ (.own a) (.list ds)
theorem RdD.at {G H : Hp} {μ : Mu} (m : RM G H μ) {v : V} {o : OV} {d : PyData} (h : RdD μ o d) (r : RO G v o) : Dv H v d := by
  cases h with
  | im d => exact Dv.mono m.ex r
  | own h =>
    have r : v = _ := r
    subst r
    obtain ⟨_, vs, e, w⟩ := m.own _ _ h
    exact .lst e ((ROs.ims w).mono m.ex)
def CmpI (p : Int → Int → Bool) (Φ : OV → Mu → Prop) (x y : OV) (μ : Mu) : Prop := ∃ i j, x = .im (.int i) ∧ y = .im (.int j) ∧ Φ (.im (.bool (p i j))) μ
theorem de_ge (h : DE X a ρ μ fun x μ1 => DE X b ρ μ1 fun y μ2 => CmpI (fun i j => decide (j ≤ i)) Φ x y μ2) : DE X (.Compare a [.GtE] [b] pos) ρ μ Φ :=
  de_cmp op_ge (nomark _) (h.imp fun x μ1 h1 => h1.imp fun y μ2 ⟨i, j, e1, e2, q⟩ => by subst e1 e2; exact od_B0 q)
theorem dt_gt {Φ : Bool → Mu → Prop} (h : DE X a ρ μ fun x μ1 => DE X b ρ μ1 fun y μ2 => ∃ i j, x = .im (.int i) ∧ y = .im (.int j) ∧ Φ (decide (j < i)) μ2) : DT X (.Compare a [.Gt] [b] pos) ρ μ Φ :=
  dt_cmp op_gt (nomark _) (h.imp fun x μ1 h1 => h1.imp fun y μ2 ⟨i, j, e1, e2, q⟩ => by subst e1 e2; exact od_B0 ⟨_, rfl, q⟩)
theorem od_eq {x y : OV} {d e : PyData} (hx : RdD μ x d) (hy : RdD μ y e) (sd : SeqAt.shaped d = true) (se : SeqAt.shaped e = true) (h : Φ (.im (.bool (PyData.eqv d e))) μ) : OpD (rEqD X.K) x y μ Φ := fun G H vx vy m rx ry Q f =>
  ⟨d, e, (hx.at m rx).dp, (hy.at m ry).dp, sd, se, f _ _ _ _ _ h (Ex.refl G) m (Dv.bl _)⟩
theorem od_ne {x y : OV} {d e : PyData} (hx : RdD μ x d) (hy : RdD μ y e) (sd : SeqAt.shaped d = true) (se : SeqAt.shaped e = true) (h : Φ (.im (.bool (!PyData.eqv d e))) μ) : OpD (rNeD X.K) x y μ Φ := fun G H vx vy m rx ry Q f =>
  ⟨d, e, (hx.at m rx).dp, (hy.at m ry).dp, sd, se, f _ _ _ _ _ h (Ex.refl G) m (Dv.bl _)⟩
end
end Nx
namespace Nx
open PySem PySem.Spec PyProof.Rows L2
section
variable {X : Cx} {a b c e : Expr} {es rest : List Expr} {ρ : Rho} {μ : Mu} {Φ : OV → Mu → Prop} {pos : Pos}
theorem op_eqI : OpR X (compareOp .Eq) (rI0 fun i j => .bl (decide (i = j))) := opB0 fun i j t u s Q E q => eq_int (by rw [Bool.beq_eq_decide_eq]; exact q)
theorem op_neI : OpR X (compareOp .NotEq) (rI0 fun i j => .bl (!decide (i = j))) := opB0 fun i j t u s Q E q => ne_int (by rw [bne, Bool.beq_eq_decide_eq]; exact q)
def EqD (x y : OV) (μ : Mu) (f : Bool → Bool) (Φ : OV → Mu → Prop) : Prop :=
  (∃ i j, x = .im (.int i) ∧ y = .im (.int j) ∧ Φ (.im (.bool (f (decide (i = j))))) μ) ∨
  (∃ d e, RdD μ x d ∧ RdD μ y e ∧ SeqAt.shaped d = true ∧ SeqAt.shaped e = true ∧ Φ (.im (.bool (f (PyData.eqv d e)))) μ) ∨
  (∃ a b, x = .im (.str a) ∧ y = .im (.str b) ∧ Φ (.im (.bool (f (decide (a = b))))) μ)
theorem dec_strD {a b : Str} : decide (V.str a = V.str b) = decide (a = b) := by
  by_cases h : a = b
  · subst h
    simp
  · have h' : ¬ V.str a = V.str b := fun e => h (V.str.inj e)
    simp [h]
theorem od_eqS {a b : Str} (h : Φ (.im (.bool (decide (a = b)))) μ) : OpD rEq (.im (.str a)) (.im (.str b)) μ Φ := fun G H vx vy m rx ry Q f => by
  cases rx
  cases ry
  refine ⟨rfl, ?_⟩
  rw [dec_strD]
  exact f _ _ _ _ _ h (Ex.refl G) m (Dv.bl _)
theorem od_neS {a b : Str} (h : Φ (.im (.bool (!decide (a = b)))) μ) : OpD rNe (.im (.str a)) (.im (.str b)) μ Φ := fun G H vx vy m rx ry Q f => by
  cases rx
  cases ry
  refine ⟨rfl, ?_⟩
  rw [dec_strD]
  exact f _ _ _ _ _ h (Ex.refl G) m (Dv.bl _)
theorem de_eq {k : Nat} (hr : Room k X.A) (h : DE X a ρ μ fun x μ1 => DE X b ρ μ1 fun y μ2 => EqD x y μ2 id Φ) : DE X (.Compare a [.Eq] [b] pos) ρ μ Φ := by
  refine de_cmp ((op_eqI.or (op_eqD hr.units)).or op_eq) (nomark _) (h.imp fun x μ1 h1 => h1.imp fun y μ2 h2 => ?_)
  rcases h2 with ⟨i, j, rfl, rfl, q⟩ | ⟨d, e, h1, h2, s1, s2, q⟩ | ⟨a, b, rfl, rfl, q⟩
  · exact .or (.inl (.or (.inl (od_B0 q))))
  · exact .or (.inl (.or (.inr (od_eq h1 h2 s1 s2 q))))
  · exact .or (.inr (od_eqS q))
def InD (x y : OV) (μ : Mu) (f : Bool → Bool) (Φ : OV → Mu → Prop) : Prop :=
  ∃ (n : Int) (ns : List Int), x = .im (.int n) ∧ (RdD μ y (.list (ns.map .int)) ∨ RdD μ y (.tuple (ns.map .int))) ∧ Φ (.im (.bool (f (decide (n ∈ ns))))) μ
theorem inV_ints (n : Int) : ∀ ns : List Int, inV (.int n) (ns.map V.int) = decide (n ∈ ns)
  | [] => rfl
  | m :: ns => by
    have ih := inV_ints n ns
    unfold inV at ih ⊢
    rw [List.map_cons, List.any_cons, ih]
    show ((m == n) || decide (n ∈ ns)) = decide (n ∈ m :: ns)
    by_cases h : n = m
    · subst h
      simp
    · have h' : ¬ m = n := fun e => h e.symm
      simp [h, h']
theorem flat_ints : ∀ ns : List Int, (ns.map V.int).all flatV = true
  | [] => rfl
  | _ :: ns => by
    rw [List.map_cons, List.all_cons, flat_ints ns]
    rfl
theorem od_in {neg : Bool} {x y : OV} (h : InD x y μ (fun k => if neg then !k else k) Φ) : OpD (rIn X.K neg) x y μ Φ := fun G H vx vy m rx ry Q f => by
  obtain ⟨n, ns, rfl, hy, q⟩ := h
  cases rx
  have fin : Q (.bl (if neg then !inV (.int n) (ns.map V.int) else inV (.int n) (ns.map V.int))) H := by
    rw [inV_ints]
    exact f _ _ _ _ _ q (Ex.refl G) m (Dv.bl _)
  rcases hy with hy | hy
  · have d := hy.at m ry
    generalize hd : PyData.list (ns.map .int) = dd at d
    cases d with
    | lst h1 w => cases hd; exact ⟨_, _, rfl, .inl (.inl (.inl h1)), rfl, by rw [w.ints]; exact flat_ints ns, by rw [w.ints]; exact fin⟩
    | _ => cases hd
  · have d := hy.at m ry
    generalize hd : PyData.tuple (ns.map .int) = dd at d
    cases d with
    | tup h1 w => cases hd; exact ⟨_, _, rfl, .inr (.inl (.inl h1)), rfl, by rw [w.ints]; exact flat_ints ns, by rw [w.ints]; exact fin⟩
    | _ => cases hd
def isNon : OV → Bool
  | .im .none => true
  | _ => false
theorem isNon_at {G : Hp} {v : V} : ∀ {o : OV}, RO G v o → decide (v = .non) = isNon o
  | .own a, h => by
    have h : v = .ref a := h
    subst h
    rfl
  | .scr K ns, h => by
    obtain ⟨a, rfl, _⟩ := h
    rfl
  | .pr p d, h => by
    obtain ⟨t, v2, rfl, _⟩ := h
    rfl
  | .dic kvs, h => by
    obtain ⟨t, v2, rfl, _⟩ := h
    rfl
  | .ob P, h => by
    obtain ⟨a, rfl⟩ := P.ref h
    rfl
  | .im d, h => by
    have h : Dv G v d := h
    cases h <;> rfl
theorem od_isN {x y : OV} (hy : y = .im .none) (h : Φ (.im (.bool (isNon x))) μ) : OpD (fun x y H Q => y = .non ∧ Q (.bl (decide (x = .non))) H) x y μ Φ := fun G H vx vy m rx ry Q f => by
  subst hy
  cases ry
  refine ⟨rfl, ?_⟩
  rw [isNon_at rx]
  exact f _ _ _ _ _ h (Ex.refl G) m (Dv.bl _)
theorem dt_isN {j : Nat} {p' : Pos} {Φ : Bool → Mu → Prop} (h : DE X a ρ μ fun x μ1 => Φ (isNon x) μ1) : DT X (.Compare a [.Is] [.Constant .none j p'] pos) ρ μ Φ :=
  dt_cmp op_isN (nomark _) (h.imp fun x μ1 h1 => de_non (od_isN rfl ⟨_, rfl, h1⟩))
def WW (X : Cx) (e : Expr) : TT := fun σ H Q => ∀ whole pins s, Inv X pins σ H s → wpAny (model X.prog X.w) X.A (isTrue e X.env whole) (TP X pins σ Q) X.xe s
theorem pww : PW X e (WW X e) := ⟨fun whole pins s _ _ _ I h => h whole pins s I⟩
theorem WW.of {t : TT} {σ : L2.St} {H : Hp} {Q : Bool → Hp → Prop} (h : PW X e t) (q : t σ H Q) : WW X e σ H Q := fun whole pins s I => h.run whole pins s σ H Q I q
def DW (X : Cx) (e : Expr) (ρ : Rho) (μ : Mu) (Φ : Bool → Mu → Prop) : Prop := ∀ G H σ, RM G H μ → RV G ρ σ → ∀ Q : Bool → Hp → Prop, (∀ b μ' G' H', Φ b μ' → Ex G G' → RM G' H' μ' → Q b H') → WW X e σ H Q
variable {Ψ : Bool → Mu → Prop}
theorem dt_not (h : DT X a ρ μ fun k μ1 => Ψ (!k) μ1) : DT X (.UnaryOp .Not a pos) ρ μ Ψ := fun G H σ m v Q f =>
  WT.of (pt_not pwt) (h G H σ m v _ fun k μ1 G1 H1 q1 e1 m1 => f _ _ _ _ q1 e1 m1)
theorem DW.dt (h : DW X e ρ μ Ψ) : DT X e ρ μ Ψ := fun G H σ m v Q f pins s I => h G H σ m v Q f _ pins s I
theorem dw_and1 (h : DT X a ρ μ Ψ) : DW X (.BoolOp .And [a] pos) ρ μ Ψ := fun G H σ m v Q f => WW.of (pw_and1 pwt) (h G H σ m v Q f)
theorem dw_or1 (h : DT X a ρ μ Ψ) : DW X (.BoolOp .Or [a] pos) ρ μ Ψ := fun G H σ m v Q f => WW.of (pw_or1 pwt) (h G H σ m v Q f)
theorem dw_and (h : DT X a ρ μ fun k μ1 => if k = true then DW X (.BoolOp .And (b :: rest) pos) ρ μ1 Ψ else Ψ false μ1) : DW X (.BoolOp .And (a :: b :: rest) pos) ρ μ Ψ := fun G H σ m v Q f =>
  WW.of (pw_and pwt pww) (h G H σ m v _ fun k μ1 G1 H1 q1 e1 m1 => by
    dsimp only at q1
    split at q1
    · rename_i hk
      subst hk
      rw [if_pos rfl]
      exact q1 G1 H1 σ m1 (v.mono e1) Q fun k μ2 G2 H2 q2 e2 m2 => f _ _ _ _ q2 (e1.trans e2) m2
    · rename_i hk
      rw [if_neg hk]
      exact f _ _ _ _ q1 e1 m1)
theorem dw_or (h : DT X a ρ μ fun k μ1 => if k = true then Ψ true μ1 else DW X (.BoolOp .Or (b :: rest) pos) ρ μ1 Ψ) : DW X (.BoolOp .Or (a :: b :: rest) pos) ρ μ Ψ := fun G H σ m v Q f =>
  WW.of (pw_or pwt pww) (h G H σ m v _ fun k μ1 G1 H1 q1 e1 m1 => by
    dsimp only at q1
    split at q1
    · rename_i hk
      subst hk
      rw [if_pos rfl]
      exact f _ _ _ _ q1 e1 m1
    · rename_i hk
      rw [if_neg hk]
      exact q1 G1 H1 σ m1 (v.mono e1) Q fun k μ2 G2 H2 q2 e2 m2 => f _ _ _ _ q2 (e1.trans e2) m2)
theorem de_one {op} (h : DE X a ρ μ Φ) : DE X (.BoolOp op [a] pos) ρ μ Φ := fun G H σ m v Q f => WE.of (pe_one pwe) (h G H σ m v Q f)
theorem de_and (h : DE X a ρ μ fun x μ1 => ∃ k, x = .im (.bool k) ∧ if k = true then DE X (.BoolOp .And (b :: rest) pos) ρ μ1 Φ else Φ (.im (.bool false)) μ1) : DE X (.BoolOp .And (a :: b :: rest) pos) ρ μ Φ := fun G H σ m v Q f =>
  WE.of (pe_and pwe pwe) (h G H σ m v _ fun vx x μ1 G1 H1 q1 e1 m1 r1 => by
    obtain ⟨k, rfl, q⟩ := q1
    cases r1
    refine ⟨k, rfl, ?_⟩
    split at q
    · rename_i hk
      rw [if_pos hk]
      exact q G1 H1 σ m1 (v.mono e1) Q (f.later e1)
    · rename_i hk
      rw [if_neg hk]
      exact f _ _ _ _ _ q e1 m1 (Dv.bl _))
theorem de_not (h : DE X a ρ μ fun x μ1 => ∃ k, x = .im (.bool k) ∧ Φ (.im (.bool (!k))) μ1) : DE X (.UnaryOp .Not a pos) ρ μ Φ := fun G H σ m v Q f =>
  WE.of (pe_not pwe) (h G H σ m v _ fun vx x μ1 G1 H1 q1 e1 m1 r1 => by
    obtain ⟨k, rfl, q⟩ := q1
    cases r1
    exact ⟨k, rfl, f _ _ _ _ _ q e1 m1 (Dv.bl _)⟩)
theorem de_ifExp (h : DT X c ρ μ fun k μ1 => if k = true then DE X a ρ μ1 Φ else DE X b ρ μ1 Φ) : DE X (.IfExp c a b pos) ρ μ Φ := fun G H σ m v Q f =>
  WE.of (pe_ifExp pwt pwe pwe) (h G H σ m v _ fun k μ1 G1 H1 q1 e1 m1 => by
    dsimp only at q1
    split at q1
    · rename_i hk
      rw [if_pos hk]
      exact q1 G1 H1 σ m1 (v.mono e1) Q (f.later e1)
    · rename_i hk
      rw [if_neg hk]
      exact q1 G1 H1 σ m1 (v.mono e1) Q (f.later e1))
theorem de_orL (h : DE X a ρ μ fun x μ1 => ∃ ds, RdD μ1 x (.list ds) ∧ if ds ≠ [] then Φ x μ1 else DE X (.BoolOp .Or (b :: rest) pos) ρ μ1 Φ) : DE X (.BoolOp .Or (a :: b :: rest) pos) ρ μ Φ := fun G H σ m v Q f =>
  WE.of (pe_orT pwe pwe) (h G H σ m v _ fun vx x μ1 G1 H1 q1 e1 m1 r1 => by
    obtain ⟨ds, hd, q⟩ := q1
    have d := hd.at m1 r1
    generalize hdd : PyData.list ds = dd at d
    cases d with
    | lst h1 w =>
      cases hdd
      refine ⟨_, .inl ⟨_, .inl (.inl h1), rfl⟩, ?_⟩
      by_cases hn : ds = []
      · rw [if_neg (by simp [hn])] at q
        subst hn
        cases w
        rw [if_neg (by simp)]
        exact q G1 H1 σ m1 (v.mono e1) Q (f.later e1)
      · rw [if_pos hn] at q
        rw [if_pos (by
          cases w with
          | nil => exact absurd rfl hn
          | cons _ _ => rfl)]
        exact f _ _ _ _ _ q e1 m1 r1
    | _ => cases hdd)
end
end Nx
namespace Nx
open PySem PySem.Spec PyProof.Rows L2
section
variable {X : Cx} {a b c e : Expr} {es rest : List Expr} {ρ : Rho} {μ : Mu} {Φ : OV → Mu → Prop} {Λ : List OV → Mu → Prop} {pos : Pos}
theorem da_nil (h : Λ [] μ) : DA X [] ρ μ Λ := fun G H σ m v Q f => WA.of pa_nil (f [] [] μ G H h (Ex.refl G) m .nil)
theorem da_cons (h : DE X e ρ μ fun x μ1 => DA X es ρ μ1 fun xs μ2 => Λ (x :: xs) μ2) (hs : starEach (e :: es) X.env = (false, eval e X.env) :: starEach es X.env := by rfl) : DA X (e :: es) ρ μ Λ := fun G H σ m v Q f =>
  WA.of (pa_cons pwe pwa hs) (h G H σ m v _ fun vx x μ1 G1 H1 q1 e1 m1 r1 => q1 G1 H1 σ m1 (v.mono e1) _ fun vs xs μ2 G2 H2 q2 e2 m2 r2 => f _ _ _ _ _ q2 (e1.trans e2) m2 (.cons (r1.mono e2) r2))
theorem dk_nil (h : Λ [] μ) : DK X [] ρ μ Λ := fun G H σ m v Q f => WK.of pk_nil (f [] [] μ G H h (Ex.refl G) m .nil)
theorem dk_cons {nm : Option Str} {kpos : Pos} {ks : List Keyword} (h : DE X e ρ μ fun x μ1 => DK X ks ρ μ1 fun xs μ2 => Λ (x :: xs) μ2) : DK X (⟨nm, e, kpos⟩ :: ks) ρ μ Λ := fun G H σ m v Q f =>
  WK.of (pk_cons pwe pwk) (h G H σ m v _ fun vx x μ1 G1 H1 q1 e1 m1 r1 => q1 G1 H1 σ m1 (v.mono e1) _ fun vs xs μ2 G2 H2 q2 e2 m2 r2 => f _ _ _ _ _ q2 (e1.trans e2) m2 (.cons (r1.mono e2) r2))
theorem sz {n : Nat} (h : n ≤ 100000) : n ≤ sizeLine := Nat.le_trans h (by decide)
theorem de_lst (h : DA X es ρ μ fun os μ1 => ∃ ds, os = ds.map .im ∧ ds.length ≤ 100000 ∧ Φ (.im (.list ds)) μ1) : DE X (.List es pos) ρ μ Φ := fun G H σ m v Q f =>
  WE.of (pe_lst pwa) (h G H σ m v _ fun vs os μ1 G1 H1 q1 e1 m1 r1 => by
    obtain ⟨ds, rfl, hz, q⟩ := q1
    refine ⟨by rw [r1.length, List.length_map]; exact sz hz, fun p hp => ?_⟩
    have n := m1.ex.free hp
    exact f _ _ _ _ _ q (e1.trans (Ex.new n)) (m1.lay hp) (Dv.lst upd_same (r1.ims.mono (Ex.new n))))
theorem de_lstO (h : DA X es ρ μ fun os μ1 => os.length ≤ 100000 ∧ ∀ p, μ1 p = none → Φ (.own p) (μ1.put p os)) : DE X (.List es pos) ρ μ Φ := fun G H σ m v Q f =>
  WE.of (pe_lst pwa) (h G H σ m v _ fun vs os μ1 G1 H1 q1 e1 m1 r1 => by
    obtain ⟨hz, q⟩ := q1
    refine ⟨by rw [r1.length]; exact sz hz, fun p hp => ?_⟩
    exact f _ _ _ _ _ (q p (m1.fresh hp)) e1 (m1.new hp r1) rfl)
theorem de_tup {x1} (h : DA X es ρ μ fun os μ1 => ∃ ds, os = ds.map .im ∧ ds.length ≤ 100000 ∧ Φ (.im (.tuple ds)) μ1) : DE X (.Tuple es x1 pos) ρ μ Φ := fun G H σ m v Q f =>
  WE.of (pe_tup pwa) (h G H σ m v _ fun vs os μ1 G1 H1 q1 e1 m1 r1 => by
    obtain ⟨ds, rfl, hz, q⟩ := q1
    refine ⟨by rw [r1.length, List.length_map]; exact sz hz, fun p hp => ?_⟩
    have n := m1.ex.free hp
    exact f _ _ _ _ _ q (e1.trans (Ex.new n)) (m1.lay hp) (Dv.tup upd_same (r1.ims.mono (Ex.new n))))
inductive SqD (μ : Mu) : OV → List OV → Prop
  | lst (ds : List PyData) : SqD μ (.im (.list ds)) (ds.map .im)
  | tup (ds : List PyData) : SqD μ (.im (.tuple ds)) (ds.map .im)
  | own {a : Addr} {l : List OV} : μ a = some l → SqD μ (.own a) l
theorem SqD.at {G H : Hp} (m : RM G H μ) {v : V} {o : OV} {l : List OV} (h : SqD μ o l) (r : RO G v o) : ∃ a xs, v = .ref a ∧ (H a = some (.lst xs) ∨ H a = some (.tup xs)) ∧ ROs G xs l := by
  cases h with
  | lst ds =>
    have r : Dv G v (.list ds) := r
    cases r with
    | lst h w => exact ⟨_, _, rfl, .inl (m.ex _ _ h), ROs.of_ims w⟩
  | tup ds =>
    have r : Dv G v (.tuple ds) := r
    cases r with
    | tup h w => exact ⟨_, _, rfl, .inr (m.ex _ _ h), ROs.of_ims w⟩
  | own h =>
    have r : v = _ := r
    subst r
    obtain ⟨_, vs, e, w⟩ := m.own _ _ h
    exact ⟨_, vs, rfl, .inl e, w⟩
theorem sq_or {K : PySem.W.Frag} {H : Hp} {a : Addr} {xs : List V} (h : H a = some (.lst xs) ∨ H a = some (.tup xs)) : SqL K H a xs ∨ SqT K H a xs := by
  rcases h with h | h
  · exact .inl (.inl (.inl h))
  · exact .inr (.inl (.inl h))
theorem ROs.at {G : Hp} {xs : List V} {l : List OV} {i : Int} {o : OV} (w : ROs G xs l) (h : atI l i = some o) : ∃ v, atI xs i = some v ∧ RO G v o := by
  unfold atI at h ⊢
  rw [w.length]
  cases q : ixN l.length i with
  | none =>
    rw [q] at h
    cases h
  | some j =>
    rw [q] at h
    obtain ⟨v, h1, h2⟩ := ROs.get w (show l[j]? = some o from h)
    exact ⟨v, h1, h2⟩
theorem de_ix (hs : PlainIx b) (h : DE X a ρ μ fun x μ1 => DE X b ρ μ1 fun y μ2 => ∃ l i o, SqD μ2 x l ∧ y = .im (.int i) ∧ atI l i = some o ∧ Φ o μ2) : DE X (.Subscript a b pos) ρ μ Φ := fun G H σ m v Q f =>
  WE.of (pe_ix (ix_list.or ix_tup) pwe pwe hs) (h G H σ m v _ fun vx x μ1 G1 H1 q1 e1 m1 r1 => q1 G1 H1 σ m1 (v.mono e1) _ fun vy y μ2 G2 H2 q2 e2 m2 r2 => by
    obtain ⟨l, i, o, hx, rfl, ho, q⟩ := q2
    cases r2
    obtain ⟨p, xs, rfl, hp, w⟩ := hx.at m2 (r1.mono e2)
    obtain ⟨u, h1, h2⟩ := w.at ho
    have fin := f u o μ2 G2 H2 q (e1.trans e2) m2 h2
    rcases hp with hp | hp
    · exact .inl ⟨p, xs, i, u, rfl, rfl, .inl (.inl hp), h1, fin⟩
    · exact .inr ⟨p, xs, i, u, rfl, rfl, .inl (.inl hp), h1, fin⟩)
theorem atI_im {ds : List PyData} {i : Int} {d : PyData} (h : atI ds i = some d) : atI (ds.map OV.im) i = some (.im d) := by
  unfold atI at h ⊢
  rw [List.length_map]
  cases q : ixN ds.length i with
  | none =>
    rw [q] at h
    cases h
  | some j =>
    rw [q] at h
    have h : ds[j]? = some d := h
    show (ds.map OV.im)[j]? = _
    rw [List.getElem?_map, h]
    rfl
def DO (X : Cx) (e : Option Expr) (ρ : Rho) (μ : Mu) (Φ : Option Int → Mu → Prop) : Prop :=
  match e with
  | none => Φ none μ
  | some e => DE X e ρ μ fun x μ1 => ∃ i, x = .im (.int i) ∧ Φ (some i) μ1
def cutO (xs : List OV) (lo hi : Option Int) : List OV := (xs.drop (HT.sIx xs.length 0 lo)).take (HT.sIx xs.length xs.length hi - HT.sIx xs.length 0 lo)
def cutD (xs : List PyData) (lo hi : Option Int) : List PyData := (xs.drop (HT.sIx xs.length 0 lo)).take (HT.sIx xs.length xs.length hi - HT.sIx xs.length 0 lo)
theorem ROs.cut {G : Hp} {xs : List V} {l : List OV} (w : ROs G xs l) (lo hi : Option Int) : ROs G (cutV xs lo hi) (cutO l lo hi) := by
  unfold cutV cutO
  rw [w.length]
  exact (w.drop _).take _
theorem cutO_im (ds : List PyData) (lo hi : Option Int) : cutO (ds.map .im) lo hi = (cutD ds lo hi).map .im := by
  unfold cutO cutD
  rw [List.length_map, List.map_take, List.map_drop]
def WO (X : Cx) (lo : Option Expr) : TO := fun σ H R => match lo with
  | none => R none H
  | some e => WE X e σ H fun x H1 => ∃ i, x = .int i ∧ R (some i) H1
theorem pwo {lo : Option Expr} : PO X lo (WO X lo) := by
  cases lo with
  | none => exact po_none
  | some e => exact po_some pwe
theorem DO.run {lo : Option Expr} {Ψ : Option Int → Mu → Prop} {G H : Hp} {σ : L2.St} {R : Option Int → Hp → Prop} (h : DO X lo ρ μ Ψ) (m : RM G H μ) (v : RV G ρ σ) (k : ∀ o μ1 G1 H1, Ψ o μ1 → Ex G G1 → RM G1 H1 μ1 → R o H1) : WO X lo σ H R := by
  cases lo with
  | none => exact k _ _ _ _ h (Ex.refl G) m
  | some e =>
    refine h G H σ m v _ fun vx x μ1 G1 H1 q1 e1 m1 r1 => ?_
    obtain ⟨i, rfl, q⟩ := q1
    cases r1
    exact ⟨i, rfl, k _ _ _ _ q e1 m1⟩
def cutI (ns : List Int) (lo hi : Option Int) : List Int := (ns.drop (HT.sIx ns.length 0 lo)).take (HT.sIx ns.length ns.length hi - HT.sIx ns.length 0 lo)
theorem cutI_V (ns : List Int) (lo hi : Option Int) : cutV (ns.map V.int) lo hi = (cutI ns lo hi).map V.int := by
  unfold cutV cutI
  rw [List.length_map, List.map_take, List.map_drop]
theorem de_slS {lo hi : Option Expr} {p2 : Pos} (h : DE X e ρ μ fun x μ1 => DO X lo ρ μ1 fun l μ2 => DO X hi ρ μ2 fun u μ3 => ∃ ns, x = .scr X.K ns ∧ Φ (.im (.list ((cutI ns l u).map .int))) μ3) : DE X (.Subscript e (.Slice lo hi none p2) pos) ρ μ Φ := fun G H σ m v Q f =>
  WE.of (pe_slice sl_list pwe pwo pwo) (h G H σ m v _ fun vx x μ1 G1 H1 q1 e1 m1 r1 => q1.run m1 (v.mono e1) fun l μ2 G2 H2 q2 e2 m2 => q2.run m2 (v.mono (e1.trans e2)) fun u μ3 G3 H3 q3 e3 m3 => by
    obtain ⟨ns, rfl, q⟩ := q3
    obtain ⟨a, rfl, ha⟩ := r1
    refine ⟨_, _, rfl, sql_mono (e2.trans (e3.trans m3.ex)) ha, fun p hp => ?_⟩
    have n := m3.ex.free hp
    rw [cutI_V]
    exact f _ _ _ _ _ q (((e1.trans e2).trans e3).trans (Ex.new n)) (m3.lay hp) (Dv.lst upd_same (DvA.of_ints _)))
end
end Nx
namespace Nx
open PySem PySem.Spec PyProof.Rows L2
structure Rm (k : Nat) (A : Around) : Prop where
  room : Room k A
  gds : A.guards = some []
theorem Rm.mono {j k : Nat} {A : Around} (r : Rm k A) (h : j ≤ k) : Rm j A := ⟨r.room.mono h, r.gds⟩
structure FnG (P : Program) (w : World) (K : PySem.W.Frag) (mg : Str → Option Value) (base : Heap) (CX : CXT) (k : Nat) (f : Addr) (fd : FuncData) (ps : List Str) (sp : Sp) : Prop where
  len : ∀ vs H Q E, sp vs H Q E → vs.length = ps.length
  run : ∀ A outer s H args us vs Q E, Rm k A → Env0 P w K mg base A outer s H → BindsTo s fd args (ps.zip us) → Vals vs us → sp vs H Q E → codeAny (model P w) A (.call (.ref f) args) (CR CX outer P w H s Q E) s
theorem FnG.mono {P : Program} {w : World} {K : PySem.W.Frag} {mg : Str → Option Value} {base : Heap} {CX : CXT} {j k : Nat} {f : Addr} {fd : FuncData} {ps : List Str} {sp : Sp} (F : FnG P w K mg base CX j f fd ps sp) (h : j ≤ k) : FnG P w K mg base CX k f fd ps sp :=
  ⟨F.len, fun A outer s H args us vs Q E r => F.run A outer s H args us vs Q E (r.mono h)⟩
section
variable {P : Program} {w : World} {K : PySem.W.Frag} {mg : Str → Option Value} {base : Heap} {CX : CXT}
theorem fng_of {k : Nat} {f : Addr} {x q : Str} {st : Stmt} {fd : FuncData} {N ps : List Str} {sp : Sp} (F : Fun K x q st f fd) (S : FnScope N ps (defScope st)) (len : ∀ vs H Q E, sp vs H Q E → vs.length = ps.length)
    (body : ∀ (cdv : Value) A outer s H vs Q E, Rm k (A.deeper (envOfC q (defScope st) s.heap.objs.size f cdv)) → sp vs H Q E →
      WSs (cxOf CX P w K mg base N q (defScope st) f cdv A outer s H E) (defBody st) { nx := fun _ H' => Q .non H', rt := Q } (start N vs) H) : FnG P w K mg base CX (k + 1) f fd ps sp := by
  obtain ⟨oc, od, kV, doc, pm, an, cdv, ct, osl, rfl, lk, hcd⟩ := F.ex
  constructor
  · exact len
  intro A outer s H args us vs Q E hr e0 hb r hsp
  have inH : ∀ b o, base.get? b = some o → s.heap.get? b = some o := fun b o e => (e0.bs b o e).1
  have KX : K.In s.heap := e0.mod.kin.keeps inH
  have nolim : s.heap.NoLimit := e0.mod.nolimit.keeps inH
  have kinds : ∀ y ∈ ps.zip us, (defScope st).names.lookup y.1 = some .local ∨
      ((defScope st).names.lookup y.1 = some .cell ∧ ((cellsFrom (s.heap.objs.size + 1) (defScope st).names []).lookup y.1).isSome = true) := by
    rintro ⟨n, v⟩ hy
    rcases S.par n (List.of_mem_zip hy).1 with z | z
    · exact Or.inl z
    · exact Or.inr ⟨z, PySem.W.cellsFrom_some _ _ _ (Or.inl z)⟩
  apply codeAny_call_function hr.room.depth (KX _ _ lk) rfl S.co S.gen rfl (PySem.W.codeRec_of KX hcd)
  apply hb _ _ _ _
  apply wpAny_newFunctionEnv_cells S.kind kinds
  intro env he s1 y
  subst he
  refine ⟨nolim.keeps y.toInCall.keep, codeAny_func ?_⟩
  have go := body cdv A outer s H vs Q E ⟨hr.room.deeper _, hr.gds⟩ hsp
  have I : Inv (cxOf CX P w K mg base N q (defScope st) f cdv A outer s H E) [] (start N vs) H s1 := inv_start S hr.room.hd e0 (len _ _ _ _ hsp) r y
  refine wpAny_mono (go [] s1 I) (fun fl s' hs => ?_) (fun _ _ z => z)
  cases fl with
  | ret u =>
    obtain ⟨v, σ', H', J, rv, z⟩ := hs
    exact ⟨v, H', J.os, J.bare, J.base, J.hok, rv, z⟩
  | next =>
    obtain ⟨σ', H', J, z⟩ := hs
    exact ⟨V.non, H', J.os, J.bare, J.base, J.hok, rfl, z⟩
  | brk =>
    obtain ⟨_, _, _, z⟩ := hs
    exact z.elim
  | cont =>
    obtain ⟨_, _, _, z⟩ := hs
    exact z.elim
end
section
variable {X : Cx} {CX : CXT} {k : Nat} {f : Addr} {fd : FuncData} {ps : List Str} {sp : Sp} {E : XK}
theorem run_g {pins : List (Addr × Obj)} {σ : L2.St} {H : Hp} {s : Shared} {Q : VK} {args : Args} {us : List Value} {vs : List V} (F : FnG X.prog X.w X.K X.mg X.base CX k f fd ps sp) (hr : Rm k X.A) (hx : Passes CX X E)
    (I : Inv X pins σ H s) (hb : BindsTo s fd args (ps.zip us)) (r : Vals vs us) (h : sp vs H Q E) : wpAny (model X.prog X.w) X.A (call (.ref f) args.pos args.kw) (EP X pins σ Q) X.xe s := by
  refine wpAny_call (codeAny_mono (F.run X.A X.stack s H args us vs Q E hr I.env0 hb r h) fun z s' hq => ?_)
  match z, hq with
  | .error e, hq => exact hx pins σ H s e s' I hq
  | .ok (.ret u), hq => exact I.after hq
end
abbrev Ct := List OV → Mu → (OV → Mu → Prop) → Prop
def spOf (C : Ct) : Sp := fun vs H Q _ => ∃ os μ G Φ, RM G H μ ∧ ROs G vs os ∧ C os μ Φ ∧ Fin G Φ Q
structure Fc (P : Program) (w : World) (K : PySem.W.Frag) (mg : Str → Option Value) (base : Heap) (x : Str) (st : Stmt) (ps : List Str) (k : Nat) (C : Ct) : Prop where
  ex : ∃ f fd, Fun K x x st f fd ∧ mg x = some (.ref f) ∧ FnG P w K mg base CX0 k f fd ps (spOf C)
section
variable {P : Program} {w : World} {K : PySem.W.Frag} {mg : Str → Option Value} {base : Heap}
theorem rv_start {G : Hp} {N : List Str} {vs : List V} {os : List OV} (r : ROs G vs os) : RV G (os.map some ++ List.replicate (N.length - os.length) none) (start N vs) := by
  unfold L2.start
  refine ⟨by simp only [List.length_append, List.length_map, List.length_replicate, r.length], fun i o h => ?_⟩
  by_cases hi : i < os.length
  · rw [List.getElem?_append_left (by simpa using hi), List.getElem?_map] at h
    have h : os[i]? = some o := by
      cases q : os[i]? with
      | none =>
        rw [q] at h
        cases h
      | some z =>
        rw [q] at h
        cases h
        rfl
    obtain ⟨v, h1, h2⟩ := ROs.get r h
    refine ⟨v, ?_, h2⟩
    rw [List.getElem?_append_left (by rw [List.length_map, r.length]; exact hi), List.getElem?_map, h1]
    rfl
  · rw [List.getElem?_append_right (by simpa using hi), List.getElem?_replicate] at h
    split at h <;> cases h
theorem fc_of {k : Nat} {f : Addr} {x : Str} {st : Stmt} {fd : FuncData} {N ps : List Str} {C : Ct} (F : Fun K x x st f fd) (hm : mg x = some (.ref f)) (S : FnScope N ps (defScope st)) (len : ∀ os μ Φ, C os μ Φ → os.length = ps.length)
    (body : ∀ (cdv : Value) A outer s H E os μ Φ, Rm k (A.deeper (envOfC x (defScope st) s.heap.objs.size f cdv)) → C os μ Φ →
      DSs (cxOf CX0 P w K mg base N x (defScope st) f cdv A outer s H E).nox (defBody st) (os.map some ++ List.replicate (N.length - os.length) none) μ { nx := fun _ μ' => Φ (.im .none) μ', rt := Φ }) : Fc P w K mg base x st ps (k + 1) C := by
  refine ⟨⟨f, fd, F, hm, fng_of F S (fun vs H Q E h => ?_) fun cdv A outer s H vs Q E hr h => ?_⟩⟩
  · obtain ⟨os, μ, G, Φ, _, r, c, _⟩ := h
    rw [r.length]
    exact len _ _ _ c
  · obtain ⟨os, μ, G, Φ, m, r, c, fin⟩ := h
    refine WSs.of (PSs.nox pwss) (body cdv A outer s H E os μ Φ hr c G H _ m (rv_start r) _ ⟨fun ρ' μ' G' H' σ' q e m' _ => fin _ _ _ _ _ q e m' Dv.non, fin, fun _ _ _ _ _ q => q.elim, fun _ _ _ _ _ q => q.elim⟩)
theorem Fc.mono {j k : Nat} {x : Str} {st : Stmt} {ps : List Str} {C : Ct} (F : Fc P w K mg base x st ps j C) (h : j ≤ k) : Fc P w K mg base x st ps k C := by
  obtain ⟨f, fd, a, b, c⟩ := F.ex
  exact ⟨⟨f, fd, a, b, c.mono h⟩⟩
end
section
variable {X : Cx} {a b c e : Expr} {es rest : List Expr} {ρ : Rho} {μ : Mu} {Φ : OV → Mu → Prop} {pos p : Pos} {x : Str} {st : Stmt} {ps : List Str} {k : Nat} {C : Ct}
theorem passE {X : Cx} : Passes CX0 X fun _ _ _ => False := fun _ _ _ _ _ _ _ h => h.elim
theorem de_call (F : Fc X.prog X.w X.K X.mg X.base x st ps k C) (hr : Rm k X.A) (hg : Gl X x)
    (hb : ∀ (kV doc pm : Value) (an : Option Addr) (cdv ct : Value) (us : List Value), us.length = ps.length → bindArgs (PySem.W.fnOf x x (defArgs st) (defBody st) (defScope st) .none kV doc pm an cdv ct) ⟨us, []⟩ = pure (ps.zip us))
    (h : DA X (e :: es) ρ μ fun os μ1 => C os μ1 Φ) (hdb : (x == ("__debug__" : Str)) = false := by decide) (he : starEach (e :: es) X.env = (false, eval e X.env) :: starEach es X.env := by rfl) (hpl : (backTo pos (starEach es X.env)).any (·.1) = false := by rfl) :
    DE X (.Call (.Name x p) (e :: es) [] pos) ρ μ Φ := fun G H σ m v Q f pins s I => by
  obtain ⟨fa, fd, FF, hm, FG⟩ := F.ex
  refine wpAny_Call_Name_kw (ld_glob I hg hm ?_ hdb)
  have hargs : WA X (e :: es) σ H fun vs H1 => spOf C vs H1 Q fun _ _ _ => False := h G H σ m v _ fun vs os μ1 G1 H1 q1 e1 m1 r1 => ⟨os, μ1, G1, Φ, m1, r1, q1, f.later e1⟩
  refine PySem.W.callWith_K (h₀ := X.base) I.ok.mod.kin FF.kp (thn (hargs pos pins s I) fun us s1 ⟨vs, H1, I1, r, q⟩ => ⟨I1.kIn, ?_⟩) he hpl
  refine run_g (args := ⟨us, []⟩) FG hr passE I1 ?_ r q
  obtain ⟨oc, od, kV, doc, pm, an, cdv, ct, osl, rfl, lk, hcd⟩ := FF.ex
  exact .of_eq (hb kV doc pm an cdv ct us (by rw [← r.length]; exact FG.len _ _ _ _ q))
def pick {α : Type} (ix : List Nat) (l : List α) : List α := ix.filterMap fun i => l[i]?
theorem pick_rel {α β : Type} {R : α → β → Prop} {l : List α} {m : List β} (h : Paired R l m) : ∀ ix : List Nat, Paired R (pick ix l) (pick ix m) := by
  have get : ∀ {l : List α} {m : List β}, Paired R l m → ∀ i : Nat, (∃ a b, l[i]? = some a ∧ m[i]? = some b ∧ R a b) ∨ (l[i]? = none ∧ m[i]? = none) := by
    intro l m h
    induction h with
    | nil => intro i; exact .inr ⟨rfl, rfl⟩
    | cons r _ ih =>
      intro i
      cases i with
      | zero => exact .inl ⟨_, _, rfl, rfl, r⟩
      | succ i => exact ih i
  intro ix
  induction ix with
  | nil => exact .nil
  | cons i ix ih =>
    unfold pick at ih ⊢
    rcases get h i with ⟨a, b, h1, h2, r⟩ | ⟨h1, h2⟩
    · rw [List.filterMap_cons_some h1, List.filterMap_cons_some h2]
      exact .cons r ih
    · rw [List.filterMap_cons_none h1, List.filterMap_cons_none h2]
      exact ih
end
end Nx
namespace Nx
open PySem PySem.Spec PyProof.Rows L2
mutual
inductive DR (μ : Mu) : OV → PyData → Prop
  | im (d : PyData) : DR μ (.im d) d
  | own {a : Addr} {l : List OV} {ds : List PyData} : μ a = some l → DRs μ l ds → DR μ (.own a) (.list ds)
inductive DRs (μ : Mu) : List OV → List PyData → Prop
  | nil : DRs μ [] []
  | cons {o : OV} {os : List OV} {d : PyData} {ds : List PyData} : DR μ o d → DRs μ os ds → DRs μ (o :: os) (d :: ds)
end
theorem DRs.ims {μ : Mu} : ∀ ds : List PyData, DRs μ (ds.map .im) ds
  | [] => .nil
  | d :: ds => .cons (.im d) (DRs.ims ds)
mutual
theorem DR.at {G H : Hp} {μ : Mu} (m : RM G H μ) : ∀ {v : V} {o : OV} {d : PyData}, DR μ o d → RO G v o → Dv H v d
  | _, _, _, .im d, r => Dv.mono m.ex r
  | v, _, _, .own (a := a) h hs, r => by
    have r : v = .ref a := r
    subst r
    obtain ⟨_, vs, e, w⟩ := m.own _ _ h
    exact .lst e (DRs.at m hs w)
theorem DRs.at {G H : Hp} {μ : Mu} (m : RM G H μ) : ∀ {vs : List V} {os : List OV} {ds : List PyData}, DRs μ os ds → ROs G vs os → DvA H vs ds
  | _, _, _, .nil, .nil => .nil
  | _, _, _, .cons h hs, .cons r rs => .cons (DR.at m h r) (DRs.at m hs rs)
end
structure Bt (mg : Str → Option Value) : Prop where
  len : mg "len" = none
  range : mg "range" = none
  list : mg "list" = none
  tuple : mg "tuple" = none
  sorted : mg "sorted" = none
  abs : mg "abs" = none
  int : mg "int" = none
  str : mg "str" = none
  repr : mg "repr" = none
  all : mg "all" = none
  any : mg "any" = none
  max : mg "max" = none
  min : mg "min" = none
  sum : mg "sum" = none
  enumerate : mg "enumerate" = none
  zip : mg "zip" = none
  isinstance : mg "isinstance" = none
  bool : mg "bool" = none
  set : mg "set" = none
  dict : mg "dict" = none
section
variable {X : Cx} {a b c e : Expr} {es rest : List Expr} {ρ : Rho} {μ : Mu} {Φ : OV → Mu → Prop} {pos p : Pos} {x : Str}
abbrev CR1 := List V → Hp → VK → Prop
def CallD (r : CR1) (os : List OV) (μ : Mu) (Φ : OV → Mu → Prop) : Prop := ∀ G H vs, RM G H μ → ROs G vs os → ∀ Q : VK, Fin G Φ Q → r vs H Q
theorem de_callB {id : String} {r : CR1} (hc : CallR X (.builtin id) r) (hg : Gl X x) (hm : X.mg x = none) (hv : bootBuiltins x = some (.builtin id)) (h : DA X (e :: es) ρ μ fun os μ1 => CallD r os μ1 Φ) (hn : x ≠ "__name__" := by decide) (hdb : (x == ("__debug__" : Str)) = false := by decide)
    (he : starEach (e :: es) X.env = (false, eval e X.env) :: starEach es X.env := by rfl) (hpl : (backTo pos (starEach es X.env)).any (·.1) = false := by rfl) : DE X (.Call (.Name x p) (e :: es) [] pos) ρ μ Φ := fun G H σ m v Q f =>
  WE.of (pe_callB hc hg hm hv pwa hn hdb he hpl) (h G H σ m v _ fun vs os μ1 G1 H1 q1 e1 m1 r1 => q1 G1 H1 vs m1 r1 Q (f.later e1))
theorem de_callT {T : String} {r : CR1} (hc : CallR X (.type T) r) (hg : Gl X x) (hm : X.mg x = none) (hv : bootBuiltins x = some (.type T)) (h : DA X (e :: es) ρ μ fun os μ1 => CallD r os μ1 Φ) (hn : x ≠ "__name__" := by decide) (hdb : (x == ("__debug__" : Str)) = false := by decide)
    (he : starEach (e :: es) X.env = (false, eval e X.env) :: starEach es X.env := by rfl) (hpl : (backTo pos (starEach es X.env)).any (·.1) = false := by rfl) : DE X (.Call (.Name x p) (e :: es) [] pos) ρ μ Φ := fun G H σ m v Q f =>
  WE.of (pe_callTy hc hg hm hv pwa hn hdb he hpl) (h G H σ m v _ fun vs os μ1 G1 H1 q1 e1 m1 r1 => q1 G1 H1 vs m1 r1 Q (f.later e1))
theorem ro1 {G : Hp} {vs : List V} {o : OV} (r : ROs G vs [o]) : ∃ v, vs = [v] ∧ RO G v o := by
  cases r with
  | cons r t =>
    cases t
    exact ⟨_, rfl, r⟩
theorem de_len (B : Bt X.mg) (hg : Gl X "len") (h : DE X e ρ μ fun o μ1 => ∃ l, SqD μ1 o l ∧ Φ (.im (.int (l.length : Nat))) μ1) (he : starEach [e] X.env = (false, eval e X.env) :: starEach [] X.env := by rfl) (hpl : (backTo pos (starEach [] X.env)).any (·.1) = false := by rfl) : DE X (.Call (.Name "len" p) [e] [] pos) ρ μ Φ :=
  de_callB call_len_seq hg B.len PySem.boot_len (he := he) (hpl := hpl) (da_cons (hs := he) (h.imp fun o μ1 ⟨l, hl, q⟩ => da_nil fun G H vs m r Q f => by
    obtain ⟨v, rfl, r1⟩ := ro1 r
    obtain ⟨a, xs, rfl, hx, w⟩ := hl.at m r1
    refine ⟨a, xs, rfl, sq_or hx, ?_⟩
    rw [w.length]
    exact f _ _ _ _ _ q (Ex.refl G) m (Dv.int _)))
theorem de_abs (B : Bt X.mg) (hg : Gl X "abs") (h : DE X e ρ μ fun o μ1 => ∃ i, o = .im (.int i) ∧ Φ (.im (.int (if i < 0 then -i else i))) μ1) (he : starEach [e] X.env = (false, eval e X.env) :: starEach [] X.env := by rfl) (hpl : (backTo pos (starEach [] X.env)).any (·.1) = false := by rfl) : DE X (.Call (.Name "abs" p) [e] [] pos) ρ μ Φ :=
  de_callB call_abs hg B.abs PyProof.Rows.boot_abs (he := he) (hpl := hpl) (da_cons (hs := he) (h.imp fun o μ1 ⟨i, ho, q⟩ => da_nil fun G H vs m r Q f => by
    obtain ⟨v, rfl, r1⟩ := ro1 r
    subst ho
    cases r1
    exact ⟨i, rfl, f _ _ _ _ _ q (Ex.refl G) m (Dv.int _)⟩))
theorem de_int1 (B : Bt X.mg) (hg : Gl X "int") (h : DE X e ρ μ fun o μ1 => (∃ i, o = .im (.int i) ∧ Φ (.im (.int i)) μ1) ∨ ∃ k, o = .im (.bool k) ∧ Φ (.im (.int (if k then 1 else 0))) μ1) (he : starEach [e] X.env = (false, eval e X.env) :: starEach [] X.env := by rfl) (hpl : (backTo pos (starEach [] X.env)).any (·.1) = false := by rfl) : DE X (.Call (.Name "int" p) [e] [] pos) ρ μ Φ :=
  de_callT call_int1 hg B.int PyProof.Rows.boot_int (he := he) (hpl := hpl) (da_cons (hs := he) (h.imp fun o μ1 hq => da_nil fun G H vs m r Q f => by
    obtain ⟨v, rfl, r1⟩ := ro1 r
    rcases hq with ⟨i, rfl, q⟩ | ⟨k, rfl, q⟩
    · cases r1
      exact .inl ⟨i, rfl, f _ _ _ _ _ q (Ex.refl G) m (Dv.int _)⟩
    · cases r1
      exact .inr ⟨k, rfl, f _ _ _ _ _ q (Ex.refl G) m (Dv.int _)⟩))
theorem de_list (B : Bt X.mg) (hg : Gl X "list") (h : DE X e ρ μ fun o μ1 => ∃ ds, SqD μ1 o (ds.map .im) ∧ Φ (.im (.list ds)) μ1) (he : starEach [e] X.env = (false, eval e X.env) :: starEach [] X.env := by rfl) (hpl : (backTo pos (starEach [] X.env)).any (·.1) = false := by rfl) : DE X (.Call (.Name "list" p) [e] [] pos) ρ μ Φ :=
  de_callT call_list_of hg B.list PyProof.Rows.boot_list (he := he) (hpl := hpl) (da_cons (hs := he) (h.imp fun o μ1 ⟨ds, hl, q⟩ => da_nil fun G H vs m r Q f => by
    obtain ⟨v, rfl, r1⟩ := ro1 r
    obtain ⟨a, xs, rfl, hx, w⟩ := hl.at m r1
    refine ⟨a, xs, rfl, sq_or hx, fun l hl => ?_⟩
    have n := m.ex.free hl
    exact f _ _ _ _ _ q (Ex.new n) (m.lay hl) (Dv.lst upd_same (w.ims.mono (Ex.new n)))))
theorem de_listO (B : Bt X.mg) (hg : Gl X "list") (h : DE X e ρ μ fun o μ1 => ∃ l, SqD μ1 o l ∧ ∀ p, μ1 p = none → Φ (.own p) (μ1.put p l)) (he : starEach [e] X.env = (false, eval e X.env) :: starEach [] X.env := by rfl) (hpl : (backTo pos (starEach [] X.env)).any (·.1) = false := by rfl) : DE X (.Call (.Name "list" p) [e] [] pos) ρ μ Φ :=
  de_callT call_list_of hg B.list PyProof.Rows.boot_list (he := he) (hpl := hpl) (da_cons (hs := he) (h.imp fun o μ1 ⟨ds, hl, q⟩ => da_nil fun G H vs m r Q f => by
    obtain ⟨v, rfl, r1⟩ := ro1 r
    obtain ⟨a, xs, rfl, hx, w⟩ := hl.at m r1
    refine ⟨a, xs, rfl, sq_or hx, fun l hl => ?_⟩
    exact f _ _ _ _ _ (q l (m.fresh hl)) (Ex.refl G) (m.new hl w) rfl))
theorem de_tuple (B : Bt X.mg) (hg : Gl X "tuple") (h : DE X e ρ μ fun o μ1 => ∃ ds, SqD μ1 o (ds.map .im) ∧ Φ (.im (.tuple ds)) μ1) (he : starEach [e] X.env = (false, eval e X.env) :: starEach [] X.env := by rfl) (hpl : (backTo pos (starEach [] X.env)).any (·.1) = false := by rfl) : DE X (.Call (.Name "tuple" p) [e] [] pos) ρ μ Φ :=
  de_callT call_tuple_of hg B.tuple PyProof.Rows.boot_tuple (he := he) (hpl := hpl) (da_cons (hs := he) (h.imp fun o μ1 ⟨ds, hl, q⟩ => da_nil fun G H vs m r Q f => by
    obtain ⟨v, rfl, r1⟩ := ro1 r
    generalize hll : ds.map OV.im = ll at hl
    cases hl with
    | tup ds' =>
      have e12 : ds = ds' := by
        have := congrArg (List.map fun o => match o with | OV.im d => d | _ => PyData.none) hll
        simpa [List.map_map, Function.comp_def] using this
      subst e12
      have rr : Dv G v (.tuple ds) := r1
      cases rr with
      | tup h1 w1 => exact ⟨_, _, rfl, .inr ⟨.inl (.inl (m.ex _ _ h1)), f _ _ _ _ _ q (Ex.refl G) m (Dv.tup h1 w1)⟩⟩
    | lst ds' =>
      have hsq : SqD μ1 (.im (.list ds')) (ds.map .im) := by rw [hll]; exact .lst ds'
      obtain ⟨a, xs, rfl, hx, w⟩ := hsq.at m r1
      have hx : H a = some (.lst xs) := by
        rcases hx with z | z
        · exact z
        · have rr : Dv G (.ref a) (.list ds') := r1
          cases rr with
          | lst h1 _ =>
            have := m.ex _ _ h1
            rw [z] at this
            cases this
      refine ⟨a, xs, rfl, .inl ⟨.inl (.inl hx), fun l hl => ?_⟩⟩
      have n := m.ex.free hl
      exact f _ _ _ _ _ q (Ex.new n) (m.lay hl) (Dv.tup upd_same (w.ims.mono (Ex.new n)))
    | own ho =>
      obtain ⟨_, xs, hx, w⟩ := m.own _ _ ho
      have rr : v = .ref _ := r1
      subst rr
      rw [← hll] at w
      refine ⟨_, xs, rfl, .inl ⟨.inl (.inl hx), fun l hl => ?_⟩⟩
      have n := m.ex.free hl
      exact f _ _ _ _ _ q (Ex.new n) (m.lay hl) (Dv.tup upd_same (w.ims.mono (Ex.new n)))))
def srt (ns : List Int) : List Int := ns.mergeSort (fun a b => decide (a ≤ b))
theorem srt_perm (ns : List Int) : (srt ns).Perm ns := List.mergeSort_perm ns _
theorem srt_pw (ns : List Int) : (srt ns).Pairwise (· ≤ ·) := by
  have h := List.pairwise_mergeSort (le := fun a b : Int => decide (a ≤ b)) (fun a b c h1 h2 => by
    simp only [decide_eq_true_eq] at *
    omega) (fun a b => by
    simp only [Bool.or_eq_true, decide_eq_true_eq]
    omega) ns
  exact h.imp fun {a b} h => by simpa using h
theorem srt_eq {ns ms : List Int} (hp : ms.Perm ns) (hw : ms.Pairwise (· ≤ ·)) : ms = srt ns :=
  (hp.trans (srt_perm ns).symm).eq_of_pairwise (fun x y _ _ h1 h2 => Int.le_antisymm h1 h2) hw (srt_pw ns)
theorem de_sorted (B : Bt X.mg) (hg : Gl X "sorted") (h : DE X e ρ μ fun o μ1 => ∃ ns : List Int, RdD μ1 o (.list (ns.map .int)) ∧ Φ (.im (.list ((srt ns).map .int))) μ1) (he : starEach [e] X.env = (false, eval e X.env) :: starEach [] X.env := by rfl) (hpl : (backTo pos (starEach [] X.env)).any (·.1) = false := by rfl) : DE X (.Call (.Name "sorted" p) [e] [] pos) ρ μ Φ :=
  de_callB cr_sortedI hg B.sorted PyProof.Rows.boot_sorted (he := he) (hpl := hpl) (da_cons (hs := he) (h.imp fun o μ1 ⟨ns, hd, q⟩ => da_nil fun G H vs m r Q f => by
    obtain ⟨v, rfl, r1⟩ := ro1 r
    have d := hd.at m r1
    generalize hdd : PyData.list (ns.map .int) = dd at d
    cases d with
    | lst h1 w =>
      cases hdd
      have e1 := w.ints
      subst e1
      refine ⟨_, ns, rfl, .inl (.inl h1), fun ns' p hp hw hn => ?_⟩
      rw [srt_eq hp hw]
      have n := m.ex.free hn
      exact f _ _ _ _ _ q (Ex.new n) (m.lay hn) (Dv.lst upd_same ((DvA.of_ints _).mono (Ex.new n)))
    | _ => cases hdd))
def Shw (d : PyData) : Prop := d.showable = true ∧ d.hasDict = false ∧ isDisplay d = true ∧ d.depth ≤ 60 ∧ d.shown.length ≤ sizeLine
theorem call_reprD (hr : Room 0 X.A) (hgd : X.A.guards = some []) : CallR X (.builtin "repr") (fun xs H Q => ∃ v d, xs = [v] ∧ Dp X.K H v d ∧ Shw d ∧ Q (.str d.shown) H) := by
  intro pins s σ H xs us Q I r h
  obtain ⟨v, d, rfl, hd, ⟨h1, h2, h3, h4, h5⟩, q⟩ := h
  obtain ⟨u, rfl, ru⟩ := vals1 r
  obtain ⟨as, rd⟩ := Dp.reads I d v u hd ru
  obtain ⟨a, rfl⟩ := isRef_of_reads rd h3
  refine repr_of_reads' rd h1 (PyData.noDict_hsm h2) hgd (by have := hr.units; omega) (fun _ _ e => e) (fun h' u' tk hk => ?_) h5
  exact ⟨.str d.shown, H, I.kept hk, ⟨_, rfl⟩, q⟩
end
end Nx
namespace Nx
open PySem PySem.Spec PyProof.Rows L2
structure Itd where
  its : List OV
  ok : Mu → Prop
def Gives (J : It) (D : Itd) (G1 : Hp) : Prop := ∃ Gd Y, Walk J D.its.length Gd Y ∧ (∀ G' H' μ', Ex G1 G' → RM G' H' μ' → D.ok μ' → Gd H') ∧
  ∀ i H' x H2 G' μ', Ex G1 G' → RM G' H' μ' → D.ok μ' → Y i H' x H2 → i < D.its.length → ∃ G2 o, Ex G' G2 ∧ RM G2 H2 μ' ∧ D.its[i]? = some o ∧ RO G2 x o
def DI (X : Cx) (tg iter : Expr) (ρ : Rho) (μ : Mu) (Ψ : Itd → Mu → Prop) : Prop := ∃ wi, PI X tg iter wi ∧ ∀ G H σ, RM G H μ → RV G ρ σ → ∀ R : It → Hp → Prop, (∀ J D μ1 G1 H1, Ψ D μ1 → Ex G G1 → RM G1 H1 μ1 → Gives J D G1 → R J H1) → wi σ H R
section
variable {X : Cx} {tg e e2 : Expr} {ρ : Rho} {μ : Mu} {Ψ : Itd → Mu → Prop} {p pos : Pos}
theorem DI.imp {iter : Expr} {Ψ' : Itd → Mu → Prop} (h : DI X tg iter ρ μ Ψ) (k : ∀ D μ', Ψ D μ' → Ψ' D μ') : DI X tg iter ρ μ Ψ' := by
  obtain ⟨wi, a, b⟩ := h
  exact ⟨wi, a, fun G H σ m v R f => b G H σ m v R fun J D μ1 G1 H1 q => f J D μ1 G1 H1 (k _ _ q)⟩
theorem gives_list {K : PySem.W.Frag} {a : Addr} {xs : List V} {ds : List PyData} {G : Hp} (h : G a = some (.lst xs)) (w : DvA G xs ds) : Gives (Itl K a) ⟨ds.map .im, fun _ => True⟩ G := by
  refine ⟨fun H => SqL K H a xs, YAt xs, ?_, fun G' H' μ' e m _ => .inl (.inl (m.ex _ _ (e _ _ h))), fun i H' x H2 G' μ' e m _ y _ => ?_⟩
  · show Walk _ (ds.map OV.im).length _ _
    rw [List.length_map, ← w.length]
    exact walk_list
  · obtain ⟨rfl, hx⟩ := y
    obtain ⟨d, h1, h2⟩ := w.getV hx
    exact ⟨G', .im d, Ex.refl _, m, by rw [List.getElem?_map, h1]; rfl, h2.mono e⟩
theorem gives_tup {K : PySem.W.Frag} {a : Addr} {xs : List V} {ds : List PyData} {G : Hp} (h : G a = some (.tup xs)) (w : DvA G xs ds) : Gives (Itt K a) ⟨ds.map .im, fun _ => True⟩ G := by
  refine ⟨fun H => SqT K H a xs, YAt xs, ?_, fun G' H' μ' e m _ => .inl (.inl (m.ex _ _ (e _ _ h))), fun i H' x H2 G' μ' e m _ y _ => ?_⟩
  · show Walk _ (ds.map OV.im).length _ _
    rw [List.length_map, ← w.length]
    exact walk_tup
  · obtain ⟨rfl, hx⟩ := y
    obtain ⟨d, h1, h2⟩ := w.getV hx
    exact ⟨G', .im d, Ex.refl _, m, by rw [List.getElem?_map, h1]; rfl, h2.mono e⟩
theorem gives_range {lo : Int} {n : Nat} {G : Hp} : Gives (Itr lo n) ⟨(List.range n).map fun (k : Nat) => .im (.int (lo + (k : Int))), fun _ => True⟩ G := by
  refine ⟨fun _ => True, YFn fun i => .int (lo + i), ?_, fun _ _ _ _ _ _ => trivial, fun i H' x H2 G' μ' e m _ y hi => ?_⟩
  · show Walk _ ((List.range n).map _).length _ _
    rw [List.length_map, List.length_range]
    exact walk_range
  · obtain ⟨rfl, rfl⟩ := y
    have hi : i < n := by simpa using hi
    exact ⟨G', .im (.int (lo + (i : Int))), Ex.refl _, m, by rw [List.getElem?_map, List.getElem?_range hi]; rfl, Dv.int _⟩
theorem di_range1 (B : Bt X.mg) (hg : Gl X "range") (h : DE X e ρ μ fun o μ1 => ∃ j : Int, o = .im (.int j) ∧ -100000 ≤ j ∧ j ≤ 100000 ∧ Ψ ⟨(List.range j.toNat).map fun (k : Nat) => .im (.int (k : Int)), fun _ => True⟩ μ1)
    (he : starEach [e] X.env = (false, eval e X.env) :: starEach [] X.env := by rfl) : DI X tg (.Call (.Name "range" p) [e] [] pos) ρ μ Ψ :=
  ⟨_, pi_range1 hg B.range pwa (hs := by rw [he]; rfl), fun G H σ m v R f => (da_cons (Λ := fun os μ1 => ∃ j : Int, os = [.im (.int j)] ∧ -100000 ≤ j ∧ j ≤ 100000 ∧ Ψ ⟨(List.range j.toNat).map fun (k : Nat) => .im (.int (k : Int)), fun _ => True⟩ μ1)
      (h.imp fun o μ1 ⟨j, ho, h1, h2, q⟩ => da_nil ⟨j, by rw [ho], h1, h2, q⟩) he) G H σ m v _ fun vs os μ1 G1 H1 q1 e1 m1 r1 => by
    obtain ⟨j, rfl, h1, h2, q⟩ := q1
    obtain ⟨u, rfl, ru⟩ := ro1 r1
    cases ru
    exact ⟨j, rfl, by omega, by omega, f _ _ _ _ _ q e1 m1 (by have := gives_range (lo := 0) (n := j.toNat) (G := G1); simpa only [Int.zero_add] using this)⟩⟩
theorem di_range2 (B : Bt X.mg) (hg : Gl X "range") (h : DE X e ρ μ fun x μ0 => DE X e2 ρ μ0 fun o μ1 => ∃ i j : Int, x = .im (.int i) ∧ o = .im (.int j) ∧ -100000 ≤ i ∧ i ≤ 100000 ∧ -100000 ≤ j ∧ j ≤ 100000 ∧ Ψ ⟨(List.range (j - i).toNat).map fun (k : Nat) => .im (.int (i + (k : Int))), fun _ => True⟩ μ1)
    (he : starEach [e, e2] X.env = (false, eval e X.env) :: starEach [e2] X.env := by rfl) (he2 : starEach [e2] X.env = (false, eval e2 X.env) :: starEach [] X.env := by rfl) : DI X tg (.Call (.Name "range" p) [e, e2] [] pos) ρ μ Ψ :=
  ⟨_, pi_range2 hg B.range pwa (hs := by rw [he, he2]; rfl) (hs2 := by rw [he2]; rfl), fun G H σ m v R f => (da_cons (Λ := fun os μ1 => ∃ i j : Int, os = [.im (.int i), .im (.int j)] ∧ -100000 ≤ i ∧ i ≤ 100000 ∧ -100000 ≤ j ∧ j ≤ 100000 ∧ Ψ ⟨(List.range (j - i).toNat).map fun (k : Nat) => .im (.int (i + (k : Int))), fun _ => True⟩ μ1)
      (h.imp fun x μ0 h0 => da_cons (h0.imp fun o μ1 ⟨i, j, hx, ho, h1, h2, h3, h4, q⟩ => da_nil ⟨i, j, by rw [hx, ho], h1, h2, h3, h4, q⟩) he2) he) G H σ m v _ fun vs os μ1 G1 H1 q1 e1 m1 r1 => by
    obtain ⟨i, j, rfl, h1, h2, h3, h4, q⟩ := q1
    cases r1 with
    | cons r1 t =>
      obtain ⟨u, rfl, ru⟩ := ro1 t
      cases r1
      cases ru
      exact ⟨i, j, rfl, ⟨by omega, by omega, by omega, by omega⟩, f _ _ _ _ _ q e1 m1 gives_range⟩⟩
def prs (xs ys : List PyData) : List PyData := (xs.zip ys).map fun q => .tuple [q.1, q.2]
theorem prs_get {xs ys : List PyData} {i : Nat} {x y : PyData} (h1 : xs[i]? = some x) (h2 : ys[i]? = some y) : (prs xs ys)[i]? = some (.tuple [x, y]) := by
  unfold prs
  rw [List.getElem?_map, List.getElem?_zip_eq_some (z := (x, y)) |>.mpr ⟨h1, h2⟩]
  rfl
def nums (n : Nat) : List PyData := (List.range n).map fun (k : Nat) => PyData.int (k : Int)
theorem nums_get {n i : Nat} (h : i < n) : (nums n)[i]? = some (.int (i : Int)) := by
  unfold nums
  rw [List.getElem?_map, List.getElem?_range h]
  rfl
theorem pair_new {G H' : Hp} {μ' : Mu} {T : Addr} {x y : V} {d e : PyData} (m : RM G H' μ') (hT : H' T = none) (h1 : Dv G x d) (h2 : Dv G y e) : Ex G (upd G T (.tup [x, y])) ∧ RM (upd G T (.tup [x, y])) (upd H' T (.tup [x, y])) μ' ∧ RO (upd G T (.tup [x, y])) (.ref T) (.im (.tuple [d, e])) := by
  have n := m.ex.free hT
  exact ⟨Ex.new n, m.lay hT, Dv.tup upd_same (.cons (h1.mono (Ex.new n)) (.cons (h2.mono (Ex.new n)) .nil))⟩
end
def setAll (ρ : Rho) : List Nat → List PyData → Rho
  | i :: is, d :: ds => setAll (ρ.set i (some (.im d))) is ds
  | _, _ => ρ
inductive Tgt where
  | nm (i : Nat) | tp (is : List Nat)
def Tgt.put : Tgt → OV → Rho → Option Rho
  | .nm i, o, ρ => some (ρ.set i (some o))
  | .tp is, .im (.tuple ds), ρ => if ds.length = is.length then some (setAll ρ is ds) else none
  | .tp _, _, _ => none
def gNames : List Nat → TGs
  | [] => gNil
  | i :: is => gCons (gName i) (gNames is)
def TgtG (K : PySem.W.Frag) : Tgt → TG
  | .nm i => gName i
  | .tp is => gTup K is.length (gNames is)
theorem names_run {G H : Hp} {Q : L2.St → Hp → Prop} : ∀ (is : List Nat) {xs : List V} {ds : List PyData} {ρ : Rho} {σ : L2.St}, RV G ρ σ → DvA G xs ds → ds.length = is.length → (∀ σ', RV G (setAll ρ is ds) σ' → Q σ' H) → gNames is xs σ H Q
  | [], _, _, _, _, w, .nil, _, q => ⟨rfl, q _ w⟩
  | i :: is, _, _, _, _, w, .cons hd tl, hl, q => ⟨_, _, rfl, names_run is (w.set (o := .im _) hd) tl (by simpa using hl) q⟩
  | i :: is, _, _, _, _, w, .nil, hl, q => by cases hl
theorem tgt_run {K : PySem.W.Frag} {t : Tgt} {G H : Hp} {μ : Mu} {v : V} {o : OV} {ρ ρ' : Rho} {σ : L2.St} {Q : L2.St → Hp → Prop} (m : RM G H μ) (r : RO G v o) (w : RV G ρ σ) (h : t.put o ρ = some ρ') (q : ∀ σ', RV G ρ' σ' → Q σ' H) : TgtG K t v σ H Q := by
  cases t with
  | nm i =>
    cases h
    exact q _ (w.set r)
  | tp is =>
    cases o with
    | own a => cases h
    | scr K ns => cases h
    | pr p d => cases h
    | dic kvs => cases h
    | ob P => cases h
    | im d =>
      cases d with
      | tuple ds =>
        have h : (if ds.length = is.length then some (setAll ρ is ds) else none) = some ρ' := h
        split at h
        · rename_i hl
          cases h
          have r : Dv G v (.tuple ds) := r
          cases r with
          | tup h1 w1 => exact ⟨_, _, rfl, .inl (.inl (m.ex _ _ h1)), by rw [w1.length, hl], names_run is w w1 hl q⟩
        · cases h
      | _ => cases h
end Nx
namespace Nx
open PySem PySem.Spec PyProof.Rows L2
def Tgt.slots : Tgt → List Nat
  | .nm i => [i]
  | .tp is => is
theorem wipe_set {σ : L2.St} {x : Option V} {j : Nat} : ∀ {vs : List Nat}, j ∈ vs → L2.wipe (σ.set j x) vs = L2.wipe σ vs
  | [], h => nomatch h
  | v :: vs, h => by
    show (L2.wipe (σ.set j x) vs).set v none = (L2.wipe σ vs).set v none
    rcases List.mem_cons.mp h with e | e
    · subst e
      have comm : ∀ (ws : List Nat), (L2.wipe (σ.set j x) ws).set j none = (L2.wipe σ ws).set j none := by
        intro ws
        induction ws with
        | nil => exact List.set_set _
        | cons w ws ih =>
          show ((L2.wipe (σ.set j x) ws).set w none).set j none = ((L2.wipe σ ws).set w none).set j none
          by_cases hw : w = j
          · subst hw
            rw [List.set_set, List.set_set]
            exact ih
          · rw [List.set_comm _ _ hw, List.set_comm _ _ hw, ih]
      exact comm vs
    · rw [wipe_set e]
theorem wipe_idem (σ : L2.St) (vs : List Nat) : L2.wipe (L2.wipe σ vs) vs = L2.wipe σ vs := by
  have go : ∀ (ws : List Nat) (τ : L2.St), (∀ i ∈ ws, i ∈ vs) → L2.wipe (L2.wipe τ ws) vs = L2.wipe τ vs := by
    intro ws
    induction ws with
    | nil => intro τ _; rfl
    | cons w ws ih =>
      intro τ h
      show L2.wipe ((L2.wipe τ ws).set w none) vs = _
      rw [wipe_set (h w (List.mem_cons_self ..))]
      exact ih τ fun i hi => h i (List.mem_cons_of_mem _ hi)
  exact go vs σ fun _ h => h
theorem names_runW {G H : Hp} {Q : L2.St → Hp → Prop} (vs : List Nat) : ∀ (is : List Nat) {xs : List V} {ds : List PyData} {ρ : Rho} {σ : L2.St}, (∀ i ∈ is, i ∈ vs) → RV G ρ σ → DvA G xs ds → ds.length = is.length → (∀ σ', RV G (setAll ρ is ds) σ' → L2.wipe σ' vs = L2.wipe σ vs → Q σ' H) → gNames is xs σ H Q
  | [], _, _, _, _, _, w, .nil, _, q => ⟨rfl, q _ w rfl⟩
  | i :: is, _, _, _, _, hs, w, .cons hd tl, hl, q => ⟨_, _, rfl, names_runW vs is (fun j hj => hs j (List.mem_cons_of_mem _ hj)) (w.set (o := .im _) hd) tl (by simpa using hl) fun σ' r e => q σ' r (e.trans (wipe_set (hs i (List.mem_cons_self ..))))⟩
  | i :: is, _, _, _, _, _, w, .nil, hl, q => by cases hl
theorem tgt_runW {K : PySem.W.Frag} {t : Tgt} {G H : Hp} {μ : Mu} {v : V} {o : OV} {ρ ρ' : Rho} {σ : L2.St} {Q : L2.St → Hp → Prop} (vs : List Nat) (hs : ∀ i ∈ t.slots, i ∈ vs) (m : RM G H μ) (r : RO G v o) (w : RV G ρ σ) (h : t.put o ρ = some ρ') (q : ∀ σ', RV G ρ' σ' → L2.wipe σ' vs = L2.wipe σ vs → Q σ' H) : TgtG K t v σ H Q := by
  cases t with
  | nm i =>
    cases h
    exact q _ (w.set r) (wipe_set (hs i (List.mem_cons_self ..)))
  | tp is =>
    cases o with
    | own a => cases h
    | scr K ns => cases h
    | pr p d => cases h
    | dic kvs => cases h
    | ob P => cases h
    | im d =>
      cases d with
      | tuple ds =>
        have h : (if ds.length = is.length then some (setAll ρ is ds) else none) = some ρ' := h
        split at h
        · rename_i hl
          cases h
          have r : Dv G v (.tuple ds) := r
          cases r with
          | tup h1 w1 => exact ⟨_, _, rfl, .inl (.inl (m.ex _ _ h1)), by rw [w1.length, hl], names_runW vs is hs w w1 hl q⟩
        · cases h
      | _ => cases h
def wipeR (ρ : Rho) (vs : List Nat) : Rho := vs.foldr (fun v r => r.set v none) ρ
theorem RV.wipeV {G : Hp} {ρ : Rho} {σ : L2.St} (h : RV G ρ σ) (vs : List Nat) : RV G (wipeR ρ vs) (L2.wipe σ vs) := h.wipe vs
theorem del_put {μ : Mu} {a : Addr} {l : List OV} (h : μ a = none) : (μ.put a l).del a = μ := by
  refine mu_ext (fun b => ?_) rfl rfl
  show (if b = a then none else if b = a then some l else μ b) = μ b
  by_cases e : b = a
  · rw [if_pos e, e, h]
  · rw [if_neg e, if_neg e]
section
variable {X : Cx} {tg iter elt : Expr} {ifs : List Expr} {scope : Scope} {ρ : Rho} {μ : Mu} {Φ : OV → Mu → Prop} {pos : Pos}
abbrev Blk (X : Cx) (scope : Scope) (s : Shared) (H : Hp) (C : Addr) (cl : List (Str × Addr)) (fp : List Addr) : Cx := X.blk s H scope (compEnvC scope cl C X.env) fp
def DEb (X : Cx) (scope : Scope) (e : Expr) (ρ : Rho) (μ : Mu) (Φ : OV → Mu → Prop) : Prop := ∀ s H C cl fp, DE (Blk X scope s H C cl fp) e ρ μ Φ
def DTb (X : Cx) (scope : Scope) (ifs : List Expr) (ρ : Rho) (μ : Mu) (Φ : Bool → Mu → Prop) : Prop := match ifs with
  | [] => Φ true μ
  | [c] => ∀ s H C cl fp, DT (Blk X scope s H C cl fp) c ρ μ Φ
  | _ => False
def WTb (X : Cx) (scope : Scope) (ifs : List Expr) : TT := match ifs with
  | [] => tYes
  | [c] => fun σ H Q => ∀ s H0 C cl fp, WT (Blk X scope s H0 C cl fp) c σ H Q
  | _ => fun _ _ _ => False
theorem pwtb (s : Shared) (H : Hp) (C : Addr) (cl : List (Str × Addr)) (fp : List Addr) : PTs (Blk X scope s H C cl fp) ifs (WTb X scope ifs) := by
  match ifs with
  | [] => exact pts_nil
  | [c] => exact pts_one ⟨fun pins s' σ H' Q I h => h s H C cl fp pins s' I⟩
  | _ :: _ :: _ => exact ⟨fun _ _ _ _ _ _ h => h.elim⟩
theorem DTb.run {G H : Hp} {σ : L2.St} {Ψ : Bool → Mu → Prop} (h : DTb X scope ifs ρ μ Ψ) (m : RM G H μ) (v : RV G ρ σ) {Q : Bool → Hp → Prop} (f : ∀ b μ' G' H', Ψ b μ' → Ex G G' → RM G' H' μ' → Q b H') : WTb X scope ifs σ H Q := by
  match ifs, h with
  | [], h => exact f _ _ _ _ h (Ex.refl G) m
  | [c], h => exact fun s H0 C cl fp => h s H0 C cl fp G H σ m v Q f
def LcD (X : Cx) (scope : Scope) (ifs : List Expr) (elt : Expr) (t : Tgt) (vs : List Nat) (ρ : Rho) (D : Itd) (μ1 : Mu) (done : List OV → Mu → Prop) : Prop :=
  ∃ Pv : Nat → List OV → Mu → Prop, D.its.length ≤ 50000 ∧ Pv 0 [] μ1 ∧ (∀ i acc μ' Dl, Pv i acc μ' → μ' Dl = none → D.ok (μ'.put Dl acc)) ∧ (∀ acc μ', Pv D.its.length acc μ' → done acc μ') ∧
    ∀ i acc μ' o, D.its[i]? = some o → Pv i acc μ' → ∃ ρ', t.put o (wipeR ρ vs) = some ρ' ∧ ∀ Dl, μ' Dl = none →
      DTb X scope ifs ρ' (μ'.put Dl acc) fun k μ2 => if k = true then DEb X scope elt ρ' μ2 fun o' μ3 => ∃ μ4, μ3 = μ4.put Dl acc ∧ μ4 Dl = none ∧ Pv (i + 1) (acc ++ [o']) μ4 else ∃ μ4, μ2 = μ4.put Dl acc ∧ μ4 Dl = none ∧ Pv (i + 1) acc μ4
def WEb (X : Cx) (scope : Scope) (elt : Expr) : TE := fun σ H Q => ∀ s H0 C cl fp, WE (Blk X scope s H0 C cl fp) elt σ H Q
theorem lc_run {own : List (Str × Nat)} {t : Tgt} (hs : ∀ i ∈ t.slots, i ∈ own.map (·.2)) {G : Hp} {σ : L2.St} (v : RV G ρ σ) {J : It} {D : Itd} {μ1 : Mu} {G1 H1 : Hp} {done : List OV → Mu → Prop} {Qd : Addr → Hp → Prop}
    (h : LcD X scope ifs elt t (own.map (·.2)) ρ D μ1 done) (e1 : Ex G G1) (m1 : RM G1 H1 μ1) (gv : Gives J D G1) (fin : ∀ Dl acc μ' G' H', done acc μ' → μ' Dl = none → Ex G1 G' → RM G' H' (μ'.put Dl acc) → Qd Dl H') (Dl : Addr) (hD : H1 Dl = none) :
    ∃ W : Nat → Nat → Hp → Prop, (∃ m, W 0 m (upd H1 Dl (.lst []))) ∧ ∀ i m H, W i m H →
      (J.stop i H ∧ Qd Dl H) ∨ (J.go i H ∧ ∃ Nx : Hp → Prop, (∀ H', Nx H' → ∃ m', m' < m ∧ W (i + 1) m' H') ∧ ∀ x H', J.yld i H x H' → TgtG X.K t x (L2.wipe σ (own.map (·.2))) H' fun σ2 H2 => L2.wipe σ2 (own.map (·.2)) = L2.wipe σ (own.map (·.2)) ∧ WTb X scope ifs σ2 H2 fun b H3 =>
        if b = true then WEb X scope elt σ2 H3 fun y H4 => ∃ acc, H4 Dl = some (.lst acc) ∧ acc.length < sizeLine ∧ Nx (upd H4 Dl (.lst (acc ++ [y]))) else Nx H3) := by
  obtain ⟨Pv, hn, h0, hok, hdone, step⟩ := h
  obtain ⟨Gd, Y, wk, hG, hY⟩ := gv
  refine lc_it wk (Qd := Qd Dl) (fun i H => ∃ acc μ' G', acc.length ≤ i ∧ Pv i acc μ' ∧ μ' Dl = none ∧ Ex G1 G' ∧ RM G' H (μ'.put Dl acc)) ⟨[], μ1, G1, Nat.le_refl _, h0, m1.fresh hD, Ex.refl _, m1.new hD .nil⟩ ?_ ?_ ?_
  · rintro i H _ ⟨acc, μ', G', _, p, n, e, m⟩
    exact hG G' H _ e m (hok i acc μ' Dl p n)
  · rintro i x H H' hi ⟨acc, μ', G', hl, p, n, e, m⟩ y
    obtain ⟨G2, o, e2, m2, ho, r2⟩ := hY i H x H' G' _ e m (hok i acc μ' Dl p n) y hi
    obtain ⟨ρ', hp, hb⟩ := step i acc μ' o ho p
    have v2 : RV G2 (wipeR ρ (own.map (·.2))) (L2.wipe σ (own.map (·.2))) := (v.mono ((e1.trans e).trans e2)).wipeV _
    refine tgt_runW (own.map (·.2)) hs m2 r2 v2 hp fun σ' v3 hw => ⟨hw.trans (wipe_idem _ _), (hb Dl n).run m2 v3 fun b μ3 G3 H3 q3 e3 m3 => ?_⟩
    cases b with
    | true =>
      rw [if_pos rfl] at q3 ⊢
      intro s H0 C cl fp
      refine q3 s H0 C cl fp G3 H3 σ' m3 (v3.mono e3) _ fun vy o' μ4 G4 H4 q4 e4 m4 r4 => ?_
      obtain ⟨μ5, rfl, n5, p5⟩ := q4
      obtain ⟨g5, accv, h5, w5⟩ := m4.own Dl acc put_same
      refine ⟨accv, h5, by rw [w5.length]; exact Nat.lt_of_lt_of_le (show acc.length < 100000 by omega) (by decide), acc ++ [o'], μ5, G4, by rw [List.length_append]; exact Nat.succ_le_succ hl, p5, n5, ((e.trans e2).trans e3).trans e4, ?_⟩
      have m5 := m4.chg (p := Dl) put_same (w5.snoc r4)
      rw [put_put] at m5
      exact m5
    | false =>
      rw [if_neg (by decide)] at q3 ⊢
      obtain ⟨μ5, rfl, n5, p5⟩ := q3
      exact ⟨acc, μ5, G3, Nat.le_succ_of_le hl, p5, n5, (e.trans e2).trans e3, m3⟩
  · rintro H ⟨acc, μ', G', hl, p, n, e, m⟩
    exact fin Dl acc μ' G' H (hdone acc μ' p) n e m
theorem pweb (s : Shared) (H : Hp) (C : Addr) (cl : List (Str × Addr)) (fp : List Addr) : PE (Blk X scope s H C cl fp) elt (WEb X scope elt) := ⟨fun pins s' σ H' Q I h => h s H C cl fp pins s' I⟩
theorem de_lcO {own : List (Str × Nat)} (t : Tgt) (hc : X.calm = true) (hN : X.N.Nodup) (ok : BlkOk X.N X.env.scope scope own) (hs : ∀ i ∈ t.slots, i ∈ own.map (·.2))
    (hg : ∀ s H C cl fp, PG (Blk X scope s H C cl fp) tg (TgtG X.K t)) (h : DI X tg iter ρ μ fun D μ1 => LcD X scope ifs elt t (own.map (·.2)) ρ D μ1 fun acc μ' => ∀ p, μ' p = none → Φ (.own p) (μ'.put p acc))
    (hf : ∀ x, foldedSetIterable iter X.env x = pure x := by intro _; rfl) : DE X (.ListComp elt [⟨tg, iter, ifs, 0⟩] scope pos) ρ μ Φ := by
  obtain ⟨wi, pi, run⟩ := h
  intro G H σ m v Q f
  refine WE.of (pe_lc (own := own) hc hN pi ok hg (fun s H C cl fp => pwtb s H C cl fp) (fun s H C cl fp => pweb s H C cl fp) hf) (run G H σ m v _ fun J D μ1 G1 H1 q e1 m1 gv Dl hD => ?_)
  exact lc_run hs v q e1 m1 gv (Qd := fun Dl H => Q (.ref Dl) H) (fun Dl acc μ' G' H' d n e m' => f _ _ _ _ _ (d Dl n) (e1.trans e) m' rfl) Dl hD
theorem de_lc {own : List (Str × Nat)} (t : Tgt) (hc : X.calm = true) (hN : X.N.Nodup) (ok : BlkOk X.N X.env.scope scope own) (hs : ∀ i ∈ t.slots, i ∈ own.map (·.2))
    (hg : ∀ s H C cl fp, PG (Blk X scope s H C cl fp) tg (TgtG X.K t)) (h : DI X tg iter ρ μ fun D μ1 => LcD X scope ifs elt t (own.map (·.2)) ρ D μ1 fun acc μ' => ∃ ds, acc = ds.map .im ∧ Φ (.im (.list ds)) μ')
    (hf : ∀ x, foldedSetIterable iter X.env x = pure x := by intro _; rfl) : DE X (.ListComp elt [⟨tg, iter, ifs, 0⟩] scope pos) ρ μ Φ := by
  refine de_frz (ds := []) (p := 0) (de_lcO t hc hN ok hs hg (h.imp fun D μ1 hL => ?_) hf)
  obtain ⟨Pv, a, b, c, d, e⟩ := hL
  refine ⟨Pv, a, b, c, fun acc μ' p q hq => ?_, e⟩
  obtain ⟨ds, rfl, z⟩ := d acc μ' p
  exact ⟨q, ds, rfl, put_same, by rw [del_put hq]; exact z⟩
def Xt (μ μ' : Mu) : Prop := ∀ a l, μ a = some l → μ' a = some l
theorem Xt.put {μ : Mu} {p : Addr} {l : List OV} (h : μ p = none) : Xt μ (μ.put p l) := fun a m e => by
  rw [put_ne (fun z => by rw [z, h] at e; cases e)]
  exact e
end
end Nx
namespace Nx
open PySem PySem.Spec PyProof.Rows L2
section
variable {X : Cx} {a b c e o : Expr} {es : List Expr} {st : Stmt} {ss : List Stmt} {ρ : Rho} {μ : Mu} {D : DEnds} {Φ : OV → Mu → Prop} {pos : Pos}
theorem dss_nil (h : D.nx ρ μ) : DSs X [] ρ μ D := fun G H σ m v E f => WSs.of pss_nil (f.nx ρ μ G H σ h (Ex.refl G) m v)
theorem dss_one (h : DS X st ρ μ D) : DSs X [st] ρ μ D := fun G H σ m v E f => WSs.of (pss_one pws) (h G H σ m v E f)
theorem dss_cons (h : DS X st ρ μ { D with nx := fun ρ' μ' => DSs X ss ρ' μ' D }) : DSs X (st :: ss) ρ μ D := fun G H σ m v E f =>
  WSs.of (pss_cons pws pwss) (h G H σ m v _ ⟨fun ρ' μ' G' H' σ' q e m' v' => q G' H' σ' m' v' E (f.later e), f.rt, f.bk, f.ct⟩)
theorem ds_expr (h : DE X e ρ μ fun _ μ1 => D.nx ρ μ1) (hs : swapsWith e none pos.line X.env = pure false := by rfl) : DS X (.Expr e pos) ρ μ D := fun G H σ m v E f =>
  WS.of (ps_expr pwe hs) (h G H σ m v _ fun vx x μ1 G1 H1 q1 e1 m1 r1 => f.nx _ _ _ _ _ q1 e1 m1 (v.mono e1))
theorem ds_ret (h : DE X e ρ μ D.rt) : DS X (.Return (some e) pos) ρ μ D := fun G H σ m v E f => WS.of (ps_ret pwe) (h G H σ m v _ f.rt)
theorem ds_if {s1 s2 : List Stmt} (h : DT X c ρ μ fun k μ1 => if k = true then DSs X s1 ρ μ1 D else DSs X s2 ρ μ1 D) : DS X (.If c s1 s2 pos) ρ μ D := fun G H σ m v E f =>
  WS.of (ps_if pwt pwss pwss) (h G H σ m v _ fun k μ1 G1 H1 q e1 m1 => by
    dsimp only at q
    split at q
    · rename_i hk
      rw [if_pos hk]
      exact q G1 H1 σ m1 (v.mono e1) E (f.later e1)
    · rename_i hk
      rw [if_neg hk]
      exact q G1 H1 σ m1 (v.mono e1) E (f.later e1))
theorem ds_set (i : Nat) {x : Str} {p' : Pos} (hN : X.N.Nodup) (hi : X.N[i]? = some x) (hx : Loc X.env.scope x) (h : DE X e ρ μ fun z μ1 => D.nx (ρ.set i (some z)) μ1) (hs : swapsWith e (some (.Name x p')) pos.line X.env = pure false := by rfl)
    (hf : X.fn x = true ∨ X.env.scope.names.lookup x = some .local := by first | exact .inl rfl | exact .inr rfl | assumption) : DS X (.Assign [.Name x p'] e pos) ρ μ D := fun G H σ m v E f =>
  WS.of (ps_set hN hi hx pwe hs hf) (h G H σ m v _ fun vx z μ1 G1 H1 q1 e1 m1 r1 => f.nx _ _ _ _ _ q1 e1 m1 ((v.mono e1).set r1))
theorem ds_asg (t : Tgt) {tg : Expr} (hg : PG X tg (TgtG X.K t)) (h : DE X e ρ μ fun z μ1 => ∃ ρ', t.put z ρ = some ρ' ∧ D.nx ρ' μ1) (hs : swapsWithSole [tg] e pos.line X.env = pure false := by rfl) (hw : swappedStores [tg] e X.env = pure none := by rfl)
    (h1 : (assignEach [tg] X.env).map (·.2) = [assign tg X.env] := by rfl) : DS X (.Assign [tg] e pos) ρ μ D := fun G H σ m v E f =>
  WS.of (ps_asg pwe hg hs hw h1) (h G H σ m v _ fun vx z μ1 G1 H1 ⟨ρ', hp, q1⟩ e1 m1 r1 => tgt_run m1 r1 (v.mono e1) hp fun σ' v' => f.nx _ _ _ _ _ q1 e1 m1 v')
theorem ds_par (i j : Nat) {x y : Str} {px py pt : Pos} {kt k2 pt2} (hc : X.calm = true) (hN : X.N.Nodup) (hi : X.N[i]? = some x) (hj : X.N[j]? = some y) (hij : i ≠ j)
    (hx : X.env.scope.names.lookup x = some .local) (hy : X.env.scope.names.lookup y = some .local) (hw : swappedStores [.Tuple [.Name x px, .Name y py] kt pt] (.Tuple [a, b] k2 pt2) X.env = pure (some [x, y]))
    (h : DA X [a, b] ρ μ fun os μ1 => ∃ u v, os = [u, v] ∧ D.nx ((ρ.set i (some u)).set j (some v)) μ1)
    (hs : swapsWithSole [.Tuple [.Name x px, .Name y py] kt pt] (.Tuple [a, b] k2 pt2) pos.line X.env = pure false := by rfl) : DS X (.Assign [.Tuple [.Name x px, .Name y py] kt pt] (.Tuple [a, b] k2 pt2) pos) ρ μ D := fun G H σ m v E f =>
  WS.of (ps_par hc hN hi hj hij hx hy pwa hw hs) (h G H σ m v _ fun vs os μ1 G1 H1 q1 e1 m1 r1 => by
    obtain ⟨u, w, rfl, q⟩ := q1
    cases r1 with
    | cons r1 t1 =>
      obtain ⟨z, rfl, r2⟩ := ro1 t1
      exact ⟨_, _, rfl, f.nx _ _ _ _ _ q e1 m1 (((v.mono e1).set r1).set r2)⟩)
theorem ds_sub {p' : Pos} (h : DE X e ρ μ fun z μ1 => DE X a ρ μ1 fun x μ2 => DE X b ρ μ2 fun y μ3 => ∃ (p : Addr) (l : List OV) (i : Int) (j : Nat), x = .own p ∧ y = .im (.int i) ∧ μ3 p = some l ∧ ixN l.length i = some j ∧ D.nx ρ (μ3.put p (l.set j z))) (hs : swapsWithSole [.Subscript a b p'] e pos.line X.env = pure false := by rfl)
    (hw : swappedStores [.Subscript a b p'] e X.env = pure none := by rfl) (h1 : (assignEach [.Subscript a b p'] X.env).map (·.2) = [assign (.Subscript a b p') X.env] := by rfl) (hsub : PG X (.Subscript a b p') (gSub (WE X a) (WE X b) rSetL)) : DS X (.Assign [.Subscript a b p'] e pos) ρ μ D := fun G H σ m v E f =>
  WS.of (ps_asg pwe hsub hs hw h1) (h G H σ m v _ fun vz z μ1 G1 H1 q1 e1 m1 r1 => q1 G1 H1 σ m1 (v.mono e1) _ fun vx x μ2 G2 H2 q2 e2 m2 r2 => q2 G2 H2 σ m2 (v.mono (e1.trans e2)) _ fun vy y μ3 G3 H3 q3 e3 m3 r3 => by
    obtain ⟨p, l, i, j, rfl, rfl, hp, hj, q⟩ := q3
    have r2 : vx = .ref p := r2
    subst r2
    cases r3
    obtain ⟨g, vs, hv, w⟩ := m3.own _ _ hp
    refine ⟨p, vs, i, j, rfl, rfl, hv, by rw [w.length]; exact hj, ?_⟩
    exact f.nx _ _ _ _ _ q ((e1.trans e2).trans e3) (m3.chg hp (w.set (r1.mono (e2.trans e3)) j)) (v.mono ((e1.trans e2).trans e3)))
theorem ds_for (t : Tgt) {tg iter : Expr} {body : List Stmt} (hp : PassesOwn (model X.prog X.w) X.A X.env X.xe) (hc : X.calm = true) (hg : PG X tg (TgtG X.K t))
    (h : DI X tg iter ρ μ fun I μ1 => ∃ Pv : Nat → Rho → Mu → Prop, Pv 0 ρ μ1 ∧ (∀ i ρ' μ', Pv i ρ' μ' → I.ok μ') ∧ (∀ (i : Nat) (z : OV) ρ' μ', I.its[i]? = some z → Pv i ρ' μ' → ∃ ρ2, t.put z ρ' = some ρ2 ∧ DSs X body ρ2 μ' { D with nx := Pv (i + 1), ct := Pv (i + 1), bk := D.nx }) ∧ ∀ ρ' μ', Pv I.its.length ρ' μ' → D.nx ρ' μ')
    (hs : ∀ x, foldedSetIterable iter X.env x = pure x := by intro _; rfl) : DS X (.For tg iter body [] pos) ρ μ D := by
  obtain ⟨wi, pi, run⟩ := h
  intro G H σ m v E f
  refine WS.of (ps_for hp hc pi hg pwss hs) (run G H σ m v _ fun J I μ1 G1 H1 q e1 m1 gv => ?_)
  obtain ⟨Pv, h0, hok, step, hd⟩ := q
  obtain ⟨Gd, Y, wk, hG, hY⟩ := gv
  refine for_it wk (D := E) (fun i σ' H' => ∃ ρ' μ' G', Pv i ρ' μ' ∧ Ex G1 G' ∧ RM G' H' μ' ∧ RV G' ρ' σ') ⟨ρ, μ1, G1, h0, Ex.refl _, m1, v.mono e1⟩ ?_ ?_ ?_
  · rintro i σ' H' _ ⟨ρ', μ', G', p, e, m', v'⟩
    exact hG G' H' μ' e m' (hok _ _ _ p)
  · rintro i x σ' H' H2 hi ⟨ρ', μ', G', p, e, m', v'⟩ y
    obtain ⟨G2, z, e2, m2, hz, r2⟩ := hY i H' x H2 G' μ' e m' (hok _ _ _ p) y hi
    obtain ⟨ρ2, hp2, hb⟩ := step i z ρ' μ' hz p
    refine tgt_run m2 r2 (v'.mono e2) hp2 fun σ2 v2 => ?_
    have e02 := (e1.trans e).trans e2
    refine hb G2 H2 σ2 m2 v2 _ ⟨fun ρ3 μ3 G3 H3 σ3 p3 e3 m3 v3 => ⟨ρ3, μ3, G3, p3, (e.trans e2).trans e3, m3, v3⟩, f.rt.later e02, f.nx.later e02, fun ρ3 μ3 G3 H3 σ3 p3 e3 m3 v3 => ⟨ρ3, μ3, G3, p3, (e.trans e2).trans e3, m3, v3⟩⟩
  · rintro σ' H' ⟨ρ', μ', G', p, e, m', v'⟩
    exact f.nx _ _ _ _ _ (hd _ _ p) (e1.trans e) m' v'
theorem ds_while {body : List Stmt} (hp : PassesOwn (model X.prog X.w) X.A X.env X.xe) (W : Nat → Rho → Mu → Prop) (m0 : Nat) (h0 : W m0 ρ μ)
    (hs : ∀ n ρ' μ', W n ρ' μ' → DT X c ρ' μ' fun k μ1 => if k = true then DSs X body ρ' μ1 { D with nx := fun ρ2 μ2 => ∃ n', n' < n ∧ W n' ρ2 μ2, ct := fun ρ2 μ2 => ∃ n', n' < n ∧ W n' ρ2 μ2, bk := D.nx } else D.nx ρ' μ1) : DS X (.While c body [] pos) ρ μ D := fun G H σ m v E f => by
  refine WS.of (ps_while hp pwt pwss) ⟨fun n σ' H' => ∃ ρ' μ' G', W n ρ' μ' ∧ Ex G G' ∧ RM G' H' μ' ∧ RV G' ρ' σ', ⟨m0, ρ, μ, G, h0, Ex.refl _, m, v⟩, ?_⟩
  rintro n σ' H' ⟨ρ', μ', G', w, e, m', v'⟩
  refine hs n ρ' μ' w G' H' σ' m' v' _ fun k μ1 G1 H1 q e1 m1 => ?_
  dsimp only at q
  cases k with
  | true =>
    rw [if_pos rfl] at q ⊢
    refine ⟨fun σ2 H2 => ∃ n', n' < n ∧ ∃ ρ' μ' G', W n' ρ' μ' ∧ Ex G G' ∧ RM G' H2 μ' ∧ RV G' ρ' σ2, fun σ2 H2 z => z, ?_⟩
    have e01 := e.trans e1
    refine q G1 H1 σ' m1 (v'.mono e1) _ ⟨?_, f.rt.later e01, f.nx.later e01, ?_⟩
    · rintro ρ3 μ3 G3 H3 σ3 ⟨n', hn, p3⟩ e3 m3 v3
      exact ⟨n', hn, ρ3, μ3, G3, p3, e01.trans e3, m3, v3⟩
    · rintro ρ3 μ3 G3 H3 σ3 ⟨n', hn, p3⟩ e3 m3 v3
      exact ⟨n', hn, ρ3, μ3, G3, p3, e01.trans e3, m3, v3⟩
  | false =>
    rw [if_neg (by decide)] at q ⊢
    exact f.nx _ _ _ _ _ q (e.trans e1) m1 (v'.mono e1)
theorem ds_setLc {own : List (Str × Nat)} (t : Tgt) (i : Nat) {y : Str} {py spos : Pos} {tg iter elt : Expr} {ifs : List Expr} {scope : Scope} (hc : X.calm = true) (hN : X.N.Nodup) (hy : X.N[i]? = some y) (hyl : X.env.scope.names.lookup y = some .local)
    (hsw : swapsWith (.ListComp elt [⟨tg, iter, ifs, 0⟩] scope pos) (some (.Name y py)) spos.line X.env = pure true) (ok : BlkOk X.N X.env.scope scope own) (hs : ∀ i ∈ t.slots, i ∈ own.map (·.2))
    (hg : ∀ s H C cl fp, PG (Blk X scope s H C cl fp) tg (TgtG X.K t)) (h : DI X tg iter ρ μ fun I μ1 => LcD X scope ifs elt t (own.map (·.2)) ρ I μ1 fun acc μ' => ∃ ds, acc = ds.map .im ∧ D.nx (ρ.set i (some (.im (.list ds)))) μ')
    (hf : ∀ x, foldedSetIterable iter X.env x = pure x := by intro _; rfl) : DS X (.Assign [.Name y py] (.ListComp elt [⟨tg, iter, ifs, 0⟩] scope pos) spos) ρ μ D := by
  obtain ⟨wi, pi, run⟩ := h
  intro G H σ m v E f
  refine WS.of (ps_setLc (own := own) hc hN hy hyl hsw pi ok hg (fun s H C cl fp => pwtb s H C cl fp) (fun s H C cl fp => pweb s H C cl fp) hf) (run G H σ m v _ fun J I μ1 G1 H1 q e1 m1 gv Dl hD => ?_)
  refine lc_run hs v q e1 m1 gv (Qd := fun Dl H => E.nx (σ.set i (some (.ref Dl))) H) (fun Dl acc μ' G' H' d n e m' => ?_) Dl hD
  obtain ⟨ds, rfl, z⟩ := d
  obtain ⟨vs, e0, g0, w, m2⟩ := m'.frz (p := Dl) put_same
  rw [del_put n] at m2
  exact f.nx _ _ _ _ _ z ((e1.trans e).trans (Ex.new g0)) m2 ((v.mono ((e1.trans e).trans (Ex.new g0))).set (o := .im _) (Dv.lst upd_same (w.mono (Ex.new g0))))
variable {apos cpos : Pos}
theorem de_append (h : DE X o ρ μ fun x μ1 => ∃ p l, x = .own p ∧ μ1 p = some l ∧ DE X e ρ μ1 fun y μ2 => ∃ l2, μ2 p = some l2 ∧ l2.length < 100000 ∧ Φ (.im .none) (μ2.put p (l2 ++ [y])))
    (hbase : attributeBase o "append" X.env (eval o X.env) = eval o X.env := by rfl)
    (hfew : ((backTo cpos (starEach [e] X.env)).all (fun x => !x.1) && (backToKw cpos (keywordEach [] X.env)).all (fun x => x.1.isSome) && decide ([e].length + ([] : List Keyword).length + (if ([] : List Keyword).isEmpty then 0 else 1) < 30)) = true := by rfl)
    (hline : (apos.endLine == cpos.line) = true := by rfl) (hs : starEach [e] X.env = (false, eval e X.env) :: starEach [] X.env := by rfl) (hplain : (backTo cpos (starEach [] X.env)).any (·.1) = false := by rfl) :
    DE X (.Call (.Attribute o "append" apos) [e] [] cpos) ρ μ Φ := fun G H σ m v Q f =>
  WE.of (pe_bm PySem.F.plainAttrs_list PySem.F.slot_list_append PySem.F.type_list_append mt_append pwe pwa hbase hfew hline hs hplain) (h G H σ m v _ fun vx x μ1 G1 H1 q1 e1 m1 r1 => by
    obtain ⟨p, l, rfl, hp, q⟩ := q1
    have r1 : vx = .ref p := r1
    subst r1
    obtain ⟨_, vs1, hv1, _⟩ := m1.own _ _ hp
    refine ⟨.inl ⟨rfl, _, .inl (.inl hv1)⟩, ?_⟩
    refine (da_cons (Λ := fun os μ2 => ∃ y l2, os = [y] ∧ μ2 p = some l2 ∧ l2.length < 100000 ∧ Φ (.im .none) (μ2.put p (l2 ++ [y]))) (q.imp fun y μ2 ⟨l2, a1, a2, a3⟩ => da_nil ⟨y, l2, rfl, a1, a2, a3⟩) hs) G1 H1 σ m1 (v.mono e1) _ fun vs os μ2 G2 H2 q2 e2 m2 r2 => ?_
    obtain ⟨y, l2, rfl, hp2, hz, q⟩ := q2
    obtain ⟨u, rfl, ru⟩ := ro1 r2
    obtain ⟨_, ws, hw, ww⟩ := m2.own _ _ hp2
    exact ⟨p, ws, u, rfl, rfl, hw, by rw [ww.length]; exact Nat.lt_of_lt_of_le hz (by decide), f _ _ _ _ _ q (e1.trans e2) (m2.chg hp2 (ww.snoc ru)) Dv.non⟩)
theorem de_popAt (h : DE X o ρ μ fun x μ1 => ∃ p l, x = .own p ∧ μ1 p = some l ∧ DE X e ρ μ1 fun y μ2 => ∃ (l2 : List OV) (i : Nat) (z : OV), y = .im (.int (i : Int)) ∧ i < 100000 ∧ μ2 p = some l2 ∧ l2[i]? = some z ∧ Φ z (μ2.put p (l2.eraseIdx i)))
    (hbase : attributeBase o "pop" X.env (eval o X.env) = eval o X.env := by rfl)
    (hfew : ((backTo cpos (starEach [e] X.env)).all (fun x => !x.1) && (backToKw cpos (keywordEach [] X.env)).all (fun x => x.1.isSome) && decide ([e].length + ([] : List Keyword).length + (if ([] : List Keyword).isEmpty then 0 else 1) < 30)) = true := by rfl)
    (hline : (apos.endLine == cpos.line) = true := by rfl) (hs : starEach [e] X.env = (false, eval e X.env) :: starEach [] X.env := by rfl) (hplain : (backTo cpos (starEach [] X.env)).any (·.1) = false := by rfl) :
    DE X (.Call (.Attribute o "pop" apos) [e] [] cpos) ρ μ Φ := fun G H σ m v Q f =>
  WE.of (pe_bm PySem.F.plainAttrs_list PySem.F.slot_list_pop PySem.F.type_list_pop mt_popAt pwe pwa hbase hfew hline hs hplain) (h G H σ m v _ fun vx x μ1 G1 H1 q1 e1 m1 r1 => by
    obtain ⟨p, l, rfl, hp, q⟩ := q1
    have r1 : vx = .ref p := r1
    subst r1
    obtain ⟨_, vs1, hv1, _⟩ := m1.own _ _ hp
    refine ⟨.inl ⟨rfl, _, .inl (.inl hv1)⟩, ?_⟩
    refine (da_cons (Λ := fun os μ2 => ∃ (l2 : List OV) (i : Nat) (z : OV), os = [.im (.int (i : Int))] ∧ i < 100000 ∧ μ2 p = some l2 ∧ l2[i]? = some z ∧ Φ z (μ2.put p (l2.eraseIdx i))) (q.imp fun y μ2 ⟨l2, i, z, a0, a1, a2, a3, a4⟩ => da_nil ⟨l2, i, z, by rw [a0], a1, a2, a3, a4⟩) hs) G1 H1 σ m1 (v.mono e1) _ fun vs os μ2 G2 H2 q2 e2 m2 r2 => ?_
    obtain ⟨l2, i, z, rfl, hi, hp2, hz, q⟩ := q2
    obtain ⟨u, rfl, ru⟩ := ro1 r2
    cases ru
    obtain ⟨_, ws, hw, ww⟩ := m2.own _ _ hp2
    obtain ⟨y, hy, ry⟩ := ROs.get ww hz
    have hil : i < ws.length := (List.getElem?_eq_some_iff.mp hy).1
    refine ⟨p, ws, i, i, y, rfl, rfl, hw, by omega, by omega, ?_, hy, f _ _ _ _ _ q (e1.trans e2) (m2.chg hp2 (ww.erase i)) ry⟩
    exact (atI_get (i := (i : Int)) (xs := ws) (v := y) (atI_nat hy)).elim fun j hj => by
      have e3 : j = i := by
        have h1 := hj.1
        unfold seqIndex? at h1
        split at h1 <;> simp_all <;> omega
      rw [e3] at hj
      exact hj.1)
end
end Nx
namespace Nx
open PySem PySem.Spec PyProof.Rows L2
def ItO (k : Bool) (h : Heap) (it a : Addr) (i : Nat) : Prop := if k then h.IsListIter it a i else h.IsTupleIter it a i
def SrO (k : Bool) (h : Heap) (a : Addr) (its : Array Value) : Prop := if k then h.IsList a its else h.IsTuple a its
def SqK (k : Bool) (H : Hp) (a : Addr) (xs : List V) : Prop := H a = some (if k then HO.lst xs else HO.tup xs)
def itOb (k : Bool) (a : Addr) : Obj := { cls := .type (if k then "list_iterator" else "tuple_iterator"), data := .fields #[.ref a, .int 0 0] }
theorem draws (k : Bool) {prog : Program} {w : World} {A : Around} (hh : A.handled = none) (it a : Addr) (hne : a ≠ it) (its : Array Value) : Draws prog w A it [it, a] its.size (fun i v => its[i]? = some v) (fun i h => ItO k h it a i ∧ SrO k h a its) := by
  cases k
  · exact Draws.tuple hh it a hne its
  · exact Draws.list hh it a hne its
theorem begins (k : Bool) (a : Addr) (its : Array Value) : Begins (.ref a) (itOb k a) fun h => SrO k h a its := by
  cases k
  · exact begins_tuple a its
  · exact begins_list a its
theorem ItO.new {k : Bool} {h : Heap} {it a : Addr} (e : h.get? it = some (itOb k a)) : ItO k h it a 0 := by
  cases k
  · exact ⟨_, e, rfl, rfl⟩
  · exact ⟨_, e, rfl, rfl⟩
theorem ItO.keep {k : Bool} {h h' : Heap} {it a : Addr} {i : Nat} (x : ItO k h it a i) (e : ∀ o, h.get? it = some o → h'.get? it = some o) : ItO k h' it a i := by
  cases k
  · obtain ⟨o, h1, h2, h3⟩ := x
    exact ⟨o, e o h1, h2, h3⟩
  · obtain ⟨o, h1, h2, h3⟩ := x
    exact ⟨o, e o h1, h2, h3⟩
theorem ItO.obj {k : Bool} {h : Heap} {it a : Addr} {i : Nat} (x : ItO k h it a i) : ∃ o, h.get? it = some o ∧ ∀ v, o.data ≠ .cell v := by
  cases k
  · obtain ⟨o, h1, h2, h3⟩ := x
    exact ⟨o, h1, fun v q => by rw [h3] at q; cases q⟩
  · obtain ⟨o, h1, h2, h3⟩ := x
    exact ⟨o, h1, fun v q => by rw [h3] at q; cases q⟩
theorem SqK.at {X : Cx} {pins : List (Addr × Obj)} {σ : L2.St} {H : Hp} {s : Shared} {k : Bool} {a : Addr} {xs : List V} (I : Inv X pins σ H s) (h : SqK k H a xs) : ∃ its : List Value, Vals xs its ∧ SrO k s.heap a its.toArray := by
  cases k
  · obtain ⟨its, rv, t, _⟩ := I.tuple (X := X) (xs := xs) (a := a) (.inl (.inl h))
    exact ⟨its, rv, t⟩
  · obtain ⟨its, rv, p, _⟩ := I.list (X := X) (xs := xs) (a := a) (.inl (.inl h))
    exact ⟨its, rv, p.isList⟩
theorem mem2 {b e it : Addr} (h : b ∈ [e, it]) : b = e ∨ b = it := by simpa using h
def Jen (k : Bool) (a : Addr) (xs : List V) : It :=
  ⟨fun i H => i < xs.length ∧ SqK k H a xs, fun i H v H' => ∃ T x, v = .ref T ∧ H T = none ∧ H' = upd H T (.tup [.int (i : Nat), x]) ∧ xs[i]? = some x, fun i H => i = xs.length ∧ SqK k H a xs⟩
theorem turn_en {P : Program} {w : World} {K : PySem.W.Frag} {elts : List Expr} {kk : Nat} {tpos : Pos} (k : Bool) (a e it : Addr) (xs : List V) (hei : e ≠ it) :
    Turn P w K (.Tuple elts kk tpos) (Jen k a xs) [e, it] e (fun i h => (∃ old, IsEnum h e it ((i : Nat) : Int) old) ∧ ItO k h it a i) where
  mem := by simp
  obj := fun i h st b hb => by
    obtain ⟨⟨old, he⟩, hi⟩ := st
    rcases mem2 hb with z | z
    · rw [z]
      exact ⟨_, he, fun v q => nomatch q⟩
    · rw [z]
      exact hi.obj
  keep := fun i h h' st kp => by
    obtain ⟨⟨old, he⟩, hi⟩ := st
    exact ⟨⟨old, kp e (by simp) _ he⟩, hi.keep fun o q => kp it (by simp) o q⟩
  item := by
    intro X hP hw hK hc i pins s σ H E I hf st hg
    subst hP hw hK
    obtain ⟨⟨old, he⟩, hit⟩ := st
    obtain ⟨hi, hq⟩ := hg
    obtain ⟨its, rv, hs⟩ := hq.at I
    have na : ∀ b ∈ [e, it], a ≠ b := fun b hb => ne_of_none hq (hf b hb).1
    have W := GoesN.enumFrom (elts := elts) (x1 := kk) (pos := tpos) (A := X.A) 0 (draws (prog := X.prog) (w := X.w) (A := X.A.in1) k (I.ok.hd hc) it a (na it (by simp)) its.toArray) e hei (by
      intro hm
      rcases mem2 hm with z | z
      · exact hei z
      · exact na e (by simp) z.symm) (by simp)
    have hl := rv.length
    refine W.goes i s _ E (by simp; omega) ⟨⟨old, by rw [Int.zero_add]; exact he⟩, hit, hs⟩ fun v h' tk hY st' hk _ => ?_
    obtain ⟨T, t, x, rfl, hT, hx, hTu⟩ := hY
    obtain ⟨⟨old', he'⟩, hit', _⟩ := st'
    have hx' : its[i]? = some x := by simpa using hx
    obtain ⟨y, hy⟩ : ∃ y, xs[i]? = some y := ⟨_, List.getElem?_eq_getElem hi⟩
    obtain ⟨u, hu, ru⟩ := rv.get hy
    rw [hx'] at hu
    cases hu
    have new : ObjOk X.prog X.w (upd H T (.tup [.int (i : Nat), y])) h' T (.tup [.int (i : Nat), y]) :=
      ⟨by show 2 ≤ sizeLine; decide, [.int (0 + (i : Int)) t, x], .cons ⟨t, by rw [Int.zero_add]⟩ (.cons ru .nil), hTu⟩
    have hTn := I.hok.fresh hT
    refine ⟨.ref T, _, I.turnedNew (t' := tk) (ch := [e, it]) hk hf hT new, rfl, ⟨T, y, rfl, hTn, rfl, hy⟩, ⟨⟨old', ?_⟩, hit'⟩, fun b hb => ?_⟩
    · rw [Int.zero_add] at he'
      exact he'
    · have hb' : b ≠ T := fun z => by
        obtain ⟨o, ho, _⟩ : ∃ o, s.heap.get? b = some o ∧ ∀ v, o.data ≠ .cell v := by
          rcases mem2 hb with z | z
          · rw [z]
            exact ⟨_, he, fun v q => nomatch q⟩
          · rw [z]
            exact hit.obj
        have := Heap.lt_size ho
        rw [z] at this
        exact absurd hT (Nat.not_le.mpr this)
      rw [upd_ne hb']
      exact (hf b hb).1
  done := by
    intro X hP hw hK hc i pins s σ H E I hf st hg
    subst hP hw hK
    obtain ⟨⟨old, he⟩, hit⟩ := st
    obtain ⟨rfl, hq⟩ := hg
    obtain ⟨its, rv, hs⟩ := hq.at I
    have na : ∀ b ∈ [e, it], a ≠ b := fun b hb => ne_of_none hq (hf b hb).1
    have W := GoesN.enumFrom (elts := elts) (x1 := kk) (pos := tpos) (A := X.A) 0 (draws (prog := X.prog) (w := X.w) (A := X.A.in1) k (I.ok.hd hc) it a (na it (by simp)) its.toArray) e hei (by
      intro hm
      rcases mem2 hm with z | z
      · exact hei z
      · exact na e (by simp) z.symm) (by simp)
    have hl := rv.length
    have hn : its.toArray.size = xs.length := by simp; omega
    refine W.stops s _ E (by rw [hn]; exact ⟨⟨old, by rw [Int.zero_add]; exact he⟩, hit, hs⟩) fun h' tk hk _ => ?_
    exact I.turnedL hk hf
  self := fun A i s Q E st h => let ⟨⟨_, he⟩, _⟩ := st; wpAny_pyIter_enum he h
set_option maxHeartbeats 1000000 in
theorem meets_en {v : Value} {o : Obj} {Hs : Heap → Prop} (B : Begins v o Hs) :
    Meets (Builtin.«enumerate.__new__» ⟨[.type "enumerate", v], []⟩) (fun _ R s => Hs s.heap ∧
      R (.ok (.ret (.ref (s.heap.push o).objs.size))) { s with heap := (s.heap.push o).push { cls := .type "enumerate", data := .fields #[.none, .bool false, .ref s.heap.objs.size, rawInt 0, .none, .none] } }) :=
  .of_wp fun prog w A R s h => by
    obtain ⟨hp, g, d, tk, os⟩ := s
    obtain ⟨h1, h⟩ := h
    have sub := sub_enumerate
    have it1 : ∀ {A' : Around} {E : Value → Shared → Prop} {Q : Value → Shared → Prop}, Q (.ref hp.objs.size) ⟨hp.push o, g, d, tk, os⟩ → wpAny (model prog w) A' (pyIter v) Q E ⟨hp, g, d, tk, os⟩ := fun q => B.iter prog w _ _ ⟨hp, g, d, tk, os⟩ _ h1 q
    wp_walk using it1
    refine wpAny_stack_any fun st => wpAny_pure ?_
    split
    · rename_i c _ _ _ _ _
      cases (c == Value.type "enumerate") <;> (wp_walk using it1; exact ⟨_, rfl, h⟩)
    · wp_walk using it1
      exact ⟨_, rfl, h⟩
theorem call_en {prog : Program} {w : World} {A : Around} {E : Value → Shared → Prop} {s : Shared} {v : Value} {o : Obj} {Hs : Heap → Prop} {Q : Value → Shared → Prop} (B : Begins v o Hs) (h1 : Hs s.heap)
    (h : ∀ h', IsEnum h' (s.heap.objs.size + 1) s.heap.objs.size 0 .none → h'.get? s.heap.objs.size = some o → (∀ b o, s.heap.get? b = some o → h'.get? b = some o) → Q (.ref (s.heap.objs.size + 1)) { s with heap := h' }) : wpAny (model prog w) A (call (.type "enumerate") [v]) Q E s := by
  refine callType_new F.called_enumerate (by decide) (F.typeCall_enumerate_1 _) (F.newCall_enumerate_1 _) (fun obj => F.args_object_init_2 obj _) F.entry_enumerate_new (meets_en B) ⟨h1, ?_⟩
  have hz : (s.heap.push o).objs.size = s.heap.objs.size + 1 := Heap.size_push ..
  rw [hz]
  have he := Heap.get?_push_size (s.heap.push o) (o := { cls := .type "enumerate", data := .fields #[.none, .bool false, .ref s.heap.objs.size, rawInt 0, .none, .none] }) rfl
  rw [hz] at he
  exact ⟨⟨_, he, rfl⟩, h _ he (Heap.get?_push_of_some _ (Heap.get?_push_size _ B.free)) fun b o x => Heap.get?_push_of_some _ (Heap.get?_push_of_some _ x)⟩
def iEn (ta : TA) : TI := fun σ H R => ta σ H fun vs H1 => ∃ k a xs, vs = [.ref a] ∧ SqK k H1 a xs ∧ R (Jen k a xs) H1
theorem pi_en {X : Cx} {e : Expr} {ta : TA} {p pos tpos : Pos} {elts : List Expr} {kk : Nat} (hg : Gl X "enumerate") (hm : X.mg "enumerate" = none) (ha : PA X [e] ta) (hs : starEach [e] X.env = [(false, eval e X.env)]) :
    PI X (.Tuple elts kk tpos) (.Call (.Name "enumerate" p) [e] [] pos) (iEn ta) := by
  constructor
  intro pins s σ H R I h
  refine Call_ (ld_blt I hg hm boot_enumerate (PyProof.Rows.callWith_type1 (thn (ha.run pos pins s σ H _ I h) fun us s1 ⟨vs, H1, I1, r1, q1⟩ => ?_) hs rfl))
  obtain ⟨k, a, xs, rfl, hq, q⟩ := q1
  obtain rfl := r1.ref1
  obtain ⟨its, rv, hsr⟩ := hq.at I1
  refine call_en (begins k a its.toArray) hsr fun h' he hit hk => wpAny_pyIter_enum he ?_
  refine ⟨s1.heap.objs.size + 1, [s1.heap.objs.size + 1, s1.heap.objs.size], _, _, H1, rfl, I1.kept (t' := s1.toks) hk, turn_en k a (s1.heap.objs.size + 1) s1.heap.objs.size xs (Nat.succ_ne_self _), ⟨⟨.none, he⟩, ItO.new hit⟩, fun b hb => ?_, q⟩
  have hle : s1.heap.objs.size ≤ b := by
    rcases mem2 hb with z | z
    · rw [z]; exact Nat.le_add_right _ _
    · rw [z]; exact Nat.le_refl _
  exact I1.fpOk hle (I1.hok.fresh hle)
theorem walk_en {k : Bool} {a : Addr} {xs : List V} : Walk (Jen k a xs) xs.length (fun H => SqK k H a xs) (YPair (fun i => some (.int (i : Nat))) (fun i => xs[i]?)) :=
  ⟨fun i H hi q => ⟨hi, q⟩, fun H q => ⟨rfl, q⟩, fun i H v H' _ q ⟨T, x, h1, h2, h3, h4⟩ => ⟨T, .int (i : Nat), x, h1, h2, h3, rfl, h4⟩⟩
inductive Seq (ds : List PyData) : OV → Prop
  | lst : Seq ds (.im (.list ds))
  | tup : Seq ds (.im (.tuple ds))
theorem Seq.at {G : Hp} {v : V} {o : OV} {ds : List PyData} (h : Seq ds o) (r : RO G v o) : ∃ k a xs, v = .ref a ∧ SqK k G a xs ∧ DvA G xs ds := by
  cases h with
  | lst =>
    have r : Dv G v (.list ds) := r
    cases r with
    | lst h1 w => exact ⟨true, _, _, rfl, h1, w⟩
  | tup =>
    have r : Dv G v (.tuple ds) := r
    cases r with
    | tup h1 w => exact ⟨false, _, _, rfl, h1, w⟩
section
variable {X : Cx} {tg e e2 e3 : Expr} {ρ : Rho} {μ : Mu} {Ψ : Itd → Mu → Prop} {p pos : Pos}
theorem di_en {elts : List Expr} {kk : Nat} {tpos : Pos} (B : Bt X.mg) (hg : Gl X "enumerate") (h : DE X e ρ μ fun o μ1 => ∃ ds, Seq ds o ∧ Ψ ⟨(prs (nums ds.length) ds).map .im, fun _ => True⟩ μ1)
    (he : starEach [e] X.env = (false, eval e X.env) :: starEach [] X.env := by rfl) (he2 : starEach [e] X.env = [(false, eval e X.env)] := by rfl) : DI X (.Tuple elts kk tpos) (.Call (.Name "enumerate" p) [e] [] pos) ρ μ Ψ :=
  ⟨_, pi_en hg B.enumerate pwa he2, fun G H σ m v R f => (da_cons (Λ := fun os μ1 => ∃ o ds, os = [o] ∧ Seq ds o ∧ Ψ ⟨(prs (nums ds.length) ds).map .im, fun _ => True⟩ μ1)
      (h.imp fun o μ1 ⟨ds, ho, q⟩ => da_nil ⟨o, ds, rfl, ho, q⟩) he) G H σ m v _ fun vs os μ1 G1 H1 q1 e1 m1 r1 => by
    obtain ⟨o, ds, rfl, hd, q⟩ := q1
    obtain ⟨u, rfl, ru⟩ := ro1 r1
    obtain ⟨k, a, xs, rfl, hq, w⟩ := hd.at ru
    refine ⟨k, a, xs, rfl, m1.ex _ _ hq, f _ _ _ _ _ q e1 m1 ?_⟩
    have hlen : ((prs (nums ds.length) ds).map OV.im).length = ds.length := by simp [prs, nums]
    refine ⟨fun H => SqK k H a xs, YPair (fun i => some (.int (i : Nat))) (fun i => xs[i]?), ?_, fun G' H' μ' e m _ => m.ex _ _ (e _ _ hq), fun i H' x H2 G' μ' e m _ y hi => ?_⟩
    · show Walk _ ((prs (nums ds.length) ds).map OV.im).length _ _
      rw [hlen, ← w.length]
      exact walk_en
    · obtain ⟨T, x1, y1, rfl, hT, rfl, h1, h2⟩ := y
      cases h1
      obtain ⟨d, h3, h4⟩ := w.getV h2
      have hi : i < ds.length := by rw [← hlen]; exact hi
      obtain ⟨a1, a2, a3⟩ := pair_new m hT (Dv.int (i : Int)) (h4.mono e)
      exact ⟨_, .im (.tuple [.int (i : Int), d]), a1, a2, by rw [List.getElem?_map, prs_get (nums_get hi) h3]; rfl, a3⟩⟩
end
end Nx
namespace Nx
open PySem PySem.Spec PyProof.Rows L2
def Jz2 (k1 k2 : Bool) (a1 a2 : Addr) (xs ys : List V) : It :=
  ⟨fun i H => i < min xs.length ys.length ∧ SqK k1 H a1 xs ∧ SqK k2 H a2 ys, fun i H v H' => ∃ T x y, v = .ref T ∧ H T = none ∧ H' = upd H T (.tup [x, y]) ∧ xs[i]? = some x ∧ ys[i]? = some y, fun i H => i = min xs.length ys.length ∧ SqK k1 H a1 xs ∧ SqK k2 H a2 ys⟩
def tnz2 (k1 k2 : Bool) (z TI TO i1 i2 a1 a2 : Addr) (i : Nat) (h : Heap) : Prop := IsZip h z TI TO .none ∧ IsTupOf2 h TI (.ref i1) (.ref i2) ∧ (∃ x y, IsTupOf2 h TO x y) ∧ ItO k1 h i1 a1 i ∧ ItO k2 h i2 a2 i
theorem turn_z2 {P : Program} {w : World} {K : PySem.W.Frag} {elts : List Expr} {kk : Nat} {tpos : Pos} (k1 k2 : Bool) (a1 a2 z TI TO i1 i2 : Addr) (xs ys : List V) (hd : [z, TI, TO, i1, i2].Nodup) :
    Turn P w K (.Tuple elts kk tpos) (Jz2 k1 k2 a1 a2 xs ys) [z, TI, TO, i1, i2] z (tnz2 k1 k2 z TI TO i1 i2 a1 a2) := by
  have obj : ∀ i h, tnz2 k1 k2 z TI TO i1 i2 a1 a2 i h → ∀ b ∈ [z, TI, TO, i1, i2], ∃ o, h.get? b = some o ∧ ∀ v, o.data ≠ .cell v := by
    rintro i h ⟨h1, h2, ⟨x, y, h3⟩, h4, h5⟩ b hb
    simp only [List.mem_cons, List.not_mem_nil, or_false] at hb
    rcases hb with rfl | rfl | rfl | rfl | rfl
    · exact ⟨_, h1, fun v q => nomatch q⟩
    · exact ⟨_, h2, fun v q => nomatch q⟩
    · exact ⟨_, h3, fun v q => nomatch q⟩
    · exact h4.obj
    · exact h5.obj
  have goes : ∀ (X : Cx) (i : Nat) (pins : List (Addr × Obj)) (s : Shared) (σ : L2.St) (H : Hp), X.prog = P → X.w = w → X.calm = true → Inv X pins σ H s → (∀ b ∈ [z, TI, TO, i1, i2], FpOk X pins H b) → SqK k1 H a1 xs → SqK k2 H a2 ys →
      ∃ (its jts : List Value), Vals xs its ∧ Vals ys jts ∧ SrO k1 s.heap a1 its.toArray ∧ SrO k2 s.heap a2 jts.toArray ∧ GoesN P w X.A (.Tuple elts kk tpos) z (z :: TI :: TO :: ([i1, a1] ++ [i2, a2])) [z, TO, i1, i2] (min its.toArray.size jts.toArray.size)
        (fun i h₀ v h => ∃ T x y, v = .ref T ∧ h₀.objs.size ≤ T ∧ its.toArray[i]? = some x ∧ jts.toArray[i]? = some y ∧ h.IsTuple T #[x, y])
        (fun i h => IsZip h z TI TO .none ∧ IsTupOf2 h TI (.ref i1) (.ref i2) ∧ (∃ a1 a2, IsTupOf2 h TO a1 a2) ∧ (ItO k1 h i1 a1 i ∧ SrO k1 h a1 its.toArray) ∧ (ItO k2 h i2 a2 i ∧ SrO k2 h a2 jts.toArray)) := by
    intro X i pins s σ H hP hw hc I hf q1 q2
    subst hP hw
    obtain ⟨its, rv, hs1⟩ := q1.at I
    obtain ⟨jts, rw_, hs2⟩ := q2.at I
    have n1 : ∀ b ∈ [z, TI, TO, i1, i2], a1 ≠ b := fun b hb => ne_of_none q1 (hf b hb).1
    have n2 : ∀ b ∈ [z, TI, TO, i1, i2], a2 ≠ b := fun b hb => ne_of_none q2 (hf b hb).1
    have m1 := n1 z (by simp)
    have m3 := n1 TO (by simp)
    have m4 := n1 i1 (by simp)
    have m5 := n1 i2 (by simp)
    have l1 := n2 z (by simp)
    have l3 := n2 TO (by simp)
    have l4 := n2 i1 (by simp)
    have l5 := n2 i2 (by simp)
    simp only [List.nodup_cons, List.mem_cons, List.not_mem_nil, or_false, not_or, List.nodup_nil, and_true, not_false_eq_true] at hd
    obtain ⟨⟨d1, d2, d3, d4⟩, ⟨d5, d6, d7⟩, ⟨d8, d9⟩, d10⟩ := hd
    refine ⟨its, jts, rv, rw_, hs1, hs2, GoesN.zip2 ?_ (draws (A := X.A.in1) k1 (I.ok.hd hc) i1 a1 m4 its.toArray) (draws (A := X.A.in1) k2 (I.ok.hd hc) i2 a2 l5 jts.toArray)⟩
    exact { TIz := fun e => d1 e.symm, TOz := fun e => d2 e.symm, TITO := d5, TIi1 := d6, mem1 := by simp, zf1 := by simp; exact ⟨d3, fun e => m1 e.symm⟩, Tf1 := by simp; exact ⟨d8, fun e => m3 e.symm⟩, TIi2 := d7, mem2 := by simp,
            zf2 := by simp; exact ⟨d4, fun e => l1 e.symm⟩, Tf2 := by simp; exact ⟨d9, fun e => l3 e.symm⟩, sep1_2 := by simp; exact ⟨d10, fun e => l4 e.symm⟩, sep2_1 := by simp; exact ⟨fun e => d10 e.symm, fun e => m5 e.symm⟩ }
  have keepF : ∀ {h h' : Heap} {b : Addr}, b ∉ [z, TI, TO, i1, i2] → b ∉ [z, TO, i1, i2] := fun {h h' b} hb hm => hb (by
    simp only [List.mem_cons, List.not_mem_nil, or_false] at hm ⊢
    rcases hm with e | e | e | e
    · exact .inl e
    · exact .inr (.inr (.inl e))
    · exact .inr (.inr (.inr (.inl e)))
    · exact .inr (.inr (.inr (.inr e))))
  constructor
  · simp
  · exact obj
  · rintro i h h' ⟨h1, h2, ⟨x, y, h3⟩, h4, h5⟩ kp
    exact ⟨kp z (by simp) _ h1, kp TI (by simp) _ h2, ⟨x, y, kp TO (by simp) _ h3⟩, h4.keep (kp i1 (by simp)), h5.keep (kp i2 (by simp))⟩
  · intro X hP hw hK hc i pins s σ H E I hf st hg
    obtain ⟨hi, q1, q2⟩ := hg
    obtain ⟨its, jts, rv, rw_, hs1, hs2, W⟩ := goes X i pins s σ H hP hw hc I hf q1 q2
    subst hP hw hK
    obtain ⟨h1, h2, h3, h4, h5⟩ := id st
    have hl := rv.length
    have hl2 := rw_.length
    refine W.goes i s _ E (by simp; omega) ⟨h1, h2, h3, ⟨h4, hs1⟩, h5, hs2⟩ fun v h' tk hY st' hk _ => ?_
    obtain ⟨T, x, y, rfl, hT, hx, hy, hTu⟩ := hY
    obtain ⟨g1, g2, g3, ⟨g4, _⟩, g5, _⟩ := st'
    obtain ⟨x', hx'⟩ : ∃ y, xs[i]? = some y := ⟨_, List.getElem?_eq_getElem (by omega)⟩
    obtain ⟨y', hy'⟩ : ∃ y, ys[i]? = some y := ⟨_, List.getElem?_eq_getElem (by omega)⟩
    obtain ⟨u, hu, ru⟩ := rv.get hx'
    obtain ⟨u2, hu2, ru2⟩ := rw_.get hy'
    have ex : u = x := by
      have : its[i]? = some x := by simpa using hx
      rw [this] at hu
      exact (Option.some.inj hu).symm
    have ey : u2 = y := by
      have : jts[i]? = some y := by simpa using hy
      rw [this] at hu2
      exact (Option.some.inj hu2).symm
    subst ex ey
    have new : ObjOk X.prog X.w (upd H T (.tup [x', y'])) h' T (.tup [x', y']) := ⟨by show 2 ≤ sizeLine; decide, [u, u2], .cons ru (.cons ru2 .nil), hTu⟩
    refine ⟨.ref T, _, I.turnedNew (t' := tk) (ch := [z, TI, TO, i1, i2]) (fun b o hb => hk b o (keepF (h := h') (h' := h') hb)) hf hT new, rfl, ⟨T, x', y', rfl, I.hok.fresh hT, rfl, hx', hy'⟩, ⟨g1, g2, g3, g4, g5⟩, fun b hb => ?_⟩
    obtain ⟨o, ho, _⟩ := obj i _ st b hb
    have hb' : b ≠ T := fun e => by
      have := Heap.lt_size ho
      rw [e] at this
      exact absurd hT (Nat.not_le.mpr this)
    rw [upd_ne hb']
    exact (hf b hb).1
  · intro X hP hw hK hc i pins s σ H E I hf st hg
    obtain ⟨rfl, q1, q2⟩ := hg
    obtain ⟨its, jts, rv, rw_, hs1, hs2, W⟩ := goes X 0 pins s σ H hP hw hc I hf q1 q2
    subst hP hw hK
    obtain ⟨h1, h2, h3, h4, h5⟩ := id st
    have hl := rv.length
    have hl2 := rw_.length
    have hn : min its.toArray.size jts.toArray.size = min xs.length ys.length := by simp; omega
    refine W.stops s _ E (by rw [hn]; exact ⟨h1, h2, h3, ⟨h4, hs1⟩, h5, hs2⟩) fun h' tk hk _ => ?_
    exact I.turnedL (fun b o hb => hk b o (keepF (h := h') (h' := h') hb)) hf
  · rintro A i s Q E ⟨h1, _⟩ h
    exact wpAny_pyIter_zip h1 h
def iZ2 (ta : TA) : TI := fun σ H R => ta σ H fun vs H1 => ∃ k1 k2 a1 a2 xs ys, vs = [.ref a1, .ref a2] ∧ SqK k1 H1 a1 xs ∧ SqK k2 H1 a2 ys ∧ R (Jz2 k1 k2 a1 a2 xs ys) H1
theorem pi_z2 {X : Cx} {e e2 : Expr} {ta : TA} {p pos tpos : Pos} {elts : List Expr} {kk : Nat} (hg : Gl X "zip") (hm : X.mg "zip" = none) (ha : PA X [e, e2] ta) (hs : starEach [e, e2] X.env = (false, eval e X.env) :: starEach [e2] X.env) (hs2 : (backTo pos (starEach [e2] X.env)).any (·.1) = false) :
    PI X (.Tuple elts kk tpos) (.Call (.Name "zip" p) [e, e2] [] pos) (iZ2 ta) := by
  constructor
  intro pins s σ H R I h
  refine Call_ (ld_blt I hg hm boot_zip (PyProof.Rows.callWith_type1 (thn (ha.run pos pins s σ H _ I h) fun us s1 ⟨vs, H1, I1, r1, q1⟩ => ?_) hs hs2))
  obtain ⟨k1, k2, a1, a2, xs, ys, rfl, hq1, hq2, q⟩ := q1
  obtain ⟨u, u2, rfl, ru, ru2⟩ := r1.two
  cases ru
  cases ru2
  obtain ⟨its, rv, hs1⟩ := hq1.at I1
  obtain ⟨jts, rw_, hs2⟩ := hq2.at I1
  refine zip_begins2 (begins k1 a1 its.toArray) (begins k2 a2 jts.toArray) hs1 hs2 fun h' hz hTI hTO ho1 ho2 _ hk => wpAny_pyIter_zip hz ?_
  refine ⟨s1.heap.objs.size + 4, [s1.heap.objs.size + 4, s1.heap.objs.size + 2, s1.heap.objs.size + 3, s1.heap.objs.size, s1.heap.objs.size + 1], _, _, H1, rfl, I1.kept (t' := s1.toks) hk, turn_z2 k1 k2 a1 a2 _ _ _ _ _ xs ys ?_, ⟨hz, hTI, ⟨_, _, hTO⟩, ItO.new ho1, ItO.new ho2⟩, fun b hb => ?_, q⟩
  · simp only [List.nodup_cons, List.mem_cons, List.not_mem_nil, or_false, not_or, List.nodup_nil, and_true, not_false_eq_true]
    refine ⟨⟨?_, ?_, ?_, ?_⟩, ⟨?_, ?_, ?_⟩, ⟨?_, ?_⟩, ?_⟩ <;> (intro e; have e : (_ : Nat) = _ := e; omega)
  · have hle : s1.heap.objs.size ≤ b := by
      simp only [List.mem_cons, List.not_mem_nil, or_false] at hb
      rcases hb with z | z | z | z | z <;> (subst z; first | exact Nat.le_refl _ | exact Nat.le_add_right _ _)
    exact I1.fpOk hle (I1.hok.fresh hle)
theorem walk_z2 {k1 k2 : Bool} {a1 a2 : Addr} {xs ys : List V} : Walk (Jz2 k1 k2 a1 a2 xs ys) (min xs.length ys.length) (fun H => SqK k1 H a1 xs ∧ SqK k2 H a2 ys) (YPair (fun i => xs[i]?) (fun i => ys[i]?)) :=
  ⟨fun i H hi q => ⟨hi, q⟩, fun H q => ⟨rfl, q⟩, fun i H v H' _ q y => y⟩
section
variable {X : Cx} {tg e e2 e3 : Expr} {ρ : Rho} {μ : Mu} {Ψ : Itd → Mu → Prop} {p pos : Pos}
theorem di_zip2 {elts : List Expr} {kk : Nat} {tpos : Pos} (B : Bt X.mg) (hg : Gl X "zip") (h : DE X e ρ μ fun o μ1 => DE X e2 ρ μ1 fun o2 μ2 => ∃ ds es, Seq ds o ∧ Seq es o2 ∧ Ψ ⟨(prs ds es).map .im, fun _ => True⟩ μ2)
    (he : starEach [e, e2] X.env = (false, eval e X.env) :: starEach [e2] X.env := by rfl) (he2 : starEach [e2] X.env = (false, eval e2 X.env) :: starEach [] X.env := by rfl) (hpl : (backTo pos (starEach [e2] X.env)).any (·.1) = false := by rfl) : DI X (.Tuple elts kk tpos) (.Call (.Name "zip" p) [e, e2] [] pos) ρ μ Ψ :=
  ⟨_, pi_z2 hg B.zip pwa he hpl, fun G H σ m v R f => (da_cons (Λ := fun os μ1 => ∃ o o2 ds es, os = [o, o2] ∧ Seq ds o ∧ Seq es o2 ∧ Ψ ⟨(prs ds es).map .im, fun _ => True⟩ μ1)
      (h.imp fun o μ1 h2 => da_cons (h2.imp fun o2 μ2 ⟨ds, es, h3, h4, q⟩ => da_nil ⟨o, o2, ds, es, rfl, h3, h4, q⟩) he2) he) G H σ m v _ fun vs os μ1 G1 H1 q1 e1 m1 r1 => by
    obtain ⟨o, o2, ds, es, rfl, hd, hd2, q⟩ := q1
    cases r1 with
    | cons r1 t1 =>
      obtain ⟨u, rfl, ru⟩ := ro1 t1
      obtain ⟨k1, a1, xs, rfl, hq1, w1⟩ := hd.at r1
      obtain ⟨k2, a2, ys, rfl, hq2, w2⟩ := hd2.at ru
      refine ⟨k1, k2, a1, a2, xs, ys, rfl, m1.ex _ _ hq1, m1.ex _ _ hq2, f _ _ _ _ _ q e1 m1 ?_⟩
      have hlen : ((prs ds es).map OV.im).length = min xs.length ys.length := by simp [prs, w1.length, w2.length]
      refine ⟨fun H => SqK k1 H a1 xs ∧ SqK k2 H a2 ys, YPair (fun i => xs[i]?) (fun i => ys[i]?), (by show Walk _ ((prs ds es).map OV.im).length _ _; rw [hlen]; exact walk_z2), fun G' H' μ' e m _ => ⟨m.ex _ _ (e _ _ hq1), m.ex _ _ (e _ _ hq2)⟩, fun i H' x H2 G' μ' e m _ y hi => ?_⟩
      obtain ⟨T, x1, y1, rfl, hT, rfl, h1, h2⟩ := y
      obtain ⟨d, h3, h4⟩ := w1.getV h1
      obtain ⟨d2, h5, h6⟩ := w2.getV h2
      obtain ⟨b1, b2, b3⟩ := pair_new m hT (h4.mono e) (h6.mono e)
      exact ⟨_, .im (.tuple [d, d2]), b1, b2, by rw [List.getElem?_map, prs_get h3 h5]; rfl, b3⟩⟩
end
end Nx
namespace Nx
open PySem PySem.Spec PyProof.Rows L2
def trs (xs ys zs : List PyData) : List PyData := (xs.zip (ys.zip zs)).map fun q => .tuple [q.1, q.2.1, q.2.2]
section
variable {X : Cx} {tg e e2 e3 : Expr} {ρ : Rho} {μ : Mu} {Ψ : Itd → Mu → Prop} {Φ : OV → Mu → Prop} {p pos : Pos}
theorem dv_list {G H : Hp} {μ : Mu} {v : V} {o : OV} {ds : List PyData} (m : RM G H μ) (hd : RdD μ o (.list ds)) (r : RO G v o) : ∃ a xs, v = .ref a ∧ H a = some (.lst xs) ∧ DvA H xs ds := by
  have d := hd.at m r
  generalize hdd : PyData.list ds = dd at d
  cases d with
  | lst h1 w => cases hdd; exact ⟨_, _, rfl, h1, w⟩
  | _ => cases hdd
theorem DvA.bls {H : Hp} : ∀ (bs : List Bool) {vs : List V}, DvA H vs (bs.map PyData.bool) → vs = bs.map V.bl
  | [], _, .nil => rfl
  | n :: ns, _, .cons (.bl _) t => by rw [DvA.bls ns t]; rfl
theorem de_all (B : Bt X.mg) (hc : X.calm = true) (hg : Gl X "all") (h : DE X e ρ μ fun o μ1 => ∃ bs : List Bool, RdD μ1 o (.list (bs.map .bool)) ∧ Φ (.im (.bool (bs.all id))) μ1) (he : starEach [e] X.env = (false, eval e X.env) :: starEach [] X.env := by rfl) (hpl : (backTo pos (starEach [] X.env)).any (·.1) = false := by rfl) : DE X (.Call (.Name "all" p) [e] [] pos) ρ μ Φ :=
  de_callB (cr_all hc) hg B.all PyProof.Rows.boot_all (he := he) (hpl := hpl) (da_cons (hs := he) (h.imp fun o μ1 ⟨bs, hd, q⟩ => da_nil fun G H vs m r Q f => by
    obtain ⟨v, rfl, r1⟩ := ro1 r
    obtain ⟨a, xs, rfl, h1, w⟩ := dv_list m hd r1
    exact ⟨a, bs, rfl, .inl (.inl (by rw [← w.bls]; exact h1)), f _ _ _ _ _ q (Ex.refl G) m (Dv.bl _)⟩))
theorem de_any (B : Bt X.mg) (hc : X.calm = true) (hg : Gl X "any") (h : DE X e ρ μ fun o μ1 => ∃ bs : List Bool, RdD μ1 o (.list (bs.map .bool)) ∧ Φ (.im (.bool (bs.any id))) μ1) (he : starEach [e] X.env = (false, eval e X.env) :: starEach [] X.env := by rfl) (hpl : (backTo pos (starEach [] X.env)).any (·.1) = false := by rfl) : DE X (.Call (.Name "any" p) [e] [] pos) ρ μ Φ :=
  de_callB (cr_any hc) hg B.any PyProof.Rows.boot_any (he := he) (hpl := hpl) (da_cons (hs := he) (h.imp fun o μ1 ⟨bs, hd, q⟩ => da_nil fun G H vs m r Q f => by
    obtain ⟨v, rfl, r1⟩ := ro1 r
    obtain ⟨a, xs, rfl, h1, w⟩ := dv_list m hd r1
    exact ⟨a, bs, rfl, .inl (.inl (by rw [← w.bls]; exact h1)), f _ _ _ _ _ q (Ex.refl G) m (Dv.bl _)⟩))
theorem de_sum (B : Bt X.mg) (hc : X.calm = true) (hg : Gl X "sum") (h : DE X e ρ μ fun o μ1 => ∃ ns : List Int, RdD μ1 o (.list (ns.map .int)) ∧ Φ (.im (.int ns.sum)) μ1) (he : starEach [e] X.env = (false, eval e X.env) :: starEach [] X.env := by rfl) (hpl : (backTo pos (starEach [] X.env)).any (·.1) = false := by rfl) : DE X (.Call (.Name "sum" p) [e] [] pos) ρ μ Φ :=
  de_callB (cr_sum hc) hg B.sum PyProof.Rows.boot_sum (he := he) (hpl := hpl) (da_cons (hs := he) (h.imp fun o μ1 ⟨bs, hd, q⟩ => da_nil fun G H vs m r Q f => by
    obtain ⟨v, rfl, r1⟩ := ro1 r
    obtain ⟨a, xs, rfl, h1, w⟩ := dv_list m hd r1
    exact ⟨a, bs, rfl, .inl (.inl (by rw [← w.ints]; exact h1)), f _ _ _ _ _ q (Ex.refl G) m (Dv.int _)⟩))
theorem de_max (B : Bt X.mg) (hc : X.calm = true) (hg : Gl X "max") (h : DE X e ρ μ fun o μ1 => ∃ ns : List Int, RdD μ1 o (.list (ns.map .int)) ∧ 0 < ns.length ∧ ∀ k, k ∈ ns → (∀ y, y ∈ ns → y ≤ k) → Φ (.im (.int k)) μ1) (he : starEach [e] X.env = (false, eval e X.env) :: starEach [] X.env := by rfl) (hpl : (backTo pos (starEach [] X.env)).any (·.1) = false := by rfl) : DE X (.Call (.Name "max" p) [e] [] pos) ρ μ Φ :=
  de_callB (cr_max hc) hg B.max PyProof.Rows.boot_max (he := he) (hpl := hpl) (da_cons (hs := he) (h.imp fun o μ1 ⟨bs, hd, hz, q⟩ => da_nil fun G H vs m r Q f => by
    obtain ⟨v, rfl, r1⟩ := ro1 r
    obtain ⟨a, xs, rfl, h1, w⟩ := dv_list m hd r1
    exact ⟨a, bs, rfl, .inl (.inl (by rw [← w.ints]; exact h1)), hz, fun k hk hm => f _ _ _ _ _ (q k hk hm) (Ex.refl G) m (Dv.int _)⟩))
end
end Nx
namespace Nx
open PySem PySem.Spec PyProof.Rows L2
theorem law_core {P : Program} {w : World} {K : PySem.W.Frag} {mg mb : Str → Option Value} {k : Nat} {fa a : Addr} {fd : FuncData} {x : Str} {sp : Sp} {s : Shared}
    (KX : K.In s.heap) (hns : s.heap.Ns mainGlobals mg) (hb : s.heap.Ns builtinsNs mb) (hbb : ∀ x : Str, x ≠ "__name__" → mb x = bootBuiltins x) (hlim : s.heap.NoLimit) (hgn : s.gens = #[]) (hr : Rm k callerA)
    (F : ∀ base : Heap, K.In base → base.Ns mainGlobals mg → FnG P w K mg base CX0 k fa fd [x] sp) (bind : ∀ (s : Shared) (u : Value), BindsTo s fd ⟨[u], []⟩ [(x, u)])
    (H : Hp) (hO : Only H) (nd : ∀ b o, H b ≠ none → s.heap.get? b = some o → ∀ es ep, o.data ≠ .dict es ep) (hok : HOk P w H s.heap) (hK : ∀ b, H b ≠ none → K.lookup b = none) (hsp : sp [.ref a] H (fun v _ => v = .bl true) fun _ _ _ => False) :
    codeAny (model P w) callerA (.call (.ref fa) ⟨[.ref a], []⟩) (fun r s' => r = .ok (.ret (.bool true)) ∧ OldK s.heap s'.heap ∧ s'.os = s.os ∧ AllBare s'.gens) s := by
  have up : ∀ {b : Addr} {o : Obj}, s.heap.get? b = some o → H b = none → (hidT s.heap H).get? b = some o := fun e n => hidT_get e n
  have nsUp : ∀ {b : Addr} {m : Str → Option Value}, s.heap.Ns b m → (hidT s.heap H).Ns b m := by
    rintro b m ⟨o, es, ep, e, d, r⟩
    refine ⟨o, es, ep, up e ?_, d, r⟩
    cases q : H b with
    | none => rfl
    | some u => exact absurd d (nd b o (by rw [q]; simp) e es ep)
  have inK : K.In (hidT s.heap H) := by
    intro b o e
    refine up (KX b o e) ?_
    cases q : H b with
    | none => rfl
    | some u =>
      have := hK b (by rw [q]; simp)
      rw [e] at this
      cases this
  have lim : (hidT s.heap H).NoLimit := by
    obtain ⟨mc, h1, h2⟩ := hlim
    exact ⟨mc, nsUp h1, h2⟩
  have env0 : Env0 P w K mg (hidT s.heap H) callerA [] s H :=
    { frames := rfl, mod := ⟨inK, nsUp hns, ⟨mb, nsUp hb, hbb⟩, lim⟩, bs := fun b o e => of_hidT e, bsz := Nat.le_of_eq (hidT_size _ _), funs := trivial, frf := (fun b hb => absurd (show b ∈ ([] : List Addr) from hb) (by simp)), hok := hok, bare := .of_eq hgn }
  have run := (F _ inK (nsUp hns)).run callerA [] s H ⟨[.ref a], []⟩ [.ref a] [.ref a] _ _ hr env0 (bind s (.ref a)) (.cons rfl .nil) hsp
  refine codeAny_mono run fun r s' h => ?_
  match r, h with
  | .error e, h => exact h.elim
  | .ok (.ret u), h =>
    obtain ⟨v, H', os, bare, un, hok', r', q⟩ := h
    have q : v = .bl true := q
    subst q
    have r' : u = Value.bool true := r'
    subst r'
    refine ⟨rfl, OldK.of_keep fun b o e => ?_, os, bare⟩
    cases q : H b with
    | none => exact un.keep b o e q (fun z => nomatch z) (by simp)
    | some u =>
      obtain z | ⟨ob, xs, z⟩ := hO b
      · rw [q] at z
        cases z
      · have e1 := (hok b _ z).1
        have e2 := (hok' b _ (un.frzs b ob _ z)).1
        rw [e] at e1
        cases e1
        exact e2
theorem law_end {P : Program} {w : World} {K : PySem.W.Frag} {mg mb : Str → Option Value} {k : Nat} {fa a : Addr} {fd : FuncData} {x : Str} {sp : Sp} {s : Shared} {vs : List Value} {ns : List Int}
    (KX : K.In s.heap) (hns : s.heap.Ns mainGlobals mg) (hb : s.heap.Ns builtinsNs mb) (hbb : ∀ x : Str, x ≠ "__name__" → mb x = bootBuiltins x) (hlim : s.heap.NoLimit) (hgn : s.gens = #[]) (hr : Rm k callerA)
    (F : ∀ base : Heap, K.In base → base.Ns mainGlobals mg → FnG P w K mg base CX0 k fa fd [x] sp) (bind : ∀ (s : Shared) (u : Value), BindsTo s fd ⟨[u], []⟩ [(x, u)])
    (ha : s.heap.get? a = some { cls := .type "list", data := .seq vs.toArray }) (hi : IntsAre vs ns) (hl : ns.length ≤ sizeLine) (hsp : ∀ H : Hp, Only H → SqL K H a (ns.map V.int) → sp [.ref a] H (fun v _ => v = .bl true) fun _ _ _ => False) :
    codeAny (model P w) callerA (.call (.ref fa) ⟨[.ref a], []⟩) (fun r s' => r = .ok (.ret (.bool true)) ∧ OldK s.heap s'.heap ∧ s'.os = s.os ∧ AllBare s'.gens) s := by
  have rv := vals_ints hi
  have lv := hi.length
  cases hk : K.lookup a with
  | some o =>
    have e := KX a o hk
    rw [ha] at e
    cases e
    have hS : SqL K (fun _ => none) a (ns.map V.int) := .inr ⟨_, vs.toArray, _, hk, rfl, rfl, rfl, by rw [List.size_toArray, lv]; exact hl, by simpa using rv⟩
    exact law_core KX hns hb hbb hlim hgn hr F bind (fun _ => none) (fun _ => .inl rfl) (fun b o z => absurd rfl z) (fun b u z => nomatch z) (fun b z => absurd rfl z) (hsp _ (fun _ => .inl rfl) hS)
  | none =>
    let fz : HO := .frz { cls := .type "list", data := .seq vs.toArray } (.lst (ns.map V.int))
    have at_ : ∀ b u, upd (fun _ => none) a fz b = some u → b = a ∧ u = fz := by
      intro b u z
      by_cases e : b = a
      · subst e
        rw [upd_same] at z
        exact ⟨rfl, (Option.some.inj z).symm⟩
      · rw [upd_ne e] at z
        cases z
    have isA : ∀ b, upd (fun _ => none) a fz b ≠ none → b = a := fun b z => by
      cases q : upd (fun _ => none) a fz b with
      | none => exact absurd q z
      | some u => exact (at_ b u q).1
    have hO : Only (upd (fun _ => none) a fz) := fun b => by
      cases q : upd (fun _ => none) a fz b with
      | none => exact .inl rfl
      | some u => exact .inr ⟨_, _, by rw [(at_ b u q).2]⟩
    refine law_core KX hns hb hbb hlim hgn hr F bind (upd (fun _ => none) a fz) hO (fun b o z e es ep d => ?_) (fun b u z => ?_) (fun b z => ?_) (hsp _ hO (.inl (.inr ⟨_, upd_same⟩)))
    · rw [isA b z, ha] at e
      cases e
      cases d
    · obtain ⟨rfl, rfl⟩ := at_ b u z
      exact ⟨ha, by rw [List.length_map]; exact hl, vs, _, rv, ha⟩
    · rw [isA b z]
      exact hk
theorem walk_G {l : PySem.W.OpenLaw} {n k : Nat} {q : Program} {loose : List Str} {XP : (Str → Option Value) → Heap → Prop} {YP : World → Heap → Prop} {d : DefRec} {K : Params → PySem.W.Frag} {sp : PySem.W.Frag → Sp} {x : Str}
    (hn : l.most = some n) (hn2 : n ≤ sizeLine) (hdf : d.params.defaults = []) (hr : Rm k callerA) (hY : ∀ (w : World) (h : Heap), YP w h → (K w.params).In h)
    (F : ∀ (w : World) (mg : Str → Option Value) (fa : Addr) (h : Heap), (K w.params).In h → h.Ns mainGlobals mg → mg d.name = some (.ref fa) →
      ∃ fd : FuncData, (∀ (s : Shared) (u : Value), BindsTo s fd ⟨[u], []⟩ [(x, u)]) ∧ ∀ base : Heap, (K w.params).In base → base.Ns mainGlobals mg → FnG l.prog w (K w.params) mg base CX0 k fa fd [x] (sp (K w.params)))
    (hsp : ∀ (K : PySem.W.Frag) (H : Hp) (a : Addr) (ns : List Int), ns.length ≤ n → Only H → SqL K H a (ns.map V.int) → sp K [.ref a] H (fun v _ => v = .bl true) fun _ _ _ => False) :
    PySem.W.WalkO q loose XP YP l.row.toRowW d [] (fun f vs => PySem.call f vs) := by
  apply Att.attach_call hn hdf
  intro w s₀ s₁ mg mb fa o pm cd doc a vs ns G Y ho hd hcd hmg hobj hints hlen hgn
  have KX := hY w _ Y
  obtain ⟨fd, hb, hF⟩ := F w mg fa _ KX G.T.g hmg
  exact law_end KX G.T.g G.T.b G.T.builtins G.T.nolimit hgn hr hF hb hobj hints (Nat.le_trans hlen hn2) fun H hO hS => hsp _ H a ns hlen hO hS
end Nx
namespace Nx
open PySem PySem.Spec PyProof.Rows L2
def Sub (μ' μ : Mu) : Prop := (∀ a l, μ' a = some l → μ a = some l) ∧ μ'.d = μ.d ∧ μ'.C = μ.C
theorem Sub.refl (μ : Mu) : Sub μ μ := ⟨fun _ _ h => h, rfl, rfl⟩
section
variable {X : Cx} {e : Expr} {st : Stmt} {ss : List Stmt} {ρ : Rho} {μ μ' : Mu} {D : DEnds} {Φ : OV → Mu → Prop}
theorem dss_drop (h : Sub μ' μ) (k : DSs X ss ρ μ' D) : DSs X ss ρ μ D := fun G H σ m v E f => k G H σ (m.drop h.1 h.2.1 h.2.2) v E f
theorem dss_frz {i : Nat} {p : Addr} {ds : List PyData} (hi : ρ[i]? = some (some (.own p))) (hp : μ p = some (ds.map .im)) (k : DSs X ss (ρ.set i (some (.im (.list ds)))) (μ.del p) D) : DSs X ss ρ μ D := fun G H σ m v E f => by
  obtain ⟨vs, e0, g0, w, m'⟩ := m.frz hp
  have v2 := (v.mono (Ex.new (o := .lst vs) g0)).set (i := i) (v := .ref p) (o := .im (.list ds)) (Dv.lst upd_same (w.mono (Ex.new g0)))
  obtain ⟨u, hu, ru⟩ := v.get i _ hi
  have ru : u = .ref p := ru
  subst ru
  have e1 : σ.set i (some (.ref p)) = σ := by
    apply List.ext_getElem?
    intro j
    by_cases hj : i = j
    · subst hj
      rw [List.getElem?_set_self (List.getElem?_eq_some_iff.mp hu).1, hu]
    · rw [List.getElem?_set_ne hj]
  rw [e1] at v2
  exact k _ H σ m' v2 E (f.later (Ex.new g0))
end
theorem put_get {μ : Mu} {a b : Addr} {l : List OV} : μ.put a l b = if b = a then some l else μ b := rfl
theorem put_back {μ : Mu} {a : Addr} {l : List OV} (h : μ a = some l) : μ = (μ.del a).put a l ∧ (μ.del a) a = none := by
  refine ⟨mu_ext (fun b => ?_) rfl rfl, if_pos rfl⟩
  rw [put_get]
  by_cases e : b = a
  · rw [if_pos e, e, h]
  · rw [if_neg e]
    exact (if_neg e).symm
theorem ne_own {μ : Mu} {a b : Addr} {l : List OV} (h : μ.l a = some l) (n : μ b = none) : a ≠ b := fun e => by
  rw [e, n] at h
  cases h
theorem lz {n : Nat} (h : Nat.ble n 100000 = true) : n ≤ 100000 := Nat.le_of_ble_eq_true h
theorem c01 {k : Bool} : -(2 ^ 64 : Int) < (if k = true then 1 else 0) ∧ (if k = true then (1 : Int) else 0) < 2 ^ 64 := by cases k <;> decide
theorem ixN_nat {n j : Nat} (h : j < n) : ixN n (j : Int) = some j := by
  unfold ixN
  rw [if_pos (by omega), if_pos (by omega), Int.toNat_natCast]
theorem cutI_to (ns : List Int) (u : Nat) : cutI ns none (some (u : Int)) = ns.take u := by
  unfold cutI
  rw [HT.sIx_none, HT.sIx_nat, List.drop_zero, Nat.sub_zero]
  exact List.take_eq_take_iff.mpr (by omega)
theorem cutI_len (ns : List Int) (u v : Nat) : (cutI ns (some (u : Int)) (some (v : Int))).length ≤ ns.length - u := by
  unfold cutI
  rw [HT.sIx_nat, HT.sIx_nat, List.length_take, List.length_drop]
  omega
theorem cutD_to (ns : List PyData) (u : Nat) : cutD ns none (some (u : Int)) = ns.take u := by
  unfold cutD
  rw [HT.sIx_none, HT.sIx_nat, List.drop_zero, Nat.sub_zero]
  exact List.take_eq_take_iff.mpr (by omega)
theorem cutD_from (ns : List PyData) (u : Nat) : cutD ns (some (u : Int)) none = ns.drop u := by
  unfold cutD
  rw [HT.sIx_none, HT.sIx_nat]
  by_cases h : u ≤ ns.length
  · rw [Nat.min_eq_left h]
    exact List.take_of_length_le (by rw [List.length_drop]; omega)
  · rw [Nat.min_eq_right (by omega), List.drop_length, List.drop_of_length_le (by omega)]
    simp
theorem prs_at {ds : List PyData} {i : Nat} {z : OV} (h : ((prs (nums ds.length) ds).map OV.im)[i]? = some z) : ∃ d, ds[i]? = some d ∧ z = .im (.tuple [.int (i : Int), d]) := by
  have hi : i < ds.length := by
    have := (List.getElem?_eq_some_iff.mp h).1
    simpa [prs, nums] using this
  rw [List.getElem?_map, prs_get (nums_get hi) (List.getElem?_eq_getElem hi)] at h
  cases h
  exact ⟨_, List.getElem?_eq_getElem hi, rfl⟩
theorem erase_map {α β : Type} (f : α → β) : ∀ (l : List α) (j : Nat), (l.map f).eraseIdx j = (l.eraseIdx j).map f
  | [], _ => rfl
  | _ :: _, 0 => rfl
  | a :: l, j + 1 => by
    show f a :: (l.map f).eraseIdx j = f a :: (l.eraseIdx j).map f
    rw [erase_map f l j]
theorem erase_perm {α : Type} : ∀ (l : List α) (j : Nat) (h : j < l.length), ([l[j]] ++ l.eraseIdx j).Perm l
  | [], _, h => nomatch h
  | _ :: _, 0, _ => List.Perm.refl _
  | a :: l, j + 1, h => by
    have ih := erase_perm l j (by simpa using h)
    show (l[j]'(by simpa using h) :: a :: l.eraseIdx j).Perm (a :: l)
    exact (List.Perm.swap _ _ _).trans (ih.cons a)
theorem fg_of {P : Program} {w : World} {K : PySem.W.Frag} {mg : Str → Option Value} {base : Heap} {k : Nat} {f : Addr} {x : Str} {st : Stmt} {fd : FuncData} {N ps : List Str} {C : Ct} (F : Fun K x x st f fd) (S : FnScope N ps (defScope st)) (len : ∀ os μ Φ, C os μ Φ → os.length = ps.length)
    (body : ∀ (cdv : Value) A outer s H E os μ Φ, Rm k (A.deeper (envOfC x (defScope st) s.heap.objs.size f cdv)) → C os μ Φ →
      DSs (cxOf CX0 P w K mg base N x (defScope st) f cdv A outer s H E).nox (defBody st) (os.map some ++ List.replicate (N.length - os.length) none) μ { nx := fun _ μ' => Φ (.im .none) μ', rt := Φ }) : FnG P w K mg base CX0 (k + 1) f fd ps (spOf C) := by
  refine fng_of F S (fun vs H Q E h => ?_) fun cdv A outer s H vs Q E hr h => ?_
  · obtain ⟨os, μ, G, Φ, _, r, c, _⟩ := h
    rw [r.length]
    exact len _ _ _ c
  · obtain ⟨os, μ, G, Φ, m, r, c, fin⟩ := h
    refine WSs.of (PSs.nox pwss) (body cdv A outer s H E os μ Φ hr c G H _ m (rv_start r) _ ⟨fun ρ' μ' G' H' σ' q e m' _ => fin _ _ _ _ _ q e m' Dv.non, fin, fun _ _ _ _ _ q => q.elim, fun _ _ _ _ _ q => q.elim⟩)
def c_law (K : PySem.W.Frag) : Ct := fun os μ Φ => ∃ ns : List Int, os = [.scr K ns] ∧ ns.length ≤ 63 ∧ ∀ μ', Φ (.im (.bool true)) μ'
theorem law_sp (K : PySem.W.Frag) (H : Hp) (a : Addr) (ns : List Int) (hn : ns.length ≤ 63) (hS : SqL K H a (ns.map V.int)) : spOf (c_law K) [.ref a] H (fun v _ => v = .bl true) fun _ _ _ => False :=
  ⟨[.scr K ns], ⟨fun _ => none, fun _ => none, 0⟩, H, fun o _ => o = .im (.bool true), RM.zero 0, .cons ⟨a, rfl, hS⟩ .nil, ⟨ns, rfl, hn, fun _ => rfl⟩, fun v o μ' G' H' h e m r => by
    subst h
    cases r
    rfl⟩
abbrev iL (ns : List Int) : List PyData := ns.map .int
theorem atI_iL {cs : List Int} {k : Nat} (h : k < cs.length) : atI ((iL cs).map OV.im) (k : Int) = some (.im (.int cs[k])) := by
  apply atI_nat
  rw [List.getElem?_map, List.getElem?_map, List.getElem?_eq_getElem h]
  rfl
theorem iL_get {cs : List Int} {k : Nat} {d : PyData} (h : (iL cs)[k]? = some d) : ∃ c, cs[k]? = some c ∧ d = .int c := by
  rw [List.getElem?_map] at h
  cases q : cs[k]? with
  | none =>
    rw [q] at h
    cases h
  | some c =>
    rw [q] at h
    cases h
    exact ⟨c, rfl, rfl⟩
end Nx
namespace Nx
open PySem PySem.Spec PyProof.Rows L2
def pile : List Str → Nat
  | [] => 0
  | t :: ts => t.length + 2 + pile ts
theorem textFrom_le : ∀ (ts : List Str) (k : Nat) (acc : Str), (textFrom k acc ts).length ≤ acc.length + pile ts
  | [], k, acc => by
    show acc.length ≤ _
    exact Nat.le_add_right _ _
  | t :: r, k, acc => by
    have ih := textFrom_le r (k + 1) (acc ++ (if k > 0 then ", " else "" : String) ++ t)
    have h2 : (Str.ofString (if k > 0 then ", " else "" : String)).length ≤ 2 := by split <;> decide
    rw [Str.length_append, Str.length_append] at ih
    show (textFrom (k + 1) (acc ++ (if k > 0 then ", " else "" : String) ++ t) r).length ≤ acc.length + (t.length + 2 + pile r)
    omega
theorem listText_le (ts : List Str) : (listText ts).length ≤ pile ts + 2 := by
  have h := textFrom_le ts 0 (Str.ofString "[")
  have e1 : (Str.ofString "[").length = 1 := by decide
  have e2 : (Str.ofString "]").length = 1 := by decide
  show (textFrom 0 (Str.ofString "[") ts ++ Str.ofString "]").length ≤ _
  rw [Str.length_append, e2]
  omega
theorem join_le : ∀ ts : List Str, (Str.join ", " ts).length ≤ pile ts
  | [] => by decide
  | [x] => by
    show x.length ≤ x.length + 2 + 0
    omega
  | x :: y :: r => by
    have ih := join_le (y :: r)
    have e : (Str.ofString ", ").length = 2 := by decide
    show (x ++ Str.ofString ", " ++ Str.join ", " (y :: r)).length ≤ x.length + 2 + pile (y :: r)
    rw [Str.length_append, Str.length_append, e]
    omega
theorem tupleText_le (ts : List Str) : (tupleText ts).length ≤ pile ts + 3 := by
  have h := join_le ts
  have e1 : (Str.ofString "(").length = 1 := by decide
  have e2 : (Str.ofString (if ts.length == 1 then ",)" else ")" : String)).length ≤ 2 := by split <;> decide
  show (Str.ofString "(" ++ Str.join ", " ts ++ Str.ofString (if ts.length == 1 then ",)" else ")" : String)).length ≤ _
  rw [Str.length_append, Str.length_append, e1]
  omega
structure Sd (k w : Nat) (d : PyData) : Prop where
  sh : d.showable = true
  nd : d.hasDict = false
  dp : d.depth ≤ k
  ln : d.shown.length ≤ w
structure SdA (k w : Nat) (ds : List PyData) : Prop where
  sh : PyData.showableAll ds = true
  nd : PyData.hasDictAll ds = false
  dp : PyData.depthAll ds ≤ k
  ln : pile (PyData.shownAll ds) ≤ w
theorem Sd.mono {k w k' w' : Nat} {d : PyData} (h : Sd k w d) (hk : k ≤ k') (hw : w ≤ w') : Sd k' w' d := ⟨h.sh, h.nd, Nat.le_trans h.dp hk, Nat.le_trans h.ln hw⟩
theorem SdA.mono {k w k' w' : Nat} {d : List PyData} (h : SdA k w d) (hk : k ≤ k') (hw : w ≤ w') : SdA k' w' d := ⟨h.sh, h.nd, Nat.le_trans h.dp hk, Nat.le_trans h.ln hw⟩
theorem Sd.none : Sd 0 4 .none := ⟨by simp [PyData.showable], by simp [PyData.hasDict], by simp [PyData.depth], by simp only [PyData.shown]; decide⟩
theorem Sd.bool (b : Bool) : Sd 0 5 (.bool b) := ⟨by simp [PyData.showable], by simp [PyData.hasDict], by simp [PyData.depth], by simp only [PyData.shown]; cases b <;> decide⟩
theorem log_small {n : Nat} (h : n < 10 ^ 60) : n.log2 < 1920 := by
  by_cases h0 : n = 0
  · subst h0
    decide
  · exact (Nat.log2_lt h0).mpr (Nat.lt_of_lt_of_le h (Nat.le_trans (show 10 ^ 60 ≤ 2 ^ 200 by decide) (Nat.pow_le_pow_right (by decide) (by decide))))
theorem Sd.int {i : Int} (h : i.natAbs < 10 ^ 60) : Sd 0 61 (.int i) := by
  refine ⟨by simp only [PyData.showable]; exact decide_eq_true (log_small h), by simp [PyData.hasDict], by simp [PyData.depth], ?_⟩
  simp only [PyData.shown]
  have := int_text_length_le10 (a := i) (k := 60) (by decide) h
  show (Str.ofString (toString i)).length ≤ 61
  rw [PySem.ofString_length]
  exact this
theorem SdA.nil : SdA 0 0 [] := ⟨by simp [PyData.showableAll], by simp [PyData.hasDictAll], by simp [PyData.depthAll], by simp [PyData.shownAll, pile]⟩
theorem SdA.cons {k w k' w' : Nat} {d : PyData} {ds : List PyData} (h : Sd k w d) (t : SdA k' w' ds) : SdA (max k k') (w + 2 + w') (d :: ds) := by
  refine ⟨by simp [PyData.showableAll, h.sh, t.sh], by simp [PyData.hasDictAll, h.nd, t.nd], ?_, ?_⟩
  · have := h.dp
    have := t.dp
    simp only [PyData.depthAll]
    omega
  · have := h.ln
    have := t.ln
    simp only [PyData.shownAll, pile]
    omega
theorem Sd.list {k w : Nat} {ds : List PyData} (h : SdA k w ds) : Sd (k + 1) (w + 2) (.list ds) := by
  refine ⟨by simp only [PyData.showable]; exact h.sh, by simp only [PyData.hasDict]; exact h.nd, by simp only [PyData.depth]; exact Nat.succ_le_succ h.dp, ?_⟩
  simp only [PyData.shown]
  exact Nat.le_trans (listText_le _) (Nat.add_le_add_right h.ln 2)
theorem Sd.tuple {k w : Nat} {ds : List PyData} (h : SdA k w ds) : Sd (k + 1) (w + 3) (.tuple ds) := by
  refine ⟨by simp only [PyData.showable]; exact h.sh, by simp only [PyData.hasDict]; exact h.nd, by simp only [PyData.depth]; exact Nat.succ_le_succ h.dp, ?_⟩
  simp only [PyData.shown]
  exact Nat.le_trans (tupleText_le _) (Nat.add_le_add_right h.ln 3)
theorem SdA.all {k w : Nat} : ∀ {ds : List PyData}, (∀ d ∈ ds, Sd k w d) → SdA k ((w + 2) * ds.length) ds
  | [], _ => SdA.nil.mono (Nat.zero_le _) (Nat.zero_le _)
  | d :: ds, h => by
    have t := SdA.all fun d hd => h d (List.mem_cons_of_mem _ hd)
    refine (SdA.cons (h d (List.mem_cons_self ..)) t).mono (by omega) ?_
    rw [List.length_cons, Nat.mul_add, Nat.mul_one]
    omega
theorem SdA.ints {ns : List Int} (h : ∀ i ∈ ns, i.natAbs < 10 ^ 60) : SdA 0 (63 * ns.length) (iL ns) := by
  have := SdA.all (k := 0) (w := 61) (ds := iL ns) fun d hd => by
    obtain ⟨i, hi, rfl⟩ := List.mem_map.mp hd
    exact Sd.int (h i hi)
  rw [List.length_map] at this
  exact this
theorem Sd.shw {k w : Nat} {d : PyData} (h : Sd k w d) (hd : isDisplay d = true) (hk : k ≤ 60) (hw : w ≤ 16777216) : Shw d := ⟨h.sh, h.nd, hd, Nat.le_trans h.dp hk, Nat.le_trans h.ln hw⟩
end Nx
namespace Nx
open PySem PySem.Spec PyProof.Rows L2
def Jsq (K : PySem.W.Frag) (k : Bool) (a : Addr) : It := if k then Itl K a else Itt K a
def iSq (K : PySem.W.Frag) (tl : TE) : TI := fun σ H R => tl σ H fun x H1 => ∃ k a xs, x = .ref a ∧ SqK k H1 a xs ∧ R (Jsq K k a) H1
theorem pi_sq {X : Cx} {tg l : Expr} {tl : TE} (hl : PE X l tl) : PI X tg l (iSq X.K tl) := by
  constructor
  intro pins s σ H R I h
  refine thn (hl.run pins s σ H _ I h) fun v s1 ⟨x, H1, I1, r1, k, a, xs, e, hq, q⟩ => ?_
  subst e
  cases r1
  obtain ⟨its, rv, hs⟩ := hq.at I1
  refine (begins k a its.toArray).iter _ _ _ _ s1 _ hs ?_
  have fp : ∀ b ∈ [s1.heap.objs.size], FpOk X pins H1 b := fun b hb => by
    rw [List.mem_singleton.mp hb]
    exact I1.fpOk (Nat.le_refl _) (I1.hok.fresh (Nat.le_refl _))
  have I2 : Inv X pins σ H1 { s1 with heap := s1.heap.push (itOb k a) } := I1.kept (t' := s1.toks) fun b o e => Heap.get?_push_of_some _ e
  cases k with
  | true => exact ⟨s1.heap.objs.size, [s1.heap.objs.size], _, _, H1, rfl, I2, turn_list a _, ⟨_, Heap.get?_push_size _ rfl, rfl, rfl⟩, fp, q⟩
  | false => exact ⟨s1.heap.objs.size, [s1.heap.objs.size], _, _, H1, rfl, I2, turn_tuple a _, ⟨_, Heap.get?_push_size _ rfl, rfl, rfl⟩, fp, q⟩
theorem di_seq {X : Cx} {tg e : Expr} {ρ : Rho} {μ : Mu} {Ψ : Itd → Mu → Prop} (h : DE X e ρ μ fun o μ1 => ∃ ds, Seq ds o ∧ Ψ ⟨ds.map .im, fun _ => True⟩ μ1) : DI X tg e ρ μ Ψ :=
  ⟨_, pi_sq pwe, fun G H σ m v R f => h G H σ m v _ fun vx x μ1 G1 H1 q1 e1 m1 r1 => by
    obtain ⟨ds, hd, q⟩ := q1
    obtain ⟨k, a, xs, rfl, hq, w⟩ := hd.at r1
    refine ⟨k, a, xs, rfl, m1.ex _ _ hq, f _ _ _ _ _ q e1 m1 ?_⟩
    cases k with
    | true => exact gives_list hq w
    | false => exact gives_tup hq w⟩
theorem ll {n : Nat} (h : Nat.ble (n + 1) 100000 = true) : n < 100000 := Nat.le_of_ble_eq_true h
theorem Seq.sq {μ : Mu} {ds : List PyData} {o : OV} (h : Seq ds o) : SqD μ o (ds.map .im) := by
  cases h with
  | lst => exact .lst ds
  | tup => exact .tup ds
end Nx
namespace Nx
open PySem PySem.Spec PyProof.Rows L2
theorem Gives.ok {J : It} {its : List OV} {ok1 ok2 : Mu → Prop} {G : Hp} (h : Gives J ⟨its, ok1⟩ G) (hi : ∀ μ, ok2 μ → ok1 μ) : Gives J ⟨its, ok2⟩ G := by
  obtain ⟨Gd, Y, wk, h1, h2⟩ := h
  exact ⟨Gd, Y, wk, fun G' H' μ' e m o => h1 G' H' μ' e m (hi _ o), fun i H' x H2 G' μ' e m o y hl => h2 i H' x H2 G' μ' e m (hi _ o) y hl⟩
theorem SqD.sub {μ μ' : Mu} {o : OV} {l : List OV} (h : SqD μ o l) (s : ∀ (a : Addr) (l : List OV), μ a = some l → μ' a = some l) : SqD μ' o l := by
  cases h with
  | lst => exact .lst _
  | tup => exact .tup _
  | own h => exact .own (s _ _ h)
theorem SqD.put {μ : Mu} {o : OV} {l l' : List OV} {p : Addr} (h : SqD μ o l) (hp : μ p = none) : SqD (μ.put p l') o l := h.sub fun a m e => (put_ne (ne_own (μ := μ) e hp)).trans e
end Nx
namespace Nx
open PySem PySem.Spec PyProof.Rows L2
def dTy : PyData → String
  | .none => "NoneType"
  | .bool _ => "bool"
  | .int _ => "int"
  | .str _ => "str"
  | .list _ => "list"
  | .tuple _ => "tuple"
  | .dict _ => "dict"
inductive TyD (μ : Mu) : OV → String → Prop
  | im (d : PyData) : TyD μ (.im d) (dTy d)
  | own {a : Addr} {l : List OV} : μ a = some l → TyD μ (.own a) "list"
theorem TyD.at {K : PySem.W.Frag} {G H : Hp} {μ : Mu} {o : OV} {T : String} {v : V} (h : TyD μ o T) (m : RM G H μ) (r : RO G v o) : TyX K H v (.type T) := by
  cases h with
  | im d =>
    cases r with
    | non => exact .base .non
    | bl b => exact .base (.bl b)
    | int i => exact .base (.int i)
    | str x => exact .base (.str x)
    | lst h1 w => exact .base (.lst (m.ex _ _ h1))
    | tup h1 w => exact .base (.tup (m.ex _ _ h1))
  | own h =>
    have r : v = .ref _ := r
    subst r
    obtain ⟨_, vs, e, w⟩ := m.own _ _ h
    exact .base (.lst e)
end Nx
namespace Nx
open PySem PySem.Spec PyProof.Rows L2
end Nx
namespace Nx
open PySem PySem.Spec PyProof.Rows L2
section
variable {G H : Hp} {μ : Mu} {p : Addr} {kvs kvs0 : List (List Int × OV)} {xs : List V} {ρ : Rho} {σ : L2.St}
def kvV (kvs : List (List Int × OV)) (xs : List V) : List (List Key × V) := (kvs.map fun p => keyT p.1).zip xs
theorem ThOk.who {C : Addr} {who who' : Addr → Option Addr} {a : Addr} (hw : ∀ x, who x = some a → who' x = some a) : ∀ {t : Th}, ThOk C who G H a t → ThOk C who' G H a t
  | .dT kvs, h => h
  | .cir c, ⟨dx, q, r, vb, xs, ys, h1, h2, h3, h4, h5, h6, h7, h8, h9, h10, h11⟩ => ⟨dx, q, r, vb, xs, ys, h1, h2, h3, h4, hw _ h5, hw _ h6, hw _ h7, h8, h9, h10, h11⟩
theorem RM.atD (m : RM G H μ) (h : μ.d p = some (.dT kvs)) : G p = none ∧ μ p = none ∧ ∃ xs, H p = some (.dT (kvV kvs xs)) ∧ ROs G xs (kvs.map (·.2)) := by
  obtain ⟨who, t⟩ := m.thg
  obtain ⟨t1, xs, t2, t3⟩ := t.ok p _ h
  exact ⟨(t.of p p t1).1, (t.of p p t1).2.1, xs, t2, t3⟩
end
end Nx
namespace L2
open PySem PySem.Spec PyProof.Rows
theorem tuple_mulOne (l : Addr) (items : Array Value) (n : Nat) (dd : Option Addr) (sl : Array (Option Value)) (u : Tok) :
    Meets (Builtin.«tuple.__mul__» ⟨[.ref l, .int 1 u], []⟩) (fun _ R s => s.heap.get? l = some { cls := .type "tuple", dict := dd, data := .seq items n, slots := sl } ∧ R (.ok (.ret (Value.ref l))) s) :=
  .of_wp fun prog w A R s h => by
    obtain ⟨hp, g, d, tk, os⟩ := s
    obtain ⟨hl, h⟩ := h
    have f1 := AutoSeq1.idx_int
    have c1 : (items.isEmpty || (1 : Int) == 1) = true := by simp
    have hT : (⟨hp, g, d, tk, os⟩ : Shared).TypeIs (.ref l) "tuple" := ⟨_, hl, rfl⟩
    wp_walk using wpAny_loadPart' hl
    exact ⟨_, rfl, h⟩
def rRepT1 (K : PySem.W.Frag) : R2 := fun x y H Q => ∃ l xs, x = .ref l ∧ y = .int 1 ∧ SqT K H l xs ∧ Q (.ref l) H
theorem op_repT1 {X : Cx} : OpR X (binaryOp .Mult) (rRepT1 X.K) := by
  intro pins s σ H x y v u Q I rx ry h
  obtain ⟨l, xs, rfl, rfl, hT, q⟩ := h
  cases rx
  obtain ⟨t, rfl⟩ := ry
  obtain ⟨its, r, ⟨⟨cls, dd, data, sl⟩, ho, hc, n, hd⟩, hs⟩ := I.tuple hT
  simp only at hc hd
  subst hc hd
  exact wpAny_binaryOp_repeat_ref (T := "tuple") (U := "int") (by decide) ⟨_, ho, rfl⟩ (fun s' => typeIs_int s' 1 t) noFill_tuple_mul F.fills_int_mul F.slot_int_rmul repeat_tuple F.slot_int_index.lookup
    (call_meets F.slot_int_rmul (typeIs_int s 1 t) F.entry_int_rmul (F.args_int_rmul_2 _ _) (int_rmul_tuple 1 t l its.toArray n dd sl)
      ⟨ho, rfl, ⟨_, ho, rfl⟩, call_meets F.slot_tuple_mul ⟨_, ho, rfl⟩ F.entry_tuple_mul (F.args_tuple_mul_2 _ _) (tuple_mulOne l its.toArray n dd sl t) ⟨ho, ⟨.ref l, H, I, rfl, q⟩⟩⟩)
end L2
namespace Nx
open PySem PySem.Spec PyProof.Rows L2
inductive Tree (α : Type) where
  | ret (a : α) | fail | draw (n : Nat) (k : Nat → Tree α)
namespace Tree
variable {α β γ : Type}
def bind : Tree α → (α → Tree β) → Tree β
  | ret a, f => f a
  | fail, _ => fail
  | draw n k, f => draw n fun r => bind (k r) f
def All : Tree α → (α → Prop) → Prop
  | ret a, Q => Q a
  | fail, _ => False
  | draw n k, Q => ∀ r, r < n → All (k r) Q
theorem all_bind {f : α → Tree β} {Q : β → Prop} : ∀ {t : Tree α}, (bind t f).All Q ↔ t.All fun a => (f a).All Q
  | ret a => Iff.rfl
  | fail => Iff.rfl
  | draw n k => ⟨fun h r hr => all_bind.mp (h r hr), fun h r hr => all_bind.mpr (h r hr)⟩
theorem All.imp {Q R : α → Prop} (k : ∀ a, Q a → R a) : ∀ {t : Tree α}, t.All Q → t.All R
  | ret a, h => k a h
  | fail, h => h
  | draw n f, h => fun r hr => All.imp k (h r hr)
theorem bind_ret (t : Tree α) : bind t ret = t := by
  induction t with
  | ret a => rfl
  | fail => rfl
  | draw n k ih => exact congrArg (draw n) (funext ih)
theorem bind_assoc (f : α → Tree β) (g : β → Tree γ) (t : Tree α) : bind (bind t f) g = bind t fun a => bind (f a) g := by
  induction t with
  | ret a => rfl
  | fail => rfl
  | draw n k ih => exact congrArg (draw n) (funext ih)
end Tree
def liftO {α : Type} : Option α → Tree α
  | some a => .ret a
  | none => .fail
theorem lift_all {α : Type} {Q : α → Prop} : ∀ {o : Option α}, (liftO o).All Q → ∃ a, o = some a ∧ Q a
  | some a, h => ⟨a, rfl, h⟩
  | none, h => h.elim
section
variable {α β σ : Type}
def mapT (f : α → Tree β) : List α → Tree (List β)
  | [] => .ret []
  | x :: xs => (f x).bind fun y => (mapT f xs).bind fun ys => .ret (y :: ys)
def pickT (f : α → Tree (Option β)) : List α → Tree (List β)
  | [] => .ret []
  | x :: xs => (f x).bind fun o => (pickT f xs).bind fun ys => .ret (match o with | some y => y :: ys | none => ys)
theorem mapT_ret {f : α → Tree β} {g : α → β} : ∀ {xs : List α}, (∀ x ∈ xs, f x = .ret (g x)) → mapT f xs = .ret (xs.map g)
  | [], _ => rfl
  | x :: xs, h => by
    rw [mapT, h x (List.mem_cons_self ..), mapT_ret (g := g) fun y hy => h y (List.mem_cons_of_mem _ hy)]
    rfl
theorem pickT_ret {f : α → Tree (Option β)} {g : α → Option β} : ∀ {xs : List α}, (∀ x ∈ xs, f x = .ret (g x)) → pickT f xs = .ret (xs.filterMap g)
  | [], _ => rfl
  | x :: xs, h => by
    rw [pickT, h x (List.mem_cons_self ..), pickT_ret (g := g) fun y hy => h y (List.mem_cons_of_mem _ hy)]
    show Tree.ret _ = _
    rw [List.filterMap_cons]
    cases g x <;> rfl
theorem mapT_map {γ : Type} (f : β → Tree γ) (g : α → β) : ∀ xs : List α, mapT f (xs.map g) = mapT (fun x => f (g x)) xs
  | [] => rfl
  | x :: xs => by rw [List.map_cons, mapT, mapT, mapT_map f g xs]
theorem pickT_map {γ : Type} (f : β → Tree (Option γ)) (g : α → β) : ∀ xs : List α, pickT f (xs.map g) = pickT (fun x => f (g x)) xs
  | [] => rfl
  | x :: xs => by rw [List.map_cons, pickT, pickT, pickT_map f g xs]
end
def bx (p q t : Int) : List OV := [.im (.int p), .im (.int q), .im (.int t)]
abbrev TD := List (List Int × PyData)
def imD (kvs : TD) : List (List Int × OV) := kvs.map fun p => (p.1, .im p.2)
def dttP (kvs : TD) : ObP := ⟨fun G v => ∃ a o xs, v = .ref a ∧ G a = some (.frz o (.dT (kvV (imD kvs) xs))) ∧ DvA G xs (kvs.map (·.2)),
  fun e ⟨a, o, xs, h1, h2, h3⟩ => ⟨a, o, xs, h1, e _ _ h2 (fun _ z => nomatch z), h3.ez e⟩, fun ⟨a, _, _, h, _⟩ => ⟨a, h⟩⟩
def excO (oe : Obj) (C dx : Addr) : Prop := oe.cls = .ref C ∧ oe.dict = some dx ∧ ∃ vs, oe.data = .fields vs
def exnP (C : Addr) (f : Str) (d : PyData) : ObP := ⟨fun G v => ∃ a oe u dx y, v = .ref a ∧ G a = some (.frz oe u) ∧ excO oe C dx ∧ G dx = some (.xd [(f, y)]) ∧ Dv G y d,
  fun e ⟨a, oe, u, dx, y, h1, h2, h3, h4, h5⟩ => ⟨a, oe, u, dx, y, h1, e _ _ h2 (fun _ z => nomatch z), h3, e _ _ h4 (fun _ z => nomatch z), h5.ez e⟩, fun ⟨a, _, _, _, _, h, _⟩ => ⟨a, h⟩⟩
inductive W where
  | d (x : PyData) | own (ds : List PyData) | bx | dic (kvs : List (PyData × PyData)) | odc (kvs : List (List Int × PyData)) | cir (c : Cir) | lc (c : Cir) | dtt (kvs : TD) | exn (C : Addr) (f : Str) (d : PyData)
def thW : W → Option Th
  | .odc kvs => some (.dT (kvs.map fun p => (p.1, .im p.2)))
  | .cir c => some (.cir c)
  | _ => none
abbrev Env := List (Option W)
inductive Out where
  | nx (E : Env) | rt (v : PyData) | bk (E : Env) | ct (E : Env)
structure Bs (b : Addr) (μ μ' : Mu) : Prop where
  old : ∀ a l, a ≠ b → μ a = some l → μ' a = some l
  box : ∀ p q t, μ b = some (bx p q t) → ∃ p' q' t', μ' b = some (bx p' q' t')
  thg : ∀ a t, μ.d a = some t → μ'.d a = some t
  cls : μ'.C = μ.C
theorem Bs.refl (b : Addr) (μ : Mu) : Bs b μ μ := ⟨fun _ _ _ h => h, fun p q t h => ⟨p, q, t, h⟩, fun _ _ h => h, rfl⟩
theorem Bs.trans {b : Addr} {μ μ1 μ2 : Mu} (h : Bs b μ μ1) (k : Bs b μ1 μ2) : Bs b μ μ2 :=
  ⟨fun a l n e => k.old a l n (h.old a l n e), fun p q t e => let ⟨p1, q1, t1, e1⟩ := h.box p q t e; k.box p1 q1 t1 e1, fun a t e => k.thg a t (h.thg a t e), k.cls.trans h.cls⟩
theorem Bs.put {b p : Addr} {μ : Mu} {l : List OV} (h : μ p = none) : Bs b μ (μ.put p l) :=
  ⟨fun a m _ e => (put_ne (ne_own e h)).trans e, fun u q t e => ⟨u, q, t, (put_ne (ne_own e h)).trans e⟩, fun _ _ e => e, rfl⟩
theorem Bs.set {b : Addr} {μ : Mu} {p q t : Int} : Bs b μ (μ.put b (bx p q t)) := ⟨fun a l n e => (put_ne n).trans e, fun _ _ _ _ => ⟨p, q, t, put_same⟩, fun _ _ e => e, rfl⟩
theorem Bs.sub {b : Addr} {μ μ' μ2 : Mu} (h : Bs b μ μ') (k : ∀ (a : Addr) (l : List OV), μ' a = some l → (μ a).isSome = true ∨ a = b → μ2 a = some l) (kd : ∀ a t, μ'.d a = some t → (μ.d a).isSome = true → μ2.d a = some t) (kC : μ2.C = μ'.C) : Bs b μ μ2 :=
  ⟨fun a l n e => k a l (h.old a l n e) (.inl (by rw [e]; rfl)), fun p q t e => let ⟨p', q', t', e'⟩ := h.box p q t e; ⟨p', q', t', k b _ e' (.inr rfl)⟩, fun a t e => kd a t (h.thg a t e) (by rw [e]; rfl), kC.trans h.cls⟩
def RW (b : Addr) (μ0 μ : Mu) : W → OV → Prop
  | .d x, o => o = .im x
  | .bx, o => o = .own b
  | .own ds, o => ∃ p, o = .own p ∧ p ≠ b ∧ μ0 p = none ∧ μ p = some (ds.map .im)
  | .dic kvs, o => o = .dic kvs
  | .odc kvs, o => ∃ p, o = .own p ∧ μ0.d p = none ∧ μ.d p = some (.dT (kvs.map fun p => (p.1, .im p.2)))
  | .cir c, o => ∃ p, o = .own p ∧ μ0.d p = none ∧ μ.d p = some (.cir c)
  | .lc c, o => ∃ p, o = .own p ∧ μ0.d p = some (.cir c)
  | .dtt kvs, o => o = .ob (dttP kvs)
  | .exn C f d, o => o = .ob (exnP C f d)
def perW : W → Option OV
  | .dic kvs => some (.dic kvs)
  | .dtt kvs => some (.ob (dttP kvs))
  | .exn C f d => some (.ob (exnP C f d))
  | _ => none
theorem RW.th {b : Addr} {μ0 μ : Mu} {w : W} {t : Th} (h : thW w = some t) {o : OV} : RW b μ0 μ w o ↔ ∃ p, o = .own p ∧ μ0.d p = none ∧ μ.d p = some t := by
  cases w <;> cases h <;> exact Iff.rfl
theorem RW.per {b : Addr} {μ0 μ : Mu} {w : W} {o o' : OV} (h : perW w = some o) : RW b μ0 μ w o' ↔ o' = o := by
  cases w <;> cases h <;> exact Iff.rfl
def InjT (E : Env) (ρ : Rho) : Prop := ∀ (i j : Nat) w w' p, E[i]? = some (some w) → E[j]? = some (some w') → (thW w).isSome = true → (thW w').isSome = true → ρ[i]? = some (some (.own p)) → ρ[j]? = some (some (.own p)) → i = j
structure Rel (b : Addr) (μ0 : Mu) (E : Env) (ρ : Rho) (μ : Mu) : Prop where
  len : ρ.length = E.length
  bxs : ∃ p q t, μ b = some (bx p q t)
  bx0 : ∃ p q t, μ0 b = some (bx p q t)
  ext : Bs b μ0 μ
  get : ∀ (i : Nat) w, E[i]? = some (some w) → ∃ o, ρ[i]? = some (some o) ∧ RW b μ0 μ w o
  inj : ∀ (i j : Nat) ds es p, E[i]? = some (some (.own ds)) → E[j]? = some (some (.own es)) → ρ[i]? = some (some (.own p)) → ρ[j]? = some (some (.own p)) → i = j
  injT : InjT E ρ
section
variable {b : Addr} {μ0 μ μ' : Mu} {E : Env} {ρ : Rho}
theorem RW.upto {w : W} {o : OV} (h : RW b μ0 μ w o) (kl : ∀ ds p, w = .own ds → o = .own p → p ≠ b → μ0 p = none → μ p = some (ds.map .im) → μ' p = some (ds.map .im)) (kd : ∀ p t, thW w = some t → o = .own p → μ0.d p = none → μ.d p = some t → μ'.d p = some t) : RW b μ0 μ' w o := by
  cases w with
  | d x => exact h
  | bx => exact h
  | dic kvs => exact h
  | lc c => exact h
  | dtt kvs => exact h
  | exn C f d => exact h
  | own ds =>
    obtain ⟨p, a1, a2, a3, a4⟩ := h
    exact ⟨p, a1, a2, a3, kl ds p rfl a1 a2 a3 a4⟩
  | odc kvs =>
    obtain ⟨p, a1, a2, a3⟩ := h
    exact ⟨p, a1, a2, kd p _ rfl a1 a2 a3⟩
  | cir c =>
    obtain ⟨p, a1, a2, a3⟩ := h
    exact ⟨p, a1, a2, kd p _ rfl a1 a2 a3⟩
theorem get_set {α : Type} {l : List (Option α)} {i j : Nat} {x y : α} (h : (l.set i (some x))[j]? = some (some y)) : (i = j ∧ x = y ∧ i < l.length) ∨ (i ≠ j ∧ l[j]? = some (some y)) := by
  by_cases e : i = j
  · subst e
    by_cases hl : i < l.length
    · rw [List.getElem?_set_self hl] at h
      cases h
      exact .inl ⟨rfl, rfl, hl⟩
    · rw [List.getElem?_eq_none (by rw [List.length_set]; omega)] at h
      cases h
  · rw [List.getElem?_set_ne e] at h
    exact .inr ⟨e, h⟩
theorem get_setN {α : Type} {l : List (Option α)} {v j : Nat} {w : α} (e : (l.set v none)[j]? = some (some w)) : v ≠ j ∧ l[j]? = some (some w) := by
  by_cases h : v = j
  · subst h
    by_cases hl : v < l.length
    · rw [List.getElem?_set_self hl] at e
      cases e
    · rw [List.getElem?_eq_none (by rw [List.length_set]; omega)] at e
      cases e
  · rw [List.getElem?_set_ne h] at e
    exact ⟨h, e⟩
theorem InjT.setN (h : InjT E ρ) {i : Nat} {w : W} {o : Option OV} (hw : thW w = none) : InjT (E.set i (some w)) (ρ.set i o) := fun j k u v p e1 e2 t1 t2 h1 h2 => by
  rcases get_set e1 with ⟨_, rfl, _⟩ | ⟨n1, e1⟩
  · rw [hw] at t1
    cases t1
  rcases get_set e2 with ⟨_, rfl, _⟩ | ⟨n2, e2⟩
  · rw [hw] at t2
    cases t2
  rw [List.getElem?_set_ne n1] at h1
  rw [List.getElem?_set_ne n2] at h2
  exact h j k u v p e1 e2 t1 t2 h1 h2
theorem InjT.none (h : InjT E ρ) {i : Nat} {o : Option OV} : InjT (E.set i .none) (ρ.set i o) := fun j k u v p e1 e2 t1 t2 h1 h2 => by
  obtain ⟨n1, e1⟩ := get_setN e1
  obtain ⟨n2, e2⟩ := get_setN e2
  rw [List.getElem?_set_ne n1] at h1
  rw [List.getElem?_set_ne n2] at h2
  exact h j k u v p e1 e2 t1 t2 h1 h2
theorem InjT.chg (h : InjT E ρ) {i : Nat} {w w0 : W} (h0 : E[i]? = some (some w0)) (hw : (thW w).isSome = true → (thW w0).isSome = true) : InjT (E.set i (some w)) ρ := fun j k u v p e1 e2 t1 t2 h1 h2 => by
  have key : ∀ (j : Nat) u, (E.set i (some w))[j]? = some (some u) → (thW u).isSome = true → ∃ u', E[j]? = some (some u') ∧ (thW u').isSome = true := fun j u e t => by
    rcases get_set e with ⟨rfl, rfl, _⟩ | ⟨_, e⟩
    · exact ⟨w0, h0, hw t⟩
    · exact ⟨u, e, t⟩
  obtain ⟨u', f1, t1⟩ := key j u e1 t1
  obtain ⟨v', f2, t2⟩ := key k v e2 t2
  exact h j k u' v' p f1 f2 t1 t2 h1 h2
theorem InjT.new (h : InjT E ρ) (hl : ρ.length = E.length) {i : Nat} {w : W} {p : Addr} (no : ∀ (j : Nat) u, E[j]? = some (some u) → (thW u).isSome = true → ρ[j]? ≠ some (some (.own p))) : InjT (E.set i (some w)) (ρ.set i (some (.own p))) := fun j k u v q e1 e2 t1 t2 h1 h2 => by
  rcases get_set e1 with ⟨rfl, _, l1⟩ | ⟨n1, e1⟩
  · rcases get_set e2 with ⟨rfl, _, _⟩ | ⟨n2, e2⟩
    · rfl
    · rw [List.getElem?_set_self (by rw [hl]; exact l1)] at h1
      cases h1
      rw [List.getElem?_set_ne n2] at h2
      exact absurd h2 (no k v e2 t2)
  · rw [List.getElem?_set_ne n1] at h1
    rcases get_set e2 with ⟨rfl, _, l2⟩ | ⟨n2, e2⟩
    · rw [List.getElem?_set_self (by rw [hl]; exact l2)] at h2
      cases h2
      exact absurd h1 (no j u e1 t1)
    · rw [List.getElem?_set_ne n2] at h2
      exact h j k u v q e1 e2 t1 t2 h1 h2
theorem Rel.step (R : Rel b μ0 E ρ μ) (s : Bs b μ μ') : Rel b μ0 E ρ μ' := by
  obtain ⟨p, q, t, hb⟩ := R.bxs
  refine ⟨R.len, s.box p q t hb, R.bx0, R.ext.trans s, fun i w e => ?_, R.inj, R.injT⟩
  obtain ⟨o, h1, h2⟩ := R.get i w e
  exact ⟨o, h1, h2.upto (fun ds p _ _ nb _ e => s.old _ _ nb e) fun p t _ _ _ e => s.thg _ _ e⟩
theorem Rel.setP (R : Rel b μ0 E ρ μ) (i : Nat) {w : W} {o : OV} (hw : thW w = none) (hn : ∀ ds, w ≠ .own ds) (r : RW b μ0 μ w o) : Rel b μ0 (E.set i (some w)) (ρ.set i (some o)) μ := by
  refine ⟨by rw [List.length_set, List.length_set, R.len], R.bxs, R.bx0, R.ext, fun j w' e => ?_, fun j k ds es p e1 e2 h1 h2 => ?_, R.injT.setN hw⟩
  · rcases get_set e with ⟨rfl, rfl, hl⟩ | ⟨n, e⟩
    · exact ⟨_, List.getElem?_set_self (by rw [R.len]; exact hl), r⟩
    · obtain ⟨o, a1, a2⟩ := R.get j w' e
      exact ⟨o, by rw [List.getElem?_set_ne n]; exact a1, a2⟩
  · rcases get_set e1 with ⟨_, h, _⟩ | ⟨n1, e1⟩
    · exact absurd h (hn _)
    rcases get_set e2 with ⟨_, h, _⟩ | ⟨n2, e2⟩
    · exact absurd h (hn _)
    rw [List.getElem?_set_ne n1] at h1
    rw [List.getElem?_set_ne n2] at h2
    exact R.inj j k ds es p e1 e2 h1 h2
theorem Rel.setD (R : Rel b μ0 E ρ μ) (i : Nat) (x : PyData) : Rel b μ0 (E.set i (some (.d x))) (ρ.set i (some (.im x))) μ := R.setP i rfl (fun _ h => nomatch h) rfl
theorem Rel.setO (R : Rel b μ0 E ρ μ) (i : Nat) {p : Addr} {ds : List PyData} (hp : μ p = none) : Rel b μ0 (E.set i (some (.own ds))) (ρ.set i (some (.own p))) (μ.put p (ds.map .im)) := by
  obtain ⟨u, q, t, hb⟩ := R.bxs
  have nb : p ≠ b := fun e => by rw [e, hb] at hp; cases hp
  have h0 : μ0 p = none := by
    cases z : μ0 p with
    | none => rfl
    | some l =>
      rw [R.ext.old p l nb z] at hp
      cases hp
  have R' := R.step (Bs.put (b := b) (l := ds.map .im) hp)
  refine ⟨by rw [List.length_set, List.length_set, R.len], R'.bxs, R.bx0, R'.ext, fun j w e => ?_, fun j k xs es u e1 e2 h1 h2 => ?_, R.injT.setN rfl⟩
  · rcases get_set e with ⟨rfl, rfl, hl⟩ | ⟨n, e⟩
    · exact ⟨_, List.getElem?_set_self (by rw [R.len]; exact hl), p, rfl, nb, h0, put_same⟩
    · obtain ⟨o, a1, a2⟩ := R'.get j w e
      exact ⟨o, by rw [List.getElem?_set_ne n]; exact a1, a2⟩
  · have other : ∀ (j : Nat) xs, E[j]? = some (some (.own xs)) → ρ[j]? ≠ some (some (.own p)) := fun j xs e h => by
      obtain ⟨o, a1, u', a2, _, _, a3⟩ := R.get j _ e
      rw [a1, a2] at h
      cases h
      rw [a3] at hp
      cases hp
    rcases get_set e1 with ⟨hj, _, hl⟩ | ⟨n1, e1⟩
    · rcases get_set e2 with ⟨hk, _, _⟩ | ⟨n2, e2⟩
      · exact hj.symm.trans hk
      · rw [← hj, List.getElem?_set_self (by rw [R.len]; exact hl)] at h1
        cases h1
        rw [List.getElem?_set_ne n2] at h2
        exact absurd h2 (other k es e2)
    · rw [List.getElem?_set_ne n1] at h1
      rcases get_set e2 with ⟨hk, _, hl⟩ | ⟨n2, e2⟩
      · rw [← hk, List.getElem?_set_self (by rw [R.len]; exact hl)] at h2
        cases h2
        exact absurd h1 (other j xs e1)
      · rw [List.getElem?_set_ne n2] at h2
        exact R.inj j k xs es u e1 e2 h1 h2
theorem Rel.chg (R : Rel b μ0 E ρ μ) {i : Nat} {p : Addr} {ds es : List PyData} (hi : E[i]? = some (some (.own ds))) (hp : ρ[i]? = some (some (.own p))) : Rel b μ0 (E.set i (some (.own es))) ρ (μ.put p (es.map .im)) := by
  obtain ⟨o, a1, p', a2, nb, h0, hμ⟩ := R.get i _ hi
  rw [hp] at a1
  cases a1
  cases a2
  obtain ⟨u, q, t, hb⟩ := R.bxs
  refine ⟨by rw [List.length_set, R.len], ⟨u, q, t, (put_ne fun e => nb e.symm).trans hb⟩, R.bx0, ⟨fun a l n e => ?_, fun u q t e => ?_, R.ext.thg, R.ext.cls⟩, fun j w e => ?_, fun j k xs ys u e1 e2 h1 h2 => ?_, R.injT.chg hi fun h => nomatch h⟩
  · rw [put_ne (fun z => by rw [z, h0] at e; cases e)]
    exact R.ext.old a l n e
  · obtain ⟨u', q', t', e'⟩ := R.ext.box u q t e
    exact ⟨u', q', t', (put_ne fun e => nb e.symm).trans e'⟩
  · rcases get_set e with ⟨rfl, rfl, hl⟩ | ⟨n, e⟩
    · exact ⟨_, hp, p, rfl, nb, h0, put_same⟩
    · obtain ⟨o, a1, a2⟩ := R.get j w e
      refine ⟨o, a1, a2.upto (fun xs u hw c1 _ _ c4 => ?_) fun _ _ _ _ _ e => e⟩
      subst hw
      rw [put_ne]
      · exact c4
      · intro z
        rw [c1, z] at a1
        exact n (R.inj i j ds xs p hi e hp a1)
  · have back : ∀ (j : Nat) xs, (E.set i (some (.own es)))[j]? = some (some (.own xs)) → ∃ ys, E[j]? = some (some (.own ys)) := fun j xs e => by
      rcases get_set e with ⟨rfl, _, _⟩ | ⟨n, e⟩
      · exact ⟨ds, hi⟩
      · exact ⟨xs, e⟩
    obtain ⟨xs', f1⟩ := back j xs e1
    obtain ⟨ys', f2⟩ := back k ys e2
    exact R.inj j k xs' ys' u f1 f2 h1 h2
theorem Rel.frz (R : Rel b μ0 E ρ μ) {i : Nat} {p : Addr} {ds : List PyData} (hi : E[i]? = some (some (.own ds))) (hp : ρ[i]? = some (some (.own p))) : Rel b μ0 (E.set i (some (.d (.list ds)))) (ρ.set i (some (.im (.list ds)))) (μ.del p) := by
  obtain ⟨o, a1, p', a2, nb, h0, hμ⟩ := R.get i _ hi
  rw [hp] at a1
  cases a1
  cases a2
  have dl : ∀ a, a ≠ p → μ.del p a = μ a := fun a n => if_neg n
  obtain ⟨u, q, t, hb⟩ := R.bxs
  refine ⟨by rw [List.length_set, List.length_set, R.len], ⟨u, q, t, (dl b fun e => nb e.symm).trans hb⟩, R.bx0, ⟨fun a l n e => ?_, fun u q t e => ?_, R.ext.thg, R.ext.cls⟩, fun j w e => ?_, fun j k xs ys u e1 e2 h1 h2 => ?_, R.injT.setN rfl⟩
  · rw [dl a (fun z => by rw [z, h0] at e; cases e)]
    exact R.ext.old a l n e
  · obtain ⟨u', q', t', e'⟩ := R.ext.box u q t e
    exact ⟨u', q', t', (dl b fun e => nb e.symm).trans e'⟩
  · rcases get_set e with ⟨rfl, rfl, hl⟩ | ⟨n, e⟩
    · exact ⟨_, List.getElem?_set_self (by rw [R.len]; exact hl), rfl⟩
    · obtain ⟨o, a1, a2⟩ := R.get j w e
      refine ⟨o, by rw [List.getElem?_set_ne n]; exact a1, a2.upto (fun xs u hw c1 _ _ c4 => ?_) fun _ _ _ _ _ e => e⟩
      subst hw
      rw [dl]
      · exact c4
      · intro z
        rw [c1, z] at a1
        exact n (R.inj i j ds xs p hi e hp a1)
  · rcases get_set e1 with ⟨_, h, _⟩ | ⟨n1, e1⟩
    · cases h
    rcases get_set e2 with ⟨_, h, _⟩ | ⟨n2, e2⟩
    · cases h
    rw [List.getElem?_set_ne n1] at h1
    rw [List.getElem?_set_ne n2] at h2
    exact R.inj j k xs ys u e1 e2 h1 h2
def NoTh (E : Env) (ρ : Rho) (d : Addr) : Prop := ∀ (j : Nat) w, E[j]? = some (some w) → (thW w).isSome = true → ρ[j]? ≠ some (some (.own d))
theorem NoTh.setN {d : Addr} (h : NoTh E ρ d) {i : Nat} {w : W} {o : Option OV} (hw : thW w = none) : NoTh (E.set i (some w)) (ρ.set i o) d := fun j u e t => by
  rcases get_set e with ⟨_, rfl, _⟩ | ⟨n, e⟩
  · rw [hw] at t
    cases t
  · rw [List.getElem?_set_ne n]
    exact h j u e t
def wipeE (E : Env) (vs : List Nat) : Env := vs.foldr (fun v r => r.set v none) E
theorem Rel.wipeO (R : Rel b μ0 E ρ μ) (v : Nat) (o : Option OV) : Rel b μ0 (E.set v none) (ρ.set v o) μ := by
  refine ⟨by rw [List.length_set, List.length_set, R.len], R.bxs, R.bx0, R.ext, fun j w e => ?_, fun j k xs ys u e1 e2 h1 h2 => ?_, R.injT.none⟩
  · obtain ⟨n, e⟩ := get_setN e
    obtain ⟨o, a1, a2⟩ := R.get j w e
    exact ⟨o, by rw [List.getElem?_set_ne n]; exact a1, a2⟩
  · obtain ⟨n1, e1⟩ := get_setN e1
    obtain ⟨n2, e2⟩ := get_setN e2
    rw [List.getElem?_set_ne n1] at h1
    rw [List.getElem?_set_ne n2] at h2
    exact R.inj j k xs ys u e1 e2 h1 h2
theorem Rel.wipe (R : Rel b μ0 E ρ μ) (v : Nat) : Rel b μ0 (E.set v none) (ρ.set v none) μ := R.wipeO v none
theorem Rel.wipes (R : Rel b μ0 E ρ μ) : ∀ vs : List Nat, Rel b μ0 (wipeE E vs) (wipeR ρ vs) μ
  | [] => R
  | v :: vs => (R.wipes vs).wipe v
def putsE (E : Env) : List Nat → List PyData → Env
  | i :: is, x :: xs => putsE (E.set i (some (.d x))) is xs
  | _, _ => E
def putE : Tgt → PyData → Env → Option Env
  | .nm i, x, E => some (E.set i (some (.d x)))
  | .tp is, .tuple xs, E => if xs.length = is.length then some (putsE E is xs) else none
  | .tp _, _, _ => none
theorem Rel.puts : ∀ (is : List Nat) (xs : List PyData) {E : Env} {ρ : Rho}, Rel b μ0 E ρ μ → Rel b μ0 (putsE E is xs) (setAll ρ is xs) μ
  | [], _, _, _, R => R
  | _ :: _, [], _, _, R => R
  | i :: is, x :: xs, _, _, R => Rel.puts is xs (R.setD i x)
theorem Rel.putT (R : Rel b μ0 E ρ μ) {t : Tgt} {x : PyData} {E' : Env} (h : putE t x E = some E') : ∃ ρ', t.put (.im x) ρ = some ρ' ∧ Rel b μ0 E' ρ' μ := by
  cases t with
  | nm i =>
    cases h
    exact ⟨_, rfl, R.setD i x⟩
  | tp is =>
    cases x with
    | tuple xs =>
      simp only [putE] at h
      split at h
      · rename_i hl
        cases h
        exact ⟨_, if_pos hl, R.puts is xs⟩
      · cases h
    | _ => cases h
end
end Nx
namespace Nx
open PySem PySem.Spec PyProof.Rows L2
abbrev DenE := Env → Tree PyData
abbrev DenB := Env → Tree Bool
abbrev DenL := Env → Tree (List PyData)
abbrev DenS := Env → Tree Out
def wo (b : Addr) : W → OV
  | .d x => .im x
  | .bx => .own b
  | .dic kvs => .dic kvs
  | .own _ => .im .none
  | .odc _ => .im .none
  | .cir _ => .im .none
  | .lc _ => .im .none
  | .dtt kvs => .ob (dttP kvs)
  | .exn C f d => .ob (exnP C f d)
structure SE (b : Addr) (X : Cx) (e : Expr) (f : DenE) : Prop where
  run : ∀ μ0 E ρ μ Φ, Rel b μ0 E ρ μ → (f E).All (fun d => ∀ μ', Bs b μ μ' → Φ (.im d) μ') → DE X e ρ μ Φ
structure ST (b : Addr) (X : Cx) (e : Expr) (f : DenB) : Prop where
  run : ∀ μ0 E ρ μ Φ, Rel b μ0 E ρ μ → (f E).All (fun d => ∀ μ', Bs b μ μ' → Φ d μ') → DT X e ρ μ Φ
structure SW (b : Addr) (X : Cx) (e : Expr) (f : DenB) : Prop where
  run : ∀ μ0 E ρ μ Φ, Rel b μ0 E ρ μ → (f E).All (fun d => ∀ μ', Bs b μ μ' → Φ d μ') → DW X e ρ μ Φ
structure SD (b : Addr) (X : Cx) (es : List Expr) (f : DenL) : Prop where
  run : ∀ μ0 E ρ μ Λ, Rel b μ0 E ρ μ → (f E).All (fun ds => ∀ μ', Bs b μ μ' → Λ (ds.map .im) μ') → DA X es ρ μ Λ
structure SA (b : Addr) (X : Cx) (es : List Expr) (f : Env → Tree (List W)) : Prop where
  run : ∀ μ0 E ρ μ Λ, Rel b μ0 E ρ μ → (f E).All (fun ws => ∀ μ', Bs b μ μ' → Λ (ws.map (wo b)) μ') → DA X es ρ μ Λ
structure SK (b : Addr) (X : Cx) (ks : List Keyword) (f : Env → Tree (List W)) : Prop where
  run : ∀ μ0 E ρ μ Λ, Rel b μ0 E ρ μ → (f E).All (fun ws => ∀ μ', Bs b μ μ' → Λ (ws.map (wo b)) μ') → DK X ks ρ μ Λ
structure SI (b : Addr) (X : Cx) (tg e : Expr) (f : DenL) : Prop where
  run : ∀ μ0 E ρ μ Ψ, Rel b μ0 E ρ μ → (f E).All (fun ds => ∀ μ', Bs b μ μ' → Ψ ⟨ds.map .im, fun _ => True⟩ μ') → DI X tg e ρ μ Ψ
def OutOk (b : Addr) (μ0 : Mu) (D : DEnds) : Out → Prop
  | .nx E => ∀ ρ μ, Rel b μ0 E ρ μ → D.nx ρ μ
  | .bk E => ∀ ρ μ, Rel b μ0 E ρ μ → D.bk ρ μ
  | .ct E => ∀ ρ μ, Rel b μ0 E ρ μ → D.ct ρ μ
  | .rt v => ∀ μ, Bs b μ0 μ → D.rt (.im v) μ
structure SS (b : Addr) (X : Cx) (s : Stmt) (f : DenS) : Prop where
  run : ∀ μ0 E ρ μ D, Rel b μ0 E ρ μ → (f E).All (OutOk b μ0 D) → DS X s ρ μ D
structure SSs (b : Addr) (X : Cx) (ss : List Stmt) (f : DenS) : Prop where
  run : ∀ μ0 E ρ μ D, Rel b μ0 E ρ μ → (f E).All (OutOk b μ0 D) → DSs X ss ρ μ D
def dV (i : Nat) : DenE := fun E => match E[i]? with | some (some (.d x)) => .ret x | _ => .fail
def dC (x : PyData) : DenE := fun _ => .ret x
def d1 (g : PyData → Option PyData) (f : DenE) : DenE := fun E => (f E).bind fun x => liftO (g x)
def d2 (g : PyData → PyData → Option PyData) (f h : DenE) : DenE := fun E => (f E).bind fun x => (h E).bind fun y => liftO (g x y)
def t2 (g : PyData → PyData → Option Bool) (f h : DenE) : DenB := fun E => (f E).bind fun x => (h E).bind fun y => liftO (g x y)
def l0 : DenL := fun _ => .ret []
def lC (f : DenE) (fs : DenL) : DenL := fun E => (f E).bind fun x => (fs E).bind fun xs => .ret (x :: xs)
def small (n : Nat) : Option Unit := if n ≤ 100000 then some () else none
def dL (fs : DenL) : DenE := fun E => (fs E).bind fun xs => (liftO (small xs.length)).bind fun _ => .ret (.list xs)
def dT (fs : DenL) : DenE := fun E => (fs E).bind fun xs => (liftO (small xs.length)).bind fun _ => .ret (.tuple xs)
def aV (i : Nat) : Env → Tree W := fun E => match E[i]? with | some (some (.d x)) => .ret (.d x) | some (some .bx) => .ret .bx | some (some (.dic k)) => .ret (.dic k) | some (some (.dtt k)) => .ret (.dtt k) | some (some (.exn C f d)) => .ret (.exn C f d) | _ => .fail
def aE (f : DenE) : Env → Tree W := fun E => (f E).bind fun x => .ret (.d x)
def a0 : Env → Tree (List W) := fun _ => .ret []
def aC (f : Env → Tree W) (fs : Env → Tree (List W)) : Env → Tree (List W) := fun E => (f E).bind fun x => (fs E).bind fun xs => .ret (x :: xs)
def dCall (F : List W → Tree PyData) (fs : Env → Tree (List W)) : DenE := fun E => (fs E).bind F
def dIf (c : DenB) (f g : DenE) : DenE := fun E => (c E).bind fun k => match k with | true => f E | false => g E
def asB : PyData → Option Bool
  | .bool k => some k
  | _ => none
def truth : PyData → Option Bool
  | .none => some false
  | .bool k => some k
  | .int i => some (i != 0)
  | .list xs => some !xs.isEmpty
  | .tuple xs => some !xs.isEmpty
  | _ => none
def tV (f : DenE) : DenB := fun E => (f E).bind fun x => liftO (asB x)
def tTr (f : DenE) : DenB := fun E => (f E).bind fun x => liftO (truth x)
def tNot (f : DenB) : DenB := fun E => (f E).bind fun k => .ret (!k)
def tAnd (f g : DenB) : DenB := fun E => (f E).bind fun k => match k with | true => g E | false => .ret false
def tOr (f g : DenB) : DenB := fun E => (f E).bind fun k => match k with | true => .ret true | false => g E
def dAnd (f g : DenE) : DenE := fun E => (f E).bind fun x => match x with | .bool true => g E | .bool false => .ret (.bool false) | _ => .fail
def dOr (f g : DenE) : DenE := fun E => (f E).bind fun x => match x with | .bool true => .ret (.bool true) | .bool false => g E | _ => .fail
def few (n : Nat) : Option Unit := if n ≤ 50000 then some () else none
def dLc (t : Tgt) (vs : List Nat) (it : DenL) (elt : DenE) : DenE := fun E => (it E).bind fun xs => (liftO (few xs.length)).bind fun _ =>
  (mapT (fun x => (liftO (putE t x (wipeE E vs))).bind elt) xs).bind fun ys => .ret (.list ys)
def dLf (t : Tgt) (vs : List Nat) (it : DenL) (c : DenB) (elt : DenE) : DenE := fun E => (it E).bind fun xs => (liftO (few xs.length)).bind fun _ =>
  (pickT (fun x => (liftO (putE t x (wipeE E vs))).bind fun E' => (c E').bind fun k => match k with | true => (elt E').bind fun y => .ret (some y) | false => .ret none) xs).bind fun ys => .ret (.list ys)
def sSet (i : Nat) (f : DenE) : DenS := fun E => (f E).bind fun x => .ret (.nx (E.set i (some (.d x))))
def sAsg (t : Tgt) (f : DenE) : DenS := fun E => (f E).bind fun x => (liftO (putE t x E)).bind fun E' => .ret (.nx E')
def sPar (is : List Nat) (fs : DenL) : DenS := fun E => (fs E).bind fun xs => .ret (.nx (putsE E is xs))
def sRet (f : DenE) : DenS := fun E => (f E).bind fun x => .ret (.rt x)
def s0 : DenS := fun E => .ret (.nx E)
def sC (s ss : DenS) : DenS := fun E => (s E).bind fun o => match o with | .nx E' => ss E' | o => .ret o
def sIf (c : DenB) (s1 s2 : DenS) : DenS := fun E => (c E).bind fun k => match k with | true => s1 E | false => s2 E
def sX (f : DenE) : DenS := fun E => (f E).bind fun _ => .ret (.nx E)
def forT (t : Tgt) (body : DenS) : List PyData → Env → Tree Out
  | [], E => .ret (.nx E)
  | x :: xs, E => (liftO (putE t x E)).bind fun E' => (body E').bind fun o => match o with
    | .nx E2 => forT t body xs E2
    | .ct E2 => forT t body xs E2
    | .bk E2 => .ret (.nx E2)
    | .rt v => .ret (.rt v)
def sFor (t : Tgt) (it : DenL) (body : DenS) : DenS := fun E => (it E).bind fun xs => forT t body xs E
def whT (c : DenB) (body : DenS) : Nat → Env → Tree Out
  | 0, _ => .fail
  | n + 1, E => (c E).bind fun k => match k with
    | false => .ret (.nx E)
    | true => (body E).bind fun o => match o with
      | .nx E2 => whT c body n E2
      | .ct E2 => whT c body n E2
      | .bk E2 => .ret (.nx E2)
      | .rt v => .ret (.rt v)
def sWh (n : Nat) (c : DenB) (body : DenS) : DenS := whT c body n
def sOwn (i : Nat) (f : DenE) : DenS := fun E => (f E).bind fun x => match x with | .list xs => .ret (.nx (E.set i (some (.own xs)))) | _ => .fail
def sApp (i : Nat) (f : DenE) : DenS := fun E => match E[i]? with | some (some (.own l)) => (f E).bind fun y => (liftO (small (l.length + 1))).bind fun _ => .ret (.nx (E.set i (some (.own (l ++ [y]))))) | _ => .fail
def frzE (i : Nat) (E : Env) : Env := match E[i]? with | some (some (.own l)) => E.set i (some (.d (.list l))) | _ => E
def sFrz (i : Nat) (ss : DenS) : DenS := fun E => ss (frzE i E)
def outV : Out → Tree PyData
  | .rt v => .ret v
  | .nx _ => .ret .none
  | _ => .fail
def noOwn : W → Bool
  | .own _ => false
  | .odc _ => false
  | .cir _ => false
  | .lc _ => false
  | _ => true
section
variable {b : Addr} {X : Cx} {e x y : Expr} {es : List Expr} {f fx fy fz : DenE} {fs : DenL} {pos : Pos}
open Tree
theorem dV_all {i : Nat} {E : Env} {Q : PyData → Prop} (h : (dV i E).All Q) : ∃ d, E[i]? = some (some (.d d)) ∧ Q d := by
  unfold dV at h
  split at h
  · rename_i d hd
    exact ⟨d, hd, h⟩
  · exact h.elim
theorem se_v (i : Nat) {n : Str} (hN : X.N[i]? = some n := by rfl) (hv : Vis X.env.scope n := by first | exact Or.inl rfl | exact Or.inr (Or.inl rfl) | exact Or.inr (Or.inr rfl)) (hd : (n == ("__debug__" : Str)) = false := by decide) (hcd : (n == ("__classdict__" : Str)) = false := by decide) : SE b X (.Name n pos) (dV i) := .mk fun μ0 E ρ μ Φ R h => by
  obtain ⟨d, hd', q⟩ := dV_all h
  obtain ⟨o, h1, h2⟩ := R.get i _ hd'
  cases h2
  exact de_var i hN hv h1 (q μ (Bs.refl b μ)) hd hcd
theorem se_int {i : Int} {j : Nat} : SE b X (.Constant (.int i) j pos) (dC (.int i)) := .mk fun μ0 E ρ μ Φ R h => de_int (h μ (Bs.refl b μ))
theorem se_bl {i : Bool} {j : Nat} : SE b X (.Constant (.bool i) j pos) (dC (.bool i)) := .mk fun μ0 E ρ μ Φ R h => de_bl (h μ (Bs.refl b μ))
theorem se_non {j : Nat} : SE b X (.Constant .none j pos) (dC .none) := .mk fun μ0 E ρ μ Φ R h => de_non (h μ (Bs.refl b μ))
theorem se_str {i : Str} {j : Nat} : SE b X (.Constant (.str i) j pos) (dC (.str i)) := .mk fun μ0 E ρ μ Φ R h => de_str (h μ (Bs.refl b μ))
def G1 (g : PyData → Option PyData) (u : OV) (μ : Mu) (Φ : OV → Mu → Prop) : Prop := ∃ d r, u = .im d ∧ g d = some r ∧ Φ (.im r) μ
theorem se_1 {g : PyData → Option PyData} (hx : SE b X x fx) (hop : ∀ ρ μ Φ, (DE X x ρ μ fun u μ1 => G1 g u μ1 Φ) → DE X e ρ μ Φ) : SE b X e (d1 g fx) := .mk fun μ0 E ρ μ Φ R h =>
  hop ρ μ Φ (hx.run μ0 E ρ μ _ R ((all_bind.mp h).imp fun d q μ1 s1 => let ⟨r, hr, q⟩ := lift_all q; ⟨d, r, rfl, hr, q μ1 s1⟩))
def G2 (g : PyData → PyData → Option PyData) (u v : OV) (μ : Mu) (Φ : OV → Mu → Prop) : Prop := ∃ d d' r, u = .im d ∧ v = .im d' ∧ g d d' = some r ∧ Φ (.im r) μ
theorem se_2 {g : PyData → PyData → Option PyData} (hx : SE b X x fx) (hy : SE b X y fy) (hop : ∀ ρ μ Φ, (DE X x ρ μ fun u μ1 => DE X y ρ μ1 fun v μ2 => G2 g u v μ2 Φ) → DE X e ρ μ Φ) : SE b X e (d2 g fx fy) := .mk fun μ0 E ρ μ Φ R h =>
  hop ρ μ Φ (hx.run μ0 E ρ μ _ R ((all_bind.mp h).imp fun d q μ1 s1 => hy.run μ0 E ρ μ1 _ (R.step s1) ((all_bind.mp q).imp fun d' q μ2 s2 => let ⟨r, hr, q⟩ := lift_all q; ⟨d, d', r, rfl, rfl, hr, q μ2 (s1.trans s2)⟩)))
def OkOp (r : R2) (g : PyData → PyData → Option PyData) : Prop := ∀ d d' v μ Φ, g d d' = some v → Φ (.im v) μ → OpD r (.im d) (.im d') μ Φ
theorem se_op {op : Operator} {r : R2} {g : PyData → PyData → Option PyData} (ho : OpR X (binaryOp op) r) (hk : OkOp r g) (hx : SE b X x fx) (hy : SE b X y fy) : SE b X (.BinOp x op y pos) (d2 g fx fy) :=
  se_2 hx hy fun ρ μ Φ h => de_op ho (h.imp fun u μ1 h1 => h1.imp fun v μ2 ⟨d, d', r, e1, e2, hr, q⟩ => by subst e1 e2; exact hk d d' r μ2 Φ hr q)
def OkCmp (r : R2) (g : PyData → PyData → Option Bool) : Prop := ∀ d d' v μ Φ, g d d' = some v → Φ (.im (.bool v)) μ → OpD r (.im d) (.im d') μ Φ
def bD (g : PyData → PyData → Option Bool) (d d' : PyData) : Option PyData := match g d d' with | some k => some (.bool k) | none => none
theorem bD_some {g : PyData → PyData → Option Bool} {d d' r : PyData} (h : bD g d d' = some r) : ∃ k, g d d' = some k ∧ r = .bool k := by
  unfold bD at h
  split at h
  · cases h
    exact ⟨_, ‹_›, rfl⟩
  · cases h
theorem se_cmp {op : CmpOp} {r : R2} {g : PyData → PyData → Option Bool} (ho : OpR X (compareOp op) r) (hm : behindInMarks op y = false) (hk : OkCmp r g) (hx : SE b X x fx) (hy : SE b X y fy) : SE b X (.Compare x [op] [y] pos) (d2 (bD g) fx fy) :=
  se_2 hx hy fun ρ μ Φ h => de_cmp ho hm (h.imp fun u μ1 h1 => h1.imp fun v μ2 ⟨d, d', r, e1, e2, hr, q⟩ => by
    subst e1 e2
    obtain ⟨k, hk', rfl⟩ := bD_some hr
    exact hk d d' k μ2 Φ hk' q)
theorem st_cmp {op : CmpOp} {r : R2} {g : PyData → PyData → Option Bool} (ho : OpR X (compareOp op) r) (hm : behindInMarks op y = false) (hk : OkCmp r g) (hx : SE b X x fx) (hy : SE b X y fy) : ST b X (.Compare x [op] [y] pos) (t2 g fx fy) := .mk fun μ0 E ρ μ Φ R h =>
  dt_cmp ho hm (hx.run μ0 E ρ μ _ R ((all_bind.mp h).imp fun d q μ1 s1 => hy.run μ0 E ρ μ1 _ (R.step s1) ((all_bind.mp q).imp fun d' q μ2 s2 => let ⟨r, hr, q⟩ := lift_all q; hk d d' r μ2 _ hr ⟨r, rfl, q μ2 (s1.trans s2)⟩)))
theorem dt_tru {ρ : Rho} {μ : Mu} {Φ : Bool → Mu → Prop} (h : DE X x ρ μ fun u μ1 => ∃ d k, u = .im d ∧ truth d = some k ∧ Φ k μ1) (he : ∀ whole, isTrue x X.env whole = (do let v ← whole; standAt x.pos; holding [v] (truthy v)) := by intro _; rfl) : DT X x ρ μ Φ := fun G H σ m v Q f =>
  WT.of (pt_truth pwe he) (h G H σ m v _ fun vx u μ1 G1 H1 q1 e1 m1 r1 => by
    obtain ⟨d, k, rfl, hk, q⟩ := q1
    refine ⟨k, ?_, f _ _ _ _ q e1 m1⟩
    have r1 : Dv G1 vx d := r1
    cases r1 with
    | non => cases hk; rfl
    | bl k => cases hk; rfl
    | int i => cases hk; rfl
    | str x => cases hk
    | lst h1 w =>
      cases hk
      exact .inl ⟨_, .inl (.inl (m1.ex _ _ h1)), by cases w <;> rfl⟩
    | tup h1 w =>
      cases hk
      exact .inr (.inl ⟨_, .inl (.inl (m1.ex _ _ h1)), by cases w <;> rfl⟩))
theorem st_tru (hx : SE b X x fx) (he : ∀ whole, isTrue x X.env whole = (do let v ← whole; standAt x.pos; holding [v] (truthy v)) := by intro _; rfl) : ST b X x (tTr fx) := .mk fun μ0 E ρ μ Φ R h =>
  dt_tru (hx.run μ0 E ρ μ _ R ((all_bind.mp h).imp fun d q μ1 s1 => let ⟨k, hk, q⟩ := lift_all q; ⟨d, k, rfl, hk, q μ1 s1⟩)) he
variable {fb gb : DenB} {rest : List Expr}
theorem st_not (hx : ST b X x fb) : ST b X (.UnaryOp .Not x pos) (tNot fb) := .mk fun μ0 E ρ μ Φ R h => dt_not (hx.run μ0 E ρ μ _ R ((all_bind.mp h).imp fun k q => q))
theorem st_w (h : SW b X e fb) : ST b X e fb := .mk fun μ0 E ρ μ Φ R q => (h.run μ0 E ρ μ Φ R q).dt
theorem sw_and1 (h : ST b X x fb) : SW b X (.BoolOp .And [x] pos) fb := .mk fun μ0 E ρ μ Φ R q => dw_and1 (h.run μ0 E ρ μ Φ R q)
theorem sw_or1 (h : ST b X x fb) : SW b X (.BoolOp .Or [x] pos) fb := .mk fun μ0 E ρ μ Φ R q => dw_or1 (h.run μ0 E ρ μ Φ R q)
theorem sw_and (h : ST b X x fb) (k : SW b X (.BoolOp .And (y :: rest) pos) gb) : SW b X (.BoolOp .And (x :: y :: rest) pos) (tAnd fb gb) := .mk fun μ0 E ρ μ Φ R q =>
  dw_and (h.run μ0 E ρ μ _ R ((all_bind.mp q).imp fun v q μ1 s1 => by
    cases v with
    | true =>
      rw [if_pos rfl]
      exact k.run μ0 E ρ μ1 _ (R.step s1) (All.imp (fun v q μ2 s2 => q μ2 (s1.trans s2)) q)
    | false =>
      rw [if_neg (by decide)]
      exact q μ1 s1))
theorem sw_or (h : ST b X x fb) (k : SW b X (.BoolOp .Or (y :: rest) pos) gb) : SW b X (.BoolOp .Or (x :: y :: rest) pos) (tOr fb gb) := .mk fun μ0 E ρ μ Φ R q =>
  dw_or (h.run μ0 E ρ μ _ R ((all_bind.mp q).imp fun v q μ1 s1 => by
    cases v with
    | true =>
      rw [if_pos rfl]
      exact q μ1 s1
    | false =>
      rw [if_neg (by decide)]
      exact k.run μ0 E ρ μ1 _ (R.step s1) (All.imp (fun v q μ2 s2 => q μ2 (s1.trans s2)) q)))
theorem se_one {op} (h : SE b X x fx) : SE b X (.BoolOp op [x] pos) fx := .mk fun μ0 E ρ μ Φ R q => de_one (h.run μ0 E ρ μ Φ R q)
theorem se_and (h : SE b X x fx) (k : SE b X (.BoolOp .And (y :: rest) pos) fy) : SE b X (.BoolOp .And (x :: y :: rest) pos) (dAnd fx fy) := .mk fun μ0 E ρ μ Φ R q =>
  de_and (h.run μ0 E ρ μ _ R ((all_bind.mp q).imp fun v q μ1 s1 => by
    split at q
    · exact ⟨true, rfl, by rw [if_pos rfl]; exact k.run μ0 E ρ μ1 _ (R.step s1) (All.imp (fun v q μ2 s2 => q μ2 (s1.trans s2)) q)⟩
    · exact ⟨false, rfl, by rw [if_neg (by decide)]; exact q μ1 s1⟩
    · exact q.elim))
def pNot (d : PyData) : Option PyData := match d with | .bool k => some (.bool !k) | _ => none
theorem se_not (hx : SE b X x fx) : SE b X (.UnaryOp .Not x pos) (d1 pNot fx) := se_1 hx fun ρ μ Φ h => de_not (h.imp fun u μ1 ⟨d, r, e1, hr, q⟩ => by
  subst e1
  cases d <;> cases hr
  exact ⟨_, rfl, q⟩)
theorem se_if (hc : ST b X e fb) (hx : SE b X x fx) (hy : SE b X y fy) : SE b X (.IfExp e x y pos) (dIf fb fx fy) := .mk fun μ0 E ρ μ Φ R q =>
  de_ifExp (hc.run μ0 E ρ μ _ R ((all_bind.mp q).imp fun k q μ1 s1 => by
    cases k with
    | true =>
      rw [if_pos rfl]
      exact hx.run μ0 E ρ μ1 _ (R.step s1) (All.imp (fun v q μ2 s2 => q μ2 (s1.trans s2)) q)
    | false =>
      rw [if_neg (by decide)]
      exact hy.run μ0 E ρ μ1 _ (R.step s1) (All.imp (fun v q μ2 s2 => q μ2 (s1.trans s2)) q)))
theorem sd_nil : SD b X [] l0 := .mk fun μ0 E ρ μ Λ R h => da_nil (h μ (Bs.refl b μ))
theorem sd_cons (hx : SE b X x fx) (ht : SD b X es fs) (hs : starEach (x :: es) X.env = (false, eval x X.env) :: starEach es X.env := by rfl) : SD b X (x :: es) (lC fx fs) := .mk fun μ0 E ρ μ Λ R h =>
  da_cons (hx.run μ0 E ρ μ _ R ((all_bind.mp h).imp fun d q μ1 s1 => ht.run μ0 E ρ μ1 _ (R.step s1) ((all_bind.mp q).imp fun ds q μ2 s2 => q μ2 (s1.trans s2)))) hs
theorem small_le {n : Nat} {Q : Unit → Prop} (h : (liftO (small n)).All Q) : n ≤ 100000 ∧ Q () := by
  obtain ⟨a, h1, h2⟩ := lift_all h
  unfold small at h1
  split at h1
  · exact ⟨‹_›, h2⟩
  · cases h1
theorem few_le {n : Nat} {Q : Unit → Prop} (h : (liftO (few n)).All Q) : n ≤ 50000 ∧ Q () := by
  obtain ⟨a, h1, h2⟩ := lift_all h
  unfold few at h1
  split at h1
  · exact ⟨‹_›, h2⟩
  · cases h1
theorem se_lst (h : SD b X es fs) : SE b X (.List es pos) (dL fs) := .mk fun μ0 E ρ μ Φ R q =>
  de_lst (h.run μ0 E ρ μ _ R ((all_bind.mp q).imp fun ds q μ1 s1 => let ⟨hz, q⟩ := small_le (all_bind.mp q); ⟨ds, rfl, hz, q μ1 s1⟩))
theorem se_tup {k : Nat} (h : SD b X es fs) : SE b X (.Tuple es k pos) (dT fs) := .mk fun μ0 E ρ μ Φ R q =>
  de_tup (h.run μ0 E ρ μ _ R ((all_bind.mp q).imp fun ds q μ1 s1 => let ⟨hz, q⟩ := small_le (all_bind.mp q); ⟨ds, rfl, hz, q μ1 s1⟩))
variable {ga : Env → Tree W} {gs : Env → Tree (List W)}
structure SV (b : Addr) (X : Cx) (e : Expr) (f : Env → Tree W) : Prop where
  run : ∀ μ0 E ρ μ Φ, Rel b μ0 E ρ μ → (f E).All (fun w => ∀ μ', Bs b μ μ' → Φ (wo b w) μ') → DE X e ρ μ Φ
theorem sv_v (i : Nat) {n : Str} (hN : X.N[i]? = some n := by rfl) (hv : Vis X.env.scope n := by first | exact Or.inl rfl | exact Or.inr (Or.inl rfl) | exact Or.inr (Or.inr rfl)) (hd : (n == ("__debug__" : Str)) = false := by decide) (hcd : (n == ("__classdict__" : Str)) = false := by decide) : SV b X (.Name n pos) (aV i) := .mk fun μ0 E ρ μ Φ R h => by
  unfold aV at h
  split at h
  · rename_i d hd'
    obtain ⟨o, h1, h2⟩ := R.get i _ hd'
    cases h2
    exact de_var i hN hv h1 (h μ (Bs.refl b μ)) hd hcd
  · rename_i hd'
    obtain ⟨o, h1, h2⟩ := R.get i _ hd'
    cases h2
    exact de_var i hN hv h1 (h μ (Bs.refl b μ)) hd hcd
  · rename_i hd'
    obtain ⟨o, h1, h2⟩ := R.get i _ hd'
    cases h2
    exact de_var i hN hv h1 (h μ (Bs.refl b μ)) hd hcd
  · rename_i hd'
    obtain ⟨o, h1, h2⟩ := R.get i _ hd'
    cases h2
    exact de_var i hN hv h1 (h μ (Bs.refl b μ)) hd hcd
  · rename_i hd'
    obtain ⟨o, h1, h2⟩ := R.get i _ hd'
    cases h2
    exact de_var i hN hv h1 (h μ (Bs.refl b μ)) hd hcd
  · exact h.elim
theorem sv_e (h : SE b X x fx) : SV b X x (aE fx) := .mk fun μ0 E ρ μ Φ R q => h.run μ0 E ρ μ Φ R ((all_bind.mp q).imp fun d q => q)
theorem sa_nil : SA b X [] a0 := .mk fun μ0 E ρ μ Λ R h => da_nil (h μ (Bs.refl b μ))
theorem sa_cons (hx : SV b X x ga) (ht : SA b X es gs) (hs : starEach (x :: es) X.env = (false, eval x X.env) :: starEach es X.env := by rfl) : SA b X (x :: es) (aC ga gs) := .mk fun μ0 E ρ μ Λ R h =>
  da_cons (hx.run μ0 E ρ μ _ R ((all_bind.mp h).imp fun d q μ1 s1 => ht.run μ0 E ρ μ1 _ (R.step s1) ((all_bind.mp q).imp fun ds q μ2 s2 => q μ2 (s1.trans s2)))) hs
theorem sk_nil : SK b X [] a0 := .mk fun μ0 E ρ μ Λ R h => dk_nil (h μ (Bs.refl b μ))
theorem sk_cons {nm : Option Str} {kp : Pos} {ks : List Keyword} (hx : SV b X x ga) (ht : SK b X ks gs) : SK b X (⟨nm, x, kp⟩ :: ks) (aC ga gs) := .mk fun μ0 E ρ μ Λ R h =>
  dk_cons (hx.run μ0 E ρ μ _ R ((all_bind.mp h).imp fun d q μ1 s1 => ht.run μ0 E ρ μ1 _ (R.step s1) ((all_bind.mp q).imp fun ds q μ2 s2 => q μ2 (s1.trans s2))))
end
end Nx
namespace Nx
open PySem PySem.Spec PyProof.Rows L2
open Tree
def ent : W → W
  | .own _ => .d .none
  | .odc _ => .d .none
  | .cir _ => .d .none
  | .lc _ => .d .none
  | w => w
def lenIs {α : Type} (n : Nat) (ws : List α) : Option Unit := if ws.length = n then some () else none
theorem lenIs_all {α : Type} {n : Nat} {ws : List α} {Q : Unit → Prop} (h : (liftO (lenIs n ws)).All Q) : ws.length = n ∧ Q () := by
  obtain ⟨a, h1, h2⟩ := lift_all h
  unfold lenIs at h1
  split at h1
  · exact ⟨‹_›, h2⟩
  · cases h1
def fnF (a n : Nat) (body : DenS) : List W → Tree PyData := fun ws => (liftO (lenIs a ws)).bind fun _ => (body (ws.map (fun w => some (ent w)) ++ List.replicate (n - a) none)).bind outV
def cF (F : List W → Tree PyData) : Ct := fun os μ Φ => ∃ b ws, os = ws.map (wo b) ∧ (∃ p q t, μ b = some (bx p q t)) ∧ (F ws).All (fun d => ∀ μ', Bs b μ μ' → Φ (.im d) μ')
section
variable {P : Program} {w : World} {K : PySem.W.Frag} {mg : Str → Option Value} {base : Heap}
theorem Fc.imp {k : Nat} {x : Str} {st : Stmt} {ps : List Str} {C C' : Ct} (F : Fc P w K mg base x st ps k C) (h : ∀ os μ Φ, C' os μ Φ → C os μ Φ) : Fc P w K mg base x st ps k C' := by
  obtain ⟨f, fd, a, b, c⟩ := F.ex
  refine ⟨⟨f, fd, a, b, ⟨fun vs H Q E ⟨os, μ, G, Φ, m, r, q, fi⟩ => c.len vs H Q E ⟨os, μ, G, Φ, m, r, h _ _ _ q, fi⟩, fun A outer s H args us vs Q E r e b v ⟨os, μ, G, Φ, m, r', q, fi⟩ => c.run A outer s H args us vs Q E r e b v ⟨os, μ, G, Φ, m, r', h _ _ _ q, fi⟩⟩⟩⟩
theorem rel_start {b : Addr} {μ : Mu} {ws : List W} (n : Nat) (hb : ∃ p q t, μ b = some (bx p q t)) : Rel b μ (ws.map (fun w => some (ent w)) ++ List.replicate n none) ((ws.map (wo b)).map some ++ List.replicate n none) μ := by
  have key : ∀ (i : Nat) v, (ws.map (fun w => some (ent w)) ++ List.replicate n none)[i]? = some (some v) → ∃ u, ws[i]? = some u ∧ v = ent u ∧ ((ws.map (wo b)).map some ++ List.replicate n none)[i]? = some (some (wo b u)) := fun i v h => by
    by_cases hi : i < ws.length
    · rw [List.getElem?_append_left (by simpa using hi), List.getElem?_map, List.getElem?_eq_getElem hi] at h
      cases h
      refine ⟨_, List.getElem?_eq_getElem hi, rfl, ?_⟩
      rw [List.getElem?_append_left (by simpa using hi), List.getElem?_map, List.getElem?_map, List.getElem?_eq_getElem hi]
      rfl
    · rw [List.getElem?_append_right (by simpa using hi), List.getElem?_replicate] at h
      split at h <;> cases h
  refine ⟨by simp, hb, hb, Bs.refl b μ, fun i v h => ?_, fun i j ds es p h _ _ _ => ?_, fun i j w w' p h _ t _ _ _ => ?_⟩
  · obtain ⟨u, hu, rfl, h2⟩ := key i v h
    refine ⟨_, h2, ?_⟩
    cases u <;> rfl
  · obtain ⟨u, hu, e, h2⟩ := key i _ h
    cases u <;> cases e
  · obtain ⟨u, hu, e, h2⟩ := key i _ h
    subst e
    cases u <;> cases t
theorem fc_body0 {k : Nat} {f : Addr} {x : Str} {st : Stmt} {fd : FuncData} {N ps : List Str} {body : DenS} (F : Fun K x x st f fd) (hm : mg x = some (.ref f)) (S : FnScope N ps (defScope st))
    (hB : ∀ (b : Addr) (cdv : Value) A outer s H E, Rm k (A.deeper (envOfC x (defScope st) s.heap.objs.size f cdv)) → SSs b (cxOf CX0 P w K mg base N x (defScope st) f cdv A outer s H E).nox (defBody st) body) : Fc P w K mg base x st ps (k + 1) (cF (fnF ps.length N.length body)) := by
  refine fc_of F hm S (fun os μ Φ h => ?_) fun cdv A outer s H E os μ Φ hr h => ?_
  · obtain ⟨b, ws, rfl, _, h⟩ := h
    rw [List.length_map]
    exact (lenIs_all (all_bind.mp h)).1
  · obtain ⟨b, ws, rfl, hb, h⟩ := h
    obtain ⟨hl, h⟩ := lenIs_all (all_bind.mp h)
    rw [List.length_map, hl]
    refine (hB b cdv A outer s H E hr).run μ _ _ μ _ (rel_start _ hb) ((all_bind.mp h).imp fun o q => ?_)
    cases o with
    | nx E' => exact fun ρ' μ' R => q μ' R.ext
    | rt v => exact fun μ' s => q μ' s
    | bk E' => exact q.elim
    | ct E' => exact q.elim
theorem fc_body {k a n : Nat} {f : Addr} {x : Str} {st : Stmt} {fd : FuncData} {N ps : List Str} (body : DenS) {m : List W → Tree PyData} (hM : m = fnF a n body) (F : Fun K x x st f fd) (hm : mg x = some (.ref f)) (S : FnScope N ps (defScope st)) (ha : ps.length = a) (hn : N.length = n)
    (hB : ∀ (b : Addr) (cdv : Value) A outer s H E, Rm k (A.deeper (envOfC x (defScope st) s.heap.objs.size f cdv)) → SSs b (cxOf CX0 P w K mg base N x (defScope st) f cdv A outer s H E).nox (defBody st) body) : Fc P w K mg base x st ps (k + 1) (cF m) := by
  subst hM ha hn
  exact fc_body0 F hm S hB
end
section
variable {b : Addr} {X : Cx} {e x y z : Expr} {es : List Expr} {f fx fy fz : DenE} {fs : DenL} {pos p : Pos} {ga : Env → Tree W} {gs : Env → Tree (List W)}
theorem se_call {F : List W → Tree PyData} {nm : Str} {st : Stmt} {ps : List Str} {k : Nat} (FC : Fc X.prog X.w X.K X.mg X.base nm st ps k (cF F)) (hr : Rm k X.A) (hg : Gl X nm)
    (hb : ∀ (kV doc pm : Value) (an : Option Addr) (cdv ct : Value) (us : List Value), us.length = ps.length → bindArgs (PySem.W.fnOf nm nm (defArgs st) (defBody st) (defScope st) .none kV doc pm an cdv ct) ⟨us, []⟩ = pure (ps.zip us))
    (ha : SA b X (x :: es) gs) (hdb : (nm == ("__debug__" : Str)) = false := by decide) (he : starEach (x :: es) X.env = (false, eval x X.env) :: starEach es X.env := by rfl) (hpl : (backTo pos (starEach es X.env)).any (·.1) = false := by rfl) : SE b X (.Call (.Name nm p) (x :: es) [] pos) (dCall F gs) := .mk fun μ0 E ρ μ Φ R h =>
  de_call FC hr hg hb (ha.run μ0 E ρ μ _ R ((all_bind.mp h).imp fun ws q μ1 s1 => ⟨b, ws, rfl, (R.step s1).bxs, q.imp fun d q μ2 s2 => q μ2 (s1.trans s2)⟩)) hdb he hpl
def dCallK (m : Nat) (ix : List Nat) (F : List W → Tree PyData) (fs : Env → Tree (List W)) : DenE := fun E => (fs E).bind fun ws => (liftO (lenIs m ws)).bind fun _ => F (pick ix ws)
theorem pick_map {α β : Type} (g : α → β) (l : List α) (ix : List Nat) : pick ix (l.map g) = (pick ix l).map g := by
  unfold pick
  rw [List.map_filterMap]
  congr 1
  funext i
  rw [List.getElem?_map]
def items : PyData → Option (List PyData)
  | .list xs => some xs
  | .tuple xs => some xs
  | _ => none
theorem items_seq {d : PyData} {xs : List PyData} (h : items d = some xs) : Seq xs (.im d) := by
  cases d <;> cases h
  · exact .lst
  · exact .tup
def rg1 : PyData → Option (List PyData)
  | .int j => if -100000 ≤ j ∧ j ≤ 100000 then some (nums j.toNat) else none
  | _ => none
def numsF (i : Int) (n : Nat) : List PyData := (List.range n).map fun (k : Nat) => .int (i + (k : Int))
def rg2 : PyData → PyData → Option (List PyData)
  | .int i, .int j => if -100000 ≤ i ∧ i ≤ 100000 ∧ -100000 ≤ j ∧ j ≤ 100000 then some (numsF i (j - i).toNat) else none
  | _, _ => none
def iS (f : DenE) : DenL := fun E => (f E).bind fun x => liftO (items x)
def iR1 (f : DenE) : DenL := fun E => (f E).bind fun x => liftO (rg1 x)
def iR2 (f g : DenE) : DenL := fun E => (f E).bind fun x => (g E).bind fun y => liftO (rg2 x y)
def wEn (f : DenE) : DenL := fun E => (f E).bind fun x => (liftO (items x)).bind fun xs => .ret (prs (nums xs.length) xs)
def wZ2 (f g : DenE) : DenL := fun E => (f E).bind fun x => (g E).bind fun y => (liftO (items x)).bind fun xs => (liftO (items y)).bind fun ys => .ret (prs xs ys)
def wZ3 (f g h : DenE) : DenL := fun E => (f E).bind fun x => (g E).bind fun y => (h E).bind fun z => (liftO (items x)).bind fun xs => (liftO (items y)).bind fun ys => (liftO (items z)).bind fun zs => .ret (trs xs ys zs)
variable {tg : Expr}
theorem si_seq (hx : SE b X x fx) : SI b X tg x (iS fx) := .mk fun μ0 E ρ μ Ψ R h =>
  di_seq (hx.run μ0 E ρ μ _ R ((all_bind.mp h).imp fun d q μ1 s1 => let ⟨xs, hxs, q⟩ := lift_all q; ⟨xs, items_seq hxs, q μ1 s1⟩))
theorem si_r1 (B : Bt X.mg) (hg : Gl X "range") (hx : SE b X x fx) (he : starEach [x] X.env = (false, eval x X.env) :: starEach [] X.env := by rfl) : SI b X tg (.Call (.Name "range" p) [x] [] pos) (iR1 fx) := .mk fun μ0 E ρ μ Ψ R h =>
  di_range1 B hg (hx.run μ0 E ρ μ _ R ((all_bind.mp h).imp fun d q μ1 s1 => by
    obtain ⟨xs, hxs, q⟩ := lift_all q
    cases d with
    | int j =>
      simp only [rg1] at hxs
      split at hxs
      · rename_i hj
        cases hxs
        refine ⟨j, rfl, hj.1, hj.2, ?_⟩
        have := q μ1 s1
        unfold nums at this
        rw [List.map_map] at this
        exact this
      · cases hxs
    | _ => cases hxs)) he
theorem si_r2 (B : Bt X.mg) (hg : Gl X "range") (hx : SE b X x fx) (hy : SE b X y fy) (he : starEach [x, y] X.env = (false, eval x X.env) :: starEach [y] X.env := by rfl) (he2 : starEach [y] X.env = (false, eval y X.env) :: starEach [] X.env := by rfl) : SI b X tg (.Call (.Name "range" p) [x, y] [] pos) (iR2 fx fy) := .mk fun μ0 E ρ μ Ψ R h =>
  di_range2 B hg (hx.run μ0 E ρ μ _ R ((all_bind.mp h).imp fun d q μ1 s1 => hy.run μ0 E ρ μ1 _ (R.step s1) ((all_bind.mp q).imp fun d' q μ2 s2 => by
    obtain ⟨xs, hxs, q⟩ := lift_all q
    cases d with
    | int i =>
      cases d' with
      | int j =>
        simp only [rg2] at hxs
        split at hxs
        · rename_i hj
          cases hxs
          refine ⟨i, j, rfl, rfl, hj.1, hj.2.1, hj.2.2.1, hj.2.2.2, ?_⟩
          have := q μ2 (s1.trans s2)
          unfold numsF at this
          rw [List.map_map] at this
          exact this
        · cases hxs
      | _ => cases hxs
    | _ => cases hxs))) he he2
theorem si_en {elts : List Expr} {kk : Nat} {tpos : Pos} (B : Bt X.mg) (hg : Gl X "enumerate") (hx : SE b X x fx) (he : starEach [x] X.env = (false, eval x X.env) :: starEach [] X.env := by rfl) (he2 : starEach [x] X.env = [(false, eval x X.env)] := by rfl) : SI b X (.Tuple elts kk tpos) (.Call (.Name "enumerate" p) [x] [] pos) (wEn fx) := .mk fun μ0 E ρ μ Ψ R h =>
  di_en B hg (hx.run μ0 E ρ μ _ R ((all_bind.mp h).imp fun d q μ1 s1 => let ⟨xs, hxs, q⟩ := lift_all (all_bind.mp q); ⟨xs, items_seq hxs, q μ1 s1⟩)) he he2
theorem si_z2 {elts : List Expr} {kk : Nat} {tpos : Pos} (B : Bt X.mg) (hg : Gl X "zip") (hx : SE b X x fx) (hy : SE b X y fy) (he : starEach [x, y] X.env = (false, eval x X.env) :: starEach [y] X.env := by rfl) (he2 : starEach [y] X.env = (false, eval y X.env) :: starEach [] X.env := by rfl) (hpl : (backTo pos (starEach [y] X.env)).any (·.1) = false := by rfl) : SI b X (.Tuple elts kk tpos) (.Call (.Name "zip" p) [x, y] [] pos) (wZ2 fx fy) := .mk fun μ0 E ρ μ Ψ R h =>
  di_zip2 B hg (hx.run μ0 E ρ μ _ R ((all_bind.mp h).imp fun d q μ1 s1 => hy.run μ0 E ρ μ1 _ (R.step s1) ((all_bind.mp q).imp fun d' q μ2 s2 => by
    obtain ⟨xs, hxs, q⟩ := lift_all (all_bind.mp q)
    obtain ⟨ys, hys, q⟩ := lift_all (all_bind.mp q)
    exact ⟨xs, ys, items_seq hxs, items_seq hys, q μ2 (s1.trans s2)⟩))) he he2 hpl
theorem Bs.del {μ μ' : Mu} {D : Addr} (h : Bs b μ μ') (hD : μ D = none) (hb : D ≠ b) : Bs b μ (μ'.del D) :=
  ⟨fun a l n e => (if_neg (ne_own e hD)).trans (h.old a l n e), fun p q t e => let ⟨p', q', t', e'⟩ := h.box p q t e; ⟨p', q', t', (if_neg fun z => hb z.symm).trans e'⟩, h.thg, h.cls⟩
variable {iter elt c : Expr} {scope : Scope} {fi : DenL} {fb : DenB}
theorem lc_sound {t : Tgt} {vs : List Nat} {E : Env} {ρ : Rho} {μ μ1 μ0 : Mu} {xs : List PyData} {done : List OV → Mu → Prop} (R : Rel b μ0 E ρ μ) (s1 : Bs b μ μ1) (he : ∀ s H C cl fp, SE b (Blk X scope s H C cl fp) elt fx) (hz : xs.length ≤ 50000)
    (q : (mapT (fun x => (liftO (putE t x (wipeE E vs))).bind fx) xs).All fun ys => ∀ μ', Bs b μ μ' → done (ys.map .im) μ') : LcD X scope [] elt t vs ρ ⟨xs.map .im, fun _ => True⟩ μ1 done := by
  refine ⟨fun i acc μ' => Bs b μ μ' ∧ ∃ ds : List PyData, acc = ds.map .im ∧ (mapT (fun x => (liftO (putE t x (wipeE E vs))).bind fx) (xs.drop i)).All fun ys => ∀ μ'', Bs b μ μ'' → done ((ds ++ ys).map .im) μ'', by simpa using hz, ⟨s1, [], rfl, q⟩, fun _ _ _ _ _ _ => trivial, fun acc μ' ⟨s, ds, ha, h⟩ => ?_, fun i acc μ' o ho ⟨s, ds, ha, h⟩ => ?_⟩
  · rw [List.drop_eq_nil_of_le (by simp)] at h
    have := h μ' s
    rw [List.append_nil] at this
    rw [ha]
    exact this
  · dsimp only at ho
    rw [List.getElem?_map] at ho
    cases hx : xs[i]? with
    | none =>
      rw [hx] at ho
      cases ho
    | some x =>
      rw [hx] at ho
      cases ho
      obtain ⟨hi, rfl⟩ := List.getElem?_eq_some_iff.mp hx
      rw [List.drop_eq_getElem_cons hi, mapT] at h
      obtain ⟨E', hE, h⟩ := lift_all (all_bind.mp (all_bind.mp h))
      obtain ⟨ρ', hp, _⟩ := ((R.step s).wipes vs).putT hE
      refine ⟨ρ', hp, fun Dl hD => ?_⟩
      dsimp only [DTb]
      rw [if_pos rfl]
      intro s' H C cl fp
      have s2 : Bs b μ (μ'.put Dl acc) := s.trans (Bs.put hD)
      obtain ⟨ρ2, hp2, R2⟩ := ((R.step s2).wipes vs).putT hE
      rw [hp] at hp2
      cases hp2
      have nb : Dl ≠ b := fun z => by
        obtain ⟨u, q, t, e⟩ := (R.step s).bxs
        rw [z, e] at hD
        cases hD
      refine (he s' H C cl fp).run μ0 E' ρ' _ _ R2 (h.imp fun y h μ3 s3 => ?_)
      obtain ⟨pb1, pb2⟩ := put_back (s3.old Dl acc nb put_same)
      refine ⟨μ3.del Dl, pb1, pb2, (s2.trans s3).del ?_ nb, ds ++ [y], by rw [ha, List.map_append]; rfl, (all_bind.mp h).imp fun ys h => ?_⟩
      · cases z : μ Dl with
        | none => rfl
        | some l =>
          rw [s.old Dl l nb z] at hD
          cases hD
      · rw [List.append_assoc]
        exact h
theorem se_lc {own : List (Str × Nat)} (t : Tgt) (hc : X.calm = true) (hN : X.N.Nodup) (ok : BlkOk X.N X.env.scope scope own) (hs : ∀ i ∈ t.slots, i ∈ own.map (·.2))
    (hg : ∀ s H C cl fp, PG (Blk X scope s H C cl fp) tg (TgtG X.K t)) (hi : SI b X tg iter fi) (he : ∀ s H C cl fp, SE b (Blk X scope s H C cl fp) elt fx) (hf : ∀ x, foldedSetIterable iter X.env x = pure x := by intro _; rfl) : SE b X (.ListComp elt [⟨tg, iter, [], 0⟩] scope pos) (dLc t (own.map (·.2)) fi fx) := .mk fun μ0 E ρ μ Φ R h =>
  de_lc t hc hN ok hs hg (hi.run μ0 E ρ μ _ R ((all_bind.mp h).imp fun xs q μ1 s1 => by
    obtain ⟨hz, q⟩ := few_le (all_bind.mp q)
    exact lc_sound R s1 he hz ((all_bind.mp q).imp fun ys q μ' s => ⟨ys, rfl, q μ' s⟩))) hf
theorem lf_sound {t : Tgt} {vs : List Nat} {E : Env} {ρ : Rho} {μ μ1 μ0 : Mu} {xs : List PyData} {done : List OV → Mu → Prop} (R : Rel b μ0 E ρ μ) (s1 : Bs b μ μ1) (hcn : ∀ s H C cl fp, ST b (Blk X scope s H C cl fp) c fb) (he : ∀ s H C cl fp, SE b (Blk X scope s H C cl fp) elt fx) (hz : xs.length ≤ 50000)
    (q : (pickT (fun x => (liftO (putE t x (wipeE E vs))).bind fun E' => (fb E').bind fun k => match k with | true => (fx E').bind fun y => .ret (some y) | false => .ret none) xs).All fun ys => ∀ μ', Bs b μ μ' → done (ys.map .im) μ') : LcD X scope [c] elt t vs ρ ⟨xs.map .im, fun _ => True⟩ μ1 done := by
  refine ⟨fun i acc μ' => Bs b μ μ' ∧ ∃ ds : List PyData, acc = ds.map .im ∧ (pickT (fun x => (liftO (putE t x (wipeE E vs))).bind fun E' => (fb E').bind fun k => match k with | true => (fx E').bind fun y => .ret (some y) | false => .ret none) (xs.drop i)).All fun ys => ∀ μ'', Bs b μ μ'' → done ((ds ++ ys).map .im) μ'', by simpa using hz, ⟨s1, [], rfl, q⟩, fun _ _ _ _ _ _ => trivial, fun acc μ' ⟨s, ds, ha, h⟩ => ?_, fun i acc μ' o ho ⟨s, ds, ha, h⟩ => ?_⟩
  · rw [List.drop_eq_nil_of_le (by simp)] at h
    have := h μ' s
    rw [List.append_nil] at this
    rw [ha]
    exact this
  · dsimp only at ho
    rw [List.getElem?_map] at ho
    cases hx : xs[i]? with
    | none =>
      rw [hx] at ho
      cases ho
    | some x =>
      rw [hx] at ho
      cases ho
      obtain ⟨hi, rfl⟩ := List.getElem?_eq_some_iff.mp hx
      rw [List.drop_eq_getElem_cons hi, pickT] at h
      obtain ⟨E', hE, h⟩ := lift_all (all_bind.mp (all_bind.mp h))
      obtain ⟨ρ', hp, _⟩ := ((R.step s).wipes vs).putT hE
      refine ⟨ρ', hp, fun Dl hD => ?_⟩
      have s2 : Bs b μ (μ'.put Dl acc) := s.trans (Bs.put hD)
      obtain ⟨ρ2, hp2, R2⟩ := ((R.step s2).wipes vs).putT hE
      rw [hp] at hp2
      cases hp2
      have nb : Dl ≠ b := fun z => by
        obtain ⟨u, q, t, e⟩ := (R.step s).bxs
        rw [z, e] at hD
        cases hD
      have nD : μ Dl = none := by
        cases z : μ Dl with
        | none => rfl
        | some l =>
          rw [s.old Dl l nb z] at hD
          cases hD
      show ∀ s' H C cl fp, DT _ _ _ _ _
      intro s' H C cl fp
      refine (hcn s' H C cl fp).run μ0 E' ρ' _ _ R2 ((all_bind.mp h).imp fun k h μ3 s3 => ?_)
      cases k with
      | true =>
        rw [if_pos rfl]
        intro s' H C cl fp
        refine (he s' H C cl fp).run μ0 E' ρ' _ _ (R2.step s3) ((all_bind.mp h).imp fun y h μ4 s4 => ?_)
        obtain ⟨pb1, pb2⟩ := put_back ((s3.trans s4).old Dl acc nb put_same)
        refine ⟨μ4.del Dl, pb1, pb2, (s2.trans (s3.trans s4)).del nD nb, ds ++ [y], by rw [ha, List.map_append]; rfl, (all_bind.mp h).imp fun ys h => ?_⟩
        rw [List.append_assoc]
        exact h
      | false =>
        rw [if_neg (by decide)]
        obtain ⟨pb1, pb2⟩ := put_back (s3.old Dl acc nb put_same)
        exact ⟨μ3.del Dl, pb1, pb2, (s2.trans s3).del nD nb, ds, ha, (all_bind.mp h).imp fun ys h => h⟩
theorem se_lf {own : List (Str × Nat)} (t : Tgt) (hc : X.calm = true) (hN : X.N.Nodup) (ok : BlkOk X.N X.env.scope scope own) (hs : ∀ i ∈ t.slots, i ∈ own.map (·.2))
    (hg : ∀ s H C cl fp, PG (Blk X scope s H C cl fp) tg (TgtG X.K t)) (hi : SI b X tg iter fi) (hcn : ∀ s H C cl fp, ST b (Blk X scope s H C cl fp) c fb) (he : ∀ s H C cl fp, SE b (Blk X scope s H C cl fp) elt fx) (hf : ∀ x, foldedSetIterable iter X.env x = pure x := by intro _; rfl) : SE b X (.ListComp elt [⟨tg, iter, [c], 0⟩] scope pos) (dLf t (own.map (·.2)) fi fb fx) := .mk fun μ0 E ρ μ Φ R h =>
  de_lc t hc hN ok hs hg (hi.run μ0 E ρ μ _ R ((all_bind.mp h).imp fun xs q μ1 s1 => by
    obtain ⟨hz, q⟩ := few_le (all_bind.mp q)
    exact lf_sound R s1 hcn he hz ((all_bind.mp q).imp fun ys q μ' s => ⟨ys, rfl, q μ' s⟩))) hf
end
end Nx
namespace Nx
open PySem PySem.Spec PyProof.Rows L2
open Tree
section
variable {b : Addr} {X : Cx} {e x y z tg iter elt c : Expr} {es : List Expr} {f fx fy fz : DenE} {fs fi : DenL} {fb : DenB} {pos p : Pos} {st : Stmt} {ss : List Stmt} {g h : DenS} {scope : Scope}
theorem ss_nil : SSs b X [] s0 := .mk fun μ0 E ρ μ D R q => dss_nil (q ρ μ R)
theorem ss_one (hs : SS b X st g) : SSs b X [st] g := .mk fun μ0 E ρ μ D R q => dss_one (hs.run μ0 E ρ μ D R q)
theorem ss_cons (hs : SS b X st g) (ht : SSs b X ss h) : SSs b X (st :: ss) (sC g h) := .mk fun μ0 E ρ μ D R q =>
  dss_cons (hs.run μ0 E ρ μ _ R ((all_bind.mp q).imp fun o q => by
    cases o with
    | nx E' => exact fun ρ' μ' R' => ht.run μ0 E' ρ' μ' D R' q
    | rt v => exact q
    | bk E' => exact q
    | ct E' => exact q))
theorem ss_frz (i : Nat) (ht : SSs b X ss h) : SSs b X ss (sFrz i h) := .mk fun μ0 E ρ μ D R q => by
  unfold sFrz frzE at q
  split at q
  · rename_i l hl
    obtain ⟨o, h1, p, rfl, _, _, hp⟩ := R.get i _ hl
    exact dss_frz h1 hp (ht.run μ0 _ _ _ D (R.frz hl h1) q)
  · exact ht.run μ0 E ρ μ D R q
theorem ss_ret (hx : SE b X x fx) : SS b X (.Return (some x) pos) (sRet fx) := .mk fun μ0 E ρ μ D R q =>
  ds_ret (hx.run μ0 E ρ μ _ R ((all_bind.mp q).imp fun d q μ1 s1 => q μ1 (R.ext.trans s1)))
theorem ss_if {s1 s2 : List Stmt} (hc : ST b X c fb) (h1 : SSs b X s1 g) (h2 : SSs b X s2 h) : SS b X (.If c s1 s2 pos) (sIf fb g h) := .mk fun μ0 E ρ μ D R q =>
  ds_if (hc.run μ0 E ρ μ _ R ((all_bind.mp q).imp fun k q μ1 s1 => by
    cases k with
    | true =>
      rw [if_pos rfl]
      exact h1.run μ0 E ρ μ1 D (R.step s1) q
    | false =>
      rw [if_neg (by decide)]
      exact h2.run μ0 E ρ μ1 D (R.step s1) q))
theorem ss_set (i : Nat) {n : Str} {p' : Pos} (hN : X.N.Nodup) (hi : X.N[i]? = some n) (hl : Loc X.env.scope n) (hx : SE b X x fx) (hs : swapsWith x (some (.Name n p')) pos.line X.env = pure false := by rfl)
    (hf : X.fn n = true ∨ X.env.scope.names.lookup n = some .local := by first | exact .inl rfl | exact .inr rfl | assumption) : SS b X (.Assign [.Name n p'] x pos) (sSet i fx) := .mk fun μ0 E ρ μ D R q =>
  ds_set i hN hi hl (hx.run μ0 E ρ μ _ R ((all_bind.mp q).imp fun d q μ1 s1 => q _ μ1 ((R.step s1).setD i d))) hs hf
theorem ss_asg (t : Tgt) (hg : PG X tg (TgtG X.K t)) (hx : SE b X x fx) (hs : swapsWithSole [tg] x pos.line X.env = pure false := by rfl) (hw : swappedStores [tg] x X.env = pure none := by rfl)
    (h1 : (assignEach [tg] X.env).map (·.2) = [assign tg X.env] := by rfl) : SS b X (.Assign [tg] x pos) (sAsg t fx) := .mk fun μ0 E ρ μ D R q =>
  ds_asg t hg (hx.run μ0 E ρ μ _ R ((all_bind.mp q).imp fun d q μ1 s1 => by
    obtain ⟨E', hE, q⟩ := lift_all (all_bind.mp q)
    obtain ⟨ρ', hp, R'⟩ := (R.step s1).putT hE
    exact ⟨ρ', hp, q ρ' μ1 R'⟩)) hs hw h1
theorem lC_all {fx : DenE} {fs : DenL} {E : Env} {Q : List PyData → Prop} (h : (lC fx fs E).All Q) : (fx E).All fun d => (fs E).All fun ds => Q (d :: ds) := (all_bind.mp h).imp fun d q => (all_bind.mp q).imp fun ds q => q
theorem lC_mk {fx : DenE} {fs : DenL} {E : Env} {Q : List PyData → Prop} (h : (fx E).All fun d => (fs E).All fun ds => Q (d :: ds)) : (lC fx fs E).All Q := all_bind.mpr (h.imp fun d q => all_bind.mpr (q.imp fun ds q => q))
theorem ss_par (i j : Nat) {n m : Str} {px py pt : Pos} {kt k2 pt2} (hc : X.calm = true) (hN : X.N.Nodup) (hi : X.N[i]? = some n) (hj : X.N[j]? = some m) (hij : i ≠ j)
    (hx : X.env.scope.names.lookup n = some .local) (hy : X.env.scope.names.lookup m = some .local) (hw : swappedStores [.Tuple [.Name n px, .Name m py] kt pt] (.Tuple [x, y] k2 pt2) X.env = pure (some [n, m]))
    (ha : SD b X [x, y] (lC fx (lC fy l0)))
    (hs : swapsWithSole [.Tuple [.Name n px, .Name m py] kt pt] (.Tuple [x, y] k2 pt2) pos.line X.env = pure false := by rfl) : SS b X (.Assign [.Tuple [.Name n px, .Name m py] kt pt] (.Tuple [x, y] k2 pt2) pos) (sPar [i, j] (lC fx (lC fy l0))) := .mk fun μ0 E ρ μ D R q =>
  ds_par i j hc hN hi hj hij hx hy hw (ha.run μ0 E ρ μ _ R (by
    have q := lC_all (all_bind.mp q)
    refine lC_mk (q.imp fun d q => lC_mk ((lC_all q).imp fun d' q => fun μ1 s1 => ?_))
    exact ⟨_, _, rfl, q _ μ1 (((R.step s1).setD i d).setD j d')⟩)) hs
theorem ss_for {body : List Stmt} (t : Tgt) (hp : PassesOwn (model X.prog X.w) X.A X.env X.xe) (hc : X.calm = true) (hg : PG X tg (TgtG X.K t)) (hi : SI b X tg iter fi) (hb : SSs b X body g)
    (hs : ∀ x, foldedSetIterable iter X.env x = pure x := by intro _; rfl) : SS b X (.For tg iter body [] pos) (sFor t fi g) := .mk fun μ0 E ρ μ D R q =>
  ds_for t hp hc hg (hi.run μ0 E ρ μ _ R ((all_bind.mp q).imp fun xs q μ1 s1 => by
    refine ⟨fun i ρ' μ' => ∃ E', Rel b μ0 E' ρ' μ' ∧ (forT t g (xs.drop i) E').All (OutOk b μ0 D), ⟨E, R.step s1, q⟩, fun _ _ _ _ => trivial, fun i z ρ' μ' hz hP => ?_, fun ρ' μ' hP => ?_⟩
    · obtain ⟨E', R', q⟩ := hP
      dsimp only at hz
      rw [List.getElem?_map] at hz
      cases hx : xs[i]? with
      | none =>
        rw [hx] at hz
        cases hz
      | some x =>
        rw [hx] at hz
        cases hz
        obtain ⟨hi, rfl⟩ := List.getElem?_eq_some_iff.mp hx
        rw [List.drop_eq_getElem_cons hi, forT] at q
        obtain ⟨E2, hE, q⟩ := lift_all (all_bind.mp q)
        obtain ⟨ρ2, hp2, R2⟩ := R'.putT hE
        refine ⟨ρ2, hp2, hb.run μ0 E2 ρ2 μ' _ R2 ((all_bind.mp q).imp fun o q => ?_)⟩
        cases o with
        | nx E3 => exact fun ρ3 μ3 R3 => ⟨E3, R3, q⟩
        | ct E3 => exact fun ρ3 μ3 R3 => ⟨E3, R3, q⟩
        | bk E3 => exact fun ρ3 μ3 R3 => q ρ3 μ3 R3
        | rt v => exact q
    · obtain ⟨E', R', q⟩ := hP
      dsimp only at q
      rw [List.length_map, List.drop_length] at q
      exact q ρ' μ' R')) hs
theorem ss_wh {body : List Stmt} (n : Nat) (hp : PassesOwn (model X.prog X.w) X.A X.env X.xe) (hc : ST b X c fb) (hb : SSs b X body g) : SS b X (.While c body [] pos) (sWh n fb g) := .mk fun μ0 E ρ μ D R q =>
  ds_while hp (fun n ρ' μ' => ∃ E', Rel b μ0 E' ρ' μ' ∧ (whT fb g n E').All (OutOk b μ0 D)) n ⟨E, R, q⟩ fun n ρ' μ' hP => by
    obtain ⟨E', R', q⟩ := hP
    cases n with
    | zero => exact q.elim
    | succ n =>
      refine hc.run μ0 E' ρ' μ' _ R' ((all_bind.mp q).imp fun k q μ1 s1 => ?_)
      cases k with
      | false =>
        rw [if_neg (by decide)]
        exact q ρ' μ1 (R'.step s1)
      | true =>
        rw [if_pos rfl]
        refine hb.run μ0 E' ρ' μ1 _ (R'.step s1) ((all_bind.mp q).imp fun o q => ?_)
        cases o with
        | nx E3 => exact fun ρ3 μ3 R3 => ⟨n, by omega, E3, R3, q⟩
        | ct E3 => exact fun ρ3 μ3 R3 => ⟨n, by omega, E3, R3, q⟩
        | bk E3 => exact fun ρ3 μ3 R3 => q ρ3 μ3 R3
        | rt v => exact q
theorem ss_setLc {own : List (Str × Nat)} (t : Tgt) (i : Nat) {n : Str} {py spos : Pos} (hc : X.calm = true) (hN : X.N.Nodup) (hy : X.N[i]? = some n) (hyl : X.env.scope.names.lookup n = some .local)
    (hsw : swapsWith (.ListComp elt [⟨tg, iter, [], 0⟩] scope pos) (some (.Name n py)) spos.line X.env = pure true) (ok : BlkOk X.N X.env.scope scope own) (hs : ∀ i ∈ t.slots, i ∈ own.map (·.2))
    (hg : ∀ s H C cl fp, PG (Blk X scope s H C cl fp) tg (TgtG X.K t)) (hi : SI b X tg iter fi) (he : ∀ s H C cl fp, SE b (Blk X scope s H C cl fp) elt fx)
    (hf : ∀ x, foldedSetIterable iter X.env x = pure x := by intro _; rfl) : SS b X (.Assign [.Name n py] (.ListComp elt [⟨tg, iter, [], 0⟩] scope pos) spos) (sSet i (dLc t (own.map (·.2)) fi fx)) := .mk fun μ0 E ρ μ D R h =>
  ds_setLc t i hc hN hy hyl hsw ok hs hg (hi.run μ0 E ρ μ _ R ((all_bind.mp (all_bind.mp h)).imp fun xs q μ1 s1 => by
    obtain ⟨hz, q⟩ := few_le (all_bind.mp q)
    exact lc_sound R s1 he hz ((all_bind.mp q).imp fun ys q μ' s => ⟨ys, rfl, q _ μ' ((R.step s).setD i _)⟩))) hf
structure SO (b : Addr) (X : Cx) (e : Expr) (f : DenE) : Prop where
  run : ∀ μ0 E ρ μ Φ, Rel b μ0 E ρ μ → (f E).All (fun d => ∃ ds, d = .list ds ∧ ∀ μ' p, Bs b μ μ' → μ' p = none → Φ (.own p) (μ'.put p (ds.map .im))) → DE X e ρ μ Φ
theorem so_lst (h : SD b X es fs) : SO b X (.List es pos) (dL fs) := .mk fun μ0 E ρ μ Φ R q =>
  de_lstO (h.run μ0 E ρ μ _ R ((all_bind.mp q).imp fun ds q μ1 s1 => by
    obtain ⟨hz, xs, e, q⟩ := small_le (all_bind.mp q)
    cases e
    exact ⟨by rw [List.length_map]; exact hz, fun p hp => q μ1 p s1 hp⟩))
theorem ss_own (i : Nat) {n : Str} {p' : Pos} (hN : X.N.Nodup) (hi : X.N[i]? = some n) (hl : Loc X.env.scope n) (hx : SO b X x fx) (hs : swapsWith x (some (.Name n p')) pos.line X.env = pure false := by rfl)
    (hf : X.fn n = true ∨ X.env.scope.names.lookup n = some .local := by first | exact .inl rfl | exact .inr rfl | assumption) : SS b X (.Assign [.Name n p'] x pos) (sOwn i fx) := .mk fun μ0 E ρ μ D R q =>
  ds_set i hN hi hl (hx.run μ0 E ρ μ _ R ((all_bind.mp q).imp fun d q => by
    cases d with
    | list xs => exact ⟨xs, rfl, fun μ' p s hp => q _ _ ((R.step s).setO i hp)⟩
    | _ => exact q.elim)) hs hf
theorem ss_app (i : Nat) {n : Str} {np apos cpos : Pos} (hN : X.N[i]? = some n) (hv : Vis X.env.scope n) (hx : SE b X x fx) (hd : (n == ("__debug__" : Str)) = false := by decide) (hcd : (n == ("__classdict__" : Str)) = false := by decide)
    (hbase : attributeBase (.Name n np) "append" X.env (eval (.Name n np) X.env) = eval (.Name n np) X.env := by rfl)
    (hfew : ((backTo cpos (starEach [x] X.env)).all (fun x => !x.1) && (backToKw cpos (keywordEach [] X.env)).all (fun x => x.1.isSome) && decide ([x].length + ([] : List Keyword).length + (if ([] : List Keyword).isEmpty then 0 else 1) < 30)) = true := by rfl)
    (hline : (apos.endLine == cpos.line) = true := by rfl) (hst : starEach [x] X.env = (false, eval x X.env) :: starEach [] X.env := by rfl) (hplain : (backTo cpos (starEach [] X.env)).any (·.1) = false := by rfl)
    (hs : swapsWith (.Call (.Attribute (.Name n np) "append" apos) [x] [] cpos) none pos.line X.env = pure false := by rfl) : SS b X (.Expr (.Call (.Attribute (.Name n np) "append" apos) [x] [] cpos) pos) (sApp i fx) := .mk fun μ0 E ρ μ D R q => by
  unfold sApp at q
  split at q
  · rename_i l hl
    obtain ⟨o, h1, p, rfl, nb, h0, hp⟩ := R.get i _ hl
    refine ds_expr (de_append (de_var i hN hv h1 ⟨p, _, rfl, hp, hx.run μ0 E ρ μ _ R ((all_bind.mp q).imp fun y q μ2 s2 => ?_)⟩ hd hcd) hbase hfew hline hst hplain) hs
    obtain ⟨hz, q⟩ := small_le (all_bind.mp q)
    refine ⟨_, s2.old p _ nb hp, by rw [List.length_map]; omega, ?_⟩
    have := q ρ _ ((R.step s2).chg (es := l ++ [y]) hl h1)
    rw [List.map_append] at this
    exact this
  · exact q.elim
end
end Nx
namespace Nx
open PySem PySem.Spec PyProof.Rows L2
open Tree
instance {i j : Int} : Decidable (CMul i j) := by unfold CMul; infer_instance
instance {i j : Int} : Decidable (CDiv i j) := by unfold CDiv; infer_instance
instance {i j : Int} : Decidable (CPow i j) := by unfold CPow; infer_instance
def pAdd : PyData → PyData → Option PyData
  | .int i, .int j => some (.int (i + j))
  | .list xs, .list ys => if xs.length + ys.length ≤ 100000 then some (.list (xs ++ ys)) else none
  | .tuple xs, .tuple ys => if xs.length + ys.length ≤ 100000 then some (.tuple (xs ++ ys)) else none
  | .str x, .str y => if x.length + y.length ≤ 100000 then some (.str (x ++ y)) else none
  | _, _ => none
def pSub : PyData → PyData → Option PyData
  | .int i, .int j => some (.int (i - j))
  | _, _ => none
def pMod : PyData → PyData → Option PyData
  | .int i, .int j => if 0 < j then some (.int (i % j)) else none
  | _, _ => none
def pDiv : PyData → PyData → Option PyData
  | .int i, .int j => if CDiv i j then some (.int (i / j)) else none
  | _, _ => none
def pMul : PyData → PyData → Option PyData
  | .int i, .int j => if CMul i j then some (.int (i * j)) else none
  | .list xs, .int k => if -100000 ≤ k ∧ k ≤ 100000 ∧ xs.length * k.toNat ≤ 100000 then some (.list (List.replicate k.toNat xs).flatten) else none
  | .tuple xs, .int k => if xs ≠ [] ∧ 1 ≤ k ∧ k ≤ 1000 ∧ xs.length ≤ 1000 then some (.tuple (List.replicate k.toNat xs).flatten) else none
  | _, _ => none
def pPow : PyData → PyData → Option PyData
  | .int i, .int j => if CPow i j then some (.int (i ^ j.toNat)) else none
  | _, _ => none
section
variable {b : Addr} {X : Cx} {e x y z : Expr} {es : List Expr} {f fx fy fz : DenE} {fs fi : DenL} {fb : DenB} {pos p : Pos}
theorem od_catT {xs ys : List PyData} {μ : Mu} {Φ : OV → Mu → Prop} (hz : xs.length + ys.length ≤ 100000) (h : Φ (.im (.tuple (xs ++ ys))) μ) : OpD (rCatA X.K) (.im (.tuple xs)) (.im (.tuple ys)) μ Φ := fun G H vx vy m rx ry Q f => by
  cases rx with
  | tup h1 w1 =>
    cases ry with
    | tup h2 w2 =>
      refine ⟨_, _, _, _, rfl, rfl, .inl (.inl (m.ex _ _ h1)), .inl (.inl (m.ex _ _ h2)), by rw [w1.length, w2.length]; exact Nat.le_trans hz (by decide), fun e => ?_, fun _ e => ?_, fun _ _ p hp => ?_⟩
      · subst e
        cases w1
        exact f _ _ _ _ _ h (Ex.refl G) m (Dv.tup h2 w2)
      · subst e
        cases w2
        rw [List.append_nil] at h
        exact f _ _ _ _ _ h (Ex.refl G) m (Dv.tup h1 w1)
      · have n := m.ex.free hp
        exact f _ _ _ _ _ h (Ex.new n) (m.lay hp) (Dv.tup upd_same ((w1.append w2).mono (Ex.new n)))
theorem se_add (hx : SE b X x fx) (hy : SE b X y fy) : SE b X (.BinOp x .Add y pos) (d2 pAdd fx fy) := by
  refine se_op (((op_add.or op_cat).or op_add_str).or op_catA) (fun d d' v μ Φ hg q => ?_) hx hy
  unfold pAdd at hg
  split at hg
  · cases hg
    exact .or (.inl (.or (.inl (.or (.inl (od_I0 q))))))
  · split at hg
    · rename_i hz
      cases hg
      exact .or (.inl (.or (.inl (.or (.inr (od_cat hz q))))))
    · cases hg
  · split at hg
    · rename_i hz
      cases hg
      exact .or (.inr (od_catT hz q))
    · cases hg
  · split at hg
    · rename_i hz
      cases hg
      refine .or (.inl (.or (.inr fun G H vx vy m rx ry Q f => ?_)))
      cases rx
      cases ry
      exact ⟨_, _, rfl, rfl, Nat.le_trans hz (by decide), f _ _ _ _ _ q (Ex.refl G) m (Dv.str _)⟩
    · cases hg
  · cases hg
theorem se_sub (hx : SE b X x fx) (hy : SE b X y fy) : SE b X (.BinOp x .Sub y pos) (d2 pSub fx fy) := by
  refine se_op op_sub (fun d d' v μ Φ hg q => ?_) hx hy
  unfold pSub at hg
  split at hg
  · cases hg
    exact od_I0 q
  · cases hg
theorem se_mod (hx : SE b X x fx) (hy : SE b X y fy) : SE b X (.BinOp x .Mod y pos) (d2 pMod fx fy) := by
  refine se_op op_mod (fun d d' v μ Φ hg q => ?_) hx hy
  unfold pMod at hg
  split at hg
  · split at hg
    · rename_i hj
      cases hg
      exact od_I hj q
    · cases hg
  · cases hg
theorem se_div (hx : SE b X x fx) (hy : SE b X y fy) : SE b X (.BinOp x .FloorDiv y pos) (d2 pDiv fx fy) := by
  refine se_op op_fdiv (fun d d' v μ Φ hg q => ?_) hx hy
  unfold pDiv at hg
  split at hg
  · split at hg
    · rename_i hj
      cases hg
      exact od_I hj q
    · cases hg
  · cases hg
theorem se_pow (hx : SE b X x fx) (hy : SE b X y fy) : SE b X (.BinOp x .Pow y pos) (d2 pPow fx fy) := by
  refine se_op op_pow (fun d d' v μ Φ hg q => ?_) hx hy
  unfold pPow at hg
  split at hg
  · split at hg
    · rename_i hj
      cases hg
      exact od_I hj q
    · cases hg
  · cases hg
theorem rep_dv {G : Hp} {ds : List PyData} : ∀ (n : Nat) {xs : List V}, DvA G xs ds → DvA G (List.replicate n xs).flatten (List.replicate n ds).flatten := by
  intro n xs w
  induction n with
  | zero => exact .nil
  | succ n ih =>
    rw [List.replicate_succ, List.replicate_succ, List.flatten_cons, List.flatten_cons]
    exact w.append ih
theorem se_mul (hx : SE b X x fx) (hy : SE b X y fy) : SE b X (.BinOp x .Mult y pos) (d2 pMul fx fy) := by
  refine se_op (((op_mul.or op_rep).or op_repT).or op_repT1) (fun d d' v μ Φ hg q => ?_) hx hy
  unfold pMul at hg
  split at hg
  · split at hg
    · rename_i hj
      cases hg
      exact .or (.inl (.or (.inl (.or (.inl (od_I hj q))))))
    · cases hg
  · split at hg
    · rename_i hj
      cases hg
      refine .or (.inl (.or (.inl (.or (.inr fun G H vx vy m rx ry Q f => ?_)))))
      cases ry
      cases rx with
      | lst h1 w1 =>
        refine ⟨_, _, _, rfl, rfl, m.ex _ _ h1, by omega, by omega, by rw [w1.length]; exact Nat.le_trans hj.2.2 (by decide), fun p hp => ?_⟩
        have n := m.ex.free hp
        exact f _ _ _ _ _ q (Ex.new n) (m.lay hp) (Dv.lst upd_same ((rep_dv _ w1).mono (Ex.new n)))
    · cases hg
  · split at hg
    · rename_i xs k hj
      cases hg
      by_cases hk : k = 1
      · subst hk
        refine .or (.inr fun G H vx vy m rx ry Q f => ?_)
        have e1 : (List.replicate (1 : Int).toNat xs).flatten = xs := by
          show [xs].flatten = xs
          simp
        rw [e1] at q
        have rx : Dv G vx (.tuple xs) := rx
        cases ry
        cases rx with
        | tup h1 w1 => exact ⟨_, _, rfl, rfl, .inl (.inl (m.ex _ _ h1)), f _ _ _ _ _ q (Ex.refl G) m (Dv.tup h1 w1)⟩
      · refine .or (.inl (.or (.inr fun G H vx vy m rx ry Q f => ?_)))
        cases ry
        cases rx with
        | tup h1 w1 =>
          refine ⟨_, _, _, rfl, rfl, .inl (.inl (m.ex _ _ h1)), fun e => hj.1 (by have := w1.length; rw [e] at this; exact List.length_eq_zero_iff.mp this.symm), by omega, hj.2.2.1, by rw [w1.length]; exact hj.2.2.2, fun p hp => ?_⟩
          have n := m.ex.free hp
          exact f _ _ _ _ _ q (Ex.new n) (m.lay hp) (Dv.tup upd_same ((rep_dv _ w1).mono (Ex.new n)))
    · cases hg
  · cases hg
def cI (g : Int → Int → Bool) : PyData → PyData → Option Bool
  | .int i, .int j => some (g i j)
  | _, _ => none
theorem okI {g : Int → Int → Bool} : OkCmp (rI0 fun i j => .bl (g i j)) (cI g) := fun d d' v μ Φ hg q => by
  unfold cI at hg
  split at hg
  · cases hg
    exact od_B0 q
  · cases hg
def pEq (d e : PyData) : Option Bool := match d, e with
  | .int i, .int j => some (decide (i = j))
  | .str i, .str j => some (decide (i = j))
  | d, e => if SeqAt.shaped d && SeqAt.shaped e then some (PyData.eqv d e) else none
def pNe (d e : PyData) : Option Bool := match pEq d e with
  | some k => some !k
  | none => none
theorem ok_eq : OkCmp (fun x y H Q => (rI0 (fun i j => .bl (decide (i = j))) x y H Q ∨ rEqD X.K x y H Q) ∨ rEq x y H Q) pEq := fun d d' v μ Φ hg q => by
  unfold pEq at hg
  split at hg
  · cases hg
    exact .or (.inl (.or (.inl (od_B0 q))))
  · cases hg
    exact .or (.inr (od_eqS q))
  · split at hg
    · rename_i hs
      cases hg
      obtain ⟨h1, h2⟩ := Bool.and_eq_true_iff.mp hs
      exact .or (.inl (.or (.inr (od_eq (.im _) (.im _) h1 h2 q))))
    · cases hg
theorem ok_ne : OkCmp (fun x y H Q => (rI0 (fun i j => .bl (!decide (i = j))) x y H Q ∨ rNeD X.K x y H Q) ∨ rNe x y H Q) pNe := fun d d' v μ Φ hg q => by
  unfold pNe at hg
  split at hg
  · rename_i k hk
    cases hg
    unfold pEq at hk
    split at hk
    · cases hk
      exact .or (.inl (.or (.inl (od_B0 q))))
    · cases hk
      exact .or (.inr (od_neS q))
    · split at hk
      · rename_i hs
        cases hk
        obtain ⟨h1, h2⟩ := Bool.and_eq_true_iff.mp hs
        exact .or (.inl (.or (.inr (od_ne (.im _) (.im _) h1 h2 q))))
      · cases hk
  · cases hg
def asI : List PyData → Option (List Int)
  | [] => some []
  | .int i :: ds => match asI ds with
    | some is => some (i :: is)
    | none => none
  | _ :: _ => none
theorem asI_some : ∀ {ds : List PyData} {is : List Int}, asI ds = some is → ds = iL is
  | [], _, h => by cases h; rfl
  | .int i :: ds, is, h => by
    rw [asI] at h
    split at h
    · rename_i js hj
      cases h
      rw [asI_some hj]
      rfl
    · cases h
  | .none :: _, _, h => by cases h
  | .bool _ :: _, _, h => by cases h
  | .str _ :: _, _, h => by cases h
  | .list _ :: _, _, h => by cases h
  | .tuple _ :: _, _, h => by cases h
  | .dict _ :: _, _, h => by cases h
theorem asI_iL : ∀ is : List Int, asI (iL is) = some is
  | [] => rfl
  | i :: is => by
    show (match asI (iL is) with | some is => some (i :: is) | none => none) = _
    rw [asI_iL is]
def memI (n : Int) : List Int → Bool
  | [] => false
  | m :: ms => decide (m = n) || memI n ms
theorem memI_eq (n : Int) : ∀ ms, memI n ms = decide (n ∈ ms)
  | [] => rfl
  | m :: ms => by
    rw [memI, memI_eq n ms]
    by_cases h : n = m
    · subst h
      simp
    · have h' : ¬ m = n := fun e => h e.symm
      simp [h, h']
def pIn : PyData → PyData → Option Bool
  | .int n, .list ds => match asI ds with | some ns => some (memI n ns) | none => none
  | .int n, .tuple ds => match asI ds with | some ns => some (memI n ns) | none => none
  | _, _ => none
def pNin (d e : PyData) : Option Bool := match pIn d e with
  | some k => some !k
  | none => none
theorem pIn_ok {d e : PyData} {k : Bool} (h : pIn d e = some k) : ∃ (n : Int) (ns : List Int), d = .int n ∧ (e = .list (iL ns) ∨ e = .tuple (iL ns)) ∧ k = decide (n ∈ ns) := by
  unfold pIn at h
  split at h
  · split at h
    · rename_i ns hs
      cases h
      exact ⟨_, ns, rfl, .inl (by rw [asI_some hs]), memI_eq _ _⟩
    · cases h
  · split at h
    · rename_i ns hs
      cases h
      exact ⟨_, ns, rfl, .inr (by rw [asI_some hs]), memI_eq _ _⟩
    · cases h
  · cases h
theorem ok_nin : OkCmp (rIn X.K true) pNin := fun d d' v μ Φ hg q => by
  unfold pNin at hg
  split at hg
  · rename_i k hk
    cases hg
    obtain ⟨n, ns, rfl, h, rfl⟩ := pIn_ok hk
    exact od_in (neg := true) ⟨n, ns, rfl, h.imp (fun e => by rw [e]; exact .im _) (fun e => by rw [e]; exact .im _), q⟩
  · cases hg
def pIsN (d : PyData) : Option PyData := some (.bool (match d with | .none => true | _ => false))
def pNotN (d : PyData) : Option PyData := some (.bool (match d with | .none => false | _ => true))
def t1 (g : PyData → Option Bool) (f : DenE) : DenB := fun E => (f E).bind fun x => liftO (g x)
def qIsN (d : PyData) : Option Bool := some (match d with | .none => true | _ => false)
def qNotN (d : PyData) : Option Bool := some (match d with | .none => false | _ => true)
end
end Nx
namespace Nx
open PySem PySem.Spec PyProof.Rows L2
open Tree
def pLen (d : PyData) : Option PyData := match items d with | some xs => some (.int (xs.length : Nat)) | none => none
def pList (d : PyData) : Option PyData := match items d with | some xs => some (.list xs) | none => none
def pTup (d : PyData) : Option PyData := match items d with | some xs => some (.tuple xs) | none => none
def ins (i : Int) : List Int → List Int
  | [] => [i]
  | j :: js => if i ≤ j then i :: j :: js else j :: ins i js
def isrt : List Int → List Int
  | [] => []
  | i :: is => ins i (isrt is)
theorem ins_perm (i : Int) : ∀ js : List Int, (ins i js).Perm (i :: js)
  | [] => List.Perm.refl _
  | j :: js => by
    rw [ins]
    split
    · exact List.Perm.refl _
    · exact ((ins_perm i js).cons j).trans (List.Perm.swap i j js)
theorem ins_pw (i : Int) : ∀ {js : List Int}, js.Pairwise (· ≤ ·) → (ins i js).Pairwise (· ≤ ·)
  | [], _ => by simp [ins]
  | j :: js, h => by
    obtain ⟨h1, h2⟩ := List.pairwise_cons.mp h
    rw [ins]
    split
    · rename_i hij
      exact List.pairwise_cons.mpr ⟨fun x hx => by
        rcases List.mem_cons.mp hx with rfl | hx
        · exact hij
        · exact Int.le_trans hij (h1 x hx), h⟩
    · rename_i hij
      refine List.pairwise_cons.mpr ⟨fun x hx => ?_, ins_pw i h2⟩
      rcases List.mem_cons.mp ((ins_perm i js).mem_iff.mp hx) with rfl | hx
      · omega
      · exact h1 x hx
theorem isrt_perm : ∀ is : List Int, (isrt is).Perm is
  | [] => List.Perm.refl _
  | i :: is => (ins_perm i (isrt is)).trans ((isrt_perm is).cons i)
theorem isrt_pw : ∀ is : List Int, (isrt is).Pairwise (· ≤ ·)
  | [] => .nil
  | i :: is => ins_pw i (isrt_pw is)
theorem isrt_eq (is : List Int) : isrt is = srt is := srt_eq (isrt_perm is) (isrt_pw is)
def onI (g : List Int → Option PyData) : PyData → Option PyData
  | .list ds => match asI ds with | some ns => g ns | none => none
  | _ => none
theorem onI_some {g : List Int → Option PyData} {d r : PyData} (h : onI g d = some r) : ∃ ns, d = .list (iL ns) ∧ g ns = some r := by
  unfold onI at h
  split at h
  · split at h
    · rename_i ns hs
      exact ⟨ns, by rw [asI_some hs], h⟩
    · cases h
  · cases h
def pSrt : PyData → Option PyData := onI fun ns => some (.list (iL (isrt ns)))
def sumI : List Int → Int
  | [] => 0
  | i :: is => i + sumI is
theorem sumI_eq : ∀ is : List Int, sumI is = is.sum
  | [] => rfl
  | i :: is => by rw [sumI, sumI_eq is, List.sum_cons]
def pSum : PyData → Option PyData := onI fun ns => some (.int (sumI ns))
def maxI : Int → List Int → Int
  | m, [] => m
  | m, i :: is => maxI (if m < i then i else m) is
theorem maxI_mem : ∀ (is : List Int) (m : Int), maxI m is ∈ m :: is
  | [], m => List.mem_singleton.mpr rfl
  | i :: is, m => by
    rw [maxI]
    have := maxI_mem is (if m < i then i else m)
    rcases List.mem_cons.mp this with h | h
    · rw [h]
      split <;> simp
    · exact List.mem_cons_of_mem _ (List.mem_cons_of_mem _ h)
theorem maxI_ge : ∀ (is : List Int) (m : Int), ∀ y ∈ m :: is, y ≤ maxI m is
  | [], m, y, h => by
    rw [List.mem_singleton.mp h]
    exact Int.le_refl _
  | i :: is, m, y, h => by
    rw [maxI]
    have hm := maxI_ge is (if m < i then i else m) _ (List.mem_cons_self ..)
    rcases List.mem_cons.mp h with rfl | h
    · split at hm <;> split <;> omega
    · rcases List.mem_cons.mp h with rfl | h
      · split at hm <;> split <;> omega
      · exact maxI_ge is _ y (List.mem_cons_of_mem _ h)
def pMax : PyData → Option PyData := onI fun ns => match ns with | [] => none | i :: is => some (.int (maxI i is))
def asBs : List PyData → Option (List Bool)
  | [] => some []
  | .bool i :: ds => match asBs ds with
    | some is => some (i :: is)
    | none => none
  | _ :: _ => none
theorem asBs_some : ∀ {ds : List PyData} {is : List Bool}, asBs ds = some is → ds = is.map .bool
  | [], _, h => by cases h; rfl
  | .bool i :: ds, is, h => by
    rw [asBs] at h
    split at h
    · rename_i js hj
      cases h
      rw [asBs_some hj]
      rfl
    · cases h
  | .none :: _, _, h => by cases h
  | .int _ :: _, _, h => by cases h
  | .str _ :: _, _, h => by cases h
  | .list _ :: _, _, h => by cases h
  | .tuple _ :: _, _, h => by cases h
  | .dict _ :: _, _, h => by cases h
theorem asBs_map : ∀ is : List Bool, asBs (is.map .bool) = some is
  | [] => rfl
  | i :: is => by
    show (match asBs (is.map .bool) with | some is => some (i :: is) | none => none) = _
    rw [asBs_map is]
def onB (g : List Bool → Bool) : PyData → Option PyData
  | .list ds => match asBs ds with | some ns => some (.bool (g ns)) | none => none
  | _ => none
theorem onB_some {g : List Bool → Bool} {d r : PyData} (h : onB g d = some r) : ∃ ns, d = .list (ns.map .bool) ∧ .bool (g ns) = r := by
  unfold onB at h
  split at h
  · split at h
    · rename_i ns hs
      cases h
      exact ⟨ns, by rw [asBs_some hs], rfl⟩
    · cases h
  · cases h
def pAny : PyData → Option PyData := onB fun bs => bs.any id
def pIx (d i : PyData) : Option PyData := match items d, i with | some xs, .int i => atI xs i | _, _ => none
section
variable {b : Addr} {X : Cx} {e x y z : Expr} {es : List Expr} {f fx fy fz : DenE} {fs fi : DenL} {fb : DenB} {pos p p2 pos2 : Pos}
theorem items_sq {μ : Mu} {d : PyData} {xs : List PyData} (h : items d = some xs) : SqD μ (.im d) (xs.map .im) := (items_seq h).sq
theorem se_len (B : Bt X.mg) (hg : Gl X "len") (hx : SE b X x fx) (he : starEach [x] X.env = (false, eval x X.env) :: starEach [] X.env := by rfl) (hpl : (backTo pos (starEach [] X.env)).any (·.1) = false := by rfl) : SE b X (.Call (.Name "len" p) [x] [] pos) (d1 pLen fx) := se_1 hx fun ρ μ Φ h => de_len B hg (h.imp fun u μ1 ⟨d, r, e1, hr, q⟩ => by
  subst e1
  unfold pLen at hr
  split at hr
  · rename_i xs hxs
    cases hr
    exact ⟨_, items_sq hxs, by rw [List.length_map]; exact q⟩
  · cases hr) he hpl
theorem se_list (B : Bt X.mg) (hg : Gl X "list") (hx : SE b X x fx) (he : starEach [x] X.env = (false, eval x X.env) :: starEach [] X.env := by rfl) (hpl : (backTo pos (starEach [] X.env)).any (·.1) = false := by rfl) : SE b X (.Call (.Name "list" p) [x] [] pos) (d1 pList fx) := se_1 hx fun ρ μ Φ h => de_list B hg (h.imp fun u μ1 ⟨d, r, e1, hr, q⟩ => by
  subst e1
  unfold pList at hr
  split at hr
  · rename_i xs hxs
    cases hr
    exact ⟨_, items_sq hxs, q⟩
  · cases hr) he hpl
theorem se_tuple (B : Bt X.mg) (hg : Gl X "tuple") (hx : SE b X x fx) (he : starEach [x] X.env = (false, eval x X.env) :: starEach [] X.env := by rfl) (hpl : (backTo pos (starEach [] X.env)).any (·.1) = false := by rfl) : SE b X (.Call (.Name "tuple" p) [x] [] pos) (d1 pTup fx) := se_1 hx fun ρ μ Φ h => de_tuple B hg (h.imp fun u μ1 ⟨d, r, e1, hr, q⟩ => by
  subst e1
  unfold pTup at hr
  split at hr
  · rename_i xs hxs
    cases hr
    exact ⟨_, items_sq hxs, q⟩
  · cases hr) he hpl
theorem se_sorted (B : Bt X.mg) (hg : Gl X "sorted") (hx : SE b X x fx) (he : starEach [x] X.env = (false, eval x X.env) :: starEach [] X.env := by rfl) (hpl : (backTo pos (starEach [] X.env)).any (·.1) = false := by rfl) : SE b X (.Call (.Name "sorted" p) [x] [] pos) (d1 pSrt fx) := se_1 hx fun ρ μ Φ h => de_sorted B hg (h.imp fun u μ1 ⟨d, r, e1, hr, q⟩ => by
  subst e1
  obtain ⟨ns, rfl, h2⟩ := onI_some hr
  cases h2
  refine ⟨ns, .im _, ?_⟩
  rw [← isrt_eq]
  exact q) he hpl
theorem se_sum (B : Bt X.mg) (hc : X.calm = true) (hg : Gl X "sum") (hx : SE b X x fx) (he : starEach [x] X.env = (false, eval x X.env) :: starEach [] X.env := by rfl) (hpl : (backTo pos (starEach [] X.env)).any (·.1) = false := by rfl) : SE b X (.Call (.Name "sum" p) [x] [] pos) (d1 pSum fx) := se_1 hx fun ρ μ Φ h => de_sum B hc hg (h.imp fun u μ1 ⟨d, r, e1, hr, q⟩ => by
  subst e1
  obtain ⟨ns, rfl, h2⟩ := onI_some hr
  cases h2
  refine ⟨ns, .im _, ?_⟩
  rw [← sumI_eq]
  exact q) he hpl
theorem se_max (B : Bt X.mg) (hc : X.calm = true) (hg : Gl X "max") (hx : SE b X x fx) (he : starEach [x] X.env = (false, eval x X.env) :: starEach [] X.env := by rfl) (hpl : (backTo pos (starEach [] X.env)).any (·.1) = false := by rfl) : SE b X (.Call (.Name "max" p) [x] [] pos) (d1 pMax fx) := se_1 hx fun ρ μ Φ h => de_max B hc hg (h.imp fun u μ1 ⟨d, r, e1, hr, q⟩ => by
  subst e1
  obtain ⟨ns, rfl, h2⟩ := onI_some hr
  cases ns with
  | nil => cases h2
  | cons i is =>
    cases h2
    refine ⟨i :: is, .im _, by simp, fun k hk hm => ?_⟩
    have e : k = maxI i is := Int.le_antisymm (maxI_ge is i k hk) (hm _ (maxI_mem is i))
    rw [e]
    exact q) he hpl
theorem se_any (B : Bt X.mg) (hc : X.calm = true) (hg : Gl X "any") (hx : SE b X x fx) (he : starEach [x] X.env = (false, eval x X.env) :: starEach [] X.env := by rfl) (hpl : (backTo pos (starEach [] X.env)).any (·.1) = false := by rfl) : SE b X (.Call (.Name "any" p) [x] [] pos) (d1 pAny fx) := se_1 hx fun ρ μ Φ h => de_any B hc hg (h.imp fun u μ1 ⟨d, r, e1, hr, q⟩ => by
  subst e1
  obtain ⟨ns, rfl, rfl⟩ := onB_some hr
  exact ⟨ns, .im _, q⟩) he hpl
theorem se_ix (hs : PlainIx y) (hx : SE b X x fx) (hy : SE b X y fy) : SE b X (.Subscript x y pos) (d2 pIx fx fy) := se_2 hx hy fun ρ μ Φ h => de_ix hs (h.imp fun u μ1 h1 => h1.imp fun v μ2 ⟨d, d', r, e1, e2, hr, q⟩ => by
  subst e1 e2
  unfold pIx at hr
  cases hxs : items d with
  | none =>
    rw [hxs] at hr
    cases hr
  | some xs =>
    rw [hxs] at hr
    cases d' with
    | int i => exact ⟨_, i, _, items_sq hxs, rfl, atI_im hr, q⟩
    | _ => cases hr)
def oN : Env → Tree (Option Int) := fun _ => .ret none
def oS (f : DenE) : Env → Tree (Option Int) := fun E => (f E).bind fun x => match x with | .int i => .ret (some i) | _ => .fail
structure SOp (b : Addr) (X : Cx) (e : Option Expr) (f : Env → Tree (Option Int)) : Prop where
  run : ∀ μ0 E ρ μ Φ, Rel b μ0 E ρ μ → (f E).All (fun d => ∀ μ', Bs b μ μ' → Φ d μ') → DO X e ρ μ Φ
theorem so_n : SOp b X none oN := .mk fun μ0 E ρ μ Φ R h => h μ (Bs.refl b μ)
theorem so_s (hx : SE b X x fx) : SOp b X (some x) (oS fx) := .mk fun μ0 E ρ μ Φ R h => hx.run μ0 E ρ μ _ R ((all_bind.mp h).imp fun d q μ1 s1 => by
  split at q
  · exact ⟨_, rfl, q μ1 s1⟩
  · exact q.elim)
def pCut (d : PyData) (lo hi : Option Int) : Option PyData := match d with
  | .list xs => some (.list (cutD xs lo hi))
  | .tuple xs => some (.tuple (cutD xs lo hi))
  | _ => none
def dSl (f : DenE) (lo hi : Env → Tree (Option Int)) : DenE := fun E => (f E).bind fun x => (lo E).bind fun l => (hi E).bind fun u => liftO (pCut x l u)
variable {lo hi : Option Expr} {fl fu : Env → Tree (Option Int)}
theorem se_sl (hx : SE b X x fx) (hl : SOp b X lo fl) (hu : SOp b X hi fu) : SE b X (.Subscript x (.Slice lo hi none p2) pos) (dSl fx fl fu) := .mk fun μ0 E ρ μ Φ R h => by
  have hD : DE X x ρ μ fun u μ1 => DO X lo ρ μ1 fun l μ2 => DO X hi ρ μ2 fun v μ3 => ∃ d r, u = .im d ∧ pCut d l v = some r ∧ Φ (.im r) μ3 :=
    hx.run μ0 E ρ μ _ R ((all_bind.mp h).imp fun d q μ1 s1 => hl.run μ0 E ρ μ1 (fun l μ2 => DO X hi ρ μ2 fun v μ3 => ∃ d' r, OV.im d = .im d' ∧ pCut d' l v = some r ∧ Φ (.im r) μ3) (R.step s1) ((all_bind.mp q).imp fun l q μ2 s2 => hu.run μ0 E ρ μ2 (fun v μ3 => ∃ d' r, OV.im d = .im d' ∧ pCut d' l v = some r ∧ Φ (.im r) μ3) ((R.step s1).step s2) ((all_bind.mp q).imp fun u q μ3 s3 => by
      obtain ⟨r, hr, q⟩ := lift_all q
      exact ⟨d, r, rfl, hr, q μ3 ((s1.trans s2).trans s3)⟩)))
  intro G H σ m v Q f
  refine WE.of (pe_slice (SlR.or sl_list sl_tupA) pwe pwo pwo) (hD G H σ m v _ fun vx x μ1 G1 H1 q1 e1 m1 r1 => q1.run m1 (v.mono e1) fun l μ2 G2 H2 q2 e2 m2 => q2.run m2 (v.mono (e1.trans e2)) fun u μ3 G3 H3 q3 e3 m3 => ?_)
  obtain ⟨d, r, rfl, hr, q⟩ := q3
  have r3 : Dv G3 vx d := r1.mono (e2.trans e3)
  cases r3 with
  | @lst a xs ds h1 w =>
    cases hr
    refine .inl ⟨_, _, rfl, .inl (.inl (m3.ex _ _ h1)), fun p hp => ?_⟩
    have n := m3.ex.free hp
    have w2 := (ROs.of_ims w).cut l u
    rw [cutO_im] at w2
    exact f _ _ _ _ _ q (((e1.trans e2).trans e3).trans (Ex.new n)) (m3.lay hp) (Dv.lst upd_same (w2.ims.mono (Ex.new n)))
  | @tup a xs ds h1 w =>
    cases hr
    have wl := w.length
    refine .inr ⟨a, xs, rfl, .inl (.inl (m3.ex _ _ h1)), fun ⟨z1, z2⟩ => ?_, fun _ p hp => ?_⟩
    · have ec : cutD ds l u = ds := by
        unfold cutD
        rw [wl] at z1 z2
        rw [z1, z2, List.drop_zero, Nat.sub_zero, List.take_length]
      rw [ec] at q
      exact f _ _ _ _ _ q ((e1.trans e2).trans e3) m3 (Dv.tup h1 w)
    · have n := m3.ex.free hp
      have w2 := (ROs.of_ims w).cut l u
      rw [cutO_im] at w2
      exact f _ _ _ _ _ q (((e1.trans e2).trans e3).trans (Ex.new n)) (m3.lay hp) (Dv.tup upd_same (w2.ims.mono (Ex.new n)))
  | _ => cases hr
def lrg (f : List PyData → PyData) (o : Option (List PyData)) : Option PyData := match o with | some xs => some (f xs) | none => none
theorem rgv_dv {H : Hp} (i j : Int) : DvA H (rgV i j) (numsF i (j - i).toNat) := by
  unfold rgV numsF
  generalize (j - i).toNat = n
  have go : ∀ l : List Nat, DvA H (l.map fun (k : Nat) => V.int (i + (k : Int))) (l.map fun (k : Nat) => PyData.int (i + (k : Int))) := by
    intro l
    induction l with
    | nil => exact .nil
    | cons k l ih => exact .cons (.int _) ih
  exact go _
theorem rg1_some {d : PyData} {xs : List PyData} (h : rg1 d = some xs) : ∃ j : Int, d = .int j ∧ -100000 ≤ j ∧ j ≤ 100000 ∧ xs = nums j.toNat := by
  cases d with
  | int j =>
    simp only [rg1] at h
    split at h
    · next hj =>
      cases h
      exact ⟨j, rfl, hj.1, hj.2, rfl⟩
    · cases h
  | _ => cases h
theorem rg1_dv {H : Hp} (j : Int) : DvA H (rgV 0 j) (nums j.toNat) := by
  have h := rgv_dv (H := H) 0 j
  have e : numsF 0 (j - 0).toNat = nums j.toNat := by
    unfold numsF nums
    rw [show j - 0 = j by omega]
    congr 1
    funext k
    rw [Int.zero_add]
  rw [e] at h
  exact h
theorem se_listRg (B : Bt X.mg) (hc : X.calm = true) (hg : Gl X "list") (hg2 : Gl X "range") (hx : SE b X x fx) (he : starEach [x] X.env = (false, eval x X.env) :: starEach [] X.env := by rfl) (he2 : starEach [.Call (.Name "range" p2) [x] [] pos2] X.env = (false, eval (.Call (.Name "range" p2) [x] [] pos2) X.env) :: starEach [] X.env := by rfl) : SE b X (.Call (.Name "list" p) [.Call (.Name "range" p2) [x] [] pos2] [] pos) (d1 (fun d => lrg .list (rg1 d)) fx) := se_1 hx fun ρ μ Φ h G H σ m v Q f =>
  WE.of (pe_listRg hc hg B.list (prg_1 hg2 B.range pwe he) he2) (h G H σ m v _ fun vx u μ1 G1 H1 q1 e1 m1 r1 => by
    obtain ⟨d, r, rfl, hr, q⟩ := q1
    simp only [lrg] at hr
    split at hr
    · next xs hxs =>
      cases hr
      obtain ⟨j, rfl, j1, j2, rfl⟩ := rg1_some hxs
      cases r1
      refine ⟨_, rfl, ⟨by omega, by omega, by omega, by omega, by omega⟩, fun l hl => ?_⟩
      have fr := m1.ex.free hl
      exact f _ _ _ _ _ q (e1.trans (Ex.new fr)) (m1.lay hl) (Dv.lst upd_same (rg1_dv j))
    · cases hr)
end
end Nx
namespace Nx
open PySem PySem.Spec PyProof.Rows L2
open Tree
section
variable {b : Addr} {X : Cx} {e x y z tg iter elt c : Expr} {es : List Expr} {f fx fy fz : DenE} {fs fi : DenL} {fb : DenB} {pos p : Pos} {st : Stmt} {ss : List Stmt}
def sNo : DenS := fun _ => .fail
theorem ss_no : SS b X st sNo := .mk fun _ _ _ _ _ _ h => h.elim
def sAug (i : Nat) (g : PyData → PyData → Option PyData) (f : DenE) : DenS := fun E => (dV i E).bind fun x => (f E).bind fun y => (liftO (g x y)).bind fun z => .ret (.nx (E.set i (some (.d z))))
theorem ss_aug (i : Nat) {n : Str} {op : Operator} {ti : TIp} {g : PyData → PyData → Option PyData} {p' : Pos} (hN : X.N.Nodup) (hi : X.N[i]? = some n) (hl : Loc X.env.scope n) (ho : PIp X op ti)
    (hk : ∀ d d' v (G : Hp) (H : Hp) vx vy (Q : VK), g d d' = some v → Dv G vx d → Dv G vy d' → (∀ vz, Dv G vz v → Q vz H) → ti vx vy H Q) (hx : SE b X x fx) (hf : X.fn n = true ∨ X.env.scope.names.lookup n = some .local := by first | exact .inl rfl | exact .inr rfl | assumption) : SS b X (.AugAssign (.Name n p') op x pos) (sAug i g fx) := .mk fun μ0 E ρ μ D R q G H σ m v En f => by
  obtain ⟨d, hd, q⟩ := dV_all (all_bind.mp q)
  obtain ⟨o, h1, h2⟩ := R.get i _ hd
  cases h2
  obtain ⟨vx, hv, rv⟩ := v.get i _ h1
  have hD : DE X x ρ μ fun u μ1 => ∃ d' v', u = .im d' ∧ g d d' = some v' ∧ D.nx (ρ.set i (some (.im v'))) μ1 := hx.run μ0 E ρ μ _ R ((all_bind.mp q).imp fun d' q μ1 s1 => by
    obtain ⟨v', hv', q⟩ := lift_all (all_bind.mp q)
    exact ⟨d', v', rfl, hv', q _ μ1 ((R.step s1).setD i v')⟩)
  refine WS.of (ps_aug hN hi hl pwe ho hf) ⟨vx, hv, hD G H σ m v _ fun vy u μ1 G1 H1 q1 e1 m1 r1 => ?_⟩
  obtain ⟨d', v', rfl, hv', q⟩ := q1
  exact hk d d' v' G1 H1 vx vy _ hv' (Dv.mono e1 rv) r1 fun vz hz => f.nx _ _ _ _ _ q e1 m1 ((v.mono e1).set (o := .im v') hz)
theorem aug_I {g : Int → Int → Int} : ∀ d d' v (G : Hp) (H : Hp) vx vy (Q : VK), (match d, d' with | .int i, .int j => some (.int (g i j)) | _, _ => none) = some v → Dv G vx d → Dv G vy d' → (∀ vz, Dv G vz v → Q vz H) → ipI g vx vy H Q := fun d d' v G H vx vy Q h hx hy k => by
  split at h
  · cases h
    cases hx
    cases hy
    exact ⟨_, _, rfl, rfl, k _ (.int _)⟩
  · cases h
def gAdd : PyData → PyData → Option PyData := fun d d' => match d, d' with | .int i, .int j => some (.int (i + j)) | _, _ => none
def gSb : PyData → PyData → Option PyData := fun d d' => match d, d' with | .int i, .int j => some (.int (i - j)) | _, _ => none
theorem ss_augA (i : Nat) {n : Str} {p' : Pos} (hN : X.N.Nodup) (hi : X.N[i]? = some n) (hl : Loc X.env.scope n) (hx : SE b X x fx) (hf : X.fn n = true ∨ X.env.scope.names.lookup n = some .local := by first | exact .inl rfl | exact .inr rfl | assumption) : SS b X (.AugAssign (.Name n p') .Add x pos) (sAug i gAdd fx) := ss_aug i hN hi hl ip_add aug_I hx hf
theorem ss_augS (i : Nat) {n : Str} {p' : Pos} (hN : X.N.Nodup) (hi : X.N[i]? = some n) (hl : Loc X.env.scope n) (hx : SE b X x fx) (hf : X.fn n = true ∨ X.env.scope.names.lookup n = some .local := by first | exact .inl rfl | exact .inr rfl | assumption) : SS b X (.AugAssign (.Name n p') .Sub x pos) (sAug i gSb fx) := ss_aug i hN hi hl ip_sub aug_I hx hf
end
theorem de_fdivW {X : Cx} {a b : Expr} {ρ : Rho} {μ : Mu} {Φ : OV → Mu → Prop} {pos : Pos} (h : DE X a ρ μ fun x μ1 => DE X b ρ μ1 fun y μ2 => ∃ i j, x = .im (.int i) ∧ y = .im (.int j) ∧ CDivW i j ∧ Φ (.im (.int (i / j))) μ2) : DE X (.BinOp a .FloorDiv b pos) ρ μ Φ := by
  refine de_op op_fdivW (h.imp fun x μ1 h1 => h1.imp fun y μ2 h2 => ?_)
  obtain ⟨i, j, rfl, rfl, hj, q⟩ := h2
  exact od_I hj q
def takeF : List W → Tree PyData
  | [.bx, .d (.int n)] => if 0 < n ∧ n < 4611686018427387904 then .draw n.toNat fun r => .ret (.int (r : Int)) else .fail
  | _ => .fail
def c_take : Ct := fun os μ Φ => ∃ b n p q t, os = [.own b, .im (.int n)] ∧ μ b = some (bx p q t) ∧ 0 < n ∧ n < 4611686018427387904 ∧ ∀ r p' t', 0 ≤ r → r < n → Φ (.im (.int r)) (μ.put b (bx p' q t'))
theorem take_ok : ∀ os μ Φ, cF takeF os μ Φ → c_take os μ Φ := fun os μ Φ h => by
  obtain ⟨b, ws, rfl, ⟨p, q, t, hb⟩, h⟩ := h
  unfold takeF at h
  split at h
  · rename_i n
    split at h
    · next hn =>
      refine ⟨b, n, p, q, t, rfl, hb, hn.1, hn.2, fun r p' t' r0 r1 => ?_⟩
      have := h r.toNat (by omega) _ (Bs.set (b := b) (μ := μ) (p := p') (q := q) (t := t'))
      rw [Int.toNat_of_nonneg r0] at this
      exact this
    · exact h.elim
  · exact h.elim
def strewnT : Nat → List PyData → Tree (List PyData)
  | 0, _ => .ret []
  | n + 1, l => .draw l.length fun r => match l[r]? with
    | some x => (strewnT n (l.eraseIdx r)).bind fun xs => .ret (x :: xs)
    | none => .fail
def strewnF : List W → Tree PyData
  | [.bx, .d (.list ds)] => if ds.length ≤ 1000 then (strewnT ds.length ds).bind fun xs => .ret (.list xs) else .fail
  | _ => .fail
theorem strewn_perm {Q : List PyData → Prop} : ∀ (n : Nat) (ds es : List PyData), ds.length = n → es.Perm ds → (strewnT n ds).All Q → Q es
  | 0, ds, es, hl, hp, h => by
    have : ds = [] := List.length_eq_zero_iff.mp hl
    subst this
    rw [hp.eq_nil]
    exact h
  | n + 1, ds, es, hl, hp, h => by
    cases es with
    | nil =>
      have := hp.length_eq
      simp at this
      omega
    | cons x es =>
      have hx : x ∈ ds := hp.mem_iff.mp (List.mem_cons_self ..)
      obtain ⟨r, hr, e⟩ := List.mem_iff_getElem.mp hx
      have h := h r hr
      dsimp only at h
      rw [List.getElem?_eq_getElem hr, e] at h
      have h := all_bind.mp h
      have pp := erase_perm ds r hr
      rw [e] at pp
      refine strewn_perm (Q := fun xs => Q (x :: xs)) n (ds.eraseIdx r) es (by rw [List.length_eraseIdx]; simp [hr]; omega) ?_ h
      exact (List.perm_cons x).mp (hp.trans pp.symm)
theorem strewn_all {Q : List PyData → Prop} : ∀ (n : Nat) (ds : List PyData), ds.length = n → (∀ es : List PyData, es.Perm ds → Q es) → (strewnT n ds).All Q
  | 0, ds, hl, h => h [] (by rw [List.length_eq_zero_iff.mp hl])
  | n + 1, ds, hl, h => fun r hr => by
    dsimp only
    rw [List.getElem?_eq_getElem hr]
    refine all_bind.mpr (strewn_all n _ (by rw [List.length_eraseIdx]; simp [hr]; omega) fun es hp => h _ ?_)
    exact (hp.cons _).trans (erase_perm ds r hr)
def c_strewn : Ct := fun os μ Φ => ∃ (b : Addr) (ds : List PyData) (p q t : Int), os = [.own b, .im (.list ds)] ∧ μ b = some (bx p q t) ∧ ds.length ≤ 1000 ∧ ∀ es p' t', es.Perm ds → Φ (.im (.list es)) (μ.put b (bx p' q t'))
theorem strewn_ok : ∀ os μ Φ, cF strewnF os μ Φ → c_strewn os μ Φ := fun os μ Φ h => by
  obtain ⟨b, ws, rfl, ⟨p, q, t, hb⟩, h⟩ := h
  unfold strewnF at h
  split at h
  · rename_i ds
    split at h
    · next hn => exact ⟨b, ds, p, q, t, rfl, hb, hn, fun es p' t' hp => strewn_perm _ ds es rfl hp (all_bind.mp h) _ Bs.set⟩
    · exact h.elim
  · exact h.elim
mutual
def okR : PyData → Bool
  | .none => true
  | .bool _ => true
  | .int i => decide (i.natAbs < 10 ^ 60)
  | .str x => PyData.strOk x && decide ((reprText x).length ≤ 61)
  | .list ds => okRs ds
  | .tuple ds => okRs ds
  | _ => false
def okRs : List PyData → Bool
  | [] => true
  | d :: ds => okR d && okRs ds
end
mutual
def wdR : PyData → Nat
  | .list ds => wdRs ds + 3
  | .tuple ds => wdRs ds + 3
  | _ => 61
def wdRs : List PyData → Nat
  | [] => 0
  | d :: ds => wdR d + 2 + wdRs ds
end
mutual
def dpR : PyData → Nat
  | .list ds => dpRs ds + 1
  | .tuple ds => dpRs ds + 1
  | _ => 0
def dpRs : List PyData → Nat
  | [] => 0
  | d :: ds => max (dpR d) (dpRs ds)
end
mutual
theorem okR_sd : ∀ {d : PyData}, okR d = true → Sd (dpR d) (wdR d) d
  | .none, _ => Sd.none.mono (Nat.le_refl _) (by simp [wdR])
  | .bool b, _ => (Sd.bool b).mono (Nat.le_refl _) (by simp [wdR])
  | .int i, h => (Sd.int (of_decide_eq_true (by simpa only [okR] using h))).mono (Nat.le_refl _) (by simp [wdR])
  | .list ds, h => (Sd.list (okRs_sd (ds := ds) (by simpa only [okR] using h))).mono (by simp [dpR]) (by simp [wdR])
  | .tuple ds, h => (Sd.tuple (okRs_sd (ds := ds) (by simpa only [okR] using h))).mono (by simp [dpR]) (by simp [wdR])
  | .str x, h => by
    have h : (PyData.strOk x && decide ((reprText x).length ≤ 61)) = true := by simpa only [okR] using h
    have h2 := of_decide_eq_true (Bool.and_eq_true_iff.mp h).2
    exact ⟨by simp [PyData.showable], by simp [PyData.hasDict], by simp [PyData.depth, dpR], by simp only [PyData.shown, wdR]; exact h2⟩
  | .dict _, h => by simp [okR] at h
theorem okRs_sd : ∀ {ds : List PyData}, okRs ds = true → SdA (dpRs ds) (wdRs ds) ds
  | [], _ => by simpa [dpRs, wdRs] using SdA.nil
  | d :: ds, h => by
    have h : (okR d && okRs ds) = true := by simpa only [okRs] using h
    obtain ⟨h1, h2⟩ := Bool.and_eq_true_iff.mp h
    simpa only [dpRs, wdRs] using SdA.cons (okR_sd h1) (okRs_sd h2)
end
def isLT : PyData → Bool
  | .dict _ => false
  | _ => true
def ShwA (d : PyData) : Prop := Shw d ∨ d = .none ∨ (∃ b, d = .bool b) ∨ (∃ i : Int, d = .int i ∧ i.natAbs.log2 < 1920) ∨ ∃ x, d = .str x ∧ (reprText x).length ≤ 61
section
variable {X : Cx} {e : Expr} {ρ : Rho} {μ : Mu} {Φ : OV → Mu → Prop} {pos p : Pos}
theorem call_reprA (hr : Room 0 X.A) (hgd : X.A.guards = some []) : CallR X (.builtin "repr") (fun xs H Q => ∃ v d, xs = [v] ∧ Dv H v d ∧ ShwA d ∧ Q (.str d.shown) H) := by
  intro pins s σ H xs us Q I r h
  obtain ⟨v, d, rfl, hd, hs, q⟩ := h
  rcases hs with hs | rfl | ⟨b, rfl⟩ | ⟨i, rfl, hi⟩ | ⟨x, rfl, hx⟩
  · exact call_reprD hr hgd pins s σ H [v] us Q I r ⟨v, d, rfl, hd.dp, hs, q⟩
  · cases hd
    obtain ⟨u, rfl, ru⟩ := vals1 r
    cases ru
    exact PySem.P.repr_of_none ⟨.str _, H, I.tok _, ⟨_, rfl⟩, by simpa only [PyData.shown] using q⟩
  · cases hd
    obtain ⟨u, rfl, ru⟩ := vals1 r
    cases ru
    exact PySem.P.repr_of_bool ⟨.str _, H, I.tok _, ⟨_, rfl⟩, by simpa only [PyData.shown] using q⟩
  · cases hd
    obtain ⟨u, rfl, t, rfl⟩ := vals1 r
    exact PySem.P.repr_of_int hi ⟨.str _, H, I.tok _, ⟨_, rfl⟩, by simpa only [PyData.shown] using q⟩
  · cases hd
    obtain ⟨u, rfl, t, rfl⟩ := vals1 r
    exact PySem.P.repr_of_str ⟨.str _, H, I.tok _, ⟨_, rfl⟩, by simpa only [PyData.shown] using q⟩ (Nat.le_trans hx (by rw [sizeLine_eq]; omega))
theorem de_reprA {k : Nat} (B : Bt X.mg) (hr : Rm k X.A) (hg : Gl X "repr") (h : DE X e ρ μ fun o μ1 => ∃ d, DR μ1 o d ∧ ShwA d ∧ Φ (.im (.str d.shown)) μ1) (he : starEach [e] X.env = (false, eval e X.env) :: starEach [] X.env := by rfl) (hpl : (backTo pos (starEach [] X.env)).any (·.1) = false := by rfl) : DE X (.Call (.Name "repr" p) [e] [] pos) ρ μ Φ :=
  de_callB (call_reprA (hr.room.mono (Nat.zero_le _)) hr.gds) hg B.repr PyProof.Rows.boot_repr (he := he) (hpl := hpl) (da_cons (hs := he) (h.imp fun o μ1 ⟨d, hd, hs, q⟩ => da_nil fun G H vs m r Q f => by
    obtain ⟨v, rfl, r1⟩ := ro1 r
    exact ⟨v, d, rfl, DR.at m hd r1, hs, f _ _ _ _ _ q (Ex.refl G) m (Dv.str _)⟩))
end
def shwB (d : PyData) : Bool := isLT d && okR d && decide (dpR d ≤ 60) && decide (wdR d ≤ 16777216)
theorem shwB_ok {d : PyData} (h : shwB d = true) : ShwA d := by
  unfold shwB at h
  obtain ⟨h, h4⟩ := Bool.and_eq_true_iff.mp h
  obtain ⟨h, h3⟩ := Bool.and_eq_true_iff.mp h
  obtain ⟨h1, h2⟩ := Bool.and_eq_true_iff.mp h
  cases d with
  | none => exact .inr (.inl rfl)
  | bool b => exact .inr (.inr (.inl ⟨b, rfl⟩))
  | int i => exact .inr (.inr (.inr (.inl ⟨i, rfl, log_small (of_decide_eq_true (by simpa only [okR] using h2))⟩)))
  | list ds => exact .inl ((okR_sd h2).shw rfl (of_decide_eq_true h3) (of_decide_eq_true h4))
  | tuple ds => exact .inl ((okR_sd h2).shw rfl (of_decide_eq_true h3) (of_decide_eq_true h4))
  | str x =>
    have h2 : (PyData.strOk x && decide ((reprText x).length ≤ 61)) = true := by simpa only [okR] using h2
    exact .inr (.inr (.inr (.inr ⟨x, rfl, of_decide_eq_true (Bool.and_eq_true_iff.mp h2).2⟩)))
  | dict _ => cases h1
end Nx
namespace Nx
open PySem PySem.Spec PyProof.Rows L2
open Tree
mutual
def eqP : PyData → PyData → Bool
  | .none, .none => true
  | .bool a, .bool b => a == b
  | .int a, .int b => decide (a = b)
  | .str a, .str b => decide (a = b)
  | .list as, .list bs => eqPs as bs
  | .tuple as, .tuple bs => eqPs as bs
  | _, _ => false
def eqPs : List PyData → List PyData → Bool
  | [], [] => true
  | a :: as, b :: bs => eqP a b && eqPs as bs
  | _, _ => false
end
mutual
theorem eqP_eq : ∀ {a b : PyData}, eqP a b = true → a = b
  | .none, .none, _ => rfl
  | .bool a, .bool b, h => congrArg PyData.bool (eq_of_beq (by simpa only [eqP] using h))
  | .int a, .int b, h => congrArg PyData.int (of_decide_eq_true (by simpa only [eqP] using h))
  | .str a, .str b, h => congrArg PyData.str (of_decide_eq_true (by simpa only [eqP] using h))
  | .list as, .list bs, h => congrArg PyData.list (eqPs_eq (by simpa only [eqP] using h))
  | .tuple as, .tuple bs, h => congrArg PyData.tuple (eqPs_eq (by simpa only [eqP] using h))
  | .none, .bool _, h => by simp [eqP] at h
  | .none, .int _, h => by simp [eqP] at h
  | .none, .str _, h => by simp [eqP] at h
  | .none, .list _, h => by simp [eqP] at h
  | .none, .tuple _, h => by simp [eqP] at h
  | .none, .dict _, h => by simp [eqP] at h
  | .bool _, .none, h => by simp [eqP] at h
  | .bool _, .int _, h => by simp [eqP] at h
  | .bool _, .str _, h => by simp [eqP] at h
  | .bool _, .list _, h => by simp [eqP] at h
  | .bool _, .tuple _, h => by simp [eqP] at h
  | .bool _, .dict _, h => by simp [eqP] at h
  | .int _, .none, h => by simp [eqP] at h
  | .int _, .bool _, h => by simp [eqP] at h
  | .int _, .str _, h => by simp [eqP] at h
  | .int _, .list _, h => by simp [eqP] at h
  | .int _, .tuple _, h => by simp [eqP] at h
  | .int _, .dict _, h => by simp [eqP] at h
  | .list _, .none, h => by simp [eqP] at h
  | .list _, .bool _, h => by simp [eqP] at h
  | .list _, .int _, h => by simp [eqP] at h
  | .list _, .str _, h => by simp [eqP] at h
  | .list _, .tuple _, h => by simp [eqP] at h
  | .list _, .dict _, h => by simp [eqP] at h
  | .tuple _, .none, h => by simp [eqP] at h
  | .tuple _, .bool _, h => by simp [eqP] at h
  | .tuple _, .int _, h => by simp [eqP] at h
  | .tuple _, .str _, h => by simp [eqP] at h
  | .tuple _, .list _, h => by simp [eqP] at h
  | .tuple _, .dict _, h => by simp [eqP] at h
  | .str _, .none, h => by simp [eqP] at h
  | .str _, .bool _, h => by simp [eqP] at h
  | .str _, .int _, h => by simp [eqP] at h
  | .str _, .list _, h => by simp [eqP] at h
  | .str _, .tuple _, h => by simp [eqP] at h
  | .str _, .dict _, h => by simp [eqP] at h
  | .dict _, _, h => by simp [eqP] at h
theorem eqPs_eq : ∀ {as bs : List PyData}, eqPs as bs = true → as = bs
  | [], [], _ => rfl
  | a :: as, b :: bs, h => by
    have h : (eqP a b && eqPs as bs) = true := by simpa only [eqPs] using h
    obtain ⟨h1, h2⟩ := Bool.and_eq_true_iff.mp h
    rw [eqP_eq h1, eqPs_eq h2]
  | [], _ :: _, h => by simp [eqPs] at h
  | _ :: _, [], h => by simp [eqPs] at h
end
mutual
theorem eqP_refl : ∀ {a : PyData}, okR a = true → eqP a a = true
  | .none, _ => by simp [eqP]
  | .bool _, _ => by simp [eqP]
  | .int _, _ => by simp [eqP]
  | .list as, h => by simpa only [eqP] using eqPs_refl (as := as) (by simpa only [okR] using h)
  | .tuple as, h => by simpa only [eqP] using eqPs_refl (as := as) (by simpa only [okR] using h)
  | .str _, _ => by simp [eqP]
  | .dict _, h => by simp [okR] at h
theorem eqPs_refl : ∀ {as : List PyData}, okRs as = true → eqPs as as = true
  | [], _ => by simp [eqPs]
  | a :: as, h => by
    have h : (okR a && okRs as) = true := by simpa only [okRs] using h
    obtain ⟨h1, h2⟩ := Bool.and_eq_true_iff.mp h
    simp [eqPs, eqP_refl h1, eqPs_refl h2]
end
def okS (d : PyData) : Option Unit := if shwB d then some () else none
def pSame (a b : PyData) : Option PyData := if eqP a b then some (.bool true) else none
def dSame (f g : DenE) : DenE := fun E => (f E).bind fun x => (liftO (okS x)).bind fun _ => (g E).bind fun y => liftO (pSame x y)
section
variable {b : Addr} {X : Cx} {e x y : Expr} {fx fy : DenE} {pos p p2 pos2 pos3 : Pos} {k : Nat}
theorem se_same (B : Bt X.mg) (hr : Rm k X.A) (hg : Gl X "repr") (hx : SE b X x fx) (hy : SE b X y fy) (he : starEach [x] X.env = (false, eval x X.env) :: starEach [] X.env := by rfl) (he2 : starEach [y] X.env = (false, eval y X.env) :: starEach [] X.env := by rfl) (hpl : (backTo pos (starEach [] X.env)).any (·.1) = false := by rfl) (hpl2 : (backTo pos2 (starEach [] X.env)).any (·.1) = false := by rfl) :
    SE b X (.Compare (.Call (.Name "repr" p) [x] [] pos) [.Eq] [.Call (.Name "repr" p2) [y] [] pos2] pos3) (dSame fx fy) := .mk fun μ0 E ρ μ Φ R h => by
  refine de_eq hr.room (de_reprA B hr hg (hx.run μ0 E ρ μ _ R ((all_bind.mp h).imp fun d q μ1 s1 => ?_)) he hpl)
  obtain ⟨u, hu, q⟩ := lift_all (all_bind.mp q)
  unfold okS at hu
  split at hu
  · next hs =>
    refine ⟨d, .im d, shwB_ok hs, de_reprA B hr hg (hy.run μ0 E ρ μ1 _ (R.step s1) ((all_bind.mp q).imp fun d' q μ2 s2 => ?_)) he2 hpl2⟩
    obtain ⟨r, hr', q2⟩ := lift_all q
    unfold pSame at hr'
    split at hr'
    · next hq =>
      cases hr'
      have := eqP_eq hq
      subst this
      exact ⟨d, .im d, shwB_ok hs, .inr (.inr ⟨_, _, rfl, rfl, by simpa using q2 μ2 (s1.trans s2)⟩)⟩
    · cases hr'
  · cases hu
end
end Nx
namespace Nx
open PySem PySem.Spec PyProof.Rows L2
open Tree
abbrev cLt := cI fun i j => decide (i < j)
abbrev cLe := cI fun i j => decide (i ≤ j)
abbrev cGt := cI fun i j => decide (j < i)
abbrev cGe := cI fun i j => decide (j ≤ i)
def cR : Ct := fun os μ Φ => ∃ b p q t, os = [.own b] ∧ μ b = some (bx p q t) ∧ ∀ μ', Bs b μ μ' → Φ (.im (.bool true)) μ'
theorem cR_of {F : List W → Tree PyData} (h : (F [.bx]).All fun d => d = .bool true) : ∀ os μ Φ, cR os μ Φ → cF F os μ Φ := fun os μ Φ ⟨b, p, q, t, e, hb, k⟩ => ⟨b, [.bx], e, ⟨p, q, t, hb⟩, h.imp fun d e μ' s => by rw [e]; exact k μ' s⟩
end Nx
namespace Nx
open PySem PySem.Spec PyProof.Rows L2
open Tree
def in1 (t1 : Tgt) (vs1 : List Nat) (c : DenB) (elt : DenE) (E1 : Env) : PyData → Tree (Option PyData) := fun y => (liftO (putE t1 y (wipeE E1 vs1))).bind fun E2 => (c E2).bind fun k => match k with | true => (elt E2).bind fun z => .ret (some z) | false => .ret none
end Nx
namespace Nx
open PySem PySem.Spec PyProof.Rows L2
open Tree
section
variable {b : Addr} {X : Cx} {x y o e tg : Expr} {fx fy : DenE} {pos p p2 pos2 apos cpos : Pos} {k : Nat}
def sAsgL (is : List Nat) (f : DenE) : DenS := fun E => (f E).bind fun d => match d with
  | .list ds => if ds.length = is.length then .ret (.nx (putsE E is ds)) else .fail
  | _ => .fail
def pIdx (d y : PyData) : Option PyData := match d with
  | .list ds => if SeqAt.shaped (.list ds) = true ∧ SeqAt.shaped y = true then (match ds.findIdx? fun z => PyData.eqv z y with | some j => some (.int (j : Nat)) | none => none) else none
  | _ => none
def dIdx (fx fy : DenE) : DenE := fun E => (fx E).bind fun d => match d with
  | .list ds => (fy E).bind fun y => liftO (pIdx (.list ds) y)
  | _ => .fail
end
end Nx
namespace Nx
open PySem PySem.Spec PyProof.Rows L2
open Tree
end Nx
namespace Nx
open PySem PySem.Spec PyProof.Rows L2
open Tree
def asT : PyData → Option (List Int)
  | .tuple ds => asI ds
  | _ => none
def tpl (t : List Int) : PyData := .tuple (iL t)
def kT (t : List Int) : Int := TS.code 1000 t
def insT (t : List Int) : List (List Int) → List (List Int)
  | [] => [t]
  | u :: us => if kT t ≤ kT u then t :: u :: us else u :: insT t us
def srtT : List (List Int) → List (List Int)
  | [] => []
  | t :: ts => insT t (srtT ts)
def bdT (d : Nat) (t : List Int) : Bool := decide (t.length = d) && t.all fun x => decide (0 ≤ x) && decide (x < 1000)
def hdLen : List (List Int) → Nat
  | [] => 1
  | t :: _ => t.length
theorem DvA.perm {G : Hp} {xs ys : List V} (hp : ys.Perm xs) : ∀ {ds : List PyData}, DvA G xs ds → ∃ es, es.Perm ds ∧ DvA G ys es := by
  induction hp with
  | nil =>
    intro ds h
    cases h
    exact ⟨[], List.Perm.refl _, .nil⟩
  | cons x _ ih =>
    intro ds h
    cases h with
    | cons h1 h2 =>
      obtain ⟨es, e1, e2⟩ := ih h2
      exact ⟨_ :: es, e1.cons _, .cons h1 e2⟩
  | swap x y l =>
    intro ds h
    cases h with
    | cons h1 h2 =>
      cases h2 with
      | cons h3 h4 => exact ⟨_, List.Perm.swap _ _ _, .cons h3 (.cons h1 h4)⟩
  | trans _ _ ih1 ih2 =>
    intro ds h
    obtain ⟨es, e1, e2⟩ := ih2 h
    obtain ⟨fs, e3, e4⟩ := ih1 e2
    exact ⟨fs, e3.trans e1, e4⟩
end Nx
namespace Nx
open PySem PySem.Spec PyProof.Rows L2
open Tree
end Nx
namespace Nx
open PySem PySem.Spec PyProof.Rows L2
open Tree
section
variable {b : Addr} {X : Cx} {x y tg : Expr} {fx fy : DenE} {pos q1 q2 q3 : Pos} {k3 : Nat}
def sPar4 (i1 i2 i3 i4 : Nat) (fx fy : DenE) : DenS := fun E => (fx E).bind fun u => (fy E).bind fun w => .ret (.nx ((((E.set i1 (some (.d u))).set i2 (some (.d w))).set i3 (some (.own []))).set i4 (some (.own []))))
end
end Nx
namespace Nx
open PySem PySem.Spec PyProof.Rows L2
open Tree
end Nx
namespace Nx
open PySem PySem.Spec PyProof.Rows L2
open Tree
end Nx
namespace Nx
open PySem PySem.Spec PyProof.Rows L2
open Tree
def dOIx (i : Nat) (fy : DenE) : DenE := fun E => match E[i]? with
  | some (some (.own l)) => (fy E).bind fun y => match y with | .int j => liftO (atI l j) | _ => .fail
  | _ => .fail
end Nx
namespace Nx
open PySem PySem.Spec PyProof.Rows L2
open Tree
section
variable {b : Addr} {X : Cx} {x y : Expr} {fx fy : DenE} {pos : Pos}
def sOPar (i j : Nat) (fx fy : DenE) : DenS := fun E => (fx E).bind fun d => match d with | .list xs => (fy E).bind fun e => .ret (.nx ((E.set i (some (.own xs))).set j (some (.d e)))) | _ => .fail
def sOOPar (i j : Nat) (fx fy : DenE) : DenS := fun E => (fx E).bind fun d => match d with | .list xs => (fy E).bind (fun e => match e with | .list ys => .ret (.nx ((E.set i (some (.own xs))).set j (some (.own ys)))) | _ => .fail) | _ => .fail
end
end Nx
namespace Nx
open PySem PySem.Spec PyProof.Rows L2
open Tree
section
variable {b : Addr} {X : Cx} {x y : Expr} {fx fy : DenE} {pos : Pos}
def ipM : TIp := fun x y H Q => ∃ i j, x = .int i ∧ y = .int j ∧ CMul i j ∧ Q (.int (i * j)) H
theorem ip_mul : PIp X .Mult ipM := by
  intro pins st σ H u w vu vw Q I ru rw' hh
  obtain ⟨i, j, e1, e2, c, q⟩ := hh
  subst e1; subst e2
  obtain ⟨t, rfl⟩ := ru
  obtain ⟨t', rfl⟩ := rw'
  exact imul_int ⟨.int _, H, I.tok _, ⟨_, rfl⟩, q⟩ c.ok
def gMul : PyData → PyData → Option PyData := fun d d' => match d, d' with | .int i, .int j => if CMul i j then some (.int (i * j)) else none | _, _ => none
theorem aug_M : ∀ d d' v (G : Hp) (H : Hp) vx vy (Q : VK), gMul d d' = some v → Dv G vx d → Dv G vy d' → (∀ vz, Dv G vz v → Q vz H) → ipM vx vy H Q := fun d d' v G H vx vy Q h hx hy k => by
  unfold gMul at h
  split at h
  · split at h
    · rename_i c
      cases h
      cases hx
      cases hy
      exact ⟨_, _, rfl, rfl, c, k _ (.int _)⟩
    · cases h
  · cases h
theorem ss_augM (i : Nat) {n : Str} {p' : Pos} (hN : X.N.Nodup) (hi : X.N[i]? = some n) (hl : Loc X.env.scope n) (hx : SE b X x fx) (hf : X.fn n = true ∨ X.env.scope.names.lookup n = some .local := by first | exact .inl rfl | exact .inr rfl | assumption) : SS b X (.AugAssign (.Name n p') .Mult x pos) (sAug i gMul fx) := ss_aug i hN hi hl ip_mul aug_M hx hf
end
end Nx
namespace Nx
open PySem PySem.Spec PyProof.Rows L2
open Tree
section
variable {b : Addr} {X : Cx} {x y z : Expr} {fx fy fz : DenE} {pos : Pos} {ρ : Rho} {μ : Mu}
theorem dt_chain {op op' : CmpOp} {p p' : Int → Int → Bool} {Φ : Bool → Mu → Prop} (ho : OpR X (compareOp op) (rI0 fun i j => .bl (p i j))) (ho' : OpR X (compareOp op') (rI0 fun i j => .bl (p' i j)))
    (h : DE X x ρ μ fun u μ1 => DE X y ρ μ1 fun w μ2 => ∃ i j, u = .im (.int i) ∧ w = .im (.int j) ∧ if p i j = true then DE X z ρ μ2 fun t μ3 => ∃ k, t = .im (.int k) ∧ Φ (p' j k) μ3 else Φ false μ2)
    (hm : lastMarks [op, op'] [y, z] = false := by with_unfolding_all rfl) : DT X (.Compare x [op, op'] [y, z] pos) ρ μ Φ := fun G H σ m v Q f =>
  WT.of (pt_chain ho ho' pwe pwe pwe hm) (h G H σ m v _ fun vx u μ1 G1 H1 q1 e1 m1 r1 => q1 G1 H1 σ m1 (v.mono e1) _ fun vy w μ2 G2 H2 q2 e2 m2 r2 => by
    obtain ⟨i, j, rfl, rfl, q⟩ := q2
    cases r1
    cases r2
    refine ⟨i, j, rfl, rfl, _, rfl, ?_⟩
    by_cases hp : p i j = true
    · rw [if_pos hp] at q ⊢
      refine q G2 H2 σ m2 (v.mono (e1.trans e2)) _ fun vz t μ3 G3 H3 q3 e3 m3 r3 => ?_
      obtain ⟨k, rfl, q⟩ := q3
      cases r3
      exact ⟨j, k, rfl, rfl, _, rfl, f _ _ _ _ q ((e1.trans e2).trans e3) m3⟩
    · rw [if_neg hp] at q ⊢
      exact ⟨_, rfl, f _ _ _ _ q (e1.trans e2) m2⟩)
def tCh (p p' : Int → Int → Bool) (f g h : DenE) : DenB := fun E => (f E).bind fun x => (g E).bind fun y => match x, y with
  | .int i, .int j => (match p i j with
    | true => (h E).bind fun z => match z with | .int k => .ret (p' j k) | _ => .fail
    | false => .ret false)
  | _, _ => .fail
theorem st_chain {op op' : CmpOp} {p p' : Int → Int → Bool} (ho : OpR X (compareOp op) (rI0 fun i j => .bl (p i j))) (ho' : OpR X (compareOp op') (rI0 fun i j => .bl (p' i j))) (hx : SE b X x fx) (hy : SE b X y fy) (hz : SE b X z fz)
    (hm : lastMarks [op, op'] [y, z] = false := by with_unfolding_all rfl) : ST b X (.Compare x [op, op'] [y, z] pos) (tCh p p' fx fy fz) := .mk fun μ0 E ρ μ Φ R h =>
  dt_chain ho ho' (hx.run μ0 E ρ μ _ R ((all_bind.mp h).imp fun d q μ1 s1 => hy.run μ0 E ρ μ1 _ (R.step s1) ((all_bind.mp q).imp fun d' q μ2 s2 => by
    cases d with
    | int i =>
      cases d' with
      | int j =>
        refine ⟨i, j, rfl, rfl, ?_⟩
        dsimp only at q
        cases hp : p i j with
        | true =>
          rw [hp] at q
          rw [if_pos rfl]
          refine hz.run μ0 E ρ μ2 _ ((R.step s1).step s2) ((all_bind.mp q).imp fun d3 q μ3 s3 => ?_)
          cases d3 with
          | int k => exact ⟨k, rfl, q μ3 ((s1.trans s2).trans s3)⟩
          | _ => exact q.elim
        | false =>
          rw [hp] at q
          rw [if_neg (by decide)]
          exact q μ2 (s1.trans s2)
      | _ => exact q.elim
    | _ => exact q.elim))) hm
end
end Nx
namespace Nx
open PySem PySem.Spec PyProof.Rows L2
open Tree
section
variable {b : Addr} {X : Cx} {e x y tg : Expr} {fx fy : DenE} {pos : Pos}
def sNest (i j k : Nat) (fx fy : DenE) : DenS := fun E => (fx E).bind fun u => (fy E).bind fun w => match w with | .tuple [a, c] => .ret (.nx (((E.set i (some (.d u))).set j (some (.d a))).set k (some (.d c)))) | _ => .fail
end
end Nx
namespace Nx
open PySem PySem.Spec PyProof.Rows L2
open Tree
def dPr (i : Nat) (f : DenE) : DenE := fun E => match E[i]? with | some (some (.own ds)) => (f E).bind fun x => .ret (.tuple [.list ds, x]) | _ => .fail
def pC (g : DenS) (h : DenE) : DenE := fun E => (g E).bind fun o => match o with | .nx E' => h E' | _ => .fail
def pFrz (i : Nat) (h : DenE) : DenE := fun E => h (frzE i E)
def fnP (a n : Nat) (body : DenE) : List W → Tree PyData := fun ws => (liftO (lenIs a ws)).bind fun _ => body (ws.map (fun w => some (ent w)) ++ List.replicate (n - a) none)
section
variable {b : Addr} {X : Cx} {e x y : Expr} {es : List Expr} {fx : DenE} {g : DenS} {h : DenE} {st : Stmt} {ss : List Stmt} {pos : Pos} {ρ : Rho} {μ : Mu} {Φ : OV → Mu → Prop}
def sCallP (i j : Nat) (F : List W → Tree PyData) (fs : Env → Tree (List W)) : DenS := fun E => (fs E).bind fun ws => (F ws).bind fun d => match d with | .tuple [.list ds, x] => .ret (.nx ((E.set i (some (.own ds))).set j (some (.d x)))) | _ => .fail
def dOLen (i : Nat) : DenE := fun E => match E[i]? with | some (some (.own l)) => .ret (.int l.length) | _ => .fail
end
end Nx
namespace Nx
open PySem PySem.Spec PyProof.Rows L2
open Tree
end Nx
namespace Nx
open PySem PySem.Spec PyProof.Rows L2
open Tree
end Nx
namespace Nx
open PySem PySem.Spec PyProof.Rows L2
open Tree
end Nx
namespace Nx
open PySem PySem.Spec PyProof.Rows L2
open Tree
end Nx
namespace Nx
open PySem PySem.Spec PyProof.Rows L2
open Tree
section
variable {b : Addr} {X : Cx} {x y z : Expr} {fx fy fz : DenE} {pos : Pos}
def sIx (i : Nat) (fy fz : DenE) : DenS := fun E => (fz E).bind fun z => match E[i]? with
  | some (some (.own l)) => (fy E).bind fun y => match y with | .int j => (match ixN l.length j with | some m => .ret (.nx (E.set i (some (.own (l.set m z))))) | none => .fail) | _ => .fail
  | _ => .fail
end
end Nx
namespace Nx
open PySem PySem.Spec PyProof.Rows L2
open Tree
mutual
inductive Ld (b : Addr) (μ : Mu) : OV → PyData → Prop
  | im (d : PyData) : Ld b μ (.im d) d
  | own {q : Addr} {os : List OV} {ds : List PyData} : q ≠ b → μ q = some os → LdA b μ os ds → Ld b μ (.own q) (.list ds)
inductive LdA (b : Addr) (μ : Mu) : List OV → List PyData → Prop
  | nil : LdA b μ [] []
  | cons {o : OV} {os : List OV} {d : PyData} {ds : List PyData} : Ld b μ o d → LdA b μ os ds → LdA b μ (o :: os) (d :: ds)
end
section
variable {b : Addr} {μ : Mu} {G H : Hp} {who : Addr → Option Addr}
theorem LdA.ims : ∀ ds : List PyData, LdA b μ (ds.map .im) ds
  | [] => .nil
  | d :: ds => .cons (.im d) (LdA.ims ds)
end
section
variable {b : Addr} {X : Cx} {e x y : Expr} {es : List Expr} {f : DenB} {fx fy : DenE} {st : Stmt} {ss : List Stmt} {pos p apos cpos rp : Pos} {gs : Env → Tree (List W)}
structure Nst (b : Addr) (μ0 : Mu) (E : Env) (ρ : Rho) (μ : Mu) (h i : Nat) (q p : Addr) (l es : List PyData) : Prop where
  rel : Rel b μ0 E ρ μ
  rh : ρ[h]? = some (some (.own q))
  mq : μ q = some ((l.map .im).set i (.own p))
  li : l[i]? = some (.list es)
  mp : μ p = some (es.map .im)
  pb : p ≠ b
  qb : q ≠ b
  pq : p ≠ q
  p0 : μ0 p = none
  q0 : μ0 q = none
  np : ∀ (j : Nat) ds c, E[j]? = some (some (.own ds)) → ρ[j]? = some (some (.own c)) → c ≠ p
  nq : ∀ (j : Nat) ds c, E[j]? = some (some (.own ds)) → ρ[j]? = some (some (.own c)) → c ≠ q
theorem Nst.step {μ0 μ μ' : Mu} {E : Env} {ρ : Rho} {h i : Nat} {q p : Addr} {l es : List PyData} (N : Nst b μ0 E ρ μ h i q p l es) (s : Bs b μ μ') : Nst b μ0 E ρ μ' h i q p l es :=
  ⟨N.rel.step s, N.rh, s.old _ _ N.qb N.mq, N.li, s.old _ _ N.pb N.mp, N.pb, N.qb, N.pq, N.p0, N.q0, N.np, N.nq⟩
def nApp (fx : DenE) (f : List PyData → DenS) : List PyData → DenS := fun l E => (fx E).bind fun y => (liftO (small (l.length + 1))).bind fun _ => f (l ++ [y]) E
def frzW : Option W → Option W
  | some (.own l) => some (.d (.list l))
  | some (.odc _) => none
  | some (.cir _) => none
  | some (.lc _) => none
  | w => w
def lendE (h : Nat) (l : List PyData) (E : Env) : Env := (E.set h (some (.d (.list l)))).map frzW
def nIf (h : Nat) (ft : DenB) (f : List PyData → DenS) : List PyData → DenS := fun l E => (ft (lendE h l E)).bind fun k => match k with | true => .ret (.rt (.bool false)) | false => f l E
def nEnd (i : Nat) (fx : DenE) (g : DenS) : List PyData → DenS := fun l E => match l[i]? with | some (.list es) => (liftO (small (es.length + 1))).bind fun _ => (fx E).bind fun _ => g E | _ => .fail
def sN0 (h : Nat) (F : DenE) (fy : DenE) (f : List PyData → DenS) : DenS := fun E => (liftO (if h < E.length then some () else none)).bind fun _ => (F E).bind fun d => match d with | .list es => (fy E).bind fun y => f [.list es, y] (E.set h none) | _ => .fail
def sN1 (h : Nat) (fx : DenE) (F : DenE) (f : List PyData → DenS) : DenS := fun E => (liftO (if h < E.length then some () else none)).bind fun _ => (fx E).bind fun x => (F E).bind fun d => match d with | .list es => f [x, .list es] (E.set h none) | _ => .fail
end
end Nx
namespace Nx
open PySem PySem.Spec PyProof.Rows L2
open Tree
end Nx
namespace Nxz
open PySem
open PySem.Sem (wp)
end Nxz
namespace Nx
open PySem PySem.Spec PyProof.Rows L2
open Tree
def zipDic : PyData → PyData → Option (List (PyData × PyData))
  | .tuple ks, .list ds => match asI ks with
    | some is => if is.Nodup ∧ is.length = ds.length ∧ is.length ≤ 1000 then some ((iL is).zip ds) else none
    | none => none
  | _, _ => none
def asP : List PyData → Option (List (Int × PyData))
  | [] => some []
  | .tuple [.int k, d] :: r => match asP r with
    | some ps => some ((k, d) :: ps)
    | none => none
  | _ => none
def pairDic : PyData → Option (List (PyData × PyData))
  | .list ps => match asP ps with
    | some qs => if (qs.map (·.1)).Nodup ∧ qs.length ≤ 1000 then some (qs.map fun q => (.int q.1, q.2)) else none
    | none => none
  | _ => none
inductive DK' where
  | i (n : Int) | t (ns : List Int)
  deriving DecidableEq
def keyD : PyData → Option DK'
  | .int n => some (.i n)
  | .tuple ds => match asI ds with | some ns => some (.t ns) | none => none
  | _ => none
def lookD : List (PyData × PyData) → DK' → Option PyData
  | [], _ => none
  | (k, v) :: r, x => if keyD k = some x then some v else lookD r x
def dZipD (f g : DenE) : Env → Tree (List (PyData × PyData)) := fun E => (f E).bind fun x => (g E).bind fun y => liftO (zipDic x y)
def dPairD (f : DenE) : Env → Tree (List (PyData × PyData)) := fun E => (f E).bind fun x => liftO (pairDic x)
section
variable {b : Addr} {X : Cx} {e x y : Expr} {fx fy : DenE} {pos pos2 p p2 : Pos} {st : Stmt}
def sSetK (i : Nat) (f : Env → Tree (List (PyData × PyData))) : DenS := fun E => (f E).bind fun kvs => .ret (.nx (E.set i (some (.dic kvs))))
def dGet (i : Nat) (f : DenE) : DenE := fun E => match E[i]? with
  | some (some (.dic kvs)) => (f E).bind fun k => (liftO (keyD k)).bind fun k => liftO (lookD kvs k)
  | _ => .fail
end
end Nx
namespace Nx
open PySem PySem.Spec PyProof.Rows L2
open Tree
section
variable {b : Addr} {X : Cx} {e x y : Expr} {fx fy : DenE} {pos pos2 p p2 : Pos}
def pMax2 : PyData → PyData → Option PyData
  | .int i, .int j => some (.int (max i j))
  | _, _ => none
end
end Nx
namespace Nx
open PySem PySem.Spec PyProof.Rows L2
open Tree
end Nx
namespace Nx
open PySem PySem.Spec PyProof.Rows L2
open Tree
section
variable {G G' : Hp}
theorem RO.ez (e : Ez G G') {v : V} : ∀ {o : OV}, RO G v o → RO G' v o
  | .im _, h => Dv.ez e h
  | .own _, h => h
  | .scr _ _, ⟨a, h1, h2⟩ => ⟨a, h1, by
    rcases h2 with (h | ⟨o, h⟩) | h
    · exact .inl (.inl (e _ _ h fun _ z => nomatch z))
    · exact .inl (.inr ⟨o, e _ _ h fun _ z => nomatch z⟩)
    · exact .inr h⟩
  | .pr _ _, ⟨t, v2, h1, h2, h3⟩ => ⟨t, v2, h1, e _ _ h2 (fun _ z => nomatch z), Dv.ez e h3⟩
  | .dic _, ⟨a, xs, h1, h2, h3⟩ => ⟨a, xs, h1, by
    rcases h2 with ⟨is, h2, h4⟩ | ⟨iss, o, h2, h4⟩
    · exact .inl ⟨is, h2, e _ _ h4 (fun _ z => nomatch z)⟩
    · exact .inr ⟨iss, o, h2, e _ _ h4 (fun _ z => nomatch z)⟩, DvA.ez e h3⟩
  | .ob P, h => P.mono e h
theorem ROs.ez (e : Ez G G') : ∀ {vs : List V} {os : List OV}, ROs G vs os → ROs G' vs os
  | _, _, .nil => .nil
  | _, _, .cons h t => .cons (RO.ez e h) (ROs.ez e t)
theorem ThOk.ez {C : Addr} {who : Addr → Option Addr} {H : Hp} {a : Addr} (e : Ez G G') : ∀ {t : Th}, ThOk C who G H a t → ThOk C who G' H a t
  | .dT kvs, ⟨xs, h1, h2⟩ => ⟨xs, h1, h2.ez e⟩
  | .cir c, ⟨dx, q, r, vb, xs, ys, h1, h2, h3, h4, h5, h6, h7, h8, h9, h10, h11⟩ => ⟨dx, q, r, vb, xs, ys, h1, h2, h3, h4, h5, h6, h7, h8, h9.ez e, h10.ez e, h11.ez e⟩
theorem ez_upd {p : Addr} {f g : Heap → Prop} (h : G p = some (.ext f)) : Ez G (upd G p (.ext g)) := fun a o e n => by
  rw [upd_ne (fun z => by rw [z, h] at e; cases e; exact n f rfl)]
  exact e
theorem RM.ext {H : Hp} {μ : Mu} (r : RM G H μ) {p : Addr} {f g : Heap → Prop} (h : G p = some (.ext f)) : RM (upd G p (.ext g)) (upd H p (.ext g)) μ := by
  refine ⟨fun a u e => ?_, fun a l q => ?_, ?_⟩
  · by_cases ha : a = p
    · subst ha
      rw [upd_same] at e ⊢
      exact e
    · rw [upd_ne ha] at e ⊢
      exact r.ex a u e
  · obtain ⟨g0, vs, e, w⟩ := r.own a l q
    have ha : a ≠ p := fun z => by rw [z, h] at g0; cases g0
    exact ⟨by rw [upd_ne ha]; exact g0, vs, by rw [upd_ne ha]; exact e, w.ez (ez_upd h)⟩
  · obtain ⟨who, t⟩ := r.thg
    have ne : ∀ x a, who x = some a → x ≠ p := fun x a hx z => by
      have := (t.of x a hx).1
      rw [z, h] at this
      cases this
    refine ⟨who, fun a th q => ?_, fun x a hx => ?_⟩
    · obtain ⟨h1, h2⟩ := t.ok a th q
      exact ⟨h1, (h2.ez (ez_upd h)).keep h1 fun x hx => upd_ne (ne x a hx)⟩
    · obtain ⟨h1, h2, h3, h4⟩ := t.of x a hx
      exact ⟨by rw [upd_ne (ne x a hx)]; exact h1, h2, by rw [upd_ne (ne x a hx)]; exact h3, h4⟩
end
end Nx
namespace Nx
open PySem PySem.Spec PyProof.Rows L2
open Tree
def lookT : TD → List Int → Option PyData
  | [], _ => none
  | (k, v) :: r, t => if k = t then some v else lookT r t
def putT : TD → List Int → PyData → TD
  | [], t, d => [(t, d)]
  | (k, v) :: r, t, d => if k = t then (k, d) :: r else (k, v) :: putT r t d
theorem imD_snd (kvs : TD) : (imD kvs).map (·.2) = (kvs.map (·.2)).map OV.im := by
  unfold imD
  rw [List.map_map, List.map_map]
  rfl
def odcE (E : Env) (i : Nat) : Option TD := match E[i]? with | some (some (.odc kvs)) => some kvs | _ => none
theorem odcE_some {E : Env} {i : Nat} {kvs : TD} (h : odcE E i = some kvs) : E[i]? = some (some (.odc kvs)) := by
  unfold odcE at h
  split at h
  · rename_i e
    cases h
    exact e
  · cases h
def tdE (E : Env) (i : Nat) : Option TD := match E[i]? with | some (some (.odc kvs)) => some kvs | some (some (.dtt kvs)) => some kvs | _ => none
def TdO (kvs : TD) (μ : Mu) (o : OV) : Prop := (∃ p, o = .own p ∧ μ.d p = some (.dT (imD kvs))) ∨ o = .ob (dttP kvs)
theorem TdO.step {b : Addr} {kvs : TD} {μ μ' : Mu} {o : OV} (s : Bs b μ μ') (h : TdO kvs μ o) : TdO kvs μ' o := h.imp (fun ⟨p, e, h⟩ => ⟨p, e, s.thg _ _ h⟩) id
theorem TdO.at {G H : Hp} {μ : Mu} {kvs : TD} {o : OV} {v : V} (m : RM G H μ) (h : TdO kvs μ o) (r : RO G v o) : ∃ a xs, v = .ref a ∧ Rd H a (.dT (kvV (imD kvs) xs)) ∧ DvA G xs (kvs.map (·.2)) := by
  rcases h with ⟨p, rfl, h⟩ | rfl
  · have r : v = .ref p := r
    obtain ⟨_, _, xs, h1, h2⟩ := m.atD h
    rw [imD_snd] at h2
    exact ⟨p, xs, r, .inl h1, ROs.ims h2⟩
  · obtain ⟨a, o, xs, h1, h2, h3⟩ := r
    exact ⟨a, xs, h1, .inr ⟨o, m.ex _ _ h2⟩, h3⟩
def isNd (kvs : TD) : Option Unit := if (kvs.map (·.1)).Nodup then some () else none
def tDen (f : DenE) : Env → Tree (List Int) := fun E => (f E).bind fun x => liftO (asT x)
section
variable {b : Addr} {X : Cx} {e x y z : Expr} {fx fy fz : DenE} {pos p apos cpos : Pos} {st : Stmt} {k : Nat}
theorem Rel.odc {μ0 μ : Mu} {E : Env} {ρ : Rho} {i : Nat} {kvs : TD} (R : Rel b μ0 E ρ μ) (h : odcE E i = some kvs) : ∃ p, ρ[i]? = some (some (.own p)) ∧ μ0.d p = none ∧ μ.d p = some (.dT (imD kvs)) := by
  obtain ⟨o, h1, p, rfl, h2, h3⟩ := R.get i _ (odcE_some h)
  exact ⟨p, h1, h2, h3⟩
def sNewD (i : Nat) : DenS := fun E => .ret (.nx (E.set i (some (.odc []))))
def dGetO (i : Nat) (fk fz : DenE) : DenE := fun E => match tdE E i with
  | some kvs => (tDen fk E).bind fun t => (fz E).bind fun z => .ret ((lookT kvs t).getD z)
  | none => .fail
def dIdxO (i : Nat) (fk : DenE) : DenE := fun E => match tdE E i with
  | some kvs => (tDen fk E).bind fun t => liftO (lookT kvs t)
  | none => .fail
def tNinD (i : Nat) (fk : DenE) : DenB := fun E => match tdE E i with
  | some kvs => (tDen fk E).bind fun t => .ret (lookT kvs t).isNone
  | none => .fail
def sPutO (i : Nat) (fk fv : DenE) : DenS := fun E => match odcE E i with
  | some kvs => (liftO (isNd kvs)).bind fun _ => (liftO (small kvs.length)).bind fun _ => (fv E).bind fun d => (tDen fk E).bind fun t => .ret (.nx (E.set i (some (.odc (putT kvs t d)))))
  | none => .fail
end
end Nx
namespace Nx
open PySem PySem.Spec PyProof.Rows L2
open Tree
end Nx
namespace Nx
open PySem PySem.Spec PyProof.Rows L2
open Tree
theorem RV.set_same {G : Hp} {ρ : Rho} {σ : L2.St} (v : RV G ρ σ) {i : Nat} {u : V} {o : OV} (h : σ[i]? = some (some u)) (r : RO G u o) : RV G (ρ.set i (some o)) σ := by
  have v2 := v.set (i := i) r
  have e1 : σ.set i (some u) = σ := by
    apply List.ext_getElem?
    intro j
    by_cases hj : i = j
    · subst hj
      rw [List.getElem?_set_self (List.getElem?_eq_some_iff.mp h).1, h]
    · rw [List.getElem?_set_ne hj]
  rw [e1] at v2
  exact v2
def lockE (i : Nat) (E : Env) : Env := match odcE E i with | some kvs => E.set i (some (.dtt kvs)) | none => E
def sLock (i : Nat) (g : DenS) : DenS := fun E => g (lockE i E)
def dttE (E : Env) (i : Nat) : Option TD := match E[i]? with | some (some (.dtt kvs)) => some kvs | _ => none
def keysT (kvs : TD) : List (List Int) := kvs.map (·.1)
section
variable {b : Addr} {X : Cx} {e x y z tg : Expr} {es : List Expr} {fx fy fz : DenE} {pos p apos cpos : Pos} {st : Stmt} {ss : List Stmt} {k : Nat} {g : DenS} {gs : Env → Tree (List W)}
def pSrtD (kvs : TD) : Option PyData := if 1 ≤ hdLen (keysT kvs) ∧ kvs.length ≤ 1000 ∧ (keysT kvs).all (bdT (hdLen (keysT kvs))) = true then some (.list ((srtT (keysT kvs)).map tpl)) else none
def dSrtD (i : Nat) : DenE := fun E => match tdE E i with | some kvs => liftO (pSrtD kvs) | none => .fail
def iDtt (i : Nat) : DenL := fun E => match dttE E i with | some kvs => .ret ((keysT kvs).map tpl) | none => .fail
def tC (g : DenS) (h : Env → Tree TD) : Env → Tree TD := fun E => (g E).bind fun o => match o with | .nx E' => h E' | _ => .fail
def tRet (i : Nat) : Env → Tree TD := fun E => match odcE E i with | some kvs => .ret kvs | none => .fail
def tCall2 (F : List W → Tree TD) (gs : Env → Tree (List W)) : Env → Tree TD := fun E => (gs E).bind F
def sParDt (i j : Nat) (ft : Env → Tree TD) (fy : DenE) : DenS := fun E => (ft E).bind fun kvs => (fy E).bind fun d => .ret (.nx ((E.set i (some (.dtt kvs))).set j (some (.d d))))
end
section
variable {P : Program} {w : World} {K : PySem.W.Frag} {mg : Str → Option Value} {base : Heap}
def fnT (a n : Nat) (body : Env → Tree TD) : List W → Tree TD := fun ws => (liftO (lenIs a ws)).bind fun _ => body (ws.map (fun w => some (ent w)) ++ List.replicate (n - a) none)
end
end Nx
namespace Nx
open PySem PySem.Spec PyProof.Rows L2
open Tree
end Nx
namespace Nx
open PySem PySem.Spec PyProof.Rows L2
open Tree
def putAll (kvs : TD) (qs : TD) : TD := qs.foldl (fun acc p => putT acc p.1 p.2) kvs
def asTP : List PyData → Option TD
  | [] => some []
  | .tuple [k, d] :: r => match asT k, asTP r with
    | some t, some ps => some ((t, d) :: ps)
    | _, _ => none
  | _ => none
def lTP (x : PyData) : Option TD := match x with | .list ds => asTP ds | _ => none
def sUpd (i : Nat) (fx : DenE) : DenS := fun E => match odcE E i with
  | some kvs => (liftO (isNd kvs)).bind fun _ => (liftO (if kvs.isEmpty then none else some ())).bind fun _ => (fx E).bind fun x => (liftO (lTP x)).bind fun qs => (liftO (isNd qs)).bind fun _ => (liftO (small (kvs.length + qs.length))).bind fun _ => .ret (.nx (E.set i (some (.odc (putAll kvs qs)))))
  | none => .fail
end Nx
namespace Nx
open PySem PySem.Spec PyProof.Rows L2
open Tree
section
variable {b : Addr} {X : Cx} {x y z e tg kx vx : Expr} {es : List Expr} {fx fy fz fk fv : DenE} {pos p q1 : Pos} {k kt : Nat} {st : Stmt} {ρ : Rho} {μ μ0 : Mu} {E : Env}
def sDD (i j l : Nat) (fk fx fk2 fy fz : DenE) : DenS := fun E => (tDen fk E).bind fun t => (fx E).bind fun d => (tDen fk2 E).bind fun t' => (fy E).bind fun d' => (fz E).bind fun c => .ret (.nx (((E.set i (some (.odc [(t, d)]))).set j (some (.odc [(t', d')]))).set l (some (.d c))))
def sND (i j : Nat) (fy : DenE) : DenS := fun E => (fy E).bind fun c => .ret (.nx ((E.set i (some (.odc []))).set j (some (.d c))))
def tNeN (i : Nat) : DenB := fun E => match tdE E i with | some kvs => .ret (!kvs.isEmpty) | none => .fail
def sCpT (i j : Nat) : DenS := fun E => match dttE E j with | some kvs => .ret (.nx (E.set i (some (.dtt kvs)))) | none => .fail
def sParDt3 (i j l : Nat) (ft : Env → Tree TD) (fy fz : DenE) : DenS := fun E => (ft E).bind fun kvs => (fy E).bind fun d => (fz E).bind fun d' => .ret (.nx (((E.set i (some (.dtt kvs))).set j (some (.d d))).set l (some (.d d'))))
end
section
variable {b : Addr} {X : Cx} {ss : List Stmt}
def tLock (i : Nat) (h : Env → Tree TD) : Env → Tree TD := fun E => h (lockE i E)
end
end Nx
set_option maxHeartbeats 4000000
namespace PySem
namespace HandSPX
open PySem.W PySem.Calls PyProof.Rows
open Builtin Builtin.ObjectAttr
section
variable {prog : Program} {w : World} {A : Around} {E : Value → Shared → Prop} {R : Result → Shared → Prop} {hp : Heap} {g : Array GenState} {d : Drawn} {t : Nat} {os : OsState}
theorem exc_osaB {B : String} {bm : List Value} {K : W.Frag} {name : Str} {tk : Tok} {v : Value} {x C : Addr} {fv : Array Value} {cd : ClassData} (ST : StoreFacts B bm "object.__setattr__" "object")
    (X : K.In hp) (hx : hp.get? x = some { cls := .ref C, data := .fields fv }) (hcd : W.clsIn K C = some cd) (hm : cd.mro = .ref C :: bm) (hh : cd.hasDict = true) (ha : W.findIn K (.ref C) name = some none)
    (hq : ∀ h' tk' dx, (∀ b o, b ≠ x → hp.get? b = some o → h'.get? b = some o) → hp.objs.size ≤ dx → dx ≠ x → h'.get? x = some { cls := .ref C, dict := some dx, data := .fields fv } →
      h'.Ns1 dx (fun y => if y = name then some v else none) → R (.ok (.ret .none)) ⟨h', g, d, tk', os⟩) :
    codeAny (model prog w) A (.call (.builtin "object.__setattr__") ⟨[.ref x, .str name tk, v], []⟩) R ⟨hp, g, d, t, os⟩ := by
  have I : W.InstAt hp x { cls := .ref C, data := .fields fv } C none := ⟨hx, rfl, rfl, trivial⟩
  have SF := F.store_object
  have ne : cd.mro.isEmpty = false := by rw [hm]; rfl
  have hob : cd.mro.contains (.type "object") = true := by rw [hm, List.contains_cons, ST.hasOwner, Bool.or_true]
  have hxs : x ≠ hp.objs.size := Nat.ne_of_lt (Heap.lt_size hx)
  have sub : W.Looks (model prog w) hp (isInstance (.ref x) (.type "object")) true := I.type.andThen (W.looks_mroIn X (by unfold W.mroIn; rw [hcd, Option.bind_some, if_neg (by rw [ne]; decide), hob]))
  refine codeAny_call_builtin SF.slot.plain SF.entry (@W.check_slot (model prog w) _ _ ⟨hp, g, d, t, os⟩ "object.__setattr__" "object" "__setattr__" (.ref x) [.str name tk, v] [] _ SF.kind SF.split sub (SF.args (.ref x) (.str name tk) v) ?_)
  have hmr : W.Looks (model prog w) hp (mroOf (.ref C)) cd.mro := (W.looks_clsIn X hcd).andThen .now
  have L3 : W.Looks (model prog w) hp (storeTaker? none) none := .now
  have hcls : W.Looks (model prog w) hp (classData C) cd := W.looks_clsIn X hcd
  rw [W.osa_eq, refuse_eq]
  refine wpAny_bind (wpAny_bind (I.type.at (wpAny_bind (hmr.at ?_))))
  rw [show refuseLoop (.ref x) "__setattr__" cd.mro = pure () by rw [hm, refuseLoop_ref]; exact ST.passes _]
  refine wpAny_pure (wpAny_bind (I.type.at (wpAny_bind ((W.looks_findIn X ha).at (wpAny_bind (L3.at ?_))))))
  show wpAny _ _ (storeInOwnDict (.ref x) (.ref C) (.str name tk) name v false) _ _ _
  obtain ⟨nm, bs, mro, ns, qn, hd, sn, sb, ab, col, del⟩ := cd
  dsimp only at hh
  subst hh
  unfold storeInOwnDict ownDictForStores
  repeat (first | with_reducible refine store_in_new ?_ ?_ | with_reducible refine wpAny_loadPart_at hx ?_ | with_reducible refine hcls.at ?_ | wp_step)
  · exact ⟨_, #[], _, (Heap.get?_update_ne _ _ _ _ hxs.symm).trans (Heap.get?_push_at rfl rfl), rfl, fun e he => absurd he (by simp), fun _ => rfl⟩
  · intro h' tk' hn' hs
    have hx₁ : (hp.push { cls := .type "dict", data := .dict #[] }).get? x = some { cls := .ref C, data := .fields fv } := Heap.get?_push_of_some _ hx
    refine hq h' tk' hp.objs.size (fun b o hb ho => ?_) (Nat.le_refl _) hxs.symm ?_ hn'
    · exact (hs.2 b (Nat.ne_of_lt (Heap.lt_size ho))).trans ((Heap.get?_update_ne _ _ _ _ hb).trans (Heap.get?_push_of_some _ ho))
    · exact (hs.2 x hxs).trans (Heap.get?_update_self _ hx₁ rfl)
end
end HandSPX
end PySem
namespace Nx
open PySem PySem.Spec PyProof.Rows L2
structure BsF (B newId initId : String) (bm : List Value) : Prop where
  ex : ExcBaseFacts B newId initId bm
  st : StoreFacts B bm "object.__setattr__" "object"
  ty : typeOf (.type B) = pure (.type "type")
  stub : Manifest.isStub B = false
  hand : PySem.W.handedIn (.builtin initId) = true
theorem bsVE : BsF "ValueError" "ValueError.__new__" "ValueError.__init__" [.type "ValueError", .type "Exception", .type "BaseException", .type "object"] := ⟨F.excBase_ValueError, F.store_ValueError, by kernel_rfl, by decide +kernel, by decide +kernel⟩
theorem bsLE : BsF "LookupError" "LookupError.__new__" "LookupError.__init__" [.type "LookupError", .type "Exception", .type "BaseException", .type "object"] := ⟨F.excBase_LookupError, F.store_LookupError, by kernel_rfl, by decide +kernel, by decide +kernel⟩
theorem bsRE : BsF "RuntimeError" "RuntimeError.__new__" "RuntimeError.__init__" [.type "RuntimeError", .type "Exception", .type "BaseException", .type "object"] := ⟨F.excBase_RuntimeError, F.store_RuntimeError, by kernel_rfl, by decide +kernel, by decide +kernel⟩
structure ExB (K : PySem.W.Frag) (C : Addr) (newId : String) (bm : List Value) : Prop where
  cls : ∃ nm q N bs sn sub ab col dd k0 k1 k2 k3 k5, K.lookup C = some (excClassObj nm q C N bs bm true sn sub ab col dd k0 k1 k2 k3 k5 newId)
  sa : PySem.W.findIn K (.ref C) "__setattr__" = some (some (.builtin "object.__setattr__"))
  kC : PySem.W.keepIn K (.ref C) = true
section
variable {X : Cx} {pins : List (Addr × Obj)} {σ : L2.St} {H : Hp} {s : Shared} {a C dx : Addr} {f : Str} {y : V} {u : Value} {fs : List (Str × V)} {E : Value → Shared → Prop} {A : Around} {B newId initId : String} {bm : List Value}
theorem ost_newB {Q : Unit → Shared → Prop} (Z : BsF B newId initId bm) (T : ExB X.K C newId bm) (I : Inv X pins σ H s) (e : H a = some (exo a C none)) (hno : PySem.W.findIn X.K (.ref C) f = some none) (ry : RelV y u)
    (h : ∀ dx s', H dx = none → dx ≠ a → Inv X pins σ (upd (upd H dx (exd dx [(f, y)])) a (exo a C (some dx))) s' → Q () s') : wpAny (model X.prog X.w) A (setAttr (.ref a) f u) Q E s := by
  obtain ⟨nm, q, N, bs, sn, sub, ab, col, dd, k0, k1, k2, k3, k5, hC⟩ := T.cls
  have hcl : PySem.W.clsIn X.K C = some { name := nm, bases := bs, mro := .ref C :: bm, ns := N, qualname := q, hasDict := true, slotNames := sn, subclasses := sub, abstract := ab, collection := col, hasDel := false } := by unfold PySem.W.clsIn; rw [hC] <;> rfl
  obtain ⟨t1, ho⟩ := exo_at I.hok e
  obtain ⟨hp, g, d, t, os⟩ := s
  refine PySem.W.set_plain I.kIn (ox := { cls := .ref C, dict := none, data := .fields #[.ref t1, .none, .none, .none, .bool false, .none] }) (od := none) ⟨ho, rfl, rfl, trivial⟩ T.sa ?_
  refine PySem.HandSPX.exc_osaB Z.st I.kIn ho hcl rfl rfl hno (fun h' tk' dx k dn dne hx hn => ?_)
  have hnd : H dx = none := I.hok.fresh dn
  have nd : ∀ {b : Addr} {o : Obj}, hp.get? b = some o → b ≠ dx := fun {b o} q => Nat.ne_of_lt (Nat.lt_of_lt_of_le (Heap.lt_size q) dn)
  have na : ∀ {b : Addr}, H b = none → b ≠ a := fun {b} n z => by
    rw [z, e] at n
    cases n
  have Un1 : Un X.fs [] H (upd (upd H dx (exd dx [(f, y)])) a (exo a C (some dx))) hp h' := {
    keep := fun b o q n _ _ => k b o (na n) q
    slot := fun b o q n _ _ => ⟨o.slots, k b o (na n) q⟩
    free := fun b o q n _ => by rw [upd_ne (na n), upd_ne (nd q)]; exact n
    there := fun b o q _ => by
      by_cases hb : b = a
      · exact ⟨_, by rw [hb]; exact hx⟩
      · exact ⟨o, k b o hb q⟩
    tups := fun b xs q => by rw [upd_ne (at_ne e q exo_tup), upd_ne (ne_of_none q hnd)]; exact q
    frzs := fun b o v q => by rw [upd_ne (at_ne e q exo_frz), upd_ne (ne_of_none q hnd)]; exact q
    tbls := fun b ps q => ⟨#[], by rw [upd_ne (at_ne e q exo_tbl), upd_ne (ne_of_none q hnd), q]; simp⟩ }
  refine h dx _ hnd dne (I.un (t' := tk') Un1 fun b o q => ?_)
  by_cases hb : b = a
  · subst hb
    rw [upd_same] at q
    cases q
    exact exo_ok hx
  · rw [upd_ne hb] at q
    by_cases hd : b = dx
    · subst hd
      rw [upd_same] at q
      cases q
      exact exd_ok hn (relO_put (fs := []) ry fun g => True.intro)
    · rw [upd_ne hd] at q
      exact (I.hok b o q).stay (fun c v hc z => k c v (by
          rcases hc with hc | hc
          · rw [hc]
            exact hb
          · exact at_ne e hc exo_own) z)
        (fun c hc => by rw [upd_ne (at_ne e hc exo_own), upd_ne (ne_of_none hc hnd)]; exact hc) (fun c xs hc => by rw [upd_ne (at_ne e hc exo_tup), upd_ne (ne_of_none hc hnd)]; exact hc)
theorem oinit_okB {us : List Value} {Q : Value → Shared → Prop} (Z : BsF B newId initId bm) (T : ExB X.K C newId bm) (I : Inv X pins σ H s) (e : H a = some (exo a C none)) (hl : us.length ≤ sizeLine) (h : ∀ s', Inv X pins σ H s' → Q .none s') :
    wpAny (model X.prog X.w) A (call (.builtin initId) (.ref a :: us)) Q E s := by
  obtain ⟨nm, q, N, bs, sn, sub, ab, col, dd, k0, k1, k2, k3, k5, hC⟩ := T.cls
  obtain ⟨t1, ho⟩ := exo_at I.hok e
  obtain ⟨hp, g, d, t, os⟩ := s
  refine wpAny_call (PySem.HandSPX.init_base Z.ex (fun Y => rfl) (I.kIn _ _ hC) ho hl fun h' t2 k hx => ?_)
  have J := I.write (t' := t) (x := a) (e := a) (o := exo a C none) (by rw [e]; exact True.intro) (.inl rfl) k ⟨_, hx⟩ (exo_ok hx)
  have eu : upd H a (exo a C none) = H := by
    funext b
    by_cases hb : b = a
    · rw [hb, upd_same, e]
    · rw [upd_ne hb]
  rw [eu] at J
  exact h _ J
end
def tBI (K : PySem.W.Frag) (newId : String) (bm : List Value) (ta : TA) : TE := fun σ H Q => ta σ H fun vs H1 => ∃ (a C : Addr) (ws : List V), vs = .ref a :: ws ∧ ws.length ≤ 1000 ∧ ExB K C newId bm ∧ H1 a = some (exo a C none) ∧ Q .non H1
def tOs1 (K : PySem.W.Frag) (newId : String) (bm : List Value) (f : Str) (to te : TE) : TS := fun D σ H => te σ H fun y H1 => to σ H1 fun x H2 => ∃ a C : Addr, x = .ref a ∧ ExB K C newId bm ∧ PySem.W.findIn K (.ref C) f = some none ∧
  H2 a = some (exo a C none) ∧ ∀ dx, H2 dx = none → dx ≠ a → D.nx σ (upd (upd H2 dx (exd dx [(f, y)])) a (exo a C (some dx)))
section
variable {X : Cx} {o e : Expr} {es : List Expr} {to te : TE} {ta : TA} {f : Str} {p p' p1 p2 pos : Pos} {B newId initId : String} {bm : List Value} {nB : Str}
theorem pe_binit {pl : Sem Bool} (Z : BsF B newId initId bm) (hg : Gl X nB) (hm : X.mg nB = none) (hv : bootBuiltins nB = some (.type B)) (vV : PySem.W.findCls X.K (.type B) (.type "type") "__init__" = some (.val (.builtin initId))) (ha : PA X (e :: es) ta)
    (hc : eval (.Call (.Attribute (.Name nB p1) "__init__" p2) (e :: es) [] pos) X.env = (do
      let ov ← eval (.Name nB p1) X.env
      standAt p2.atName
      let (f, first) ← holding [ov] (getMethod ov "__init__" pl)
      callWith pos f first (backTo pos (starEach (e :: es) X.env)) (backToKw pos (keywordEach [] X.env))) := by rfl)
    (he : starEach (e :: es) X.env = (false, eval e X.env) :: starEach es X.env := by rfl) (hpl : (backTo pos (starEach es X.env)).any (·.1) = false := by rfl) (hn : nB ≠ "__name__" := by decide) (hd : (nB == ("__debug__" : Str)) = false := by decide) :
    PE X (.Call (.Attribute (.Name nB p1) "__init__" p2) (e :: es) [] pos) (tBI X.K newId bm ta) := by
  refine ⟨fun pins s σ H Q I h => ?_⟩
  refine PySem.W.methodCall_KW (ld_blt I hg hm hv ?_ hn hd) hc
  obtain ⟨m, fr⟩ := I.fr
  refine PySem.W.method_type fr I.ok.mod.kin Z.ty Z.stub vV Z.hand ?_
  show wpAny _ _ (callWith pos (Value.builtin initId) [] (backTo pos (starEach (e :: es) X.env)) []) _ _ _
  refine PyProof.Rows.callWith_method1 (thn (ha.run pos pins _ σ H _ (I.tok _) h) fun us s1 ⟨vs, H1, I1, r1, a, C, ws, ev, hl, T, ea, q⟩ => ?_) he hpl
  subst ev
  cases r1 with
  | @cons _ u0 _ ur ra rw' =>
    obtain rfl : u0 = Value.ref a := ra
    have hlen : ur.length ≤ sizeLine := by
      rw [← Paired.length rw', sizeLine_eq]
      omega
    exact oinit_okB Z T I1 ea hlen fun s' J => ⟨.non, H1, J, rfl, q⟩
theorem ps_os1 (Z : BsF B newId initId bm) (ho : PE X o to) (he : PE X e te) (hs : swapsWith e (some (.Attribute o f p')) pos.line X.env = pure false := by rfl) : PS X (.Assign [.Attribute o f p'] e pos) (tOs1 X.K newId bm f to te) := by
  refine ⟨fun pins s σ H D I h => ?_⟩
  refine plainObj_wpAny_Assign_Attribute (thn (he.run pins s σ H _ I h) fun v s1 ⟨y, H1, I1, r1, q1⟩ => thn (ho.run pins s1 σ H1 _ I1 q1) fun u s2 ⟨x, H2, I2, r2, a, C, ex, T, hno, ea, q⟩ => ?_) hs
  subst ex
  obtain rfl : u = Value.ref a := r2
  exact ost_newB Z T I2 ea hno r1 fun dx s' n ne J => ⟨σ, _, J, q dx n ne⟩
end
def spInit (K : PySem.W.Frag) (C : Addr) (f : Str) : Sp := fun vs H Q _ => ∃ (a : Addr) (y : V), vs = [.ref a, y] ∧ H a = some (exo a C none) ∧ ∀ dx, H dx = none → dx ≠ a → Q .non (upd (upd H dx (exd dx [(f, y)])) a (exo a C (some dx)))
end Nx
set_option maxHeartbeats 4000000
namespace Nx
open PySem PySem.Spec PyProof.Rows L2
structure ExT (P : Program) (w : World) (K : PySem.W.Frag) (mg : Str → Option Value) (base : Heap) (x : Str) (C : Addr) (f : Str) : Prop where
  bs : ∃ B newId initId bm, BsF B newId initId bm ∧ ExB K C newId bm ∧ bm.contains (.type "BaseException") = true
  gC : mg x = some (.ref C)
  exC : PySem.W.subIn K (.ref C) (.type "BaseException") = some true
  tyC : PySem.W.typeIn K (.ref C) = some (.type "type")
  ini : ∃ fI fd, PySem.W.findIn K (.ref C) "__init__" = some (some (.ref fI)) ∧ PySem.W.typeIn K (.ref fI) = some (.type "function") ∧ FnOk P w K mg base CX0 2 fI fd ["self", f] (spInit K C f) ∧ Binds K fd ["self", f] []
def tMk1 (C : Addr) (f : Str) (ta : TA) : L2.St → Hp → XK → Prop := fun σ H Q => ta σ H fun vs H1 => ∃ y, vs = [y] ∧ ∀ dx, H1 dx = none → Q (.ref C) (some dx) (upd H1 dx (.xd [(f, y)]))
section
variable {X : Cx} {e : Expr} {es : List Expr} {te : TE} {ta : TA} {f x : Str} {p pos : Pos} {C : Addr}
theorem upd_del {H1 : Hp} {a dx : Addr} {u v w : HO} (ha : H1 a = none) (hd : dx ≠ a) : upd (del (upd (upd (upd H1 a u) dx v) a w) a) dx (.xd [(f, y)]) = upd H1 dx (.xd [(f, y)]) := by
  funext b
  by_cases h1 : b = dx
  · rw [h1, upd_same, upd_same]
  · rw [upd_ne h1, upd_ne h1]
    by_cases h2 : b = a
    · rw [h2, del_same, ha]
    · rw [del_ne h2, upd_ne h2, upd_ne h1, upd_ne h2]
theorem pmk_one (T : ExT X.prog X.w X.K X.mg X.base x C f) (hr : Rm 3 X.A) (hx : Passes CX0 X (fun _ _ _ => False)) (hg : Gl X x) (ha : PA X [e] ta)
    (hdb : (x == ("__debug__" : Str)) = false := by decide) (he : starEach [e] X.env = (false, eval e X.env) :: starEach [] X.env := by rfl) (hpl : (backTo pos (starEach [] X.env)).any (·.1) = false := by rfl) :
    PMk X (.Call (.Name x p) [e] [] pos) (tMk1 C f ta) := by
  intro pins s σ H Q I h
  obtain ⟨B, newId, initId, bm, Z, T1, _⟩ := T.bs
  obtain ⟨fI, fd, iC, tI, F1, hb⟩ := T.ini
  obtain ⟨nm, q, N, bs, sn, sub, ab, col, dd, k0, k1, k2, k3, k5, hC⟩ := T1.cls
  refine wpAny_Call_Name_kw (ld_glob I hg T.gC ?_ hdb)
  refine PySem.W.callWith_K (h₀ := X.base) I.ok.mod.kin T1.kC (thn (ha.run pos pins s σ H _ I h) fun us s1 ⟨vs, H1, I1, r1, y, ev, q1⟩ => ⟨I1.kIn, ?_⟩) he hpl
  subst ev
  show wpAny _ _ (call (.ref C) us) _ _ _
  obtain ⟨hp, g, dr, tk, os⟩ := s1
  have hsz : hp.objs.size ≤ hp.objs.size + 1 := Nat.le_succ _
  have hn : H1 (hp.objs.size + 1) = none := I1.hok.fresh hsz
  have kk : ∀ b o, hp.get? b = some o → ((hp.push (PySem.W.kdv_tup us)).push (PySem.HandSPX.excO C hp.objs.size)).get? b = some o := fun b o e => Heap.get?_push_of_some _ (Heap.get?_push_of_some _ e)
  have hget : ((hp.push (PySem.W.kdv_tup us)).push (PySem.HandSPX.excO C hp.objs.size)).get? (hp.objs.size + 1) = some (PySem.HandSPX.excO C hp.objs.size) := by heap_get
  have I2 : Inv X pins σ (upd H1 (hp.objs.size + 1) (exo (hp.objs.size + 1) C none)) ⟨(hp.push (PySem.W.kdv_tup us)).push (PySem.HandSPX.excO C hp.objs.size), g, dr, tk, os⟩ :=
    I1.laid (t' := tk) (a := hp.objs.size + 1) (o := exo (hp.objs.size + 1) C none) (h' := (hp.push (PySem.W.kdv_tup us)).push (PySem.HandSPX.excO C hp.objs.size)) kk hsz (exo_ok hget)
  have hq : spInit X.K C f [.ref (hp.objs.size + 1), y] (upd H1 (hp.objs.size + 1) (exo (hp.objs.size + 1) C none)) (fun v H2 => v = .non ∧ ∃ (d : Addr) (fs : List (Str × V)), H2 (hp.objs.size + 1) = some (exo (hp.objs.size + 1) C (some d)) ∧ H2 d = some (exd d fs) ∧ H1 d = none ∧ Q (.ref C) (some d) (upd (del H2 (hp.objs.size + 1)) d (.xd fs))) (fun _ _ _ => False) := by
    refine ⟨_, y, rfl, upd_same, fun dx hdx dne => ⟨rfl, dx, [(f, y)], upd_same, ?_, ?_, ?_⟩⟩
    · rw [upd_ne dne, upd_same]
    · rw [upd_ne dne] at hdx
      exact hdx
    · rw [upd_del hn dne]
      rw [upd_ne dne] at hdx
      exact q1 dx hdx
  have r2 : Vals [V.ref (hp.objs.size + 1), y] (Value.ref (hp.objs.size + 1) :: us) := .cons rfl r1
  have hl : (Value.ref (hp.objs.size + 1) :: us ++ []).length = (["self", f] : List Str).length := by
    have e := r1.length
    simp only [List.length_cons, List.length_nil, List.append_nil] at e ⊢
    omega
  have hb2 := hb _ (Value.ref (hp.objs.size + 1) :: us) I2.kIn hl
  rw [List.append_nil] at hb2
  have hus : us.length ≤ sizeLine := by
    rw [← Paired.length r1, sizeLine_eq]
    show 1 ≤ 16777216
    decide
  refine wpAny_call (PySem.HandSPX.call_own Z.ex (fun Y => rfl) (I1.kIn _ _ hC) (PySem.W.looks_findIn I1.kIn iC) (fun self => PySem.W.bind_fn I1.kIn self tI) hus
    (codeAny_mono (F1.run _ X.stack _ _ ⟨Value.ref (hp.objs.size + 1) :: us, []⟩ (Value.ref (hp.objs.size + 1) :: us) _ _ (fun _ _ _ => False) (hr.room.make C us []) (I2.env0.make C us []) hb2 r2 hq) fun r s' hq' => ?_))
  cases r with
  | error er => exact hx pins σ _ _ er s' I2 hq'
  | ok fl =>
    cases fl with
    | ret u =>
      obtain ⟨v, H2, os2, bare2, un2, hok2, rv, ev, d, fs, ea, ed, hd1, q2⟩ := hq'
      subst ev
      obtain ⟨h2, g2, d2, t2, os'⟩ := s'
      exact ⟨rv, mk_end (raises_own T.exC T.tyC) I1 hsz kk un2 hok2 os2 bare2 ea ed hd1 q2⟩
    | next => exact False.elim hq'
    | brk => exact False.elim hq'
    | cont => exact False.elim hq'
end
structure Thr where
  C : Addr
  f : Str
  d : PyData
def Wsh (P : Rho → Prop) (W : WX) (b : Addr) (x : Thr) (G : Hp) (μ : Mu) : Prop := ∀ ρ' μ' G' H' σ' dx y, P ρ' → Bs b μ μ' → Ex G G' → RM G' H' μ' → RV G' ρ' σ' → G' dx = some (.xd [(x.f, y)]) → Dv G' y x.d → W (.ref x.C) (some dx) σ' H'
theorem Wsh.later {P : Rho → Prop} {W : WX} {b : Addr} {x : Thr} {G G1 : Hp} {μ μ1 : Mu} (h : Wsh P W b x G μ) (e : Ex G G1) (s : Bs b μ μ1) : Wsh P W b x G1 μ1 := fun ρ' μ' G' H' σ' dx y p s' e' => h ρ' μ' G' H' σ' dx y p (s.trans s') (e.trans e')
def DZe (P : Rho → Prop) (X : Cx) (b : Addr) (e : Expr) (ρ : Rho) (μ0 μ : Mu) (x : Thr) : Prop := ∀ G H σ, RM G H μ → RV G ρ σ → ∀ W Q, Takes X W → Wsh P W b x G μ0 → WE X e σ H Q
def DZ (P : Rho → Prop) (X : Cx) (b : Addr) (st : Stmt) (ρ : Rho) (μ0 μ : Mu) (x : Thr) : Prop := ∀ G H σ, RM G H μ → RV G ρ σ → ∀ W E, Takes X W → Wsh P W b x G μ0 → WS X st E σ H
def DZs (P : Rho → Prop) (X : Cx) (b : Addr) (ss : List Stmt) (ρ : Rho) (μ0 μ : Mu) (x : Thr) : Prop := ∀ G H σ, RM G H μ → RV G ρ σ → ∀ W E, Takes X W → Wsh P W b x G μ0 → WSs X ss E σ H
section
variable {P : Rho → Prop} {X : Cx} {b : Addr} {st : Stmt} {ss s1 s2 : List Stmt} {e c : Expr} {es : List Expr} {ρ : Rho} {μ0 μ : Mu} {x : Thr} {pos p p2 : Pos} {n : Str}
theorem dzs_here (h : DZ P X b st ρ μ0 μ x) : DZs P X b (st :: ss) ρ μ0 μ x := fun G H σ m v W E tk w => WSs.of (pss_cons pws pwss) (h G H σ m v W _ tk w)
theorem dzs_next (h : DS X st ρ μ ⟨fun ρ' μ' => DZs P X b ss ρ' μ0 μ' x, fun _ _ => False, fun _ _ => False, fun _ _ => False⟩) : DZs P X b (st :: ss) ρ μ0 μ x := fun G H σ m v W E tk w =>
  WSs.of (pss_cons pws pwss) (h G H σ m v _ ⟨fun ρ' μ' G' H' σ' q e m' v' => q G' H' σ' m' v' W E tk (w.later e (Bs.refl b μ0)), fun _ _ _ _ _ q => q.elim, fun _ _ _ _ _ q => q.elim, fun _ _ _ _ _ q => q.elim⟩)
theorem dz_if (h : DT X c ρ μ fun k μ1 => if k = true then DZs P X b s1 ρ μ0 μ1 x else DZs P X b s2 ρ μ0 μ1 x) : DZ P X b (.If c s1 s2 pos) ρ μ0 μ x := fun G H σ m v W E tk w =>
  WS.of (ps_if pwt pwss pwss) (h G H σ m v _ fun k μ1 G1 H1 q e1 m1 => by
    dsimp only at q
    split at q
    · rename_i hk
      rw [if_pos hk]
      exact q G1 H1 σ m1 (v.mono e1) W E tk (w.later e1 (Bs.refl b μ0))
    · rename_i hk
      rw [if_neg hk]
      exact q G1 H1 σ m1 (v.mono e1) W E tk (w.later e1 (Bs.refl b μ0)))
theorem dz_set (i : Nat) {y : Str} {p' : Pos} (hN : X.N.Nodup) (hi : X.N[i]? = some y) (hx : Loc X.env.scope y) (h : DZe P X b e ρ μ0 μ x) (hs : swapsWith e (some (.Name y p')) pos.line X.env = pure false := by rfl)
    (hf : X.fn y = true ∨ X.env.scope.names.lookup y = some .local := by first | exact .inl rfl | exact .inr rfl | assumption) : DZ P X b (.Assign [.Name y p'] e pos) ρ μ0 μ x := fun G H σ m v W E tk w =>
  WS.of (ps_set hN hi hx pwe hs hf) (h G H σ m v W _ tk w)
theorem dz_ret (h : DZe P X b e ρ μ0 μ x) : DZ P X b (.Return (some e) pos) ρ μ0 μ x := fun G H σ m v W E tk w => WS.of (ps_ret pwe) (h G H σ m v W _ tk w)
abbrev Cz := List OV → Mu → Addr → Thr → Prop
def spZ (C : Cz) : Sp := fun vs H _ E => ∃ os μ G b x, RM G H μ ∧ ROs G vs os ∧ C os μ b x ∧ ∀ μ' G' H' dx y, Bs b μ μ' → Ex G G' → RM G' H' μ' → G' dx = some (.xd [(x.f, y)]) → Dv G' y x.d → E (.ref x.C) (some dx) H'
structure FcZ (P : Program) (w : World) (K : PySem.W.Frag) (mg : Str → Option Value) (base : Heap) (n : Str) (st : Stmt) (ps : List Str) (k : Nat) (C : Cz) : Prop where
  ex : ∃ f fd, Fun K n n st f fd ∧ mg n = some (.ref f) ∧ FnG P w K mg base (L2.CX P w) k f fd ps (spZ C)
theorem FcZ.mono {P : Program} {w : World} {K : PySem.W.Frag} {mg : Str → Option Value} {base : Heap} {j k : Nat} {n : Str} {st : Stmt} {ps : List Str} {C : Cz} (F : FcZ P w K mg base n st ps j C) (h : j ≤ k) : FcZ P w K mg base n st ps k C := by
  obtain ⟨f, fd, a, b, c⟩ := F.ex
  exact ⟨⟨f, fd, a, b, c.mono h⟩⟩
theorem fcz_of {Pr : Program} {w : World} {K : PySem.W.Frag} {mg : Str → Option Value} {base : Heap} {k : Nat} {f : Addr} {n : Str} {st : Stmt} {fd : FuncData} {N ps : List Str} {C : Cz} (F : Fun K n n st f fd) (hm : mg n = some (.ref f)) (S : FnScope N ps (defScope st)) (len : ∀ os μ b x, C os μ b x → os.length = ps.length)
    (body : ∀ (cdv : Value) A outer s H E os μ b x, Rm k (A.deeper (envOfC n (defScope st) s.heap.objs.size f cdv)) → C os μ b x →
      DZs (fun _ => True) (cxOf (L2.CX Pr w) Pr w K mg base N n (defScope st) f cdv A outer s H E) b (defBody st) (os.map some ++ List.replicate (N.length - os.length) none) μ μ x) : FcZ Pr w K mg base n st ps (k + 1) C := by
  refine ⟨⟨f, fd, F, hm, fng_of F S (fun vs H Q E h => ?_) fun cdv A outer s H vs Q E hr h => ?_⟩⟩
  · obtain ⟨os, μ, G, b, x, _, r, c, _⟩ := h
    rw [r.length]
    exact len _ _ _ _ c
  · obtain ⟨os, μ, G, b, x, m, r, c, fin⟩ := h
    exact body cdv A outer s H E os μ b x hr c G H _ m (rv_start r) (fun cls d _ H => E cls d H) _ (takes_of rfl rfl rfl rfl) fun ρ' μ' G' H' σ' dx y _ s e m' _ h1 h2 => fin μ' G' H' dx y s e m' h1 h2
theorem dze_call {C : Cz} {ps : List Str} {k : Nat} {st : Stmt} (F : FcZ X.prog X.w X.K X.mg X.base n st ps k C) (hr : Rm k X.A) (hg : Gl X n) (hp : P ρ)
    (hb : ∀ (kV doc pm : Value) (an : Option Addr) (cdv ct : Value) (us : List Value), us.length = ps.length → bindArgs (PySem.W.fnOf n n (defArgs st) (defBody st) (defScope st) .none kV doc pm an cdv ct) ⟨us, []⟩ = pure (ps.zip us))
    (h : DA X (e :: es) ρ μ fun os μ1 => Bs b μ0 μ1 ∧ C os μ1 b x) (hdb : (n == ("__debug__" : Str)) = false := by decide) (he : starEach (e :: es) X.env = (false, eval e X.env) :: starEach es X.env := by rfl) (hpl : (backTo pos (starEach es X.env)).any (·.1) = false := by rfl) :
    DZe P X b (.Call (.Name n p) (e :: es) [] pos) ρ μ0 μ x := fun G H σ m v W Q tk w pins s I => by
  obtain ⟨fa, fd, FF, hm, FG⟩ := F.ex
  refine wpAny_Call_Name_kw (ld_glob I hg hm ?_ hdb)
  have hargs : WA X (e :: es) σ H fun vs H1 => spZ C vs H1 Q (L2.WE W σ) := h G H σ m v _ fun vs os μ1 G1 H1 ⟨s1, q1⟩ e1 m1 r1 => ⟨os, μ1, G1, b, x, m1, r1, q1, fun μ' G' H' dx y s2 e2 m2 h1 h2 => w ρ μ' G' H' σ dx y hp (s1.trans s2) (e1.trans e2) m2 ((v.mono e1).mono e2) h1 h2⟩
  refine PySem.W.callWith_K (h₀ := X.base) I.ok.mod.kin FF.kp (thn (hargs pos pins s I) fun us s1 ⟨vs, H1, I1, r, q⟩ => ⟨I1.kIn, ?_⟩) he hpl
  have hbt : BindsTo s1 fd ⟨us, []⟩ (ps.zip us) := by
    obtain ⟨oc, od, kV, doc, pm, an, cdv, ct, osl, rfl, lk, hcd⟩ := FF.ex
    exact .of_eq (hb kV doc pm an cdv ct us (by rw [← r.length]; exact FG.len _ _ _ _ q))
  refine wpAny_call (codeAny_mono (FG.run X.A X.stack s1 H1 ⟨us, []⟩ us vs Q (L2.WE W σ) hr I1.env0 hbt r q) fun z s' hq => ?_)
  match z, hq with
  | .error e, hq => exact passAt tk σ pins H1 s1 e s' I1 hq
  | .ok (.ret u), hq => exact I1.after hq
end
end Nx
set_option maxHeartbeats 8000000
namespace PySem.W
open PySem PySem.Spec PySem.Calls PyProof.Rows
section
variable {M : Model} {K : Frag}
theorem exm_tupN6 {c1 c2 c3 c4 c5 c6 cls : Value} {tp e : Addr} {b : Bool} {h : Heap} {o : Obj} {m : Nat} (X : K.In h) (LT : Looks M h (typeOf (.ref e)) cls) (hp : h.get? tp = some o) (hoc : o.cls = .type "tuple") (hod : o.data = .seq [c1, c2, c3, c4, c5, c6].toArray m) (hx : exmAny K cls [c1, c2, c3, c4, c5, c6] = some b) :
    Looks M h (excMatches (.ref e) (.ref tp)) b := by
  obtain ⟨cls0, dd, dt, sl⟩ := o
  simp only at hoc hod
  subst hoc hod
  intro A Q E s k₀ q
  obtain ⟨hh, g, d, tk, os⟩ := s
  have k : ∀ b o, h.get? b = some o → hh.get? b = some o := k₀
  have LT0 : Looks M h (isInstance (.ref tp) (.type "tuple")) true := ((Looks.ld hp).andThen .now).andThen (Looks.of_pure isSubtype_tuple_tuple)
  obtain ⟨b1, d1, x1, y1, z1⟩ := exmAny_cons hx
  obtain ⟨e1, S1⟩ := exm_cls (M := M) X x1
  have e1 := e1.keeps k
  have S1 := S1.keeps k
  obtain ⟨b2, d2, x2, y2, z2⟩ := exmAny_cons y1
  obtain ⟨e2, S2⟩ := exm_cls (M := M) X x2
  have e2 := e2.keeps k
  have S2 := S2.keeps k
  obtain ⟨b3, d3, x3, y3, z3⟩ := exmAny_cons y2
  obtain ⟨e3, S3⟩ := exm_cls (M := M) X x3
  have e3 := e3.keeps k
  have S3 := S3.keeps k
  obtain ⟨b4, d4, x4, y4, z4⟩ := exmAny_cons y3
  obtain ⟨e4, S4⟩ := exm_cls (M := M) X x4
  have e4 := e4.keeps k
  have S4 := S4.keeps k
  obtain ⟨b5, d5, x5, y5, z5⟩ := exmAny_cons y4
  obtain ⟨e5, S5⟩ := exm_cls (M := M) X x5
  have e5 := e5.keeps k
  have S5 := S5.keeps k
  obtain ⟨b6, d6, x6, y6, z6⟩ := exmAny_cons y5
  obtain ⟨e6, S6⟩ := exm_cls (M := M) X x6
  have e6 := e6.keeps k
  have S6 := S6.keeps k
  have w6 : some false = some d6 := y6
  cases w6
  have LT := LT.keeps k
  have LT0 := LT0.keeps k
  have hp2 := k _ _ hp
  subst z1 z2 z3 z4 z5 z6
  unfold excMatches
  refine wpAny_bind (LT0.at ?_)
  dsimp only
  rw [if_pos rfl]
  first
    | refine wpAny_bind (wpAny_seqItems hp2 rfl ?_)
    | refine wpAny_bind (wpAny_bind (wpAny_seqItems hp2 rfl (wpAny_pure ?_)))
  dsimp only [Option.getD_some, Option.getD]
  cases b1 <;> cases b2 <;> cases b3 <;> cases b4 <;> cases b5 <;> cases b6 <;> ((repeat (first | simp only [List.forIn_cons, List.forIn_nil, Bool.not_true, Bool.false_eq_true, if_false, if_true] | lk)); exact q)
end
end PySem.W
set_option maxHeartbeats 4000000
namespace Nx
open PySem PySem.Spec PyProof.Rows L2
inductive Nms (X : Cx) : List Expr → List Value → Prop
  | nil : Nms X [] []
  | cons {x : Str} {p : Pos} {c : Value} {es : List Expr} {cs : List Value} (hg : Gl X x) (hd : (x == ("__debug__" : Str)) = false) (hm : X.mg x = some c) (he : starEach (.Name x p :: es) X.env = (false, eval (.Name x p) X.env) :: starEach es X.env) (r : Nms X es cs) : Nms X (.Name x p :: es) (c :: cs)
section
variable {X : Cx} {pins : List (Addr × Obj)} {σ : L2.St} {H : Hp} {s : Shared}
theorem nms_ev {pos : Pos} {E : Value → Shared → Prop} (I : Inv X pins σ H s) : ∀ {es : List Expr} {cs : List Value}, Nms X es cs → ∀ {Q : List Value → Shared → Prop}, Q cs s → wpAny (model X.prog X.w) X.A (spliced (backTo pos (starEach es X.env))) Q E s
  | _, _, .nil, Q, q => by
    show wpAny _ _ (spliced []) Q E s
    exact Calls.spliced_nil q
  | _, _, .cons (x := x) (p := p) (c := c) (es := es) hg hd hm he r, Q, q => by
    rw [he]
    show wpAny _ _ (spliced ((false, eval (.Name x p) X.env) :: backTo pos (starEach es X.env))) Q E s
    exact Calls.spliced_cons (ld_glob I hg hm (nms_ev I r q) hd)
theorem Nms.len : ∀ {es : List Expr} {cs : List Value}, Nms X es cs → es.length = cs.length
  | _, _, .nil => rfl
  | _, _, .cons _ _ _ _ r => congrArg (· + 1) r.len
theorem Inv.track {a : Addr} {oe : Obj} {vs : Array Value} (I : Inv X pins σ H s) (ho : s.heap.get? a = some oe) (hd : oe.data = .fields vs) (hn : H a = none) (h0 : X.s_0.heap.get? a = none) (hl : a ≠ X.env.locals) (hp : ∀ p ∈ X.pn ++ pins, p.1 ≠ a) :
    Inv X pins σ (upd H a (.frz oe (.ext fun h => h.get? a = some oe))) s := by
  have hc : ∀ x c, X.env.cells.lookup x = some c → c ≠ a := fun x c e z => by
    obtain ⟨w, q⟩ := I.cell x c e
    rw [z] at q
    obtain ⟨o, q1, q2⟩ := q
    rw [ho] at q1
    cases q1
    first
      | (rw [hd] at q2; cases q2)
      | (rw [q2] at hd; cases hd)
      | cases hd
  refine ⟨I.ok, I.os, I.bare, ⟨I.base.keep, I.base.slot, fun b o e n x => ?_, I.base.there, fun b xs q => ?_, fun b o v q => ?_, fun b ps q => ?_⟩, I.loc, I.cell, ?_, fun x c e => ?_, fun p q => ?_, fun b o q => ?_, I.len⟩
  · have : b ≠ a := fun z => by rw [z, h0] at e; cases e
    rw [upd_ne this]
    exact I.base.free b o e n x
  · have q := I.base.tups b xs q
    rw [upd_ne (ne_of_none q hn)]
    exact q
  · have q := I.base.frzs b o v q
    rw [upd_ne (ne_of_none q hn)]
    exact q
  · obtain ⟨ps', q⟩ := I.base.tbls b ps q
    exact ⟨ps', by rw [upd_ne (ne_of_none q hn)]; exact q⟩
  · rw [upd_ne (Ne.symm hl)]
    exact I.free
  · rw [upd_ne (hc x c e)]
    exact I.freeC x c e
  · obtain ⟨e, n, ne, nf, d⟩ := I.pin p q
    exact ⟨e, by rw [upd_ne (hp p q)]; exact n, ne, nf, d⟩
  · by_cases hb : b = a
    · subst hb
      rw [upd_same] at q
      cases q
      exact ⟨ho, ho, ⟨_, ho⟩, fun h1 h2 z k => k _ z⟩
    · rw [upd_ne hb] at q
      exact (I.hok b o q).stay (fun _ _ _ q => q) (fun c q => by rw [upd_ne (ne_of_none q hn)]; exact q) fun c xs q => by rw [upd_ne (ne_of_none q hn)]; exact q
end
def wKeep (K : PySem.W.Frag) (cs : List Value) (i j : Nat) (E : Ends) : WX := fun cls d σ H => PySem.W.exmAny K cls cs = some true ∧
  ∀ (a : Addr) (oe : Obj), H a = none → Zc cls d oe → (∃ vs, oe.data = .fields vs) → E.nx (((σ.set i (some (.ref a))).set j (some (.ref a))).set i none) (upd H a (.frz oe (.ext fun h => h.get? a = some oe)))
section
variable {X : Cx} {n m : Str} {i j : Nat} {body : List Stmt} {es : List Expr} {cs : List Value} {np mp ap pos pos' tpos : Pos} {kt : Nat}
theorem flying_keep {B h h' : Heap} {l : List PySem.Env} {a : Addr} {Z : Obj → Prop} (k : ∀ b o, h.get? b = some o → h'.get? b = some o) (f : HandSPX.FlyingZ B l a Z h) : HandSPX.FlyingZ B l a Z h' := by
  obtain ⟨f1, f2, f3, oe, vs, T, oT, ts, h1, h2, h3, h4, h5, h6, h7, h8, h9⟩ := f
  exact ⟨fun b o e => k b o (f1 b o e), f2, f3.of_keeps fun b o e _ => ⟨o, k b o e, rfl⟩, oe, vs, T, oT, ts, k _ _ h1, h2, h3, h4, h5, h6, k _ _ h7, h8, h9⟩
theorem ws_catch {σ : L2.St} {H : Hp} {E : Ends} (hs : X.stack = X.env :: X.outer) (hf : X.env.frame = some X.env.locals) (hex : X.ex = []) (hN : X.N.Nodup) (hi : X.N[i]? = some n) (hln : X.env.kindOf n = some .local) (hj : X.N[j]? = some m) (hlm : X.env.kindOf m = some .local)
    (hes : ∀ a pn, Nms (X.suite a pn) es cs) (hz : cs.length ≤ 1000)
    (hm : ∀ {h : Heap} {cls : Value} {e tp : Addr} {o : Obj} {k : Nat}, X.K.In h → PySem.W.Looks (model X.prog X.w) h (typeOf (.ref e)) cls → h.get? tp = some o → o.cls = .type "tuple" → o.data = .seq cs.toArray k → PySem.W.exmAny X.K cls cs = some true → PySem.W.Looks (model X.prog X.w) h (excMatches (.ref e) (.ref tp)) true)
    (hd : (n == ("__debug__" : Str)) = false) (hcd : (n == ("__classdict__" : Str)) = false)
    (hb : ∀ (pn : List (Addr × Obj)) (xe : Value → Shared → Prop), Takes (X.tr pn xe) (wKeep X.K cs i j E) → WSs (X.tr pn xe) body E σ H)
    (hsw : ∀ a pn, swapsWith (.Name n np) (some (.Name m mp)) ap.line (X.suite a pn).env = pure false := by intro _ _; rfl) :
    WS X (.Try body [.ExceptHandler (some (.Tuple es kt tpos)) (some n) [.Assign [.Name m mp] (.Name n np) ap] pos'] [] [] pos) E σ H := by
  intro pins s I
  have ok := I.ok
  have hfr : X.A.frames = some (X.env :: X.outer) := by rw [ok.frames, hs]
  have hloc : Loc X.env.scope n := .inl hln
  refine wpAny_Try_except ?_
  refine wpAny_mono (hb (X.pn ++ pins) (fun e s₁ => wpAny (model X.prog X.w) X.A (noteFrame e X.env) (fun _ s₂ => wpAny (model X.prog X.w) X.A (setFlight e none) (fun _ s₃ =>
    wpAny (model X.prog X.w) X.A (handleBy e X.env [.ExceptHandler (some (.Tuple es kt tpos)) (some n) [.Assign [.Name m mp] (.Name n np) ap] pos']) (SP X pins E) X.xe s₃) X.xe s₂) X.xe s₁) (fun u s' xx => ?_) [] s (I.toTry _)) (fun f s1 hsp => ?_) (fun e s1 he => he)
  · -- the catch
    obtain ⟨a, B, sI, pins', σ', H', cls, d, rfl, J', nb, up, sky, na, os, ag, hyes, hq⟩ := xx
    have J : Inv X pins σ' H' sI := J'.ofTry ok
    have sky' : Sky B (X.env :: X.outer) a (Zc cls d) X.env.locals s'.heap := by rw [← hs]; exact sky
    show wpAny (model X.prog X.w) X.A (noteFrame (.ref a) X.env) _ _ _
    refine Sky.land Zc.steady hfr hf sky' fun h3 fl3 up3 => ?_
    have J3 : Inv X pins σ' H' { s' with heap := h3 } := J.landed nb fl3.1 (up.trans up3) os ag
    obtain ⟨oe3, vs3, he3, hz3, hd3⟩ := fl3.there
    have notFr : ∀ {h : Heap} {o : Obj} {vs : Array Value}, h.FunFrames B (X.env :: X.outer) → h.get? a = some o → o.data = .fields vs → a ∉ frs (X.env :: X.outer) := fun {h o vs} ff e dd hm => by
      obtain ⟨_, o', e', hnf⟩ := ff.mem hm
      rw [e] at e'; cases e'
      exact hnf _ dd
    have nfr := notFr fl3.2.2.1 he3 hd3
    have nL : a ≠ X.env.locals := fun z => nfr (List.mem_filterMap.mpr ⟨X.env, List.mem_cons_self, by rw [hf, z]⟩)
    have nF : a ∉ X.fs := fun hm => by
      obtain ⟨e, he, q⟩ := List.mem_filterMap.mp hm
      exact nfr (List.mem_filterMap.mpr ⟨e, List.mem_cons_of_mem _ he, q⟩)
    have n0 : X.s_0.heap.get? a = none := by
      cases q : X.s_0.heap.get? a with
      | none => rfl
      | some o =>
        exfalso
        obtain ⟨o', q'⟩ := J.base.there a o q (by rw [hex]; simp)
        have := nb a o' q' (by rw [hs]; exact nfr)
        rw [fl3.2.1] at this
        cases this
    have S3 := J3.suite he3 hd3 na nL nF
    refine wpAny_handleBy_cons (codeAny_handlers_test ?_) (by intro q; cases q)
    refine wpAny_Tuple_spliced (nms_ev (X := X.suite a ((a, oe3) :: (X.pn ++ pins))) S3 (hes _ _) ⟨Nat.le_trans hz (by decide), ?_⟩)
    have kp : ∀ b o, h3.get? b = some o → (h3.push { cls := .type "tuple", data := .seq cs.toArray }).get? b = some o := fun b o e => Heap.get?_push_of_some _ e
    have fl5 := flying_keep kp fl3
    have LT : PySem.W.Looks (model X.prog X.w) (h3.push { cls := .type "tuple", data := .seq cs.toArray }) (typeOf (.ref a)) cls := fun A Q E s k q => wpAny_typeOf_ref (k _ _ (kp _ _ he3)) (by rw [hz3.1]; exact q)
    have LM := hm (k := 0) (J3.kIn.keeps kp) LT (Heap.get?_push_size _ rfl) rfl rfl hyes
    refine LM.here ?_
    refine codeAny_handlers_suite_as ?_
    refine HandSPX.lands_againZ fl5 fun h4 fl4 up4 => ?_
    have up5 : sI.heap.UpToSlots (h3.push { cls := .type "tuple", data := .seq cs.toArray }) := (up.trans up3).trans (Heap.UpToSlots.of_keeps kp)
    have J4 : Inv X pins σ' H' { s' with heap := h4 } := J.landed nb fl4.1 (up5.trans up4) os ag
    obtain ⟨oe4, vs4, he4, hz4, hd4⟩ := fl4.there
    have S4 := J4.suite he4 hd4 na nL nF
    refine store_ok (X := X.suite a ((a, oe4) :: (X.pn ++ pins))) (v := .ref a) S4 hN hi hloc rfl (fun s5 S5 => ?_) (.inr hln)
    have hst : PSs (X.suite a ((a, oe4) :: (X.pn ++ pins))) [.Assign [.Name m mp] (.Name n np) ap] _ := pss_one (ps_set (i := j) hN hj (.inl hlm) (pe_var (i := i) hi (.inl hln) hd hcd) (hsw _ _) (.inr hlm))
    have hil : i < σ'.length := by rw [J.len]; exact (List.getElem?_eq_some_iff.mp hi).1
    refine wpAny_mono (hst.run [] s5 _ H' { nx := fun σ6 H6 => σ6 = (σ'.set i (some (.ref a))).set j (some (.ref a)) ∧ H6 = H', rt := fun _ _ => False, bk := fun _ _ => False, ct := fun _ _ => False } S5 ?_) (fun f s6 hsp => ?_) (fun _ _ z => False.elim z)
    · exact ⟨.ref a, List.getElem?_set_self hil, rfl, rfl⟩
    cases f with
    | next =>
      obtain ⟨σ6, H6, S6, rfl, rfl⟩ := hsp
      have pa := S6.pin (a, oe4) (List.mem_append_left _ List.mem_cons_self)
      have T6 : Inv X pins _ _ s6 := Inv.track (S6.unsuite ok) pa.1 hd4 na n0 nL fun p hp z => ?_
      · exact gone_ok T6 hN hi hln fun s7 J7 => ⟨_, _, J7, hq a oe4 na hz4 ⟨_, hd4⟩⟩
      · obtain ⟨e1, _, e3, e4, _⟩ := J.pin p hp
        have hst2 : p.1 ∉ frs X.stack := fun hm2 => by
          rw [hs] at hm2
          obtain ⟨ev, he, q⟩ := List.mem_filterMap.mp hm2
          rcases List.mem_cons.mp he with rfl | he
          · rw [hf] at q
            exact e3 (Option.some.inj q).symm
          · exact e4 (List.mem_filterMap.mpr ⟨ev, he, q⟩)
        have := nb _ _ e1 hst2
        rw [z, fl3.2.1] at this
        cases this
    | brk =>
      obtain ⟨_, _, _, q⟩ := hsp
      exact q.elim
    | cont =>
      obtain ⟨_, _, _, q⟩ := hsp
      exact q.elim
    | ret u =>
      obtain ⟨_, _, _, _, _, q⟩ := hsp
      exact q.elim
  · cases f with
    | next =>
      obtain ⟨σ', H', J', q⟩ := hsp
      exact wpAny_execs_nil ⟨σ', H', J'.ofTry ok, q⟩
    | brk =>
      obtain ⟨σ', H', J', q⟩ := hsp
      exact ⟨σ', H', J'.ofTry ok, q⟩
    | cont =>
      obtain ⟨σ', H', J', q⟩ := hsp
      exact ⟨σ', H', J'.ofTry ok, q⟩
    | ret u =>
      obtain ⟨v, σ', H', J', r, q⟩ := hsp
      exact ⟨v, σ', H', J'.ofTry ok, r, q⟩
end
end Nx
set_option maxHeartbeats 4000000
namespace Nx
open PySem PySem.Spec PyProof.Rows L2
structure ExK (K : PySem.W.Frag) (C : Addr) : Prop where
  cl : (PySem.W.clsIn K C).isSome = true
  ga : PySem.W.findIn K (.ref C) "__getattribute__" = some (some (.builtin "BaseException.__getattribute__"))
  gg : PySem.W.findIn K (.ref C) "__getattr__" = some none
  su : PySem.W.subIn K (.ref C) (.type "BaseException") = some true
  cc : PySem.W.findIn K (.ref C) "__class__" = some (some (.builtin "object.__class__"))
  gs : PySem.W.specialIn K (.builtin "object.__class__") "__get__" = some (some (.builtin "getset_descriptor.__get__"))
  tk : PySem.W.takesIn K (.builtin "object.__class__") = some true
  ob : PySem.W.mroIn K C (.type "object") = some true
  hd : PySem.W.hasDictIn K C = true
def ExAt (H : Hp) (a C dx : Addr) (f : Str) (y : V) : Prop := ∃ oe u, H a = some (.frz oe u) ∧ excO oe C dx ∧ H dx = some (.xd [(f, y)])
section
variable {X : Cx} {pins : List (Addr × Obj)} {σ : L2.St} {H : Hp} {s : Shared} {a C dx : Addr} {f : Str} {y : V}
theorem exat_inst (I : Inv X pins σ H s) (h : ExAt H a C dx f y) : ∃ oe od v, PySem.W.InstAt s.heap a oe C (some od) ∧ PySem.W.lookIn f od = some (some v) ∧ RelV y v := by
  obtain ⟨oe, u, h1, ⟨c1, c2, vs, c3⟩, h3⟩ := h
  have ho : s.heap.get? a = some oe := (show s.heap.get? a = some oe ∧ ObjOk X.prog X.w H s.heap a u from I.hok a _ h1).1
  obtain ⟨mA, hns, hr⟩ := (show ∃ mA, s.heap.Ns1 dx mA ∧ ∀ f', RelO (List.lookup f' [(f, y)]) (mA f') from I.hok dx _ h3)
  obtain ⟨od, hod, hl⟩ := lookIn_ns hns
  have l : List.lookup f [(f, y)] = some y := by simp [List.lookup]
  obtain ⟨v, hv, rv⟩ := RelO.some_of (v := y) (o := mA f) (by rw [← l]; exact hr f)
  exact ⟨oe, od, v, ⟨ho, c1, by unfold PySem.W.notCls; rw [c3] <;> rfl, by rw [c2]; exact hod⟩, by rw [hl, hv], rv⟩
theorem call_isiE : CallR X (.builtin "isinstance") (fun xs H Q => ∃ a C dx f y c u b, xs = [.ref a, c] ∧ ExAt H a C dx f y ∧ ExK X.K C ∧ ClsV c u ∧ PySem.W.kitOne X.K (.ref C) u = some b ∧ Q (.bl b) H) := by
  intro pins s σ H xs us Q I r h
  obtain ⟨a, C, dx, f, y, c, u, b, rfl, hE, T, k, e, q⟩ := h
  obtain ⟨u1, u2, rfl, r1, r2⟩ := vals2 r
  have e2 := k.eq r2
  subst e2
  cases (show u1 = Value.ref a from r1)
  obtain ⟨oe, od, v, J, _, _⟩ := exat_inst I hE
  exact PySem.W.kia_one (PySem.W.kitx_exc T.cl T.ga T.gg T.su T.cc T.gs T.tk T.ob) I.kIn J e (fun z => nomatch z) fun tk => ⟨.bl b, H, I.tok tk, rfl, q⟩
theorem call_isiET : CallR X (.builtin "isinstance") (fun xs H Q => ∃ a C dx f y tp cs us b, xs = [.ref a, .ref tp] ∧ H tp = some (.tup cs) ∧ ExAt H a C dx f y ∧ ExK X.K C ∧ Paired ClsV cs us ∧ PySem.W.kitAny X.K (.ref C) us = some b ∧ Q (.bl b) H) := by
  intro pins s σ H xs us Q I r h
  obtain ⟨a, C, dx, f, y, tp, cs, ws, b, rfl, hT, hE, T, k, e, q⟩ := h
  obtain ⟨u1, u2, rfl, r1, r2⟩ := vals2 r
  cases (show u2 = Value.ref tp from r2)
  cases (show u1 = Value.ref a from r1)
  obtain ⟨oe, od, v, J, _, _⟩ := exat_inst I hE
  obtain ⟨_, its, rv, o, h1, h2, n, h3⟩ := (show ObjOk X.prog X.w H s.heap tp (.tup cs) from I.hok tp _ hT)
  have e3 := ClsV.all k rv
  subst e3
  obtain ⟨oc, od2, dt, sl⟩ := o
  simp only at h2 h3
  subst h2 h3
  exact PySem.W.kia_tup (PySem.W.kitx_exc T.cl T.ga T.gg T.su T.cc T.gs T.tk T.ob) I.kIn J h1 e (fun z => nomatch z) fun tk => ⟨.bl b, H, I.tok tk, rfl, q⟩
theorem pe_exfld {e : Expr} {te : TE} {pos : Pos} (he : PE X e te) (hb : attributeBase e f X.env (eval e X.env) = eval e X.env := by rfl) :
    PE X (.Attribute e f pos) (fun σ H Q => te σ H fun x H1 => ∃ a C dx y, x = .ref a ∧ ExAt H1 a C dx f y ∧ ExK X.K C ∧ PySem.W.findIn X.K (.ref C) f = some none ∧ Q y H1) := by
  refine ⟨fun pins s σ H Q I h => ?_⟩
  refine attr_of hb (thn (he.run pins s σ H _ I h) fun u s1 hh => ?_)
  obtain ⟨x, H1, I1, rx, a, C, dx, y, ex, hE, T, no, q⟩ := hh
  subst ex
  obtain rfl : u = Value.ref a := rx
  obtain ⟨oe, od, v, J, hl, rv⟩ := exat_inst I1 hE
  exact HandSPX.exc_get I1.kIn J T.ga T.gg T.su (PySem.W.findObj_own T.hd no rfl hl) (handed_of rv) ⟨y, H1, I1.tok _, rv, q⟩
end
theorem exat_of {G H : Hp} {v : V} {C : Addr} {f : Str} {d : PyData} (e : Ex G H) (h : RO G v (.ob (exnP C f d))) : ∃ a dx y, v = .ref a ∧ ExAt H a C dx f y ∧ Dv G y d := by
  obtain ⟨a, oe, u, dx, y, h1, h2, h3, h4, h5⟩ := (show ∃ a oe u dx y, v = .ref a ∧ G a = some (.frz oe u) ∧ excO oe C dx ∧ G dx = some (.xd [(f, y)]) ∧ Dv G y d from h)
  exact ⟨a, dx, y, h1, ⟨oe, u, e _ _ h2, h3, e _ _ h4⟩, h5⟩
section
variable {X : Cx} {e : Expr} {es : List Expr} {ρ : Rho} {μ : Mu} {Φ : OV → Mu → Prop} {pos p p2 tpos : Pos} {n f : Str} {C : Addr} {d : PyData} {kt : Nat}
theorem de_exfld (T : ExK X.K C) (no : PySem.W.findIn X.K (.ref C) f = some none) (h : DE X e ρ μ fun o μ1 => o = .ob (exnP C f d) ∧ Φ (.im d) μ1) (hb : attributeBase e f X.env (eval e X.env) = eval e X.env := by rfl) : DE X (.Attribute e f pos) ρ μ Φ := fun G H σ m v Q k =>
  WE.of (pe_exfld pwe hb) (h G H σ m v _ fun vx o μ1 G1 H1 ⟨eo, q⟩ e1 m1 r1 => by
    subst eo
    obtain ⟨a, dx, y, rfl, hE, hy⟩ := exat_of m1.ex r1
    exact ⟨a, C, dx, y, rfl, hE, T, no, k _ _ _ _ _ q e1 m1 hy⟩)
def ClN (X : Cx) (n : Str) (c : V) (u : Value) : Prop := ClsV c u ∧ (∀ p, PE X (.Name n p) (L2.tC c))
theorem cln_own {D : Addr} (hg : Gl X n) (hm : X.mg n = some (.ref D)) (hd : (n == ("__debug__" : Str)) = false := by decide) : ClN X n (.ref D) (.ref D) := ⟨.own D, fun _ => pe_glob hg hm rfl hd⟩
theorem cln_blt {T : String} (hg : Gl X n) (hm : X.mg n = none) (hv : bootBuiltins n = some (.type T)) (hn : n ≠ "__name__" := by decide) (hd : (n == ("__debug__" : Str)) = false := by decide) : ClN X n (.ty T) (.type T) := ⟨.ty T, fun _ => pe_bltn hg hm hv rfl hn hd⟩
theorem de_isE {c : V} {u : Value} {b : Bool} (B : Bt X.mg) (hg : Gl X "isinstance") (hc : ClN X n c u) (T : ExK X.K C) (hk : PySem.W.kitOne X.K (.ref C) u = some b) (h : DE X e ρ μ fun o μ1 => o = .ob (exnP C f d) ∧ Φ (.im (.bool b)) μ1)
    (he : starEach [e, .Name n p2] X.env = (false, eval e X.env) :: starEach [.Name n p2] X.env := by rfl) (he2 : starEach [.Name n p2] X.env = (false, eval (.Name n p2) X.env) :: starEach [] X.env := by rfl)
    (hpl : (backTo pos (starEach [.Name n p2] X.env)).any (·.1) = false := by rfl) : DE X (.Call (.Name "isinstance" p) [e, .Name n p2] [] pos) ρ μ Φ := fun G H σ m v Q k =>
  WE.of (pe_callB call_isiE hg B.isinstance rfl (pa_cons pwe (pa_cons (hc.2 _) pa_nil he2) he) (by decide) (by decide) he hpl) (h G H σ m v _ fun vx o μ1 G1 H1 ⟨eo, q⟩ e1 m1 r1 => by
    subst eo
    obtain ⟨a, dx, y, rfl, hE, hy⟩ := exat_of m1.ex r1
    exact ⟨a, C, dx, f, y, c, u, b, rfl, hE, T, hc.1, hk, k _ _ _ _ _ q e1 m1 (Dv.bl b)⟩)
inductive ClNs (X : Cx) : List Expr → List V → List Value → Prop
  | nil : ClNs X [] [] []
  | cons {n : Str} {p : Pos} {c : V} {u : Value} {es : List Expr} {cs : List V} {us : List Value} (h : ClN X n c u) (he : starEach (.Name n p :: es) X.env = (false, eval (.Name n p) X.env) :: starEach es X.env) (r : ClNs X es cs us) : ClNs X (.Name n p :: es) (c :: cs) (u :: us)
def tCs : List V → TA
  | [] => tNil
  | c :: cs => tCons (L2.tC c) (tCs cs)
theorem ClNs.pa : ∀ {es : List Expr} {cs : List V} {us : List Value}, ClNs X es cs us → PA X es (tCs cs)
  | _, _, _, .nil => pa_nil
  | _, _, _, .cons h he r => pa_cons (h.2 _) r.pa he
theorem ClNs.cls : ∀ {es : List Expr} {cs : List V} {us : List Value}, ClNs X es cs us → Paired ClsV cs us
  | _, _, _, .nil => .nil
  | _, _, _, .cons h _ r => .cons h.1 r.cls
theorem tCs_run {σ : L2.St} {H : Hp} : ∀ {cs : List V} {Q : List V → Hp → Prop}, Q cs H → tCs cs σ H Q
  | [], _, q => q
  | _ :: cs, Q, q => tCs_run (cs := cs) (Q := fun xs H' => Q (_ :: xs) H') q
theorem de_isET {cs : List V} {us : List Value} {b : Bool} (B : Bt X.mg) (hg : Gl X "isinstance") (hc : ClNs X es cs us) (hz : cs.length ≤ 1000) (T : ExK X.K C) (hk : PySem.W.kitAny X.K (.ref C) us = some b) (h : DE X e ρ μ fun o μ1 => o = .ob (exnP C f d) ∧ Φ (.im (.bool b)) μ1)
    (he : starEach [e, .Tuple es kt tpos] X.env = (false, eval e X.env) :: starEach [.Tuple es kt tpos] X.env := by rfl) (he2 : starEach [.Tuple es kt tpos] X.env = (false, eval (.Tuple es kt tpos) X.env) :: starEach [] X.env := by rfl)
    (hpl : (backTo pos (starEach [.Tuple es kt tpos] X.env)).any (·.1) = false := by rfl) : DE X (.Call (.Name "isinstance" p) [e, .Tuple es kt tpos] [] pos) ρ μ Φ := fun G H σ m v Q k =>
  WE.of (pe_callB call_isiET hg B.isinstance rfl (pa_cons pwe (pa_cons (pe_tup hc.pa) pa_nil he2) he) (by decide) (by decide) he hpl) (h G H σ m v _ fun vx o μ1 G1 H1 ⟨eo, q⟩ e1 m1 r1 => by
    subst eo
    obtain ⟨a, dx, y, rfl, hE, hy⟩ := exat_of m1.ex r1
    refine tCs_run ⟨Nat.le_trans hz (by decide), fun pt hpt => ?_⟩
    have m2 : RM G1 (upd H1 pt (.tup cs)) μ1 := m1.raw hpt
    obtain ⟨a', dx', y', ea, hE2, _⟩ := exat_of m2.ex r1
    cases ea
    exact ⟨a, C, dx', f, y', pt, cs, us, b, rfl, upd_same, hE2, T, hc.cls, hk, k _ _ _ _ _ q e1 m2 (Dv.bl b)⟩)
end
end Nx
set_option maxHeartbeats 4000000
namespace Nx
open PySem PySem.Spec PyProof.Rows L2
section
variable {X : Cx} {ρ : Rho} {μ : Mu} {D : DEnds} {n m : Str} {i j : Nat} {body : List Stmt} {es : List Expr} {cs : List Value} {np mp ap pos pos' tpos : Pos} {kt : Nat} {b : Addr} {x : Thr}
theorem rv_none {G : Hp} {σ : L2.St} (v : RV G ρ σ) (i : Nat) (w : Option V) : RV G (ρ.set i none) (σ.set i w) := by
  refine ⟨by rw [List.length_set, List.length_set, v.len], fun k o q => ?_⟩
  by_cases e : i = k
  · subst e
    rw [List.getElem?_set] at q
    split at q
    · split at q <;> cases q
    · exact absurd rfl ‹¬ i = i›
  · rw [List.getElem?_set_ne e] at q
    obtain ⟨u, h1, h2⟩ := v.get k o q
    exact ⟨u, by rw [List.getElem?_set_ne e]; exact h1, h2⟩
theorem ds_catch (hs : X.stack = X.env :: X.outer) (hf : X.env.frame = some X.env.locals) (hex : X.ex = []) (hN : X.N.Nodup) (hi : X.N[i]? = some n) (hln : X.env.kindOf n = some .local) (hj : X.N[j]? = some m) (hlm : X.env.kindOf m = some .local) (hij : i ≠ j)
    (hes : ∀ a pn, Nms (X.suite a pn) es cs) (hz : cs.length ≤ 1000)
    (hm : ∀ {h : Heap} {cls : Value} {e tp : Addr} {o : Obj} {k : Nat}, X.K.In h → PySem.W.Looks (model X.prog X.w) h (typeOf (.ref e)) cls → h.get? tp = some o → o.cls = .type "tuple" → o.data = .seq cs.toArray k → PySem.W.exmAny X.K cls cs = some true → PySem.W.Looks (model X.prog X.w) h (excMatches (.ref e) (.ref tp)) true)
    (hx : PySem.W.exmAny X.K (.ref x.C) cs = some true)
    (hb : ∀ (pn : List (Addr × Obj)) (xe : Value → Shared → Prop), DZs (fun ρ' => ρ' = ρ) (X.tr pn xe) b body ρ μ μ x)
    (hD : ∀ μ', Bs b μ μ' → D.nx ((ρ.set j (some (.ob (exnP x.C x.f x.d)))).set i none) μ')
    (hd : (n == ("__debug__" : Str)) = false := by decide) (hcd : (n == ("__classdict__" : Str)) = false := by decide)
    (hsw : ∀ a pn, swapsWith (.Name n np) (some (.Name m mp)) ap.line (X.suite a pn).env = pure false := by intro _ _; rfl) :
    DS X (.Try body [.ExceptHandler (some (.Tuple es kt tpos)) (some n) [.Assign [.Name m mp] (.Name n np) ap] pos'] [] [] pos) ρ μ D := fun G H σ mm v E f => by
  refine ws_catch hs hf hex hN hi hln hj hlm hes hz hm hd hcd (fun pn xe tk => hb pn xe G H σ mm v _ _ tk ?_) hsw
  intro ρ' μ' G' H' σ' dx y ep s e m' v' h1 h2
  subst ep
  refine ⟨hx, fun a oe na z ⟨vs, hvs⟩ => ?_⟩
  have ga : G' a = none := by
    cases q : G' a with
    | none => rfl
    | some u => rw [m'.ex _ _ q] at na; cases na
  have hne : dx ≠ a := fun z => by rw [z, ga] at h1; cases h1
  have e2 : Ex G' (upd G' a (.frz oe (.ext fun h => h.get? a = some oe))) := Ex.new ga
  have ro : RO (upd G' a (.frz oe (.ext fun h => h.get? a = some oe))) (.ref a) (.ob (exnP x.C x.f x.d)) := ⟨a, oe, _, dx, y, rfl, upd_same, ⟨z.1, z.2, vs, hvs⟩, by rw [upd_ne hne]; exact h1, h2.mono e2⟩
  have eσ : ((σ'.set i (some (.ref a))).set j (some (.ref a))).set i none = (σ'.set j (some (.ref a))).set i none := by
    rw [List.set_comm _ _ hij, List.set_set]
  rw [eσ]
  have rv : RV (upd G' a (.frz oe (.ext fun h => h.get? a = some oe))) ((ρ'.set j (some (.ob (exnP x.C x.f x.d)))).set i none) ((σ'.set j (some (.ref a))).set i none) := rv_none ((v'.mono e2).set ro) i none
  exact f.nx _ _ _ _ _ (hD μ' s) (e.trans e2) (m'.lay na) rv
theorem ds_try {h₀ : ExceptHandler} {hs : List ExceptHandler} (h : DSs X.nox body ρ μ D) : DS X (.Try body (h₀ :: hs) [] [] pos) ρ μ D := fun G H σ m v E f =>
  WS.of (ps_try_thru0 pwss) (h G H σ m v E f)
end
end Nx
set_option maxHeartbeats 4000000
namespace Nx
open PySem PySem.Spec PyProof.Rows L2
open Tree
abbrev DenZ := Env → Tree Thr
def zIf (c : DenB) (z1 z2 : DenZ) : DenZ := fun E => (c E).bind fun k => match k with | true => z1 E | false => z2 E
def zNext (g : DenS) (z : DenZ) : DenZ := fun E => (g E).bind fun o => match o with | .nx E' => z E' | _ => .fail
def zNo : DenZ := fun _ => .fail
def zRaise (C : Addr) (f : Str) (fx : DenE) : DenZ := fun E => (fx E).bind fun d => .ret ⟨C, f, d⟩
def zCall (F : List W → Tree Thr) (gs : Env → Tree (List W)) : DenZ := fun E => (gs E).bind F
structure SZe (P : Rho → Prop) (b : Addr) (X : Cx) (e : Expr) (z : DenZ) : Prop where
  run : ∀ μ0 E ρ μ x, P ρ → Rel b μ0 E ρ μ → (z E).All (fun y => y = x) → DZe P X b e ρ μ0 μ x
structure SZ (P : Rho → Prop) (b : Addr) (X : Cx) (st : Stmt) (z : DenZ) : Prop where
  run : ∀ μ0 E ρ μ x, P ρ → Rel b μ0 E ρ μ → (z E).All (fun y => y = x) → DZ P X b st ρ μ0 μ x
structure SZs (P : Rho → Prop) (b : Addr) (X : Cx) (ss : List Stmt) (z : DenZ) : Prop where
  run : ∀ μ0 E ρ μ x, P ρ → Rel b μ0 E ρ μ → (z E).All (fun y => y = x) → DZs P X b ss ρ μ0 μ x
abbrev PT : Rho → Prop := fun _ => True
section
variable {P : Rho → Prop} {X : Cx} {b : Addr} {st : Stmt} {ss s1 s2 : List Stmt} {e c : Expr} {es : List Expr} {pos p p2 : Pos} {n : Str} {z z1 z2 : DenZ} {g : DenS} {fb : DenB} {fx : DenE} {gs : Env → Tree (List W)}
theorem szs_here (h : SZ P b X st z) : SZs P b X (st :: ss) z := .mk fun μ0 E ρ μ x hp R q => dzs_here (h.run μ0 E ρ μ x hp R q)
theorem szs_one (h : SZ P b X st z) : SZs P b X [st] z := szs_here h
theorem szs_next (hs : SS b X st g) (h : SZs PT b X ss z) : SZs PT b X (st :: ss) (zNext g z) := .mk fun μ0 E ρ μ x hp R q =>
  dzs_next (hs.run μ0 E ρ μ _ R ((all_bind.mp q).imp fun o q => by
    cases o with
    | nx E' => exact fun ρ' μ' R' => h.run μ0 E' ρ' μ' x trivial R' q
    | rt v => exact q.elim
    | bk E' => exact q.elim
    | ct E' => exact q.elim))
theorem sz_if (hc : ST b X c fb) (h1 : SZs P b X s1 z1) (h2 : SZs P b X s2 z2) : SZ P b X (.If c s1 s2 pos) (zIf fb z1 z2) := .mk fun μ0 E ρ μ x hp R q =>
  dz_if (hc.run μ0 E ρ μ _ R ((all_bind.mp q).imp fun k q μ1 s1' => by
    cases k with
    | true =>
      rw [if_pos rfl]
      exact h1.run μ0 E ρ μ1 x hp (R.step s1') q
    | false =>
      rw [if_neg Bool.false_ne_true]
      exact h2.run μ0 E ρ μ1 x hp (R.step s1') q))
theorem szs_no : SZs P b X ss zNo := .mk fun μ0 E ρ μ x hp R q => q.elim
theorem szs_if (hc : ST b X c fb) (h1 : SZs PT b X s1 z1) (h2 : SZs PT b X ss z2) : SZs PT b X (.If c s1 [] pos :: ss) (zIf fb z1 z2) := .mk fun μ0 E ρ μ x hp R q => by
  intro G H σ m v W En tk w
  refine WSs.of (pss_cons (ps_if pwt pwss pss_nil) pwss) ?_
  refine hc.run μ0 E ρ μ (fun k μ1 => if k = true then DZs PT X b s1 ρ μ0 μ1 x else DZs PT X b ss ρ μ0 μ1 x) R ((all_bind.mp q).imp fun k q μ1 s1' => ?_) G H σ m v _ fun k μ1 G1 H1 q e1 m1 => ?_
  · cases k with
    | true =>
      rw [if_pos rfl]
      exact h1.run μ0 E ρ μ1 x trivial (R.step s1') q
    | false =>
      rw [if_neg Bool.false_ne_true]
      exact h2.run μ0 E ρ μ1 x trivial (R.step s1') q
  · dsimp only at q
    split at q
    · rename_i hk
      rw [if_pos hk]
      exact q G1 H1 σ m1 (v.mono e1) W _ tk (w.later e1 (Bs.refl b μ0))
    · rename_i hk
      rw [if_neg hk]
      exact q G1 H1 σ m1 (v.mono e1) W En tk (w.later e1 (Bs.refl b μ0))
theorem sz_set (i : Nat) {y : Str} {p' : Pos} (hN : X.N.Nodup) (hi : X.N[i]? = some y) (hx : Loc X.env.scope y) (h : SZe P b X e z) (hs : swapsWith e (some (.Name y p')) pos.line X.env = pure false := by rfl)
    (hf : X.fn y = true ∨ X.env.scope.names.lookup y = some .local := by first | exact .inl rfl | exact .inr rfl | assumption) : SZ P b X (.Assign [.Name y p'] e pos) z := .mk fun μ0 E ρ μ x hp R q => dz_set i hN hi hx (h.run μ0 E ρ μ x hp R q) hs hf
theorem sz_ret (h : SZe P b X e z) : SZ P b X (.Return (some e) pos) z := .mk fun μ0 E ρ μ x hp R q => dz_ret (h.run μ0 E ρ μ x hp R q)
theorem sz_raise {C : Addr} {f : Str} (hc : X.calm = true) (T : ExT X.prog X.w X.K X.mg X.base n C f) (hr : Rm 3 X.A) (hg : Gl X n) (h : SE b X e fx)
    (hdb : (n == ("__debug__" : Str)) = false := by decide) (he : starEach [e] X.env = (false, eval e X.env) :: starEach [] X.env := by rfl) (hpl : (backTo p2 (starEach [] X.env)).any (·.1) = false := by rfl) :
    SZ P b X (.Raise (some (.Call (.Name n p) [e] [] p2)) none pos) (zRaise C f fx) := .mk fun μ0 E ρ μ x hp R q => by
  intro G H σ m v W En tk w
  -- the value decides which exception it is
  refine WS.of (ps_raise hc tk (pmk_one T hr passE hg (pa_cons pwe pa_nil he) hdb he hpl)) ?_
  refine h.run μ0 E ρ μ (fun o μ1 => ∃ d, o = .im d ∧ Thr.mk C f d = x ∧ Bs b μ0 μ1) R ((all_bind.mp q).imp fun d q μ1 s1' => ⟨d, rfl, q, R.ext.trans s1'⟩) G H σ m v _ fun vx o μ1 G1 H1 q1 e1 m1 r1 => ?_
  obtain ⟨d, rfl, rfl, s⟩ := q1
  refine ⟨vx, rfl, fun dx hdx => ?_⟩
  have g1 : G1 dx = none := by
    cases q : G1 dx with
    | none => rfl
    | some u =>
      rw [m1.ex _ _ q] at hdx
      cases hdx
  have e2 : Ex G1 (upd G1 dx (.xd [(f, vx)])) := Ex.new g1
  exact w ρ μ1 (upd G1 dx (.xd [(f, vx)])) _ σ dx vx hp s (e1.trans e2) (m1.lay hdx) ((v.mono e1).mono e2) upd_same (Dv.mono e2 r1)
def cZF (F : List W → Tree Thr) : Cz := fun os μ b x => ∃ ws, os = ws.map (wo b) ∧ (∃ p q t, μ b = some (bx p q t)) ∧ (F ws).All (fun y => y = x)
theorem sze_call {F : List W → Tree Thr} {ps : List Str} {k : Nat} (FC : FcZ X.prog X.w X.K X.mg X.base n st ps k (cZF F)) (hr : Rm k X.A) (hg : Gl X n)
    (hb : ∀ (kV doc pm : Value) (an : Option Addr) (cdv ct : Value) (us : List Value), us.length = ps.length → bindArgs (PySem.W.fnOf n n (defArgs st) (defBody st) (defScope st) .none kV doc pm an cdv ct) ⟨us, []⟩ = pure (ps.zip us))
    (ha : SA b X (e :: es) gs) (hdb : (n == ("__debug__" : Str)) = false := by decide) (he : starEach (e :: es) X.env = (false, eval e X.env) :: starEach es X.env := by rfl) (hpl : (backTo pos (starEach es X.env)).any (·.1) = false := by rfl) : SZe P b X (.Call (.Name n p) (e :: es) [] pos) (zCall F gs) := .mk fun μ0 E ρ μ x hp R q =>
  dze_call FC hr hg hp hb (ha.run μ0 E ρ μ _ R ((all_bind.mp q).imp fun ws q μ1 s1 => ⟨R.ext.trans s1, ws, rfl, (R.step s1).bxs, q⟩)) hdb he hpl
theorem sze_in {fa : Addr} {fd : FuncData} {gst : Stmt} (FF : Fun X.K n n gst fa fd) (hm : X.mg n = some (.ref fa)) (hg : Gl X n) (h : SZe P b X e z) (hdb : (n == ("__debug__" : Str)) = false := by decide) (he : starEach [e] X.env = (false, eval e X.env) :: starEach [] X.env := by rfl) (hpl : (backTo pos (starEach [] X.env)).any (·.1) = false := by rfl) :
    SZe P b X (.Call (.Name n p) [e] [] pos) z := .mk fun μ0 E ρ μ x hp R q G H σ m v W Q tk w pins s I => by
  refine wpAny_Call_Name_kw (ld_glob I hg hm ?_ hdb)
  have hargs : WA X [e] σ H fun vs H1 => False := fun pos pins s I => (pa_cons pwe pa_nil he).run pos pins s σ H _ I (h.run μ0 E ρ μ x hp R q G H σ m v W _ tk w)
  exact PySem.W.callWith_K (h₀ := X.base) I.ok.mod.kin FF.kp (thn (hargs pos pins s I) fun us s1 ⟨vs, H1, I1, r, q⟩ => q.elim) he hpl
end
section
variable {Pr : Program} {w : World} {K : PySem.W.Frag} {mg : Str → Option Value} {base : Heap}
def fnZ (a n : Nat) (body : DenZ) : List W → Tree Thr := fun ws => (liftO (lenIs a ws)).bind fun _ => body (ws.map (fun w => some (ent w)) ++ List.replicate (n - a) none)
theorem fcz_body {k a n : Nat} {f : Addr} {x : Str} {st : Stmt} {fd : FuncData} {N ps : List Str} (body : DenZ) {m : List W → Tree Thr} (hM : m = fnZ a n body) (F : Fun K x x st f fd) (hm : mg x = some (.ref f)) (S : FnScope N ps (defScope st)) (ha : ps.length = a) (hn : N.length = n)
    (hB : ∀ (b : Addr) (cdv : Value) A outer s H E, Rm k (A.deeper (envOfC x (defScope st) s.heap.objs.size f cdv)) → SZs PT b (cxOf (L2.CX Pr w) Pr w K mg base N x (defScope st) f cdv A outer s H E) (defBody st) body) : FcZ Pr w K mg base x st ps (k + 1) (cZF m) := by
  subst hM ha hn
  refine fcz_of F hm S (fun os μ b y h => ?_) fun cdv A outer s H E os μ b y hr h => ?_
  · obtain ⟨ws, rfl, _, h⟩ := h
    rw [List.length_map]
    exact (lenIs_all (all_bind.mp h)).1
  · obtain ⟨ws, rfl, hb, h⟩ := h
    obtain ⟨hl, h⟩ := lenIs_all (all_bind.mp h)
    rw [List.length_map, hl]
    exact (hB b cdv A outer s H E hr).run μ _ _ μ y trivial (rel_start _ hb) h
end
end Nx
set_option maxHeartbeats 4000000
namespace Nx
open PySem PySem.Spec PyProof.Rows L2
open Tree
section
variable {P : Rho → Prop} {X : Cx} {b : Addr} {ρ : Rho} {μ0 μ : Mu} {x : Thr} {pos : Pos}
theorem dz_for (t : Tgt) {tg iter : Expr} {body : List Stmt} (hp : PassesOwn (model X.prog X.w) X.A X.env X.xe) (hc : X.calm = true) (hg : PG X tg (TgtG X.K t))
    (h : DI X tg iter ρ μ fun I μ1 => ∃ Pv : Nat → Rho → Mu → Prop, Pv 0 ρ μ1 ∧ (∀ i ρ' μ', Pv i ρ' μ' → I.ok μ') ∧ (∀ (i : Nat) (z : OV) ρ' μ', I.its[i]? = some z → Pv i ρ' μ' → ∃ ρ2, t.put z ρ' = some ρ2 ∧ (DSs X body ρ2 μ' ⟨Pv (i + 1), fun _ _ => False, fun _ _ => False, Pv (i + 1)⟩ ∨ DZs P X b body ρ2 μ0 μ' x)) ∧ ∀ ρ' μ', ¬ Pv I.its.length ρ' μ')
    (hs : ∀ x, foldedSetIterable iter X.env x = pure x := by intro _; rfl) : DZ P X b (.For tg iter body [] pos) ρ μ0 μ x := by
  obtain ⟨wi, pi, run⟩ := h
  intro G H σ m v W E tk w
  refine WS.of (ps_for hp hc pi hg pwss hs) (run G H σ m v _ fun J I μ1 G1 H1 q e1 m1 gv => ?_)
  obtain ⟨Pv, h0, hok, step, hd⟩ := q
  obtain ⟨Gd, Y, wk, hG, hY⟩ := gv
  refine for_it wk (D := E) (fun i σ' H' => ∃ ρ' μ' G', Pv i ρ' μ' ∧ Ex G1 G' ∧ RM G' H' μ' ∧ RV G' ρ' σ') ⟨ρ, μ1, G1, h0, Ex.refl _, m1, v.mono e1⟩ ?_ ?_ ?_
  · rintro i σ' H' _ ⟨ρ', μ', G', p, e, m', v'⟩
    exact hG G' H' μ' e m' (hok _ _ _ p)
  · rintro i y σ' H' H2 hi ⟨ρ', μ', G', p, e, m', v'⟩ y'
    obtain ⟨G2, z, e2, m2, hz, r2⟩ := hY i H' y H2 G' μ' e m' (hok _ _ _ p) y' hi
    obtain ⟨ρ2, hp2, hb⟩ := step i z ρ' μ' hz p
    refine tgt_run m2 r2 (v'.mono e2) hp2 fun σ2 v2 => ?_
    have e02 := (e1.trans e).trans e2
    rcases hb with hb | hb
    · exact hb G2 H2 σ2 m2 v2 _ ⟨fun ρ3 μ3 G3 H3 σ3 p3 e3 m3 v3 => ⟨ρ3, μ3, G3, p3, (e.trans e2).trans e3, m3, v3⟩, fun _ _ _ _ _ q => q.elim, fun _ _ _ _ _ q => q.elim, fun ρ3 μ3 G3 H3 σ3 p3 e3 m3 v3 => ⟨ρ3, μ3, G3, p3, (e.trans e2).trans e3, m3, v3⟩⟩
    · exact hb G2 H2 σ2 m2 v2 W _ tk (w.later e02 (Bs.refl b μ0))
  · rintro σ' H' ⟨ρ', μ', G', p, e, m', v'⟩
    exact (hd _ _ p).elim
end
def zForT (t : Tgt) (g : DenS) (r : Env → Bool) (z : DenZ) : List PyData → Env → Tree Thr
  | [], _ => .fail
  | x :: xs, E => (liftO (putE t x E)).bind fun E' => match r E' with
    | true => z E'
    | false => (g E').bind fun o => match o with
      | .nx E2 => zForT t g r z xs E2
      | .ct E2 => zForT t g r z xs E2
      | _ => .fail
def zFor (t : Tgt) (it : DenL) (g : DenS) (r : Env → Bool) (z : DenZ) : DenZ := fun E => (it E).bind fun xs => zForT t g r z xs E
section
variable {X : Cx} {b : Addr} {pos : Pos} {z : DenZ} {g : DenS} {fi : DenL} {r : Env → Bool} {tg iter e : Expr}
theorem sz_for {body : List Stmt} (t : Tgt) (hp : PassesOwn (model X.prog X.w) X.A X.env X.xe) (hc : X.calm = true) (hg : PG X tg (TgtG X.K t)) (hi : SI b X tg iter fi) (hb : SSs b X body g) (hz : SZs PT b X body z)
    (hs : ∀ x, foldedSetIterable iter X.env x = pure x := by intro _; rfl) : SZ PT b X (.For tg iter body [] pos) (zFor t fi g r z) := .mk fun μ0 E ρ μ x hP R q =>
  dz_for t hp hc hg (hi.run μ0 E ρ μ _ R ((all_bind.mp q).imp fun xs q μ1 s1 => by
    refine ⟨fun i ρ' μ' => ∃ E', Rel b μ0 E' ρ' μ' ∧ (zForT t g r z (xs.drop i) E').All (fun y => y = x), ⟨E, R.step s1, q⟩, fun _ _ _ _ => trivial, fun i o ρ' μ' hz' hPv => ?_, fun ρ' μ' hPv => ?_⟩
    · obtain ⟨E', R', q⟩ := hPv
      dsimp only at hz'
      rw [List.getElem?_map] at hz'
      cases hx : xs[i]? with
      | none =>
        rw [hx] at hz'
        cases hz'
      | some y =>
        rw [hx] at hz'
        cases hz'
        obtain ⟨hi, rfl⟩ := List.getElem?_eq_some_iff.mp hx
        rw [List.drop_eq_getElem_cons hi, zForT] at q
        obtain ⟨E2, hE, q⟩ := lift_all (all_bind.mp q)
        obtain ⟨ρ2, h1, h2⟩ := R'.putT hE
        refine ⟨ρ2, h1, ?_⟩
        cases hr : r E2 with
        | true =>
          rw [hr] at q
          exact .inr (hz.run μ0 E2 ρ2 μ' x trivial h2 q)
        | false =>
          rw [hr] at q
          refine .inl (hb.run μ0 E2 ρ2 μ' _ h2 ((all_bind.mp q).imp fun o q => ?_))
          cases o with
          | nx E3 => exact fun ρ3 μ3 R3 => ⟨E3, R3, q⟩
          | ct E3 => exact fun ρ3 μ3 R3 => ⟨E3, R3, q⟩
          | bk E3 => exact q.elim
          | rt v => exact q.elim
    · obtain ⟨E', R', q⟩ := hPv
      dsimp only at q
      rw [List.length_map, List.drop_length] at q
      exact q.elim)) hs
theorem sze_len {P : Rho → Prop} {p : Pos} (B : Bt X.mg) (hg : Gl X "len") (h : SZe P b X e z) (he : starEach [e] X.env = (false, eval e X.env) :: starEach [] X.env := by rfl) (hpl : (backTo pos (starEach [] X.env)).any (·.1) = false := by rfl) : SZe P b X (.Call (.Name "len" p) [e] [] pos) z := .mk fun μ0 E ρ μ x hP R q G H σ m v W Q tk w =>
  WE.of (pe_callB call_len_seq hg B.len PySem.boot_len (pa_cons pwe pa_nil he) (by decide) (by decide) he hpl) (h.run μ0 E ρ μ x hP R q G H σ m v W _ tk w)
theorem sze_lf {P : Rho → Prop} {elt : Expr} {ifs : List Expr} {scope : Scope} {own : List (Str × Nat)} (t : Tgt) (hc : X.calm = true) (hN : X.N.Nodup) (ok : BlkOk X.N X.env.scope scope own)
    (hg : ∀ s H C cl fp, PG (Blk X scope s H C cl fp) tg (TgtG X.K t)) (h : SZe P b X iter z) (hf : ∀ x, foldedSetIterable iter X.env x = pure x := by intro _; rfl) : SZe P b X (.ListComp elt [⟨tg, iter, ifs, 0⟩] scope pos) z := .mk fun μ0 E ρ μ x hP R q G H σ m v W Q tk w =>
  WE.of (pe_lc (own := own) hc hN (pi_sq pwe) ok hg (fun s H C cl fp => pwtb s H C cl fp) (fun s H C cl fp => pweb s H C cl fp) hf) (h.run μ0 E ρ μ x hP R q G H σ m v W _ tk w)
end
end Nx
set_option maxHeartbeats 4000000
namespace Nx
open PySem PySem.Spec PyProof.Rows L2
open Tree
def EvF (X : Cx) (fe : Expr) (ρ : Rho) (μ : Mu) (nm : Str) : Prop := ∀ G H σ, RM G H μ → RV G ρ σ → ∀ Q : VK, (∀ fa G' H', X.mg nm = some (.ref fa) → Ex G G' → RM G' H' μ → Q (.ref fa) H') → WE X fe σ H Q
inductive FnN (X : Cx) : List Expr → List Str → List V → Prop
  | nil : FnN X [] [] []
  | cons {n : Str} {p : Pos} {fa : Addr} {es : List Expr} {ns : List Str} {vs : List V} (hg : Gl X n) (hm : X.mg n = some (.ref fa)) (hd : (n == ("__debug__" : Str)) = false) (he : starEach (.Name n p :: es) X.env = (false, eval (.Name n p) X.env) :: starEach es X.env) (r : FnN X es ns vs) : FnN X (.Name n p :: es) (n :: ns) (.ref fa :: vs)
theorem FnN.pa {X : Cx} : ∀ {es : List Expr} {ns : List Str} {vs : List V}, FnN X es ns vs → PA X es (tCs vs)
  | _, _, _, .nil => pa_nil
  | _, _, _, .cons hg hm hd he r => pa_cons (pe_glob hg hm rfl hd) r.pa he
theorem FnN.get {X : Cx} : ∀ {es : List Expr} {ns : List Str} {vs : List V}, FnN X es ns vs → ∀ {k : Nat} {n : Str}, ns[k]? = some n → ∃ fa, vs[k]? = some (.ref fa) ∧ X.mg n = some (.ref fa)
  | _, _, _, .nil, k, n, h => by simp at h
  | _, _, _, .cons (fa := fa) hg hm hd he r, 0, n, h => by
    cases h
    exact ⟨fa, rfl, hm⟩
  | _, _, _, .cons hg hm hd he r, k + 1, n, h => r.get h
section
variable {P : Rho → Prop} {X : Cx} {b : Addr} {ρ : Rho} {μ0 μ : Mu} {x : Thr} {pos lpos spos : Pos} {e fe : Expr} {es : List Expr} {kws : List Keyword} {nm : Str} {st : Stmt} {ps : List Str} {k : Nat} {C : Ct} {Φ : OV → Mu → Prop}
theorem evf_pick {ns : List Str} {vs : List V} {i : Nat} (hF : FnN X es ns vs) (hz : vs.length ≤ 1000) (hi : ns[i]? = some nm) (h : DE X e ρ μ fun o μ1 => o = .im (.int (i : Int)) ∧ μ1 = μ) (hs : PlainIx e := by exact fun _ _ => rfl) : EvF X (.Subscript (.List es lpos) e spos) ρ μ nm := fun G H σ m v Q f => by
  obtain ⟨fa, h1, h2⟩ := hF.get hi
  refine WE.of (pe_ix ix_list (pe_lst hF.pa) pwe hs) ?_
  refine tCs_run ⟨Nat.le_trans hz (by decide), fun pt hpt => ?_⟩
  have gp : G pt = none := by
    cases q : G pt with
    | none => rfl
    | some u => rw [m.ex _ _ q] at hpt; cases hpt
  have e0 : Ex G (upd G pt (.lst vs)) := Ex.new gp
  refine h (upd G pt (.lst vs)) (upd H pt (.lst vs)) σ (m.lay hpt) (v.mono e0) _ fun vy y μ2 G2 H2 q2 e2 m2 r2 => ?_
  obtain ⟨rfl, rfl⟩ := q2
  cases r2
  exact ⟨pt, vs, (i : Int), .ref fa, rfl, rfl, .inl (.inl (m2.ex _ _ (e2 _ _ upd_same))), atI_nat h1, f fa G2 H2 h2 (e0.trans e2) m2⟩
theorem de_callF (ks : List Str) (ix : List Nat) (E : EvF X fe ρ μ nm) (F : Fc X.prog X.w X.K X.mg X.base nm st ps k C) (hr : Rm k X.A)
    (hb : ∀ (kV doc pm : Value) (an : Option Addr) (cdv ct : Value) (us : List Value), us.length = ks.length → bindArgs (PySem.W.fnOf nm nm (defArgs st) (defBody st) (defScope st) .none kV doc pm an cdv ct) ⟨[], ks.zip us⟩ = pure (ps.zip (pick ix us)))
    (h : DK X kws ρ μ fun os μ1 => os.length = ks.length ∧ C (pick ix os) μ1 Φ) (hcall : eval (.Call fe [] kws pos) X.env = (do callWith pos (← eval fe X.env) [] (backTo pos (starEach [] X.env)) (backToKw pos (keywordEach kws X.env))) := by rfl)
    (hall : (backToKw pos (keywordEach kws X.env)).all (·.1.isSome) = true := by rfl) (hks : (backToKw pos (keywordEach kws X.env)).filterMap (·.1) = ks := by rfl)
    (hpl : ((backTo pos (starEach [] X.env)).any (·.1) || (backToKw pos (keywordEach kws X.env)).any (·.1.isNone)) = false := by rfl) :
    DE X (.Call fe [] kws pos) ρ μ Φ := fun G H σ m v Q f pins s I => by
  obtain ⟨fa, fd, FF, hm, FG⟩ := F.ex
  rw [hcall]
  refine wpAny_bind (thn (E G H σ m v (fun vf H0 => vf = .ref fa ∧ ∃ G0, Ex G G0 ∧ RM G0 H0 μ) (fun fa' G' H' hm' e m' => ⟨by rw [hm] at hm'; cases hm'; rfl, G', e, m'⟩) pins s I) fun u s0 ⟨vf, H0, I0, rf, ef, G0, e0, m0⟩ => ?_)
  subst ef
  obtain rfl : u = Value.ref fa := rf
  have hargs : WK X kws σ H0 fun vs H1 => vs.length = ks.length ∧ spOf C (pick ix vs) H1 Q fun _ _ _ => False := h G0 H0 σ m0 (v.mono e0) _ fun vs os μ1 G1 H1 q1 e1 m1 r1 => ⟨by rw [r1.length]; exact q1.1, pick ix os, μ1, G1, Φ, m1, pick_rel r1 ix, q1.2, f.later (e0.trans e1)⟩
  refine PySem.W.callWith_KW0 (h₀ := X.base) I0.ok.mod.kin FF.kp hall (thn (hargs pos pins s0 I0) fun us s1 ⟨vs, H1, I1, r, hl, q⟩ => ⟨I1.kIn, ?_⟩) hpl
  rw [hks]
  refine run_g (args := ⟨[], ks.zip us⟩) FG hr passE I1 ?_ (pick_rel r ix) q
  obtain ⟨oc, od, kV, doc, pm, an, cdv, ct, osl, rfl, lk, hcd⟩ := FF.ex
  exact .of_eq (hb kV doc pm an cdv ct us (by rw [← r.length]; exact hl))
theorem dze_callF {C : Cz} (ks : List Str) (ix : List Nat) (E : EvF X fe ρ μ nm) (F : FcZ X.prog X.w X.K X.mg X.base nm st ps k C) (hr : Rm k X.A) (hp : P ρ)
    (hb : ∀ (kV doc pm : Value) (an : Option Addr) (cdv ct : Value) (us : List Value), us.length = ks.length → bindArgs (PySem.W.fnOf nm nm (defArgs st) (defBody st) (defScope st) .none kV doc pm an cdv ct) ⟨[], ks.zip us⟩ = pure (ps.zip (pick ix us)))
    (h : DK X kws ρ μ fun os μ1 => os.length = ks.length ∧ Bs b μ0 μ1 ∧ C (pick ix os) μ1 b x) (hcall : eval (.Call fe [] kws pos) X.env = (do callWith pos (← eval fe X.env) [] (backTo pos (starEach [] X.env)) (backToKw pos (keywordEach kws X.env))) := by rfl)
    (hall : (backToKw pos (keywordEach kws X.env)).all (·.1.isSome) = true := by rfl) (hks : (backToKw pos (keywordEach kws X.env)).filterMap (·.1) = ks := by rfl)
    (hpl : ((backTo pos (starEach [] X.env)).any (·.1) || (backToKw pos (keywordEach kws X.env)).any (·.1.isNone)) = false := by rfl) :
    DZe P X b (.Call fe [] kws pos) ρ μ0 μ x := fun G H σ m v W Q tk w pins s I => by
  obtain ⟨fa, fd, FF, hm, FG⟩ := F.ex
  rw [hcall]
  refine wpAny_bind (thn (E G H σ m v (fun vf H0 => vf = .ref fa ∧ ∃ G0, Ex G G0 ∧ RM G0 H0 μ) (fun fa' G' H' hm' e m' => ⟨by rw [hm] at hm'; cases hm'; rfl, G', e, m'⟩) pins s I) fun u s0 ⟨vf, H0, I0, rf, ef, G0, e0, m0⟩ => ?_)
  subst ef
  obtain rfl : u = Value.ref fa := rf
  have hargs : WK X kws σ H0 fun vs H1 => vs.length = ks.length ∧ spZ C (pick ix vs) H1 Q (L2.WE W σ) := h G0 H0 σ m0 (v.mono e0) _ fun vs os μ1 G1 H1 ⟨l1, s1, q1⟩ e1 m1 r1 => ⟨by rw [r1.length]; exact l1, pick ix os, μ1, G1, b, x, m1, pick_rel r1 ix, q1, fun μ' G' H' dx y s2 e2 m2 h1 h2 => w ρ μ' G' H' σ dx y hp (s1.trans s2) ((e0.trans e1).trans e2) m2 (((v.mono e0).mono e1).mono e2) h1 h2⟩
  refine PySem.W.callWith_KW0 (h₀ := X.base) I0.ok.mod.kin FF.kp hall (thn (hargs pos pins s0 I0) fun us s1 ⟨vs, H1, I1, r, hl, q⟩ => ⟨I1.kIn, ?_⟩) hpl
  rw [hks]
  have hbt : BindsTo s1 fd ⟨[], ks.zip us⟩ (ps.zip (pick ix us)) := by
    obtain ⟨oc, od, kV, doc, pm, an, cdv, ct, osl, rfl, lk, hcd⟩ := FF.ex
    exact .of_eq (hb kV doc pm an cdv ct us (by rw [← r.length]; exact hl))
  refine wpAny_call (codeAny_mono (FG.run X.A X.stack s1 H1 ⟨[], ks.zip us⟩ (pick ix us) (pick ix vs) Q (L2.WE W σ) hr I1.env0 hbt (pick_rel r ix) q) fun z s' hq => ?_)
  match z, hq with
  | .error e, hq => exact passAt tk σ pins H1 s1 e s' I1 hq
  | .ok (.ret u), hq => exact I1.after hq
end
end Nx
set_option maxHeartbeats 4000000
namespace Nx
open PySem PySem.Spec PyProof.Rows L2
open Tree
def clsS (s : Stmt) (j : Nat) : Stmt := match s with
  | .ClassDef _ _ _ body _ _ _ _ _ _ _ => body.getD j (.Pass ⟨0, 0, 0, 0⟩)
  | s => s
section
variable {P : Program} {w : World} {K : PySem.W.Frag} {mg : Str → Option Value} {base : Heap} {C fI : Addr} {fd : FuncData} {f q : Str} {st : Stmt} {B newId initId : String} {bm : List Value}
theorem ok_init (Z : BsF B newId initId bm) (T : ExB K C newId bm) (no : PySem.W.findIn K (.ref C) f = some none) (F : Fun K "__init__" q st fI fd) (S : FnScope ["self", f] ["self", f] (defScope st)) (txt : Str)
    (hB : ∀ (cdv : Value) A outer s H E, PSs (cxOf CX0 P w K mg base ["self", f] q (defScope st) fI cdv A outer s H E).nox (defBody st) (tSeq (tDrop (tBI K newId bm (tCons (tVar 0) (tCons (L2.tC (.str txt)) tNil)))) (tOs1 K newId bm f (tVar 0) (tVar 1)))) :
    FnOk P w K mg base CX0 2 fI fd ["self", f] (spInit K C f) := by
  refine F.ok (k := 1) S (fun vs H Q E h => ?_) (fun cdv A outer s H vs Q E hr h => ⟨_, hB cdv A outer s H E, ?_⟩)
  · obtain ⟨a, y, rfl, _⟩ := h
    rfl
  · obtain ⟨a, y, rfl, ha, hq⟩ := h
    exact ⟨_, rfl, a, C, [.str txt], rfl, (show 1 ≤ 1000 by decide), T, ha, _, rfl, _, rfl, a, C, rfl, T, no, ha, fun dx h1 h2 => hq dx h1 h2⟩
theorem ext_mk {x : Str} (Z : BsF B newId initId bm) (T : ExB K C newId bm) (hb : bm.contains (.type "BaseException") = true) (gC : mg x = some (.ref C)) (exC : PySem.W.subIn K (.ref C) (.type "BaseException") = some true) (tyC : PySem.W.typeIn K (.ref C) = some (.type "type"))
    (iC : PySem.W.findIn K (.ref C) "__init__" = some (some (.ref fI))) (tI : PySem.W.typeIn K (.ref fI) = some (.type "function")) (F1 : FnOk P w K mg base CX0 2 fI fd ["self", f] (spInit K C f)) (bI : Binds K fd ["self", f] []) : ExT P w K mg base x C f :=
  ⟨⟨B, newId, initId, bm, Z, T, hb⟩, gC, exC, tyC, ⟨fI, fd, iC, tI, F1, bI⟩⟩
end
end Nx
set_option maxHeartbeats 4000000
namespace Nx
open PySem PySem.Spec PyProof.Rows L2
open Tree
def exE (E : Env) (i : Nat) : Option (Addr × Str × PyData) := match E[i]? with | some (some (.exn C f d)) => some (C, f, d) | _ => none
theorem exE_some {E : Env} {i : Nat} {C : Addr} {f : Str} {d : PyData} (h : exE E i = some (C, f, d)) : E[i]? = some (some (.exn C f d)) := by
  unfold exE at h
  split at h
  · rename_i e
    cases h
    exact e
  · cases h
def tIsNx (i : Nat) : DenB := fun E => match E[i]? with
  | some (some (.exn _ _ _)) => .ret false
  | some (some (.d d)) => liftO (qIsN d)
  | _ => .fail
def dIsX (i : Nat) (q : Addr → Option Bool) : DenE := fun E => match exE E i with | some (C, _, _) => (liftO (q C)).bind fun k => .ret (.bool k) | none => .fail
def dFldX (i : Nat) (f : Str) (cl : List Addr) : DenE := fun E => match exE E i with | some (C, g, d) => if g = f ∧ C ∈ cl then .ret d else .fail | none => .fail
def sTry (i j : Nat) (z : DenZ) (g : DenS) : DenS := fun E => match z E with
  | .ret x => if E.all (fun o => match o with | some w => noOwn w | none => true) = true then .ret (.nx ((E.set j (some (.exn x.C x.f x.d))).set i none)) else .fail
  | _ => g E
theorem Rel.base {b : Addr} {μ0 μ : Mu} {E : Env} {ρ : Rho} (R : Rel b μ0 E ρ μ) (h : E.all (fun o => match o with | some w => noOwn w | none => true) = true) : Rel b μ E ρ μ := by
  refine ⟨R.len, R.bxs, R.bxs, Bs.refl b μ, fun i w e => ?_, R.inj, R.injT⟩
  obtain ⟨o, h1, h2⟩ := R.get i w e
  have hw : noOwn w = true := List.all_eq_true.mp h (some w) (List.mem_of_getElem? e)
  refine ⟨o, h1, ?_⟩
  cases w <;> first | exact h2 | cases hw
section
variable {b : Addr} {X : Cx} {pos p p2 np tpos : Pos} {n m : Str} {es : List Expr} {kt : Nat}
theorem Rel.exn {μ0 μ : Mu} {E : Env} {ρ : Rho} {i : Nat} {C : Addr} {f : Str} {d : PyData} (R : Rel b μ0 E ρ μ) (h : exE E i = some (C, f, d)) : ρ[i]? = some (some (.ob (exnP C f d))) := by
  obtain ⟨o, h1, h2⟩ := R.get i _ (exE_some h)
  have h2 : o = .ob (exnP C f d) := h2
  rw [h2] at h1
  exact h1
theorem st_isNx (i : Nat) {j : Nat} {p' : Pos} (hN : X.N[i]? = some n) (hv : Vis X.env.scope n) (hd : (n == ("__debug__" : Str)) = false := by decide) (hcd : (n == ("__classdict__" : Str)) = false := by decide) : ST b X (.Compare (.Name n np) [.Is] [.Constant .none j p'] pos) (tIsNx i) := .mk fun μ0 E ρ μ Φ R q => by
  unfold tIsNx at q
  split at q
  · rename_i C f d e
    obtain ⟨o, h1, h2⟩ := R.get i _ e
    have h2 : o = .ob (exnP C f d) := h2
    subst h2
    exact dt_isN (de_var i hN hv h1 (q μ (Bs.refl b μ)) hd hcd)
  · rename_i d e
    obtain ⟨o, h1, h2⟩ := R.get i _ e
    have h2 : o = .im d := h2
    subst h2
    obtain ⟨k, hk, q⟩ := lift_all q
    have e2 : isNon (.im d) = k := by
      cases d <;> (cases hk; rfl)
    refine dt_isN (de_var i hN hv h1 ?_ hd hcd)
    rw [e2]
    exact q μ (Bs.refl b μ)
  · exact q.elim
theorem se_isX (i : Nat) {c : V} {u : Value} {q : Addr → Option Bool} (B : Bt X.mg) (hg : Gl X "isinstance") (hN : X.N[i]? = some m) (hv : Vis X.env.scope m) (hc : ClN X n c u) (hq : ∀ C k, q C = some k → ExK X.K C ∧ PySem.W.kitOne X.K (.ref C) u = some k)
    (hd : (m == ("__debug__" : Str)) = false := by decide) (hcd : (m == ("__classdict__" : Str)) = false := by decide) (he : starEach [.Name m np, .Name n p2] X.env = (false, eval (.Name m np) X.env) :: starEach [.Name n p2] X.env := by rfl) (he2 : starEach [.Name n p2] X.env = (false, eval (.Name n p2) X.env) :: starEach [] X.env := by rfl)
    (hpl : (backTo pos (starEach [.Name n p2] X.env)).any (·.1) = false := by rfl) : SE b X (.Call (.Name "isinstance" p) [.Name m np, .Name n p2] [] pos) (dIsX i q) := .mk fun μ0 E ρ μ Φ R h => by
  unfold dIsX at h
  split at h
  · rename_i C f d hE
    obtain ⟨k, hk, h⟩ := lift_all (all_bind.mp h)
    obtain ⟨T, hk'⟩ := hq C k hk
    exact de_isE B hg hc T hk' (de_var i hN hv (R.exn hE) ⟨rfl, h μ (Bs.refl b μ)⟩ hd hcd) he he2 hpl
  · exact h.elim
theorem se_isXT (i : Nat) {cs : List V} {us : List Value} {q : Addr → Option Bool} (B : Bt X.mg) (hg : Gl X "isinstance") (hN : X.N[i]? = some m) (hv : Vis X.env.scope m) (hc : ClNs X es cs us) (hz : cs.length ≤ 1000) (hq : ∀ C k, q C = some k → ExK X.K C ∧ PySem.W.kitAny X.K (.ref C) us = some k)
    (hd : (m == ("__debug__" : Str)) = false := by decide) (hcd : (m == ("__classdict__" : Str)) = false := by decide) (he : starEach [.Name m np, .Tuple es kt tpos] X.env = (false, eval (.Name m np) X.env) :: starEach [.Tuple es kt tpos] X.env := by rfl) (he2 : starEach [.Tuple es kt tpos] X.env = (false, eval (.Tuple es kt tpos) X.env) :: starEach [] X.env := by rfl)
    (hpl : (backTo pos (starEach [.Tuple es kt tpos] X.env)).any (·.1) = false := by rfl) : SE b X (.Call (.Name "isinstance" p) [.Name m np, .Tuple es kt tpos] [] pos) (dIsX i q) := .mk fun μ0 E ρ μ Φ R h => by
  unfold dIsX at h
  split at h
  · rename_i C f d hE
    obtain ⟨k, hk, h⟩ := lift_all (all_bind.mp h)
    obtain ⟨T, hk'⟩ := hq C k hk
    exact de_isET B hg hc hz T hk' (de_var i hN hv (R.exn hE) ⟨rfl, h μ (Bs.refl b μ)⟩ hd hcd) he he2 hpl
  · exact h.elim
theorem se_fldX (i : Nat) {f : Str} {cl : List Addr} (hN : X.N[i]? = some m) (hv : Vis X.env.scope m) (hk : ∀ C ∈ cl, ExK X.K C ∧ PySem.W.findIn X.K (.ref C) f = some none)
    (hd : (m == ("__debug__" : Str)) = false := by decide) (hcd : (m == ("__classdict__" : Str)) = false := by decide) (hb : attributeBase (.Name m np) f X.env (eval (.Name m np) X.env) = eval (.Name m np) X.env := by rfl) : SE b X (.Attribute (.Name m np) f pos) (dFldX i f cl) := .mk fun μ0 E ρ μ Φ R h => by
  unfold dFldX at h
  split at h
  · rename_i C g d hE
    split at h
    · rename_i hg
      obtain ⟨rfl, hC⟩ := hg
      exact de_exfld (hk C hC).1 (hk C hC).2 (de_var i hN hv (R.exn hE) ⟨rfl, h μ (Bs.refl b μ)⟩ hd hcd) hb
    · exact h.elim
  · exact h.elim
theorem ss_try {i j : Nat} {body : List Stmt} {cs : List Value} {mp ap pos' : Pos} {z : DenZ} {g : DenS} (hs : X.stack = X.env :: X.outer) (hf : X.env.frame = some X.env.locals) (hex : X.ex = []) (hN : X.N.Nodup) (hi : X.N[i]? = some n) (hln : X.env.kindOf n = some .local) (hj : X.N[j]? = some m) (hlm : X.env.kindOf m = some .local) (hij : i ≠ j)
    (hes : ∀ a pn, Nms (X.suite a pn) es cs) (hz : cs.length ≤ 1000)
    (hm : ∀ {h : Heap} {cls : Value} {e tp : Addr} {o : Obj} {k : Nat}, X.K.In h → PySem.W.Looks (model X.prog X.w) h (typeOf (.ref e)) cls → h.get? tp = some o → o.cls = .type "tuple" → o.data = .seq cs.toArray k → PySem.W.exmAny X.K cls cs = some true → PySem.W.Looks (model X.prog X.w) h (excMatches (.ref e) (.ref tp)) true)
    (hx : ∀ E x, z E = .ret x → PySem.W.exmAny X.K (.ref x.C) cs = some true) (hg : SSs b X.nox body g)
    (hb : ∀ (pn : List (Addr × Obj)) (xe : Value → Shared → Prop) (ρ : Rho), SZs (fun ρ' => ρ' = ρ) b (X.tr pn xe) body z)
    (hd : (n == ("__debug__" : Str)) = false := by decide) (hcd : (n == ("__classdict__" : Str)) = false := by decide)
    (hsw : ∀ a pn, swapsWith (.Name n np) (some (.Name m mp)) ap.line (X.suite a pn).env = pure false := by intro _ _; rfl) :
    SS b X (.Try body [.ExceptHandler (some (.Tuple es kt tpos)) (some n) [.Assign [.Name m mp] (.Name n np) ap] pos'] [] [] pos) (sTry i j z g) := .mk fun μ0 E ρ μ D R q => by
  unfold sTry at q
  split at q
  · rename_i x hz'
    split at q
    case isFalse => exact q.elim
    rename_i hno
    refine ds_catch (x := x) (b := b) hs hf hex hN hi hln hj hlm hij hes hz hm (hx E x hz') (fun pn xe => ?_) (fun μ' s => ?_) hd hcd hsw
    · exact (hb pn xe ρ).run μ E ρ μ x rfl (R.base hno) (by rw [hz']; exact rfl)
    · have R2 := (R.step s).setP j (w := .exn x.C x.f x.d) (o := .ob (exnP x.C x.f x.d)) rfl (fun _ h => nomatch h) rfl
      exact q _ _ (R2.wipeO i none)
  · exact ds_try (hg.run μ0 E ρ μ D R q)
end
end Nx
set_option maxHeartbeats 4000000
namespace Nx
open PySem PySem.Spec PyProof.Rows L2
open Tree
def kInt (E : Env) (i : Nat) : Option Nat := match E[i]? with | some (some (.d (.int k))) => if 0 ≤ k then some k.toNat else none | _ => none
theorem kInt_some {E : Env} {i k : Nat} (h : kInt E i = some k) : E[i]? = some (some (.d (.int (k : Int)))) := by
  unfold kInt at h
  split at h
  · rename_i j e
    split at h
    · cases h
      rw [e]
      congr 4
      omega
    · cases h
  · cases h
def dPick (i m : Nat) (ix : List Nat) (Fs : List (List W → Tree PyData)) (gs : Env → Tree (List W)) : DenE := fun E => match kInt E i with
  | some k => match Fs[k]? with
    | some F => dCallK m ix F gs E
    | none => .fail
  | none => .fail
def zCallK (m : Nat) (ix : List Nat) (F : List W → Tree Thr) (gs : Env → Tree (List W)) : DenZ := fun E => (gs E).bind fun ws => (liftO (lenIs m ws)).bind fun _ => F (pick ix ws)
def zPick (i m : Nat) (ix : List Nat) (Fs : List (List W → Tree Thr)) (gs : Env → Tree (List W)) : DenZ := fun E => match kInt E i with
  | some k => match Fs[k]? with
    | some F => zCallK m ix F gs E
    | none => .fail
  | none => .fail
section
variable {b : Addr} {X : Cx} {pos lpos spos np : Pos} {n : Str} {es : List Expr} {kws : List Keyword} {gs : Env → Tree (List W)} {ps : List Str} {ns : List Str} {vs : List V}
theorem se_pick (i : Nat) (ks : List Str) (ix : List Nat) {Fs : List (List W → Tree PyData)} (hF : FnN X es ns vs) (hz : vs.length ≤ 1000) (hN : X.N[i]? = some n) (hv : Vis X.env.scope n) (hs : SK b X kws gs)
    (hC : ∀ (k : Nat) F, Fs[k]? = some F → ∃ nm st j, ns[k]? = some nm ∧ Fc X.prog X.w X.K X.mg X.base nm st ps j (cF F) ∧ Rm j X.A ∧ ∀ (kV doc pm : Value) (an : Option Addr) (cdv ct : Value) (us : List Value), us.length = ks.length → bindArgs (PySem.W.fnOf nm nm (defArgs st) (defBody st) (defScope st) .none kV doc pm an cdv ct) ⟨[], ks.zip us⟩ = pure (ps.zip (pick ix us)))
    (hcall : eval (.Call (.Subscript (.List es lpos) (.Name n np) spos) [] kws pos) X.env = (do callWith pos (← eval (.Subscript (.List es lpos) (.Name n np) spos) X.env) [] (backTo pos (starEach [] X.env)) (backToKw pos (keywordEach kws X.env))) := by rfl)
    (hall : (backToKw pos (keywordEach kws X.env)).all (·.1.isSome) = true := by rfl) (hks : (backToKw pos (keywordEach kws X.env)).filterMap (·.1) = ks := by rfl)
    (hpl : ((backTo pos (starEach [] X.env)).any (·.1) || (backToKw pos (keywordEach kws X.env)).any (·.1.isNone)) = false := by rfl) (hd : (n == ("__debug__" : Str)) = false := by decide) (hcd : (n == ("__classdict__" : Str)) = false := by decide) :
    SE b X (.Call (.Subscript (.List es lpos) (.Name n np) spos) [] kws pos) (dPick i ks.length ix Fs gs) := .mk fun μ0 E ρ μ Φ R h => by
  unfold dPick at h
  split at h
  · rename_i k hk
    split at h
    · rename_i F hFk
      obtain ⟨nm, st, j, h1, FC, hr, hb⟩ := hC k F hFk
      obtain ⟨o, o1, o2⟩ := R.get i _ (kInt_some hk)
      have o2 : o = .im (.int (k : Int)) := o2
      subst o2
      refine de_callF ks ix (evf_pick hF hz h1 (de_var i hN hv o1 ⟨rfl, rfl⟩ hd hcd)) FC hr hb (hs.run μ0 E ρ μ _ R ((all_bind.mp h).imp fun ws q μ1 s1 => ?_)) hcall hall hks hpl
      obtain ⟨hl, q⟩ := lenIs_all (all_bind.mp q)
      exact ⟨by rw [List.length_map]; exact hl, b, pick ix ws, pick_map _ _ _, (R.step s1).bxs, q.imp fun d q μ2 s2 => q μ2 (s1.trans s2)⟩
    · exact h.elim
  · exact h.elim
theorem sze_pick {P : Rho → Prop} (i : Nat) (ks : List Str) (ix : List Nat) {Fs : List (List W → Tree Thr)} (hF : FnN X es ns vs) (hz : vs.length ≤ 1000) (hN : X.N[i]? = some n) (hv : Vis X.env.scope n) (hs : SK b X kws gs)
    (hC : ∀ (k : Nat) F, Fs[k]? = some F → ∃ nm st j, ns[k]? = some nm ∧ FcZ X.prog X.w X.K X.mg X.base nm st ps j (cZF F) ∧ Rm j X.A ∧ ∀ (kV doc pm : Value) (an : Option Addr) (cdv ct : Value) (us : List Value), us.length = ks.length → bindArgs (PySem.W.fnOf nm nm (defArgs st) (defBody st) (defScope st) .none kV doc pm an cdv ct) ⟨[], ks.zip us⟩ = pure (ps.zip (pick ix us)))
    (hcall : eval (.Call (.Subscript (.List es lpos) (.Name n np) spos) [] kws pos) X.env = (do callWith pos (← eval (.Subscript (.List es lpos) (.Name n np) spos) X.env) [] (backTo pos (starEach [] X.env)) (backToKw pos (keywordEach kws X.env))) := by rfl)
    (hall : (backToKw pos (keywordEach kws X.env)).all (·.1.isSome) = true := by rfl) (hks : (backToKw pos (keywordEach kws X.env)).filterMap (·.1) = ks := by rfl)
    (hpl : ((backTo pos (starEach [] X.env)).any (·.1) || (backToKw pos (keywordEach kws X.env)).any (·.1.isNone)) = false := by rfl) (hd : (n == ("__debug__" : Str)) = false := by decide) (hcd : (n == ("__classdict__" : Str)) = false := by decide) :
    SZe P b X (.Call (.Subscript (.List es lpos) (.Name n np) spos) [] kws pos) (zPick i ks.length ix Fs gs) := .mk fun μ0 E ρ μ x hp R h => by
  unfold zPick at h
  split at h
  · rename_i k hk
    split at h
    · rename_i F hFk
      obtain ⟨nm, st, j, h1, FC, hr, hb⟩ := hC k F hFk
      obtain ⟨o, o1, o2⟩ := R.get i _ (kInt_some hk)
      have o2 : o = .im (.int (k : Int)) := o2
      subst o2
      refine dze_callF ks ix (evf_pick hF hz h1 (de_var i hN hv o1 ⟨rfl, rfl⟩ hd hcd)) FC hr hp hb (hs.run μ0 E ρ μ _ R ((all_bind.mp h).imp fun ws q μ1 s1 => ?_)) hcall hall hks hpl
      obtain ⟨hl, q⟩ := lenIs_all (all_bind.mp q)
      exact ⟨by rw [List.length_map]; exact hl, R.ext.trans s1, pick ix ws, pick_map _ _ _, (R.step s1).bxs, q⟩
    · exact h.elim
  · exact h.elim
end
end Nx
namespace Nx
open PySem PySem.Spec PyProof.Rows L2
open Tree
structure Tbl (n : Nat) (ns : List Int) : Prop where
  asc : ns.Pairwise (· < ·)
  mem : ∀ x ∈ ns, 0 ≤ x ∧ x < n
theorem srt_len (ns : List Int) : (srt ns).length = ns.length := (srt_perm ns).length_eq
theorem srt_mem {ns : List Int} {x : Int} : x ∈ srt ns ↔ x ∈ ns := (srt_perm ns).mem_iff
theorem pw_lt : ∀ {l : List Int}, l.Pairwise (· ≤ ·) → l.Nodup → l.Pairwise (· < ·)
  | [], _, _ => .nil
  | a :: l, h, d => by
    obtain ⟨h1, h2⟩ := List.pairwise_cons.mp h
    obtain ⟨d1, d2⟩ := List.nodup_cons.mp d
    refine List.pairwise_cons.mpr ⟨fun x hx => ?_, pw_lt h2 d2⟩
    have := h1 x hx
    have : a ≠ x := fun e => d1 (e ▸ hx)
    omega
theorem tbl_srt {n : Nat} {ms : List Int} (d : ms.Nodup) (h : ∀ x ∈ ms, 0 ≤ x ∧ x < n) : Tbl n (srt ms) :=
  ⟨pw_lt (srt_pw ms) ((srt_perm ms).nodup_iff.mpr d), fun x hx => h x (srt_mem.mp hx)⟩
theorem Tbl.srt {n : Nat} {ns : List Int} (h : Tbl n ns) : srt ns = ns := (srt_eq (List.Perm.refl ns) (h.asc.imp fun {a b} h => by omega)).symm
theorem srt_congr {a b : List Int} (h : a.Perm b) : srt a = srt b := srt_eq ((srt_perm a).trans h) (srt_pw a)
theorem nums_eq (n : Nat) : nums n = iL ((List.range n).map fun (k : Nat) => (k : Int)) := by
  unfold nums iL
  rw [List.map_map]
  rfl
theorem perm_ints : ∀ {es : List PyData} {ns : List Int}, es.Perm (iL ns) → ∃ ms : List Int, es = iL ms ∧ ms.Perm ns := by
  intro es ns h
  have hall : ∀ d ∈ es, ∃ i : Int, d = .int i := fun d hd => by
    obtain ⟨i, _, e⟩ := List.mem_map.mp (h.mem_iff.mp hd)
    exact ⟨i, e.symm⟩
  have hex : ∀ es : List PyData, (∀ d ∈ es, ∃ i : Int, d = .int i) → ∃ ms : List Int, es = iL ms := by
    intro es
    induction es with
    | nil => exact fun _ => ⟨[], rfl⟩
    | cons d es ih =>
      intro h
      obtain ⟨i, rfl⟩ := h d (List.mem_cons_self ..)
      obtain ⟨ms, rfl⟩ := ih fun d hd => h d (List.mem_cons_of_mem _ hd)
      exact ⟨i :: ms, rfl⟩
  obtain ⟨ms, rfl⟩ := hex es hall
  refine ⟨ms, rfl, ?_⟩
  have := h.map (fun d => match d with | PyData.int i => i | _ => 0)
  simpa [iL, List.map_map, Function.comp_def] using this
theorem mod_inj {n a b : Int} (hn : 0 < n) (h : a % n = b % n) (h1 : a - b < n) (h2 : b - a < n) : a = b := by
  have e1 := Int.mul_ediv_add_emod a n
  have e2 := Int.mul_ediv_add_emod b n
  have e : a - b = n * (a / n - b / n) := by rw [Int.mul_sub]; omega
  generalize a / n - b / n = z at e
  have hz : z = 0 := by
    rcases Int.lt_trichotomy z 0 with h | h | h
    · have : n * z ≤ n * (-1) := Int.mul_le_mul_of_nonneg_left (by omega) (by omega)
      omega
    · exact h
    · have : n * 1 ≤ n * z := Int.mul_le_mul_of_nonneg_left (by omega) (by omega)
      omega
  subst hz
  omega
def pushGo (n : Int) (ss : List Int) (c : Int) : Nat → Nat → List Int
  | 0, _ => ss
  | f + 1, far => match ss.findIdx? (fun s => decide ((c + (far : Int) - s) % n = 0)) with
    | some k => ss.set k (ss.getD k 0 - (far : Int))
    | none => pushGo n ss c f (far + 1)
def pushL (n : Nat) (ss : List Int) (c : Int) : List Int := pushGo n ss c n 0
theorem find_at {ss : List Int} {p : Int → Bool} {k : Nat} {s : Int} (h : ss[k]? = some s) (hp : p s = true) (hn : ∀ (j : Nat) (s' : Int), j < k → ss[j]? = some s' → p s' = false) : ss.findIdx? p = some k := by
  obtain ⟨hk, e⟩ := List.getElem?_eq_some_iff.mp h
  rw [List.findIdx?_eq_some_iff_getElem]
  refine ⟨hk, by rw [e]; exact hp, fun j hj => ?_⟩
  have := hn j ss[j] hj (List.getElem?_eq_getElem (by omega))
  simp [this]
theorem find_no {ss : List Int} {p : Int → Bool} (hn : ∀ (j : Nat) (s' : Int), ss[j]? = some s' → p s' = false) : ss.findIdx? p = none := by
  rw [List.findIdx?_eq_none_iff]
  intro x hx
  obtain ⟨j, hj⟩ := List.getElem?_of_mem hx
  exact hn j x hj
def dst (n c s : Int) : Int := (s - c) % n
structure Near (n c : Int) (ss : List Int) (k : Nat) (s : Int) : Prop where
  at_ : ss[k]? = some s
  le : ∀ (j : Nat) s', ss[j]? = some s' → dst n c s ≤ dst n c s'
  lt : ∀ (j : Nat) s', j < k → ss[j]? = some s' → dst n c s < dst n c s'
theorem Near.uniq {n c : Int} {ss : List Int} {k k' : Nat} {s s' : Int} (a : Near n c ss k s) (b : Near n c ss k' s') : k = k' ∧ s = s' := by
  have e : k = k' := by
    rcases Nat.lt_trichotomy k k' with h | h | h
    · have h1 := b.lt k s h a.at_
      have h2 := a.le k' s' b.at_
      omega
    · exact h
    · have h1 := a.lt k' s' h b.at_
      have h2 := b.le k s a.at_
      omega
  subst e
  have := a.at_.symm.trans b.at_
  exact ⟨rfl, Option.some.inj this⟩
def nearIx (n c : Int) : List Int → Nat
  | [] => 0
  | s :: r => if r = [] then 0 else if dst n c (r.getD (nearIx n c r) 0) < dst n c s then nearIx n c r + 1 else 0
theorem near_ix {n c : Int} : ∀ {ss : List Int}, ss ≠ [] → Near n c ss (nearIx n c ss) (ss.getD (nearIx n c ss) 0)
  | [], h => absurd rfl h
  | s :: r, _ => by
    by_cases hr : r = []
    · subst hr
      unfold nearIx
      rw [if_pos rfl]
      refine ⟨rfl, fun j s' hj => ?_, fun j s' hj => absurd hj (Nat.not_lt_zero _)⟩
      cases j with
      | zero =>
        cases hj
        exact Int.le_refl _
      | succ j => simp at hj
    · have ih := near_ix (n := n) (c := c) hr
      unfold nearIx
      rw [if_neg hr]
      by_cases hd : dst n c (r.getD (nearIx n c r) 0) < dst n c s
      · rw [if_pos hd]
        refine ⟨ih.at_, fun j s' hj => ?_, fun j s' hjk hj => ?_⟩
        · cases j with
          | zero =>
            cases hj
            show dst n c (r.getD (nearIx n c r) 0) ≤ _
            omega
          | succ j => exact ih.le j s' hj
        · cases j with
          | zero =>
            cases hj
            exact hd
          | succ j => exact ih.lt j s' (by omega) hj
      · rw [if_neg hd]
        refine ⟨rfl, fun j s' hj => ?_, fun j s' hj => absurd hj (Nat.not_lt_zero _)⟩
        cases j with
        | zero =>
          cases hj
          exact Int.le_refl _
        | succ j =>
          have := ih.le j s' hj
          show dst n c s ≤ _
          omega
def moverL (n c : Int) (ss : List Int) : Option Nat := if dst n c (ss.getD (nearIx n c ss) 0) = 0 then none else some (nearIx n c ss)
def callL (n c : Int) (ss : List Int) : List Int := match moverL n c ss with
  | none => ss
  | some k => ss.set k c
theorem Near.mover {n c : Int} {ss : List Int} {k : Nat} {s : Int} (a : Near n c ss k s) : moverL n c ss = if dst n c s = 0 then none else some k := by
  have hne : ss ≠ [] := fun e => by
    have := a.at_
    rw [e] at this
    simp at this
  obtain ⟨h1, h2⟩ := (near_ix (n := n) (c := c) hne).uniq a
  unfold moverL
  rw [h2, h1]
theorem dst_lt {n c s : Int} (h : 0 < n) : 0 ≤ dst n c s ∧ dst n c s < n := ⟨Int.emod_nonneg _ (by omega), Int.emod_lt_of_pos _ h⟩
theorem hit_iff {n c s : Int} {far : Nat} (hn : (far : Int) < n) : (c + (far : Int) - s) % n = 0 ↔ dst n c s = (far : Int) := by
  unfold dst
  constructor
  · intro h
    have h1 : (s - c) % n = (far : Int) % n := by
      have e : s - c = (far : Int) - (c + (far : Int) - s) := by omega
      rw [e, Int.sub_emod, h]
      simp
    rw [h1]
    exact Int.emod_eq_of_lt (by omega) hn
  · intro h
    have e : c + (far : Int) - s = (far : Int) - (s - c) := by omega
    rw [e, Int.sub_emod, h, Int.emod_eq_of_lt (by omega) hn, Int.sub_self]
    simp
theorem push_near {n : Nat} {c : Int} {ss : List Int} {k : Nat} {s : Int} (n0 : 0 < n) (h : Near n c ss k s) : pushL n ss c = ss.set k (s - dst n c s) := by
  obtain ⟨d0, d1⟩ := dst_lt (n := (n : Int)) (c := c) (s := s) (by omega)
  obtain ⟨f, hf⟩ : ∃ f : Nat, dst n c s = (f : Int) := ⟨(dst n c s).toNat, by omega⟩
  have hfn : f < n := by omega
  have go : ∀ (i : Nat), i ≤ f → pushGo n ss c (n - (f - i)) (f - i) = ss.set k (s - (f : Int)) := by
    intro i
    induction i with
    | zero =>
      intro _
      rw [Nat.sub_zero, show n - f = (n - f - 1) + 1 by omega]
      unfold pushGo
      rw [find_at (p := fun s => decide ((c + (f : Int) - s) % (n : Int) = 0)) (k := k) (s := s) h.at_ (decide_eq_true ((hit_iff (by omega)).mpr hf)) fun j s' hj hs' => decide_eq_false fun e => ?_]
      · show ss.set k (ss.getD k 0 - (f : Int)) = _
        rw [List.getD_eq_getElem?_getD, h.at_]
        rfl
      · have h1 := (hit_iff (n := (n : Int)) (far := f) (by omega)).mp e
        have h2 := h.lt j s' hj hs'
        omega
    | succ i ih =>
      intro hi
      rw [show n - (f - (i + 1)) = (n - (f - i)) + 1 by omega]
      unfold pushGo
      rw [find_no (p := fun s => decide ((c + ((f - (i + 1) : Nat) : Int) - s) % (n : Int) = 0)) fun j s' hs' => decide_eq_false fun e => ?_]
      · show pushGo n ss c (n - (f - i)) (f - (i + 1) + 1) = _
        rw [show f - (i + 1) + 1 = f - i by omega]
        exact ih (by omega)
      · have h1 := (hit_iff (n := (n : Int)) (far := f - (i + 1)) (by omega)).mp e
        have h2 := h.le j s' hs'
        omega
  have := go f (Nat.le_refl _)
  rw [Nat.sub_self, Nat.sub_zero] at this
  rw [hf]
  exact this
theorem mod_self_of {n : Nat} {ss : List Int} (h : ∀ x ∈ ss, 0 ≤ x ∧ x < n) : ss.map (· % (n : Int)) = ss := by
  have : ss.map (· % (n : Int)) = ss.map id := List.map_congr_left fun x hx => Int.emod_eq_of_lt (h x hx).1 (h x hx).2
  rw [this, List.map_id]
theorem set_same {ss : List Int} {k : Nat} {s : Int} (h : ss[k]? = some s) : ss.set k s = ss := by
  obtain ⟨hk, rfl⟩ := List.getElem?_eq_some_iff.mp h
  exact List.set_getElem_self hk
theorem dst_sub {n c s : Int} (h : 0 ≤ c ∧ c < n) : (s - dst n c s) % n = c := by
  unfold dst
  rw [Int.sub_emod, Int.emod_emod_of_dvd _ (Int.dvd_refl n), ← Int.sub_emod, show s - (s - c) = c by omega]
  exact Int.emod_eq_of_lt h.1 h.2
theorem near_ex {n c : Int} {ss : List Int} (hne : ss ≠ []) : ∃ k s, Near n c ss k s := ⟨_, _, near_ix hne⟩
theorem callL_len {n c : Int} {ss : List Int} : (callL n c ss).length = ss.length := by
  unfold callL
  split
  · rfl
  · exact List.length_set
def runS (n : Int) (ss cs : List Int) : List Int := cs.foldl (fun s c => callL n c s) ss
theorem runS_len (n : Int) : ∀ (cs ss : List Int), (runS n ss cs).length = ss.length
  | [], _ => rfl
  | c :: cs, ss => by
    show (runS n (callL n c ss) cs).length = _
    rw [runS_len n cs, callL_len]
def dLs (ls : List (List Int)) : List PyData := ls.map fun s => .list (iL s)
def zipStep (n : Int) (t a b : List Int) : List Int := (t.zip (a.zip b)).map fun q => q.1 + (q.2.1 - q.2.2) % n
def stepsL (n : Int) (ss cs : List Int) : List Int := (List.range cs.length).foldl (fun t j => zipStep n t (runS n ss (cs.take j)) (runS n ss (cs.take (j + 1)))) (ss.map fun _ => 0)
theorem zipStep_get {n : Int} {t a b : List Int} {i : Nat} {x y z : Int} (h1 : t[i]? = some x) (h2 : a[i]? = some y) (h3 : b[i]? = some z) : (zipStep n t a b)[i]? = some (x + (y - z) % n) := by
  unfold zipStep
  rw [List.getElem?_map, List.getElem?_zip_eq_some (z := (x, (y, z))) |>.mpr ⟨h1, List.getElem?_zip_eq_some (z := (y, z)) |>.mpr ⟨h2, h3⟩⟩]
  rfl
theorem zipStep_len {n : Int} {t a b : List Int} (h1 : t.length = a.length) (h2 : a.length = b.length) : (zipStep n t a b).length = t.length := by
  simp [zipStep]
  omega
def stT (n : Int) (ss cs : List Int) (i : Nat) : List Int := (List.range i).foldl (fun t j => zipStep n t (runS n ss (cs.take j)) (runS n ss (cs.take (j + 1)))) (ss.map fun _ => 0)
theorem stT_succ (n : Int) (ss cs : List Int) (i : Nat) : stT n ss cs (i + 1) = zipStep n (stT n ss cs i) (runS n ss (cs.take i)) (runS n ss (cs.take (i + 1))) := by
  unfold stT
  rw [List.range_succ, List.foldl_append]
  rfl
def mx : List Int → Int
  | [] => 0
  | [a] => a
  | a :: b :: r => max a (mx (b :: r))
theorem mx_ge : ∀ {l : List Int} {x : Int}, x ∈ l → x ≤ mx l
  | [a], x, h => by
    rw [List.mem_singleton.mp h]
    exact Int.le_refl _
  | a :: b :: r, x, h => by
    show x ≤ max a (mx (b :: r))
    rcases List.mem_cons.mp h with rfl | h
    · omega
    · have := mx_ge (l := b :: r) h
      omega
theorem mx_mem : ∀ {l : List Int}, l ≠ [] → mx l ∈ l
  | [a], _ => List.mem_singleton.mpr rfl
  | a :: b :: r, _ => by
    show max a (mx (b :: r)) ∈ _
    rcases Int.le_total a (mx (b :: r)) with h | h
    · rw [Int.max_eq_right h]
      exact List.mem_cons_of_mem _ (mx_mem (List.cons_ne_nil _ _))
    · rw [Int.max_eq_left h]
      exact List.mem_cons_self ..
theorem mx_eq {l : List Int} {k : Int} (h : k ∈ l) (u : ∀ y ∈ l, y ≤ k) : k = mx l := by
  have h1 := mx_ge h
  have h2 := u _ (mx_mem (List.ne_nil_of_mem h))
  omega
def cell (M : List (List Int)) (c : Int) (j : Nat) : Int := (M.getD c.toNat []).getD j 0
theorem dst_mod {n c s : Int} : dst n c (s % n) = dst n c s := by
  unfold dst
  rw [Int.sub_emod, Int.emod_emod_of_dvd _ (Int.dvd_refl n), ← Int.sub_emod]
theorem Near.mod {n c : Int} {us : List Int} {k : Nat} {s : Int} (h : Near n c us k s) : Near n c (us.map (· % n)) k (s % n) := by
  refine ⟨?_, fun j s' hj => ?_, fun j s' hjk hj => ?_⟩
  · rw [List.getElem?_map, h.at_]
    rfl
  · rw [List.getElem?_map] at hj
    obtain ⟨u, hu, rfl⟩ := Option.map_eq_some_iff.mp hj
    rw [dst_mod, dst_mod]
    exact h.le j u hu
  · rw [List.getElem?_map] at hj
    obtain ⟨u, hu, rfl⟩ := Option.map_eq_some_iff.mp hj
    rw [dst_mod, dst_mod]
    exact h.lt j u hjk hu
theorem push_mod {n : Nat} {c : Int} {us : List Int} (hne : us ≠ []) (n0 : 0 < n) (hc : 0 ≤ c ∧ c < n) : (pushL n us c).map (· % (n : Int)) = callL n c (us.map (· % (n : Int))) := by
  obtain ⟨k, t, nr⟩ := near_ex (n := (n : Int)) (c := c) hne
  rw [push_near n0 nr, List.map_set, dst_sub hc]
  unfold callL
  rw [nr.mod.mover, dst_mod]
  by_cases h0 : dst n c t = 0
  · rw [if_pos h0]
    have h1 := dst_sub (n := (n : Int)) (s := t) hc
    rw [h0, Int.sub_zero] at h1
    show (us.map (· % (n : Int))).set k c = us.map (· % (n : Int))
    conv => lhs; rw [← h1]
    exact set_same nr.mod.at_
  · rw [if_neg h0]
def pushS (n : Nat) (us cs : List Int) : List Int := cs.foldl (fun s c => pushL n s c) us
theorem pushL_len {n : Nat} {c : Int} {us : List Int} (hne : us ≠ []) (n0 : 0 < n) : (pushL n us c).length = us.length := by
  obtain ⟨k, t, nr⟩ := near_ex (n := (n : Int)) (c := c) hne
  rw [push_near n0 nr, List.length_set]
theorem ne_of_len {a b : List Int} (h : a.length = b.length) (hb : b ≠ []) : a ≠ [] := fun e => by
  rw [e] at h
  exact hb (List.length_eq_zero_iff.mp h.symm)
theorem pushS_succ {n : Nat} {us cs : List Int} {j : Nat} {c : Int} (h : cs[j]? = some c) : pushS n us (cs.take (j + 1)) = pushL n (pushS n us (cs.take j)) c := by
  unfold pushS
  rw [List.take_add_one, h, List.foldl_append]
  rfl
theorem pushS_len {n : Nat} (n0 : 0 < n) : ∀ (cs : List Int) {us : List Int}, us ≠ [] → (pushS n us cs).length = us.length
  | [], _, _ => rfl
  | c :: cs, us, h => by
    have e := pushL_len (c := c) h n0
    show (pushS n (pushL n us c) cs).length = _
    rw [pushS_len n0 cs (ne_of_len e h), e]
theorem pushS_mod {n : Nat} (n0 : 0 < n) : ∀ (cs : List Int) {us : List Int}, us ≠ [] → (∀ c ∈ cs, 0 ≤ c ∧ c < (n : Int)) → (pushS n us cs).map (· % (n : Int)) = runS n (us.map (· % (n : Int))) cs
  | [], _, _, _ => rfl
  | c :: cs, us, h, hc => by
    have e := pushL_len (c := c) h n0
    show (pushS n (pushL n us c) cs).map _ = runS n (callL n c (us.map (· % (n : Int)))) cs
    rw [pushS_mod n0 cs (ne_of_len e h) fun x hx => hc x (List.mem_cons_of_mem _ hx), push_mod h n0 (hc c (List.mem_cons_self ..))]
theorem push_step {n : Nat} {c : Int} {us : List Int} {i : Nat} {x : Int} (hne : us ≠ []) (n0 : 0 < n) (h : us[i]? = some x) : ∃ y, (pushL n us c)[i]? = some y ∧ 0 ≤ x - y ∧ x - y < n := by
  obtain ⟨k, t, nr⟩ := near_ex (n := (n : Int)) (c := c) hne
  rw [push_near n0 nr]
  have hd := dst_lt (n := (n : Int)) (c := c) (s := t) (by omega)
  by_cases hk : k = i
  · subst hk
    have e := nr.at_.symm.trans h
    cases e
    exact ⟨_, List.getElem?_set_self (List.getElem?_eq_some_iff.mp h).1, by omega, by omega⟩
  · exact ⟨x, by rw [List.getElem?_set_ne hk, h], by omega, by omega⟩
theorem mod_dif {n x y : Int} (h : 0 ≤ x - y ∧ x - y < n) : (x % n - y % n) % n = x - y := by
  rw [← Int.sub_emod]
  exact Int.emod_eq_of_lt h.1 h.2
def difL (a b : List Int) : List Int := (a.zip b).map fun q => q.1 - q.2
theorem difL_get {a b : List Int} {i : Nat} {x y : Int} (h1 : a[i]? = some x) (h2 : b[i]? = some y) : (difL a b)[i]? = some (x - y) := by
  unfold difL
  rw [List.getElem?_map, List.getElem?_zip_eq_some (z := (x, y)) |>.mpr ⟨h1, h2⟩]
  rfl
theorem difL_len {a b : List Int} (h : a.length = b.length) : (difL a b).length = a.length := by
  simp [difL]
  omega
structure Sqn (n k : Int) (x : Int → Int) : Prop where
  up : ∀ i, x (i - 1) < x i
  per : ∀ i, x (i + k) = x i + n
def cal (n c y : Int) : Int := y - (y - c) % n
def fCall (n c : Int) (x : Int → Int) : Int → Int := fun i => if x (i - 1) < cal n c (x i) then cal n c (x i) else x i
theorem cal_le {n c y : Int} (n0 : 0 < n) : cal n c y ≤ y ∧ y - n < cal n c y := by
  have h1 := Int.emod_nonneg (y - c) (show n ≠ 0 by omega)
  have h2 := Int.emod_lt_of_pos (y - c) n0
  unfold cal
  omega
theorem cal_mod {n c y : Int} : ∃ m, cal n c y = c + n * m := ⟨(y - c) / n, by
  have := Int.mul_ediv_add_emod (y - c) n
  unfold cal
  omega⟩
theorem cal_one {n c a b : Int} {y z : Int} (n0 : 0 < n) (ha : a = cal n c y) (hb : b = cal n c z) (h1 : a - b < n) (h2 : b - a < n) : a = b := by
  obtain ⟨m, hm⟩ := cal_mod (n := n) (c := c) (y := y)
  obtain ⟨l, hl⟩ := cal_mod (n := n) (c := c) (y := z)
  rw [← ha] at hm
  rw [← hb] at hl
  have e : a - b = n * (m - l) := by rw [Int.mul_sub]; omega
  have hz : m - l = 0 := by
    rcases Int.lt_trichotomy (m - l) 0 with h | h | h
    · have : n * (m - l) ≤ n * (-1) := Int.mul_le_mul_of_nonneg_left (by omega) (by omega)
      omega
    · exact h
    · have : n * 1 ≤ n * (m - l) := Int.mul_le_mul_of_nonneg_left (by omega) (by omega)
      omega
  rw [hz] at e
  omega
theorem cal_eq {n c y z : Int} (n0 : 0 < n) (h : cal n c z ≤ y) (hyz : y ≤ z) : cal n c y = cal n c z := by
  have a := cal_le (n := n) (c := c) (y := y) n0
  have b := cal_le (n := n) (c := c) (y := z) n0
  exact cal_one n0 rfl rfl (by omega) (by omega)
theorem cal_add {n c y : Int} : cal n c (y + n) = cal n c y + n := by
  unfold cal
  rw [show y + n - c = (y - c) + n by omega, Int.add_emod_right]
  omega
theorem f_le {n c : Int} {x : Int → Int} (n0 : 0 < n) (i : Int) : fCall n c x i ≤ x i := by
  have := cal_le (n := n) (c := c) (y := x i) n0
  unfold fCall
  split <;> omega
theorem f_gt {n c : Int} {x : Int → Int} (h : ∀ i, x (i - 1) < x i) (i : Int) : x (i - 1) < fCall n c x i := by
  have := h i
  unfold fCall
  split <;> omega
theorem Sqn.call {n k : Int} {x : Int → Int} (h : Sqn n k x) (n0 : 0 < n) (c : Int) : Sqn n k (fCall n c x) := by
  refine ⟨fun i => ?_, fun i => ?_⟩
  · have h1 := f_le (c := c) (x := x) n0 (i - 1)
    have h2 := f_gt (n := n) (c := c) h.up i
    omega
  · unfold fCall
    rw [h.per i, cal_add, show i + k - 1 = (i - 1) + k by omega, h.per (i - 1)]
    by_cases hc : x (i - 1) < cal n c (x i)
    · rw [if_pos hc, if_pos (by omega)]
    · rw [if_neg hc, if_neg (by omega)]
theorem Sqn.lt {n k : Int} {x : Int → Int} (h : Sqn n k x) (i : Int) : ∀ d : Nat, 0 < d → x i < x (i + (d : Int))
  | 0, h0 => absurd h0 (Nat.lt_irrefl _)
  | 1, _ => by
    have := h.up (i + 1)
    rw [show i + 1 - 1 = i by omega] at this
    exact this
  | d + 2, _ => by
    have h1 := h.lt i (d + 1) (by omega)
    have h2 := h.up (i + ((d + 2 : Nat) : Int))
    rw [show i + ((d + 2 : Nat) : Int) - 1 = i + ((d + 1 : Nat) : Int) by omega] at h2
    omega
theorem Sqn.ltI {n k : Int} {x : Int → Int} (h : Sqn n k x) {i j : Int} (hij : i < j) : x i < x j := by
  have := h.lt i (j - i).toNat (by omega)
  rw [show i + ((j - i).toNat : Int) = j by omega] at this
  exact this
theorem Sqn.far {n k : Int} {x : Int → Int} (h : Sqn n k x) (i : Int) : ∀ d : Nat, x i + (d : Int) ≤ x (i + (d : Int))
  | 0 => by simp
  | d + 1 => by
    have h1 := h.far i d
    have h2 := h.up (i + ((d + 1 : Nat) : Int))
    rw [show i + ((d + 1 : Nat) : Int) - 1 = i + (d : Int) by omega] at h2
    omega
theorem Sqn.gap {n k : Int} {x : Int → Int} (h : Sqn n k x) (k0 : 1 ≤ k) (i : Int) : x i ≤ x (i - 1) + n := by
  have h1 := h.per (i - k)
  rw [show i - k + k = i by omega] at h1
  have h2 : x (i - k) ≤ x (i - 1) := by
    by_cases e : k = 1
    · subst e
      exact Int.le_refl _
    · have := h.ltI (i := i - k) (j := i - 1) (by omega)
      omega
  omega
def minS (x y : Int → Int) : Int → Int := fun i => min (x i) (y i)
theorem Sqn.min {n k : Int} {x y : Int → Int} (h : Sqn n k x) (g : Sqn n k y) : Sqn n k (minS x y) := by
  refine ⟨fun i => ?_, fun i => ?_⟩
  · have h1 := h.up i
    have h2 := g.up i
    unfold minS
    omega
  · unfold minS
    rw [h.per, g.per]
    omega
def fCalls (n : Int) (cs : List Int) (x : Int → Int) : Int → Int := cs.foldl (fun x c => fCall n c x) x
theorem Sqn.calls {n k : Int} (n0 : 0 < n) : ∀ (cs : List Int) {x : Int → Int}, Sqn n k x → Sqn n k (fCalls n cs x)
  | [], _, h => h
  | c :: cs, _, h => Sqn.calls n0 cs (h.call n0 c)
theorem calls_le {n : Int} (n0 : 0 < n) : ∀ (cs : List Int) (x : Int → Int) (i : Int), fCalls n cs x i ≤ x i
  | [], _, _ => Int.le_refl _
  | c :: cs, x, i => Int.le_trans (calls_le n0 cs (fCall n c x) i) (f_le n0 i)
theorem Sqn.shift {n k : Int} {x : Int → Int} (h : Sqn n k x) (a m : Int) : Sqn n k fun i => x (i + a) + n * m := by
  refine ⟨fun i => ?_, fun i => ?_⟩
  · have := h.up (i + a)
    rw [show i - 1 + a = i + a - 1 by omega]
    omega
  · have := h.per (i + a)
    rw [show i + k + a = i + a + k by omega, this]
    omega
theorem Sqn.pm {n k : Int} {x : Int → Int} (h : Sqn n k x) (i : Int) : ∀ m : Int, x (i + k * m) = x i + n * m := by
  have hn : ∀ (m : Nat) (i : Int), x (i + k * (m : Int)) = x i + n * (m : Int) := by
    intro m
    induction m with
    | zero => intro i; simp
    | succ m ih =>
      intro i
      have e1 : i + k * ((m + 1 : Nat) : Int) = (i + k * (m : Int)) + k := by
        rw [show ((m + 1 : Nat) : Int) = (m : Int) + 1 by omega, Int.mul_add]
        omega
      have e2 : n * ((m + 1 : Nat) : Int) = n * (m : Int) + n := by
        rw [show ((m + 1 : Nat) : Int) = (m : Int) + 1 by omega, Int.mul_add]
        omega
      rw [e1, h.per, ih, e2]
      omega
  intro m
  rcases Int.le_total 0 m with hm | hm
  · obtain ⟨j, rfl⟩ : ∃ j : Nat, m = (j : Int) := ⟨m.toNat, by omega⟩
    exact hn j i
  · obtain ⟨j, rfl⟩ : ∃ j : Nat, m = -(j : Int) := ⟨(-m).toNat, by omega⟩
    have := hn j (i + k * -(j : Int))
    rw [show i + k * -(j : Int) + k * (j : Int) = i by rw [Int.mul_neg]; omega] at this
    rw [Int.mul_neg n]
    omega
structure Nbr (k : Nat) (σ : Nat → Int) : Prop where
  inj : ∀ a b, a < k → b < k → ∀ m : Int, σ a = σ b + (k : Int) * m → a = b
  sur : ∀ i : Int, ∃ a, a < k ∧ ∃ m : Int, i = σ a + (k : Int) * m
def rowOf (x : Int → Int) (σ : Nat → Int) (k : Nat) : List Int := (List.range k).map fun a => x (σ a)
theorem rowOf_get {x : Int → Int} {σ : Nat → Int} {k a : Nat} (h : a < k) : (rowOf x σ k)[a]? = some (x (σ a)) := by
  unfold rowOf
  rw [List.getElem?_map, List.getElem?_range h]
  rfl
theorem rowOf_len {x : Int → Int} {σ : Nat → Int} {k : Nat} : (rowOf x σ k).length = k := by simp [rowOf]
theorem rowOf_inv {x : Int → Int} {σ : Nat → Int} {k a : Nat} {s : Int} (h : (rowOf x σ k)[a]? = some s) : a < k ∧ s = x (σ a) := by
  have hl := (List.getElem?_eq_some_iff.mp h).1
  rw [rowOf_len] at hl
  rw [rowOf_get hl] at h
  exact ⟨hl, (Option.some.inj h).symm⟩
theorem push_row {n k : Nat} {c : Int} {x : Int → Int} {σ : Nat → Int} (n0 : 0 < n) (k0 : 1 ≤ k) (h : Sqn n k x) (ν : Nbr k σ) : pushL n (rowOf x σ k) c = rowOf (fCall n c x) σ k := by
  have nI : (0 : Int) < n := by omega
  have hne : rowOf x σ k ≠ [] := fun e => by
    have := congrArg List.length e
    rw [rowOf_len] at this
    simp at this
    omega
  obtain ⟨a, s, nr⟩ := near_ex (n := (n : Int)) (c := c) hne
  obtain ⟨ha, rfl⟩ := rowOf_inv nr.at_
  have ec : x (σ a) - dst n c (x (σ a)) = cal n c (x (σ a)) := rfl
  have hit : x (σ a - 1) < cal n c (x (σ a)) := by
    refine Int.not_le.mp fun hc => ?_
    have hup := h.up (σ a)
    have e := cal_eq (c := c) nI hc (by omega)
    obtain ⟨b, hb, m, hm⟩ := ν.sur (σ a - 1)
    have e2 := h.pm (σ b) m
    rw [← hm] at e2
    have hle := nr.le b _ (rowOf_get hb)
    have e3 : dst n c (x (σ b)) = dst n c (x (σ a - 1)) := by
      unfold dst
      rw [e2, show x (σ b) + (n : Int) * m - c = (x (σ b) - c) + (n : Int) * m by omega, Int.add_mul_emod_self_left]
    rw [e3] at hle
    unfold cal at e
    unfold dst at hle
    omega
  rw [push_near n0 nr, ec]
  refine List.ext_getElem? fun b => ?_
  by_cases hb : b < k
  · rw [rowOf_get hb]
    by_cases e : a = b
    · subst e
      rw [List.getElem?_set_self (by rw [rowOf_len]; exact ha)]
      unfold fCall
      rw [if_pos hit]
    · rw [List.getElem?_set_ne e, rowOf_get hb]
      unfold fCall
      rw [if_neg]
      intro hc
      apply e
      obtain ⟨ma, hma⟩ := cal_mod (n := (n : Int)) (c := c) (y := x (σ a))
      obtain ⟨mb, hmb⟩ := cal_mod (n := (n : Int)) (c := c) (y := x (σ b))
      have p0 := h.pm (σ b) (ma - mb)
      have p1 := h.pm (σ b - 1) (ma - mb)
      have em : (n : Int) * (ma - mb) = (n : Int) * ma - (n : Int) * mb := Int.mul_sub ..
      have la := cal_le (n := (n : Int)) (c := c) (y := x (σ a)) nI
      have lb := cal_le (n := (n : Int)) (c := c) (y := x (σ b)) nI
      have hij : σ a = σ b + (k : Int) * (ma - mb) := by
        rcases Int.lt_trichotomy (σ a) (σ b + (k : Int) * (ma - mb)) with hlt | he | hgt
        · have : x (σ a) ≤ x (σ b + (k : Int) * (ma - mb) - 1) := by
            by_cases e2 : σ a = σ b + (k : Int) * (ma - mb) - 1
            · rw [e2]
              exact Int.le_refl _
            · have := h.ltI (i := σ a) (j := σ b + (k : Int) * (ma - mb) - 1) (by omega)
              omega
          rw [show σ b + (k : Int) * (ma - mb) - 1 = σ b - 1 + (k : Int) * (ma - mb) by omega] at this
          omega
        · exact he
        · have : x (σ b + (k : Int) * (ma - mb)) ≤ x (σ a - 1) := by
            by_cases e2 : σ b + (k : Int) * (ma - mb) = σ a - 1
            · rw [e2]
              exact Int.le_refl _
            · have := h.ltI (i := σ b + (k : Int) * (ma - mb)) (j := σ a - 1) (by omega)
              omega
          omega
      exact ν.inj a b ha hb _ hij
  · rw [List.getElem?_eq_none (by rw [List.length_set, rowOf_len]; omega), List.getElem?_eq_none (by rw [rowOf_len]; omega)]
theorem pushS_row {n k : Nat} {σ : Nat → Int} (n0 : 0 < n) (k0 : 1 ≤ k) (ν : Nbr k σ) : ∀ (cs : List Int) {x : Int → Int}, Sqn n k x → pushS n (rowOf x σ k) cs = rowOf (fCalls n cs x) σ k
  | [], _, _ => rfl
  | c :: cs, x, h => by
    show pushS n (pushL n (rowOf x σ k) c) cs = _
    rw [push_row n0 k0 h ν, pushS_row n0 k0 ν cs (h.call (by omega) c)]
    rfl
def xOf (n : Nat) (ss : List Int) : Int → Int := fun i => ss.getD (i % (ss.length : Int)).toNat 0 + (n : Int) * (i / (ss.length : Int))
def pk (n k : Int) (c : Int) : Int → Int := fun i => c + ((i + k - 1) % k - (k - 1)) + n * ((i + k - 1) / k)
theorem div_step {k i : Int} (k0 : 1 ≤ k) : (i % k = 0 ∧ (i - 1) % k = k - 1 ∧ (i - 1) / k = i / k - 1) ∨ (0 < i % k ∧ (i - 1) % k = i % k - 1 ∧ (i - 1) / k = i / k) := by
  have h1 := Int.emod_nonneg i (show k ≠ 0 by omega)
  have h2 := Int.emod_lt_of_pos i (show 0 < k by omega)
  have h3 := Int.mul_ediv_add_emod i k
  have h4 := Int.emod_nonneg (i - 1) (show k ≠ 0 by omega)
  have h5 := Int.emod_lt_of_pos (i - 1) (show 0 < k by omega)
  have h6 := Int.mul_ediv_add_emod (i - 1) k
  generalize hq : i / k = q at *
  generalize hp : (i - 1) / k = p at *
  generalize i % k = r at *
  generalize (i - 1) % k = t at *
  have e : k * (q - p) = t - r + 1 := by rw [Int.mul_sub]; omega
  generalize hd : q - p = d at e
  have hd2 : d = 0 ∨ d = 1 := by
    rcases Int.lt_or_le d 0 with h | h
    · have : k * d ≤ k * (-1) := Int.mul_le_mul_of_nonneg_left (by omega) (by omega)
      omega
    · rcases Int.lt_or_le 1 d with h' | h'
      · have : k * 2 ≤ k * d := Int.mul_le_mul_of_nonneg_left (by omega) (by omega)
        omega
      · omega
  rcases hd2 with rfl | rfl
  · right
    omega
  · left
    omega
theorem mul_pred (n q : Int) : n * (q - 1) = n * q - n := by
  rw [Int.mul_sub]
  omega
theorem sqn_xOf {n : Nat} {ss : List Int} (tb : Tbl n ss) (hne : ss ≠ []) : Sqn n ss.length (xOf n ss) := by
  have k0 : 1 ≤ (ss.length : Int) := by
    have := List.length_pos_iff.mpr hne
    omega
  have hin : ∀ r : Int, 0 ≤ r → r < (ss.length : Int) → ∃ v, ss[r.toNat]? = some v ∧ ss.getD r.toNat 0 = v ∧ 0 ≤ v ∧ v < (n : Int) := fun r r0 r1 => by
    have hl : r.toNat < ss.length := by omega
    refine ⟨ss[r.toNat], List.getElem?_eq_getElem hl, ?_, tb.mem _ (List.getElem_mem hl)⟩
    rw [List.getD_eq_getElem?_getD, List.getElem?_eq_getElem hl]
    rfl
  refine ⟨fun i => ?_, fun i => ?_⟩
  · unfold xOf
    have h1 := Int.emod_nonneg i (show (ss.length : Int) ≠ 0 by omega)
    have h2 := Int.emod_lt_of_pos i (show 0 < (ss.length : Int) by omega)
    rcases div_step (i := i) k0 with ⟨e1, e2, e3⟩ | ⟨e1, e2, e3⟩
    · rw [e2, e3, mul_pred]
      obtain ⟨v, _, hv, hv2⟩ := hin (i % (ss.length : Int)) h1 h2
      obtain ⟨u, _, hu, hu2⟩ := hin ((ss.length : Int) - 1) (by omega) (by omega)
      rw [hu, hv]
      omega
    · rw [e2, e3]
      obtain ⟨v, hv1, hv, hv2⟩ := hin (i % (ss.length : Int)) h1 h2
      obtain ⟨u, hu1, hu, hu2⟩ := hin (i % (ss.length : Int) - 1) (by omega) (by omega)
      rw [hu, hv]
      obtain ⟨l1, g1⟩ := List.getElem?_eq_some_iff.mp hv1
      obtain ⟨l2, g2⟩ := List.getElem?_eq_some_iff.mp hu1
      have := List.pairwise_iff_getElem.mp tb.asc _ _ l2 l1 (by omega)
      rw [g1, g2] at this
      omega
  · unfold xOf
    rw [Int.add_emod_right, Int.add_ediv_of_dvd_right (Int.dvd_refl _), Int.ediv_self (by omega), Int.mul_add]
    omega
theorem nbr_up {k : Nat} (k0 : 1 ≤ k) : Nbr k fun a => (a : Int) := by
  refine ⟨fun a b ha hb m e => ?_, fun i => ?_⟩
  · have h := mod_inj (n := (k : Int)) (a := (a : Int)) (b := (b : Int)) (by omega) (by rw [e, Int.add_mul_emod_self_left]) (by omega) (by omega)
    omega
  · have h1 := Int.emod_nonneg i (show (k : Int) ≠ 0 by omega)
    have h2 := Int.emod_lt_of_pos i (show 0 < (k : Int) by omega)
    have h3 := Int.mul_ediv_add_emod i k
    exact ⟨(i % (k : Int)).toNat, by omega, i / (k : Int), by omega⟩
theorem row_xOf {n : Nat} {ss : List Int} (hne : ss ≠ []) : rowOf (xOf n ss) (fun a => (a : Int)) ss.length = ss := by
  have k0 := List.length_pos_iff.mpr hne
  refine List.ext_getElem? fun a => ?_
  by_cases ha : a < ss.length
  · rw [rowOf_get ha, List.getElem?_eq_getElem ha]
    unfold xOf
    rw [Int.emod_eq_of_lt (by omega) (by omega), Int.ediv_eq_zero_of_lt (by omega) (by omega), Int.mul_zero, Int.add_zero, Int.toNat_natCast, List.getD_eq_getElem?_getD, List.getElem?_eq_getElem ha]
    rfl
  · rw [List.getElem?_eq_none (by rw [rowOf_len]; omega), List.getElem?_eq_none (by omega)]
def pkAt (n k : Int) (x : Int → Int) (t : Int) : Int → Int := fun i => pk n k (x t) (i + -t) + n * 0
def lst (n k : Int) (x : Int → Int) (i : Int) : Nat → Int → Int
  | 0 => pkAt n k x i
  | m + 1 => minS (lst n k x i m) (pkAt n k x (i + ((m + 1 : Nat) : Int)))
theorem stT_difU {n : Nat} {us cs : List Int} (n0 : 0 < n) (hne : us ≠ []) (hc : ∀ c ∈ cs, 0 ≤ c ∧ c < (n : Int)) : ∀ j, j ≤ cs.length → stT n (us.map (· % (n : Int))) cs j = difL us (pushS n us (cs.take j))
  | 0, _ => by
    refine List.ext_getElem? fun i => ?_
    show ((us.map (· % (n : Int))).map fun _ => (0 : Int))[i]? = (difL us us)[i]?
    cases h : us[i]? with
    | none =>
      rw [List.getElem?_map, List.getElem?_map, h]
      have : us.length ≤ i := List.getElem?_eq_none_iff.mp h
      rw [List.getElem?_eq_none (by rw [difL_len rfl]; exact this)]
      rfl
    | some x =>
      rw [List.getElem?_map, List.getElem?_map, h, difL_get h h, Int.sub_self]
      rfl
  | j + 1, hj => by
    obtain ⟨c, hcj⟩ : ∃ c, cs[j]? = some c := ⟨_, List.getElem?_eq_getElem (by omega)⟩
    have ih := stT_difU n0 hne hc j (by omega)
    have lj := pushS_len n0 (cs.take j) hne
    have lj1 := pushS_len n0 (cs.take (j + 1)) hne
    have hmem : ∀ i : Nat, ∀ c ∈ cs.take i, 0 ≤ c ∧ c < (n : Int) := fun i c h => hc c (List.mem_of_mem_take h)
    have r0 := pushS_mod n0 (cs.take j) hne (hmem j)
    have r1 := pushS_mod n0 (cs.take (j + 1)) hne (hmem (j + 1))
    rw [stT_succ, ih]
    refine List.ext_getElem? fun i => ?_
    cases h : us[i]? with
    | none =>
      have : us.length ≤ i := List.getElem?_eq_none_iff.mp h
      rw [List.getElem?_eq_none, List.getElem?_eq_none]
      · rw [difL_len lj1.symm]
        exact this
      · rw [zipStep_len (by rw [difL_len lj.symm, runS_len, List.length_map]) (by rw [runS_len, runS_len]), difL_len lj.symm]
        exact this
    | some x =>
      have hi := (List.getElem?_eq_some_iff.mp h).1
      obtain ⟨u, hu⟩ : ∃ u, (pushS n us (cs.take j))[i]? = some u := ⟨_, List.getElem?_eq_getElem (by rw [lj]; exact hi)⟩
      obtain ⟨y, hy, h1, h2⟩ := push_step (c := c) (ne_of_len lj hne) n0 hu
      rw [← pushS_succ hcj] at hy
      have a0 : (runS n (us.map (· % (n : Int))) (cs.take j))[i]? = some (u % (n : Int)) := by
        rw [← r0, List.getElem?_map, hu]
        rfl
      have a1 : (runS n (us.map (· % (n : Int))) (cs.take (j + 1)))[i]? = some (y % (n : Int)) := by
        rw [← r1, List.getElem?_map, hy]
        rfl
      rw [zipStep_get (difL_get h hu) a0 a1, difL_get h hy, mod_dif ⟨h1, h2⟩]
      congr 1
      omega
theorem rowOf_ne {x : Int → Int} {σ : Nat → Int} {k : Nat} (k0 : 1 ≤ k) : rowOf x σ k ≠ [] := fun e => by
  have := congrArg List.length e
  rw [rowOf_len] at this
  simp at this
  omega
def modL (n : Nat) (us : List Int) : List Int := us.map (· % (n : Int))
theorem steps_row {n k : Nat} {x : Int → Int} {σ : Nat → Int} {cs : List Int} (n0 : 0 < n) (k0 : 1 ≤ k) (h : Sqn n k x) (ν : Nbr k σ) (hc : ∀ c ∈ cs, 0 ≤ c ∧ c < (n : Int)) : stepsL n (modL n (rowOf x σ k)) cs = rowOf (fun i => x i - fCalls n cs x i) σ k := by
  have e := stT_difU n0 (rowOf_ne (x := x) (σ := σ) k0) hc cs.length (Nat.le_refl _)
  rw [List.take_length, pushS_row n0 k0 ν cs h] at e
  rw [show stepsL n (modL n (rowOf x σ k)) cs = stT n ((rowOf x σ k).map (· % (n : Int))) cs cs.length from rfl, e]
  refine List.ext_getElem? fun a => ?_
  by_cases ha : a < k
  · rw [rowOf_get ha, difL_get (rowOf_get ha) (rowOf_get ha)]
  · rw [List.getElem?_eq_none (by rw [difL_len (by rw [rowOf_len, rowOf_len]), rowOf_len]; omega), List.getElem?_eq_none (by rw [rowOf_len]; omega)]
theorem Sqn.inj {n k : Int} {x : Int → Int} (h : Sqn n k x) {i j : Int} (e : x i = x j) : i = j := by
  rcases Int.lt_trichotomy i j with hl | he | hg
  · have := h.ltI hl
    omega
  · exact he
  · have := h.ltI hg
    omega
theorem modL_self {n : Nat} {ss : List Int} (tb : Tbl n ss) : modL n ss = ss := mod_self_of tb.mem
theorem steps_tbl {n : Nat} {ss cs : List Int} (tb : Tbl n ss) (hne : ss ≠ []) (n0 : 0 < n) (hc : ∀ c ∈ cs, 0 ≤ c ∧ c < (n : Int)) : stepsL n ss cs = rowOf (fun i => xOf n ss i - fCalls n cs (xOf n ss) i) (fun a => (a : Int)) ss.length := by
  have k0 := List.length_pos_iff.mpr hne
  have e := steps_row (cs := cs) n0 k0 (sqn_xOf tb hne) (nbr_up k0) hc
  rw [row_xOf hne, modL_self tb] at e
  exact e
theorem rot_one {g : Int → Int} {k : Nat} (h : ∀ i, g (i + (k : Int)) = g i) : (rowOf (fun i => g (i + 1)) (fun a => (a : Int)) k).Perm (rowOf g (fun a => (a : Int)) k) := by
  cases k with
  | zero => exact List.Perm.refl _
  | succ k =>
    have e1 : rowOf (fun i => g (i + 1)) (fun a => (a : Int)) (k + 1) = (List.range k).map (fun (a : Nat) => g ((a : Int) + 1)) ++ [g 0] := by
      unfold rowOf
      rw [List.range_succ, List.map_append]
      congr 1
      have := h 0
      rw [show (0 : Int) + ((k + 1 : Nat) : Int) = (k : Int) + 1 by omega] at this
      rw [← this]
      rfl
    have e2 : rowOf g (fun a => (a : Int)) (k + 1) = g 0 :: (List.range k).map (fun (a : Nat) => g ((a : Int) + 1)) := by
      unfold rowOf
      rw [List.range_succ_eq_map, List.map_cons, List.map_map]
      rfl
    rw [e1, e2]
    exact List.perm_append_singleton _ _
theorem rot_nat {g : Int → Int} {k : Nat} (h : ∀ i, g (i + (k : Int)) = g i) : ∀ a : Nat, (rowOf (fun i => g (i + (a : Int))) (fun a => (a : Int)) k).Perm (rowOf g (fun a => (a : Int)) k)
  | 0 => by
    rw [show (fun i => g (i + ((0 : Nat) : Int))) = g from funext fun i => by rw [show i + ((0 : Nat) : Int) = i by omega]]
  | a + 1 => by
    have e : (fun i => g (i + ((a + 1 : Nat) : Int))) = fun i => (fun j => g (j + (a : Int))) (i + 1) := funext fun i => by
      show g _ = g _
      congr 1
      omega
    rw [e]
    refine (rot_one (g := fun j => g (j + (a : Int))) fun i => ?_).trans (rot_nat h a)
    show g (i + (k : Int) + (a : Int)) = g (i + (a : Int))
    rw [show i + (k : Int) + (a : Int) = i + (a : Int) + (k : Int) by omega]
    exact h _
theorem per_nat {g : Int → Int} {k : Nat} (h : ∀ i, g (i + (k : Int)) = g i) (i : Int) : ∀ m : Nat, g (i + (k : Int) * (m : Int)) = g i
  | 0 => by simp
  | m + 1 => by
    rw [show i + (k : Int) * ((m + 1 : Nat) : Int) = i + (k : Int) * (m : Int) + (k : Int) by rw [show ((m + 1 : Nat) : Int) = (m : Int) + 1 by omega, Int.mul_add]; omega, h, per_nat h i m]
theorem rot_perm {g : Int → Int} {k : Nat} (k0 : 1 ≤ k) (h : ∀ i, g (i + (k : Int)) = g i) (a : Int) : (rowOf (fun i => g (i + a)) (fun a => (a : Int)) k).Perm (rowOf g (fun a => (a : Int)) k) := by
  have hb : 0 ≤ a + (k : Int) * (a.natAbs : Int) := by
    have : (1 : Int) * (a.natAbs : Int) ≤ (k : Int) * (a.natAbs : Int) := Int.mul_le_mul_of_nonneg_right (by omega) (by omega)
    omega
  have e : (fun i => g (i + a)) = fun i => g (i + ((a + (k : Int) * (a.natAbs : Int)).toNat : Int)) := funext fun i => by
    rw [Int.toNat_of_nonneg hb, show i + (a + (k : Int) * (a.natAbs : Int)) = i + a + (k : Int) * (a.natAbs : Int) by omega, per_nat h]
  rw [e]
  exact rot_nat h _
theorem first_up {P : Int → Prop} (lo : Int) : ∀ d : Nat, ¬ P lo → P (lo + (d : Int)) → ∃ a, ¬ P (a - 1) ∧ P a
  | 0, h0, h1 => absurd (by rw [show lo + ((0 : Nat) : Int) = lo by omega] at h1; exact h1) h0
  | d + 1, h0, h1 => by
    by_cases h : P (lo + (d : Int))
    · exact first_up lo d h0 h
    · exact ⟨lo + ((d + 1 : Nat) : Int), by rw [show lo + ((d + 1 : Nat) : Int) - 1 = lo + (d : Int) by omega]; exact h, h1⟩
theorem Sqn.le {n k : Int} {x : Int → Int} (h : Sqn n k x) {i j : Int} (hij : i ≤ j) : x i ≤ x j := by
  rcases Int.lt_or_eq_of_le hij with h' | rfl
  · exact Int.le_of_lt (h.ltI h')
  · exact Int.le_refl _
theorem Sqn.zero {n : Nat} {k : Int} {x : Int → Int} (h : Sqn n k x) (n0 : 0 < n) (k0 : 1 ≤ k) : ∃ a, x (a - 1) < 0 ∧ 0 ≤ x a := by
  have e1 := h.pm 0 ((x 0).natAbs : Int)
  have e2 := h.pm 0 (-((x 0).natAbs + 1 : Int))
  have b1 : (1 : Int) * ((x 0).natAbs : Int) ≤ (n : Int) * ((x 0).natAbs : Int) := Int.mul_le_mul_of_nonneg_right (by omega) (by omega)
  have b2 : (1 : Int) * ((x 0).natAbs + 1 : Int) ≤ (n : Int) * ((x 0).natAbs + 1 : Int) := Int.mul_le_mul_of_nonneg_right (by omega) (by omega)
  rw [Int.mul_neg, Int.mul_neg] at e2
  have hlo : ¬ (0 ≤ x (0 + -(k * ((x 0).natAbs + 1 : Int)))) := by omega
  have hhi : 0 ≤ x (0 + k * ((x 0).natAbs : Int)) := by omega
  have hk : 0 ≤ k * ((x 0).natAbs : Int) := Int.mul_nonneg (by omega) (by omega)
  have hk2 : 0 ≤ k * ((x 0).natAbs + 1 : Int) := Int.mul_nonneg (by omega) (by omega)
  obtain ⟨a, ha, hb⟩ := first_up (P := fun i => 0 ≤ x i) (0 + -(k * ((x 0).natAbs + 1 : Int))) (k * ((x 0).natAbs : Int) + k * ((x 0).natAbs + 1 : Int)).toNat hlo (by
    rw [Int.toNat_of_nonneg (by omega), show (0 : Int) + -(k * ((x 0).natAbs + 1 : Int)) + (k * ((x 0).natAbs : Int) + k * ((x 0).natAbs + 1 : Int)) = 0 + k * ((x 0).natAbs : Int) by omega]
    exact hhi)
  exact ⟨a, by omega, hb⟩
theorem modL_row {n k : Nat} {x : Int → Int} {σ : Nat → Int} : modL n (rowOf x σ k) = rowOf (fun i => x i % (n : Int)) σ k := by
  unfold modL rowOf
  rw [List.map_map]
  rfl
theorem Sqn.mod_per {n : Nat} {k : Nat} {x : Int → Int} (h : Sqn n k x) (i : Int) : x (i + (k : Int)) % (n : Int) = x i % (n : Int) := by
  rw [h.per, Int.add_emod_right]
theorem sqn_tab {n k : Nat} {x : Int → Int} (h : Sqn n k x) (n0 : 0 < n) (k0 : 1 ≤ k) : ∃ a : Int, srt (modL n (rowOf x (fun a => (a : Int)) k)) = rowOf (fun i => x (i + a)) (fun a => (a : Int)) k ∧ Tbl n (srt (modL n (rowOf x (fun a => (a : Int)) k))) ∧ ∀ i, xOf n (srt (modL n (rowOf x (fun a => (a : Int)) k))) i = x (i + a) := by
  obtain ⟨a, ha, hb⟩ := h.zero n0 (by omega)
  have tb : Tbl n (rowOf (fun i => x (i + a)) (fun a => (a : Int)) k) := ⟨by
    refine List.pairwise_iff_getElem.mpr fun i j hi hj hij => ?_
    simp only [rowOf, List.getElem_map, List.getElem_range]
    exact h.ltI (by omega), fun y hy => by
    obtain ⟨i, hi⟩ := List.getElem?_of_mem hy
    obtain ⟨hk, rfl⟩ := rowOf_inv hi
    have l1 := h.le (show a ≤ (i : Int) + a by omega)
    have l2 := h.le (show (i : Int) + a ≤ a - 1 + (k : Int) by omega)
    rw [h.per] at l2
    exact ⟨Int.le_trans hb l1, by omega⟩⟩
  have hp : (modL n (rowOf x (fun a => (a : Int)) k)).Perm (rowOf (fun i => x (i + a)) (fun a => (a : Int)) k) := by
    rw [modL_row]
    have := (rot_perm (g := fun i => x i % (n : Int)) k0 h.mod_per a).symm
    refine this.trans ?_
    rw [show rowOf (fun i => x (i + a) % (n : Int)) (fun a => (a : Int)) k = modL n (rowOf (fun i => x (i + a)) (fun a => (a : Int)) k) from modL_row.symm, modL_self tb]
  have e : srt (modL n (rowOf x (fun a => (a : Int)) k)) = rowOf (fun i => x (i + a)) (fun a => (a : Int)) k := by rw [srt_congr hp, tb.srt]
  refine ⟨a, e, by rw [e]; exact tb, fun i => ?_⟩
  rw [e]
  have hm0 := Int.emod_nonneg i (show (k : Int) ≠ 0 by omega)
  have hm1 := Int.emod_lt_of_pos i (show (0 : Int) < k by omega)
  have hg : (rowOf (fun i => x (i + a)) (fun a => (a : Int)) k)[(i % (k : Int)).toNat]? = some (x (i % (k : Int) + a)) := by
    rw [rowOf_get (show (i % (k : Int)).toNat < k by omega)]
    rw [Int.toNat_of_nonneg hm0]
  unfold xOf
  rw [rowOf_len, List.getD_eq_getElem?_getD, hg]
  show x (i % (k : Int) + a) + _ = _
  rw [← h.pm]
  congr 1
  have := Int.mul_ediv_add_emod i k
  omega
theorem srt_rot {n k : Nat} {x : Int → Int} (h : Sqn n k x) (k0 : 1 ≤ k) (a : Int) : srt (modL n (rowOf (fun i => x (i + a)) (fun a => (a : Int)) k)) = srt (modL n (rowOf x (fun a => (a : Int)) k)) := by
  rw [modL_row, modL_row]
  exact srt_congr (rot_perm (g := fun i => x i % (n : Int)) k0 h.mod_per a)
theorem runS_tbl {n : Nat} {ss cs : List Int} (tb : Tbl n ss) (hne : ss ≠ []) (n0 : 0 < n) (hc : ∀ c ∈ cs, 0 ≤ c ∧ c < (n : Int)) : runS n ss cs = modL n (rowOf (fCalls n cs (xOf n ss)) (fun a => (a : Int)) ss.length) := by
  have k0 := List.length_pos_iff.mpr hne
  have e := pushS_mod n0 cs hne hc
  rw [mod_self_of tb.mem] at e
  rw [← e, ← pushS_row n0 k0 (nbr_up k0) cs (sqn_xOf tb hne), row_xOf hne]
  rfl
def tabA (n : Nat) (ss cs : List Int) : List Int := srt (runS n ss cs)
theorem tabA_len {n : Nat} {ss cs : List Int} : (tabA n ss cs).length = ss.length := by unfold tabA; rw [srt_len, runS_len]
theorem tabA_ne {n : Nat} {ss cs : List Int} (hne : ss ≠ []) : tabA n ss cs ≠ [] := ne_of_len tabA_len hne
theorem tabA_x {n : Nat} {ss cs : List Int} (tb : Tbl n ss) (hne : ss ≠ []) (n0 : 0 < n) (hc : ∀ c ∈ cs, 0 ≤ c ∧ c < (n : Int)) : ∃ a : Int, tabA n ss cs = rowOf (fun i => fCalls n cs (xOf n ss) (i + a)) (fun a => (a : Int)) ss.length ∧ Tbl n (tabA n ss cs) ∧ xOf n (tabA n ss cs) = fun i => fCalls n cs (xOf n ss) (i + a) := by
  have k0 := List.length_pos_iff.mpr hne
  have hs := (sqn_xOf tb hne).calls (show (0 : Int) < n by omega) cs
  obtain ⟨a, h1, h2, h3⟩ := sqn_tab hs n0 k0
  unfold tabA
  rw [runS_tbl tb hne n0 hc]
  exact ⟨a, h1, h2, funext h3⟩
theorem tabA_tbl {n : Nat} {ss cs : List Int} (tb : Tbl n ss) (hne : ss ≠ []) (n0 : 0 < n) (hc : ∀ c ∈ cs, 0 ≤ c ∧ c < (n : Int)) : Tbl n (tabA n ss cs) := by
  obtain ⟨a, _, h, _⟩ := tabA_x tb hne n0 hc
  exact h
theorem sum_row_add {x y : Int → Int} : ∀ k : Nat, (rowOf (fun i => x i + y i) (fun a => (a : Int)) k).sum = (rowOf x (fun a => (a : Int)) k).sum + (rowOf y (fun a => (a : Int)) k).sum := fun k => by
  unfold rowOf
  induction k with
  | zero => rfl
  | succ k ih =>
    rw [List.range_succ, List.map_append, List.map_append, List.map_append, List.sum_append, List.sum_append, List.sum_append, ih]
    simp
    omega
theorem nodup_le {α : Type} [DecidableEq α] : ∀ {l m : List α}, l.Nodup → (∀ x ∈ l, x ∈ m) → l.length ≤ m.length
  | [], _, _, _ => Nat.zero_le _
  | x :: l, m, hd, hs => by
    have hx := hs x (List.mem_cons_self ..)
    have h1 := (List.nodup_cons.mp hd)
    have h2 : l.length ≤ (m.erase x).length := nodup_le h1.2 fun y hy => (List.mem_erase_of_ne (fun e => by rw [e] at hy; exact h1.1 hy)).mpr (hs y (List.mem_cons_of_mem _ hy))
    rw [List.length_erase_of_mem hx] at h2
    have := List.length_pos_of_mem hx
    rw [List.length_cons]
    omega
theorem sum_zero : ∀ k : Nat, (rowOf (fun _ => (0 : Int)) (fun a => (a : Int)) k).sum = 0
  | 0 => rfl
  | k + 1 => by
    have ih := sum_zero k
    unfold rowOf at ih ⊢
    rw [List.range_succ, List.map_append, List.sum_append, ih]
    rfl
theorem sum_tel (z : Int → Int) : ∀ k : Nat, (rowOf (fun i => z i - z (i - 1)) (fun a => (a : Int)) k).sum = z ((k : Int) - 1) - z (-1)
  | 0 => by simp [rowOf]
  | k + 1 => by
    have ih := sum_tel z k
    unfold rowOf at ih ⊢
    rw [List.range_succ, List.map_append, List.sum_append, ih]
    simp only [List.map_cons, List.map_nil, List.sum_cons, List.sum_nil]
    rw [show ((k + 1 : Nat) : Int) - 1 = (k : Int) by omega]
    omega
theorem sum_shift {n : Int} {k : Nat} {y : Int → Int} (h : Sqn n k y) : ∀ q : Nat, (rowOf (fun i => y i - y (i + -(q : Int))) (fun a => (a : Int)) k).sum = n * (q : Int)
  | 0 => by
    rw [show (fun i => y i - y (i + -((0 : Nat) : Int))) = fun _ => (0 : Int) from funext fun i => by rw [show i + -((0 : Nat) : Int) = i by omega]; omega, sum_zero]
    simp
  | q + 1 => by
    have e : (fun i => y i - y (i + -((q + 1 : Nat) : Int))) = fun i => (y i - y (i + -(q : Int))) + ((fun t => y (t + -(q : Int))) i - (fun t => y (t + -(q : Int))) (i - 1)) := funext fun i => by
      dsimp only
      rw [show i - 1 + -(q : Int) = i + -((q + 1 : Nat) : Int) by omega]
      omega
    rw [e, sum_row_add, sum_shift h q, sum_tel (fun t => y (t + -(q : Int))) k]
    have hp := h.per (-1 + -(q : Int))
    rw [show -1 + -(q : Int) + (k : Int) = (k : Int) - 1 + -(q : Int) by omega] at hp
    rw [show ((q + 1 : Nat) : Int) = (q : Int) + 1 by omega, Int.mul_add]
    omega
def b_spot : DenS := (sRet (d2 pAdd (d2 pMul (d2 pDiv (dV 2) (d1 pLen (dV 1))) (dV 0)) (d2 pIx (dV 1) (d2 pMod (dV 2) (d1 pLen (dV 1))))))
def m_spot : List W → Tree PyData := fnF 3 3 b_spot
def b_steps_with : DenS := (sRet (dLc (.tp [4, 5]) [4, 5] (wEn (dV 1)) (d2 pSub (dV 5) (dCall m_spot (aC (aV 0) (aC (aV 2) (aC (aE (d2 pSub (dV 4) (dV 3))) a0)))))))
def m_steps_with : List W → Tree PyData := fnF 4 6 b_steps_with
def b_fewest_steps : DenS := (sC (sIf (t2 pNe (d1 pLen (dV 1)) (d1 pLen (dV 2))) sNo s0) (sC (sSet 3 (dC (.int 0))) (sC (sWh 100 (tTr (d1 pAny (dLc (.nm 4) [4] (iS (dCall m_steps_with (aC (aV 0) (aC (aV 1) (aC (aV 2) (aC (aV 3) a0)))))) (d2 (bD cLt) (dV 4) (dC (.int 0)))))) (sAug 3 gAdd (dC (.int 1)))) (sRet (dCall m_steps_with (aC (aV 0) (aC (aV 1) (aC (aV 2) (aC (aV 3) a0)))))))))
def m_fewest_steps : List W → Tree PyData := fnF 3 5 b_fewest_steps
def b_fewest_calls : DenS := (sRet (d1 pLen (dLf (.nm 3) [3] (iS (dCall m_fewest_steps (aC (aV 0) (aC (aV 1) (aC (aV 2) a0))))) (t2 cGt (dV 3) (dC (.int 0))) (dV 3))))
def m_fewest_calls : List W → Tree PyData := fnF 3 4 b_fewest_calls
def b_distance_before : DenS := (sRet (d2 pAdd (d2 pMod (d2 pSub (d2 pSub (d2 pIx (dV 1) (dV 2)) (d2 pIx (dV 1) (d2 pSub (dV 2) (dC (.int 1))))) (dC (.int 1))) (dV 0)) (dC (.int 1))))
def m_distance_before : List W → Tree PyData := fnF 3 3 b_distance_before
def b_chain_people : DenS := (sC (sOwn 2 (dL (lC (dV 1) l0))) (sC (sSet 3 (d2 pMod (d2 pAdd (dV 1) (dC (.int 1))) (d1 pLen (dV 0)))) (sC (sWh 100 (tTr (d2 pIx (dV 0) (dV 3))) (sC (sApp 2 (dV 3)) (sSet 3 (d2 pMod (d2 pAdd (dV 3) (dC (.int 1))) (d1 pLen (dV 0)))))) (sFrz 2 (sRet (dV 2))))))
def m_chain_people : List W → Tree PyData := fnF 2 4 b_chain_people
def b_chains_between : DenS := (sC (sSet 3 (dCall m_fewest_steps (aC (aV 0) (aC (aV 1) (aC (aV 2) a0))))) (sC (sSet 4 (dLc (.tp [6, 7]) [7, 6] (wEn (dV 3)) (d2 (bD cGe) (dV 7) (dCall m_distance_before (aC (aV 0) (aC (aV 1) (aC (aV 6) a0))))))) (sC (sSet 5 (dLc (.tp [8, 7]) [7, 8] (wZ2 (dV 1) (dV 3)) (d2 pMod (d2 pSub (dV 8) (dV 7)) (dV 0)))) (sRet (dLf (.tp [6, 7]) [7, 6] (wEn (dV 3)) (tAnd (t2 cGt (dV 7) (dC (.int 0))) (tNot (tTr (d2 pIx (dV 4) (dV 6))))) (dLc (.nm 9) [9] (iS (dCall m_chain_people (aC (aV 4) (aC (aV 6) a0)))) (d2 pIx (dV 5) (dV 9))))))))
def m_chains_between : List W → Tree PyData := fnF 3 10 b_chains_between
def b_orders_many : DenS := (sC (sSet 1 (dC (.int 1))) (sC (sFor (.nm 2) (iR2 (dC (.int 2)) (d2 pAdd (dV 0) (dC (.int 1)))) (sAug 1 gMul (dV 2))) (sRet (dV 1))))
def m_orders_many : List W → Tree PyData := fnF 1 3 b_orders_many
def b_mixed_many : DenS := (sC (sSet 1 (dCall m_orders_many (aC (aE (d1 pSum (dLc (.nm 2) [2] (iS (dV 0)) (d1 pLen (dV 2))))) a0))) (sC (sFor (.nm 2) (iS (dV 0)) (sSet 1 (d2 pDiv (dV 1) (dCall m_orders_many (aC (aE (d1 pLen (dV 2))) a0))))) (sRet (dV 1))))
def m_mixed_many : List W → Tree PyData := fnF 1 3 b_mixed_many
def b_chains_after : DenS := (sC (sSet 2 (dLc (.nm 3) [3] (iS (dV 0)) (dIf (t2 pEq (d2 pIx (dV 3) (dC (.int 0))) (dV 1)) (dSl (dV 3) (oS (dC (.int 1))) oN) (dV 3)))) (sRet (dLf (.nm 3) [3] (iS (dV 2)) (tTr (dV 3)) (dV 3))))
def m_chains_after : List W → Tree PyData := fnF 2 4 b_chains_after
def b_next_chairs : DenS := (sRet (dLc (.nm 1) [1] (iS (dV 0)) (d2 pIx (dV 1) (dC (.int 0)))))
def m_next_chairs : List W → Tree PyData := fnF 1 2 b_next_chairs
def b_lesser_many : DenS := (sRet (d1 pSum (dLf (.nm 2) [2] (iS (dCall m_next_chairs (aC (aV 0) a0))) (t2 cLt (dV 2) (dV 1)) (dCall m_mixed_many (aC (aE (dCall m_chains_after (aC (aV 0) (aC (aV 2) a0)))) a0)))))
def m_lesser_many : List W → Tree PyData := fnF 2 3 b_lesser_many
def b_ways_many : DenS := (sRet (dCall m_mixed_many (aC (aE (dCall m_chains_between (aC (aV 0) (aC (aV 1) (aC (aV 2) a0))))) a0)))
def m_ways_many : List W → Tree PyData := fnF 3 3 b_ways_many
def b_way_at : DenS := (sC (sSet 4 (dCall m_chains_between (aC (aV 0) (aC (aV 1) (aC (aV 2) a0))))) (sC (sIf (tNot (tCh (fun i j => decide (i ≤ j)) (fun i j => decide (i < j)) (dC (.int 0)) (dV 3) (dCall m_mixed_many (aC (aV 4) a0)))) sNo s0) (sC (sOwn 5 (dL l0)) (sC (sSet 6 (dV 3)) (sC (sWh 100 (tTr (dV 4)) (sC (sSet 7 (d1 pMax (dLf (.nm 8) [8] (iS (dCall m_next_chairs (aC (aV 4) a0))) (t2 cLe (dCall m_lesser_many (aC (aV 4) (aC (aV 8) a0))) (dV 6)) (dV 8)))) (sC (sApp 5 (dV 7)) (sC (sAug 6 gSb (dCall m_lesser_many (aC (aV 4) (aC (aV 7) a0)))) (sSet 4 (dCall m_chains_after (aC (aV 4) (aC (aV 7) a0)))))))) (sFrz 5 (sRet (dV 5))))))))
def m_way_at : List W → Tree PyData := fnF 4 9 b_way_at
def b_way_number : DenS := (sC (sSet 4 (dCall m_chains_between (aC (aV 0) (aC (aV 1) (aC (aV 2) a0))))) (sC (sSet 5 (dC (.int 0))) (sC (sFor (.nm 6) (iS (dV 3)) (sC (sIf (t2 pNin (dV 6) (dCall m_next_chairs (aC (aV 4) a0))) sNo s0) (sC (sAug 5 gAdd (dCall m_lesser_many (aC (aV 4) (aC (aV 6) a0)))) (sSet 4 (dCall m_chains_after (aC (aV 4) (aC (aV 6) a0))))))) (sC (sIf (tTr (dV 4)) sNo s0) (sRet (dV 5))))))
def m_way_number : List W → Tree PyData := fnF 4 7 b_way_number
def b_law_same : DenS := (sRet (dSame (dV 0) (dV 1)))
def m_law_same : List W → Tree PyData := fnF 2 2 b_law_same
def b_law_crowd : DenS := (sC (sIf (t2 pEq (dCall takeF (aC (aV 0) (aC (aE (dC (.int 4))) a0))) (dC (.int 0))) (sC (sSet 3 (dCall takeF (aC (aV 0) (aC (aV 1) a0)))) (sRet (d1 pTup (d1 pSrt (dLc (.nm 4) [4] (iR1 (dV 2)) (d2 pMod (d2 pAdd (dV 3) (dV 4)) (dV 1))))))) s0) (sRet (d1 pTup (d1 pSrt (dSl (dCall strewnF (aC (aV 0) (aC (aE (d1 (fun d => lrg .list (rg1 d)) (dV 1))) a0))) oN (oS (dV 2)))))))
def m_law_crowd : List W → Tree PyData := fnF 3 5 b_law_crowd
abbrev az3 : Env → Tree (List W) := aC (aV 0) (aC (aV 1) (aC (aV 2) a0))
def z_fewest_steps (C : Addr) : DenZ := zIf (t2 pNe (d1 pLen (dV 1)) (d1 pLen (dV 2))) (zRaise C "many" (d1 pLen (dV 2))) zNo
def x_fewest_steps (C : Addr) : List W → Tree Thr := fnZ 3 5 (z_fewest_steps C)
def x_fewest_calls (C : Addr) : List W → Tree Thr := fnZ 3 4 (zCall (x_fewest_steps C) az3)
def x_chains_between (C : Addr) : List W → Tree Thr := fnZ 3 10 (zCall (x_fewest_steps C) az3)
def x_ways_many (C : Addr) : List W → Tree Thr := fnZ 3 3 (zCall (x_chains_between C) az3)
def x_way_at (C : Addr) : List W → Tree Thr := fnZ 4 9 (zCall (x_chains_between C) az3)
def y_way_at (C : Addr) : List W → Tree Thr := fnZ 4 9 (zNext (sSet 4 (dCall m_chains_between az3)) (zIf (tNot (tCh (fun i j => decide (i ≤ j)) (fun i j => decide (i < j)) (dC (.int 0)) (dV 3) (dCall m_mixed_many (aC (aV 4) a0)))) (zRaise C "number" (dV 3)) zNo))
def x_way_number (C : Addr) : List W → Tree Thr := fnZ 4 7 (zCall (x_chains_between C) az3)
def gWN : DenS := sC (sIf (t2 pNin (dV 6) (dCall m_next_chairs (aC (aV 4) a0))) sNo s0) (sC (sAug 5 gAdd (dCall m_lesser_many (aC (aV 4) (aC (aV 6) a0)))) (sSet 4 (dCall m_chains_after (aC (aV 4) (aC (aV 6) a0)))))
def rWN (E : Env) : Bool := match t2 pNin (dV 6) (dCall m_next_chairs (aC (aV 4) a0)) E with
  | .ret k => k
  | _ => false
def y_way_number (C : Addr) : List W → Tree Thr := fnZ 4 7 (zNext (sSet 4 (dCall m_chains_between az3)) (zNext (sSet 5 (dC (.int 0))) (zFor (.nm 6) (iS (dV 3)) gWN rWN (zIf (t2 pNin (dV 6) (dCall m_next_chairs (aC (aV 4) a0))) (zRaise C "way" (dV 3)) zNo))))
abbrev hgs : Env → Tree (List W) := aC (aV 3) (aC (aV 2) (aC (aV 1) a0))
abbrev has : Env → Tree (List W) := aC (aV 1) (aC (aV 2) (aC (aV 3) (aC (aV 4) a0)))
def zAlt (z1 z2 : DenZ) : DenZ := fun E => match z1 E with | .ret t => .ret t | _ => z2 E
def hN : DenS := sIf (t2 cLt (dV 0) (dC (.int 3))) (sSet 5 (dPick 0 3 [2, 1, 0] [m_fewest_calls, m_fewest_steps, m_ways_many] hgs)) (sIf (t2 pEq (dV 0) (dC (.int 3))) (sSet 5 (dCall m_way_at has)) (sSet 5 (dCall m_way_number has)))
def hZ (o nn nw : Addr) : DenZ := zIf (t2 cLt (dV 0) (dC (.int 3))) (zPick 0 3 [2, 1, 0] [x_fewest_calls o, x_fewest_steps o, x_ways_many o] hgs) (zIf (t2 pEq (dV 0) (dC (.int 3))) (zAlt (zCall (x_way_at o) has) (zCall (y_way_at nn) has)) (zAlt (zCall (x_way_number o) has) (zCall (y_way_number nw) has)))
def q1 (o nn nw T : Addr) : Addr → Option Bool := fun C => if C = o ∨ C = nn ∨ C = nw then some (decide (C = T)) else none
def qL (o nn nw : Addr) (Ts : List Addr) : Addr → Option Bool := fun C => if C = o ∨ C = nn ∨ C = nw then some (Ts.any fun T => decide (C = T)) else none
def qR (o : Addr) : Addr → Option Bool := fun C => if C = o then some true else none
def hB (o nn nw nc bl bs : Addr) : DenS := sC (sAsg (.tp [5, 6]) (dT (lC (dC .none) (lC (dC .none) l0)))) (sC (sTry 8 6 (hZ o nn nw) hN) (sC (sIf (tIsNx 6) (sRet (dV 5)) s0)
  (sC (sIf (tAnd (tTr (dIsX 6 (q1 o nn nw o))) (tTr (dIsX 6 (qR o)))) (sC (sSet 7 (d1 pNot (dIsX 6 (qL o nn nw [bl, bs, nc, nn, nw])))) (sRet (dIf (tTr (dV 7)) (dT (lC (dC (.str "other people")) (lC (dFldX 6 "many" [o]) l0))) (dC (.str "other"))))) s0)
  (sC (sIf (tAnd (tTr (dIsX 6 (q1 o nn nw nn))) (tNot (tTr (dIsX 6 (qL o nn nw [nc, nw]))))) (sRet (dT (lC (dC (.str "no number")) (lC (dFldX 6 "number" [nn]) l0)))) s0)
  (sRet (dIf (tTr (dIsX 6 (q1 o nn nw nw))) (dT (lC (dC (.str "not a way")) (lC (dFldX 6 "way" [nw]) l0))) (dC (.str "other"))))))))
def hK (s : Str) (t : Thr) : PyData := .tuple [.str s, t.d]
def mH (z : Tree Thr) (s : Str) (g : Tree PyData) : Tree PyData := match z with | .ret t => .ret (hK s t) | _ => g
def m_law_heard : List W → Tree PyData := fun ws => match ws with
  | [.d (.int w), .d n, .d a, .d b, .d m] =>
    if w = 0 then mH (x_fewest_calls 0 [.d n, .d a, .d b]) "other people" (m_fewest_calls [.d n, .d a, .d b])
    else if w = 1 then mH (x_fewest_steps 0 [.d n, .d a, .d b]) "other people" (m_fewest_steps [.d n, .d a, .d b])
    else if w = 2 then mH (x_ways_many 0 [.d n, .d a, .d b]) "other people" (m_ways_many [.d n, .d a, .d b])
    else if w = 3 then mH (x_way_at 0 [.d n, .d a, .d b, .d m]) "other people" (mH (y_way_at 0 [.d n, .d a, .d b, .d m]) "no number" (m_way_at [.d n, .d a, .d b, .d m]))
    else if w = 4 then mH (x_way_number 0 [.d n, .d a, .d b, .d m]) "other people" (mH (y_way_number 0 [.d n, .d a, .d b, .d m]) "not a way" (m_way_number [.d n, .d a, .d b, .d m]))
    else .fail
  | _ => .fail
def reC (C : Addr) (f : Str) (t : Tree Thr) : Tree Thr := t.bind fun x => .ret ⟨C, f, x.d⟩
theorem bind_ext' {α β : Type} {f g : α → Tree β} (h : ∀ a, f a = g a) (t : Tree α) : t.bind f = t.bind g := by rw [show f = g from funext h]
theorem re_raise (C : Addr) (f : Str) (fx : DenE) (E : Env) : zRaise C f fx E = reC C f (zRaise 0 f fx E) := by
  unfold zRaise reC
  rw [bind_assoc]
  rfl
theorem re_no (C : Addr) (f : Str) (E : Env) : zNo E = reC C f (zNo E) := rfl
theorem re_if {C : Addr} {fn : Str} {c : DenB} {z1 z2 w1 w2 : DenZ} (h1 : ∀ E, z1 E = reC C fn (w1 E)) (h2 : ∀ E, z2 E = reC C fn (w2 E)) (E : Env) : zIf c z1 z2 E = reC C fn (zIf c w1 w2 E) := by
  unfold zIf reC
  rw [bind_assoc]
  exact bind_ext' (fun k => by cases k; exact h2 E; exact h1 E) _
theorem re_call {C : Addr} {fn : Str} {F F0 : List W → Tree Thr} {gs : Env → Tree (List W)} (h : ∀ ws, F ws = reC C fn (F0 ws)) (E : Env) : zCall F gs E = reC C fn (zCall F0 gs E) := by
  unfold zCall reC
  rw [bind_assoc]
  exact bind_ext' h _
theorem re_next {C : Addr} {fn : Str} {g : DenS} {z w : DenZ} (h : ∀ E, z E = reC C fn (w E)) (E : Env) : zNext g z E = reC C fn (zNext g w E) := by
  unfold zNext reC
  rw [bind_assoc]
  exact bind_ext' (fun o => by cases o <;> first | exact h _ | rfl) _
theorem re_forT {C : Addr} {fn : Str} {t : Tgt} {g : DenS} {r : Env → Bool} {z w : DenZ} (h : ∀ E, z E = reC C fn (w E)) : ∀ (xs : List PyData) (E : Env), zForT t g r z xs E = reC C fn (zForT t g r w xs E)
  | [], E => rfl
  | x :: xs, E => by
    unfold zForT reC
    rw [bind_assoc]
    refine bind_ext' (fun E' => ?_) _
    cases r E' with
    | true => exact h E'
    | false =>
      dsimp only
      rw [bind_assoc]
      exact bind_ext' (fun o => by cases o <;> first | exact re_forT h xs _ | rfl) _
theorem re_for {C : Addr} {fn : Str} {t : Tgt} {it : DenL} {g : DenS} {r : Env → Bool} {z w : DenZ} (h : ∀ E, z E = reC C fn (w E)) (E : Env) : zFor t it g r z E = reC C fn (zFor t it g r w E) := by
  unfold zFor reC
  rw [bind_assoc]
  exact bind_ext' (fun xs => re_forT h xs E) _
theorem re_fn {C : Addr} {fn : Str} {a n : Nat} {z w : DenZ} (h : ∀ E, z E = reC C fn (w E)) (ws : List W) : fnZ a n z ws = reC C fn (fnZ a n w ws) := by
  unfold fnZ reC
  rw [bind_assoc]
  exact bind_ext' (fun _ => h _) _
theorem re_fs (C : Addr) (ws : List W) : x_fewest_steps C ws = reC C "many" (x_fewest_steps 0 ws) := re_fn (re_if (re_raise C _ _) (re_no C _)) ws
theorem re_fc (C : Addr) (ws : List W) : x_fewest_calls C ws = reC C "many" (x_fewest_calls 0 ws) := re_fn (re_call (re_fs C)) ws
theorem re_cb (C : Addr) (ws : List W) : x_chains_between C ws = reC C "many" (x_chains_between 0 ws) := re_fn (re_call (re_fs C)) ws
theorem re_wm (C : Addr) (ws : List W) : x_ways_many C ws = reC C "many" (x_ways_many 0 ws) := re_fn (re_call (re_cb C)) ws
theorem re_wa (C : Addr) (ws : List W) : x_way_at C ws = reC C "many" (x_way_at 0 ws) := re_fn (re_call (re_cb C)) ws
theorem re_wn (C : Addr) (ws : List W) : x_way_number C ws = reC C "many" (x_way_number 0 ws) := re_fn (re_call (re_cb C)) ws
theorem re_ya (C : Addr) (ws : List W) : y_way_at C ws = reC C "number" (y_way_at 0 ws) := re_fn (re_next (re_if (re_raise C _ _) (re_no C _))) ws
theorem re_yn (C : Addr) (ws : List W) : y_way_number C ws = reC C "way" (y_way_number 0 ws) := re_fn (re_next (re_next (re_for (re_if (re_raise C _ _) (re_no C _))))) ws
def b_law_pair_right : DenS := (sC (sPar [6, 7] (lC (d2 pAdd (d2 pPow (dC (.int 10)) (dC (.int 9))) (dCall takeF (aC (aV 0) (aC (aE (dC (.int 99))) a0)))) (lC (dLc (.nm 9) [9] (iR1 (dV 1)) (dCall takeF (aC (aV 0) (aC (aV 1) a0)))) l0))) (sC (sSet 4 (dLc (.nm 8) [8] (iR1 (dC (.int 3))) (dCall m_law_heard (aC (aV 8) (aC (aV 1) (aC (aV 2) (aC (aV 3) (aC (aE (dC .none)) a0)))))))) (sC (sSet 4 (d2 pAdd (dV 4) (dL (lC (dCall m_law_heard (aC (aE (dC (.int 3))) (aC (aV 1) (aC (aV 2) (aC (aV 3) (aC (aE (d2 pSub (dC (.int 0)) (dV 6))) a0)))))) (lC (dCall m_law_heard (aC (aE (dC (.int 3))) (aC (aV 1) (aC (aV 2) (aC (aV 3) (aC (aV 6) a0)))))) l0))))) (sC (sSet 4 (d2 pAdd (dV 4) (dL (lC (dCall m_law_heard (aC (aE (dC (.int 4))) (aC (aV 1) (aC (aV 2) (aC (aV 3) (aC (aV 7) a0)))))) (lC (dCall m_law_heard (aC (aE (dC (.int 4))) (aC (aV 1) (aC (aV 2) (aC (aV 3) (aC (aE (d1 pTup (dV 7))) a0)))))) l0))))) (sC (sIf (t2 pNe (d1 pLen (dV 2)) (d1 pLen (dV 3))) (sRet (dCall m_law_same (aC (aV 4) (aC (aE (d2 pMul (dL (lC (dT (lC (dC (.str "other people")) (lC (d1 pLen (dV 3)) l0))) l0)) (dC (.int 7)))) a0)))) s0) (sC (sSet 5 (dL (lC (dT (lC (dC (.str "no number")) (lC (d2 pSub (dC (.int 0)) (dV 6)) l0))) (lC (dT (lC (dC (.str "no number")) (lC (dV 6) l0))) (lC (dT (lC (dC (.str "not a way")) (lC (dV 7) l0))) (lC (dT (lC (dC (.str "not a way")) (lC (d1 pTup (dV 7)) l0))) l0)))))) (sRet (dAnd (dCall m_law_same (aC (aE (dSl (dV 4) (oS (dC (.int 3))) oN)) (aC (aV 5) a0))) (d2 (bD pEq) (d1 pLen (d2 pIx (dV 4) (dC (.int 1)))) (d1 pLen (dV 2)))))))))))
def m_law_pair_right : List W → Tree PyData := fnF 4 10 b_law_pair_right
def b_law_right : DenS := (sC (sFor (.nm 1) (iR1 (dC (.int 3))) (sC (sSet 2 (d2 pAdd (dC (.int 3)) (dCall takeF (aC (aV 0) (aC (aE (dC (.int 8))) a0))))) (sC (sSet 3 (d2 pAdd (dC (.int 1)) (dCall takeF (aC (aV 0) (aC (aE (d2 pSub (dV 2) (dC (.int 1)))) a0))))) (sC (sSet 4 (d2 pAdd (dC (.int 1)) (d2 pMod (d2 pAdd (dV 3) (dCall takeF (aC (aV 0) (aC (aE (d2 pSub (dV 2) (dC (.int 2)))) a0)))) (d2 pSub (dV 2) (dC (.int 1)))))) (sC (sAsg (.tp [6, 7]) (dT (lC (dCall m_law_crowd (aC (aV 0) (aC (aV 2) (aC (aV 3) a0)))) (lC (dCall m_law_crowd (aC (aV 0) (aC (aV 2) (aC (aV 4) a0)))) l0)))) (sC (sIf (tOr (tNot (tTr (dCall m_law_pair_right (aC (aV 0) (aC (aV 2) (aC (aV 6) (aC (aV 7) a0))))))) (tNot (tTr (dCall m_law_pair_right (aC (aV 0) (aC (aV 2) (aC (aV 7) (aC (aE (d1 pList (dV 6))) a0)))))))) (sRet (dC (.bool false))) s0) (sC (sIf (tNot (tTr (dCall m_law_pair_right (aC (aV 0) (aC (aV 2) (aC (aV 6) (aC (aE (dCall m_law_crowd (aC (aV 0) (aC (aV 2) (aC (aV 3) a0))))) a0))))))) (sRet (dC (.bool false))) s0) (sC (sSet 5 (dLc (.nm 8) [8] (iR1 (dC (.int 3))) (dCall m_law_heard (aC (aV 8) (aC (aV 2) (aC (aV 6) (aC (aV 6) (aC (aE (dC .none)) a0)))))))) (sC (sSet 5 (d2 pAdd (dV 5) (dL (lC (dCall m_law_heard (aC (aE (dC (.int 3))) (aC (aV 2) (aC (aV 6) (aC (aV 6) (aC (aE (dC (.int 0))) a0)))))) (lC (dCall m_law_heard (aC (aE (dC (.int 4))) (aC (aV 2) (aC (aV 6) (aC (aV 6) (aC (aE (dL l0)) a0)))))) l0))))) (sIf (tNot (tTr (dCall m_law_same (aC (aV 5) (aC (aE (dL (lC (dC (.int 0)) (lC (d2 pMul (dL (lC (dC (.int 0)) l0)) (dV 3)) (lC (dC (.int 1)) (lC (dL l0) (lC (dC (.int 0)) l0))))))) a0))))) (sRet (dC (.bool false))) s0)))))))))) (sRet (dC (.bool true))))
def m_law_right : List W → Tree PyData := fnF 1 9 b_law_right
theorem it_l (xs : List PyData) : items (.list xs) = some xs := rfl
theorem it_t (xs : List PyData) : items (.tuple xs) = some xs := rfl
theorem prs_iL (as bs : List Int) : prs (iL as) (iL bs) = (as.zip bs).map fun q => .tuple [.int q.1, .int q.2] := by
  unfold prs iL
  rw [List.zip_map, List.map_map]
  rfl
def cnt (n : Nat) : List Int := (List.range n).map fun (k : Nat) => (k : Int)
theorem nums_cnt (n : Nat) : nums n = iL (cnt n) := nums_eq n
theorem iL_len (ns : List Int) : (iL ns).length = ns.length := List.length_map ..
theorem cnt_len (n : Nat) : (cnt n).length = n := by simp [cnt]
theorem cnt_get {n i : Nat} (h : i < n) : (cnt n)[i]? = some (i : Int) := by simp [cnt, h]
theorem pEq_ii (i j : Int) : pEq (.int i) (.int j) = some (decide (i = j)) := rfl
theorem ret_bind {α β : Type} (a : α) (f : α → Tree β) : (Tree.ret a).bind f = f a := rfl
theorem lift_some {α : Type} (a : α) : liftO (some a) = .ret a := rfl
theorem map_ii {α : Type} (f : α → Int) (xs : List α) : xs.map (fun x => PyData.int (f x)) = iL (xs.map f) := by
  unfold iL
  rw [List.map_map]
  rfl
theorem mapT_I {f : PyData → Tree PyData} {g : Int → Int} {ns : List Int} (h : ∀ x ∈ ns, f (.int x) = .ret (.int (g x))) : mapT f (iL ns) = .ret (iL (ns.map g)) := by
  rw [← map_ii]
  exact (mapT_map f PyData.int ns).trans (mapT_ret (g := fun x => PyData.int (g x)) h)
theorem mapT_2 {f : PyData → Tree PyData} {g : Int × Int → Int} {as bs : List Int} (h : ∀ q ∈ as.zip bs, f (.tuple [.int q.1, .int q.2]) = .ret (.int (g q))) : mapT f (prs (iL as) (iL bs)) = .ret (iL ((as.zip bs).map g)) := by
  rw [prs_iL, mapT_map, mapT_ret (g := fun x => PyData.int (g x)) h, ← map_ii]
theorem dLs_len (ls : List (List Int)) : (dLs ls).length = ls.length := List.length_map ..
theorem cutD_1 (xs : List PyData) : cutD xs (some 1) none = xs.drop 1 := cutD_from xs 1
theorem atI_nat {α : Type} {xs : List α} {k : Nat} {x : α} (h : xs[k]? = some x) : atI xs (k : Int) = some x := by
  have hk := (List.getElem?_eq_some_iff.mp h).1
  unfold atI
  rw [ixN_nat hk]
  exact h
theorem pIx_of {d x : PyData} {xs : List PyData} {k : Nat} (hd : items d = some xs) (h : xs[k]? = some x) : pIx d (.int (k : Int)) = some x := by
  unfold pIx
  rw [hd]
  exact atI_nat h
theorem pIx_I {d x : PyData} {xs : List PyData} {i : Int} (hd : items d = some xs) (h0 : 0 ≤ i) (h : xs[i.toNat]? = some x) : pIx d (.int i) = some x := by
  have := pIx_of (k := i.toNat) hd h
  rw [Int.toNat_of_nonneg h0] at this
  exact this
theorem rg1_nat {k : Nat} (h : k ≤ 100000) : rg1 (.int (k : Int)) = some (nums k) := by
  show (if -100000 ≤ (k : Int) ∧ (k : Int) ≤ 100000 then some (nums (k : Int).toNat) else none) = _
  rw [if_pos ⟨by omega, by omega⟩]
  rfl
theorem nums_len (n : Nat) : (nums n).length = n := by simp [nums]
def Mv (M : List (List Int)) (d : PyData) : Prop := ∃ rs, items d = some rs ∧ rs.length = M.length ∧ ∀ (i : Nat) row, M[i]? = some row → ∃ r, rs[i]? = some r ∧ items r = some (iL row)
structure MOk (n k : Nat) (M : List (List Int)) : Prop where
  len : M.length = n
  row : ∀ (i : Nat) (r : List Int), M[i]? = some r → r.length = k
theorem Mv.ix {n k : Nat} {M : List (List Int)} {d : PyData} {c : Int} {j : Nat} (h : Mv M d) (ok : MOk n k M) (c0 : 0 ≤ c) (c1 : c < n) (hj : j < k) : ∃ r, pIx d (.int c) = some r ∧ pIx r (.int (j : Int)) = some (.int (cell M c j)) := by
  obtain ⟨rs, h1, h2, h3⟩ := h
  have hc : c.toNat < M.length := by rw [ok.len]; omega
  obtain ⟨r, h4, h5⟩ := h3 c.toNat _ (List.getElem?_eq_getElem hc)
  refine ⟨r, pIx_I h1 c0 h4, pIx_of h5 ?_⟩
  have hl := ok.row c.toNat _ (List.getElem?_eq_getElem hc)
  have ec : M.getD c.toNat [] = M[c.toNat] := by rw [List.getD_eq_getElem?_getD, List.getElem?_eq_getElem hc, Option.getD_some]
  unfold cell
  rw [ec, List.getD_eq_getElem?_getD]
  have hj' : j < M[c.toNat].length := by rw [hl]; exact hj
  unfold iL
  rw [List.getElem?_map, List.getElem?_eq_getElem hj', Option.getD_some]
  rfl
theorem maxI_mx (i : Int) (is : List Int) : maxI i is = mx (i :: is) := mx_eq (maxI_mem is i) fun y hy => maxI_ge is i y hy
theorem pMax_of {l : List Int} (h : l ≠ []) : pMax (.list (iL l)) = some (.int (mx l)) := by
  unfold pMax onI
  dsimp only
  rw [asI_iL]
  cases l with
  | nil => exact absurd rfl h
  | cons i is => exact congrArg some (congrArg PyData.int (maxI_mx i is))
theorem pSrt_of (l : List Int) : pSrt (.list (iL l)) = some (.list (iL (srt l))) := by
  unfold pSrt onI
  dsimp only
  rw [asI_iL, ← isrt_eq]
theorem all_bindE {α β : Type} (t : Tree α) (f : α → Tree β) (Q : β → Prop) : (t.bind f).All Q = t.All fun a => (f a).All Q := propext all_bind
theorem all_retE {α : Type} (a : α) (Q : α → Prop) : (Tree.ret a).All Q = Q a := rfl
theorem all_take {n : Int} {Q : PyData → Prop} (n0 : 0 < n) (n1 : n < 4611686018427387904) (h : ∀ r : Int, 0 ≤ r → r < n → Q (.int r)) : (takeF [.bx, .d (.int n)]).All Q := by
  show (if 0 < n ∧ n < 4611686018427387904 then Tree.draw n.toNat fun r => Tree.ret (PyData.int (r : Int)) else .fail).All Q
  rw [if_pos ⟨n0, n1⟩]
  exact fun r hr => h (r : Int) (by omega) (by omega)
theorem all_mapT {α β : Type} {f : α → Tree β} {P : β → Prop} : ∀ {xs : List α}, (∀ x ∈ xs, (f x).All P) → ∀ {Q : List β → Prop}, (∀ ys, ys.length = xs.length → (∀ y ∈ ys, P y) → Q ys) → (mapT f xs).All Q
  | [], _, Q, k => k [] rfl (fun y hy => nomatch hy)
  | x :: xs, h, Q, k => by
    rw [mapT, all_bindE]
    refine (h x (List.mem_cons_self ..)).imp fun y hy => ?_
    rw [all_bindE]
    refine all_mapT (P := P) (fun x hx => h x (List.mem_cons_of_mem _ hx)) fun ys hl hP => k (y :: ys) (by simp [hl]) fun z hz => ?_
    rcases List.mem_cons.mp hz with rfl | hz
    · exact hy
    · exact hP z hz
theorem all_forT {t : Tgt} {body : DenS} {Q : Out → Prop} : ∀ {xs : List PyData} {E : Env} (I : Nat → Env → Prop), I 0 E → (∀ (i : Nat) x E, xs[i]? = some x → I i E → ∃ E', putE t x E = some E' ∧ (body E').All fun o => match o with | .nx E2 => I (i + 1) E2 | .ct E2 => I (i + 1) E2 | .bk E2 => Q (.nx E2) | .rt v => Q (.rt v)) → (∀ E, I xs.length E → Q (.nx E)) → (forT t body xs E).All Q
  | [], E, I, h0, _, hd => hd E h0
  | x :: xs, E, I, h0, hs, hd => by
    obtain ⟨E', e, hb⟩ := hs 0 x E rfl h0
    rw [forT, e, lift_some, ret_bind, all_bindE]
    refine hb.imp fun o ho => ?_
    cases o with
    | nx E2 => exact all_forT (fun i => I (i + 1)) ho (fun i y E hy hi => hs (i + 1) y E (by simpa using hy) hi) fun E h => hd E (by simpa using h)
    | ct E2 => exact all_forT (fun i => I (i + 1)) ho (fun i y E hy hi => hs (i + 1) y E (by simpa using hy) hi) fun E h => hd E (by simpa using h)
    | bk E2 => exact ho
    | rt v => exact ho
theorem iL_take (ns : List Int) (k : Nat) : (iL ns).take k = iL (ns.take k) := List.map_take.symm
theorem tbl_round {n k : Nat} {b : Int} (n0 : 0 < n) (hk : k ≤ n) : Tbl n (srt ((cnt k).map fun j => (b + j) % n)) ∧ (srt ((cnt k).map fun j => (b + j) % n)).length = k := by
  refine ⟨tbl_srt ?_ fun x hx => ?_, by rw [srt_len, List.length_map, cnt_len]⟩
  · unfold cnt
    rw [List.map_map, List.Nodup, List.pairwise_map]
    refine List.Pairwise.imp_of_mem (R := fun a b => a < b) (fun {x y} hx hy hxy e => ?_) List.pairwise_lt_range
    have h1 := List.mem_range.mp hx
    have h2 := List.mem_range.mp hy
    simp only [Function.comp] at e
    have e2 := Int.emod_emod_of_dvd (b + (y : Int)) (Int.dvd_refl (n : Int))
    have h3 : ((b + (y : Int)) - (b + (x : Int))) % (n : Int) = 0 := by
      rw [Int.sub_emod, e]
      simp
    have h4 : ((b + (y : Int)) - (b + (x : Int))) = ((y - x : Nat) : Int) := by omega
    rw [h4] at h3
    have h5 : (y - x) % n = 0 := by exact_mod_cast h3
    rw [Nat.mod_eq_of_lt (by omega)] at h5
    omega
  · obtain ⟨j, _, rfl⟩ := List.mem_map.mp hx
    exact ⟨Int.emod_nonneg _ (by omega), Int.emod_lt_of_pos _ (by omega)⟩
theorem tbl_strewn {n k : Nat} {ms : List Int} (hk : k ≤ n) (hp : ms.Perm (cnt n)) : Tbl n (srt (ms.take k)) ∧ (srt (ms.take k)).length = k := by
  have hl := hp.length_eq
  rw [cnt_len] at hl
  have hm : ∀ x ∈ cnt n, 0 ≤ x ∧ x < (n : Int) := fun x hx => by
    obtain ⟨j, hj, rfl⟩ := List.mem_map.mp hx
    have := List.mem_range.mp hj
    omega
  have hd : (cnt n).Nodup := by
    unfold cnt
    rw [List.Nodup, List.pairwise_map]
    exact List.Pairwise.imp (fun {a b} h e => by omega) List.pairwise_lt_range
  refine ⟨tbl_srt ((hp.nodup_iff.mpr hd).sublist (List.take_sublist _ _)) fun x hx => hm x (hp.mem_iff.mp (List.mem_of_mem_take hx)), ?_⟩
  rw [srt_len, List.length_take]
  omega
theorem all_law_crowd {n k : Nat} {Q : PyData → Prop} (n0 : 1 ≤ n) (n1 : n ≤ 1000) (hk : k ≤ n) (h : ∀ ns : List Int, Tbl n ns → ns.length = k → Q (.tuple (iL ns))) : (m_law_crowd [.bx, .d (.int (n : Int)), .d (.int (k : Int))]).All Q := by
  have n0' : (0 : Int) < n := by omega
  simp only [m_law_crowd, b_law_crowd, Nat.reduceSub, Nat.reduceAdd, reduceIte, Tree.bind, liftO, dIdx, sAsgL, sPar4, dV, dC, d1, d2, t1, t2, l0, lC, dL, dT, aV, aE, a0, aC, dCall, dCallK, dIf, tTr, tV, truth, asB, tNot, tAnd, tOr, dAnd, dOr, sSet, sAsg, sPar, sRet, s0, sC, sIf, sX, sOwn, sApp, sFrz, frzE, sFor, outV, fnF, lenIs, ent, small, few, putE, putsE, wipeE, it_l, it_t, iS, iR1, iR2, wEn, wZ2, wZ3, dLc, dLf, dSl, oN, oS, pCut, pSub, cI, bD, pIx, pList, pTup, pLen, pNot, qIsN, qNotN, pIsN, pNotN, List.getElem?_cons_succ, List.getElem?_cons_zero, List.set_cons_succ, List.set_cons_zero, List.length_cons, List.length_nil, List.map_cons, List.map_nil, List.foldr_cons, List.foldr_nil, List.replicate_succ, List.replicate_zero, List.cons_append, List.nil_append, sOPar, sOOPar, dOIx, sNest, sCallP, dOLen, fnP, pC, pFrz, dPr, nApp, nIf, nEnd, sN0, sN1, lendE, frzW, sSetK, dGet, dZipD, dPairD, pMax2, sDD, sND, tNeN, sLock, lockE, odcE, tdE, dttE, tC, tLock, tRet, dGetO, dIdxO, tNinD, sPutO, tDen, sUpd, sCpT, iDtt, dSrtD, sParDt, sParDt3, tCall2, fnT, sNewD, isNd, all_bindE]
  refine all_take (by omega) (by omega) fun r r0 r1 => ?_
  rw [pEq_ii]
  by_cases hr : r = 0
  · simp only [hr, decide_true, all_bindE, all_retE]
    refine all_take (by omega) (by omega) fun b b0 b1 => ?_
    simp only [Nat.reduceSub, Nat.reduceAdd, reduceIte, Tree.bind, liftO, dIdx, sAsgL, sPar4, dV, dC, d1, d2, t1, t2, l0, lC, dL, dT, aV, aE, a0, aC, dCall, dCallK, dIf, tTr, tV, truth, asB, tNot, tAnd, tOr, dAnd, dOr, sSet, sAsg, sPar, sRet, s0, sC, sIf, sX, sOwn, sApp, sFrz, frzE, sFor, outV, fnF, lenIs, ent, small, few, putE, putsE, wipeE, it_l, it_t, iS, iR1, iR2, wEn, wZ2, wZ3, dLc, dLf, dSl, oN, oS, pCut, pSub, cI, bD, pIx, pList, pTup, pLen, pNot, qIsN, qNotN, pIsN, pNotN, List.getElem?_cons_succ, List.getElem?_cons_zero, List.set_cons_succ, List.set_cons_zero, List.length_cons, List.length_nil, List.map_cons, List.map_nil, List.foldr_cons, List.foldr_nil, List.replicate_succ, List.replicate_zero, List.cons_append, List.nil_append, sOPar, sOOPar, dOIx, sNest, sCallP, dOLen, fnP, pC, pFrz, dPr, nApp, nIf, nEnd, sN0, sN1, lendE, frzW, sSetK, dGet, dZipD, dPairD, pMax2, sDD, sND, tNeN, sLock, lockE, odcE, tdE, dttE, tC, tLock, tRet, dGetO, dIdxO, tNinD, sPutO, tDen, sUpd, sCpT, iDtt, dSrtD, sParDt, sParDt3, tCall2, fnT, sNewD, isNd, all_bindE, all_retE, rg1_nat (show k ≤ 100000 by omega), nums_len, if_pos (show k ≤ 50000 by omega)]
    rw [nums_cnt, mapT_I (g := fun j => (b + j) % n) fun x hx => by simp only [Nat.reduceSub, Nat.reduceAdd, reduceIte, Tree.bind, liftO, dIdx, sAsgL, sPar4, dV, dC, d1, d2, t1, t2, l0, lC, dL, dT, aV, aE, a0, aC, dCall, dCallK, dIf, tTr, tV, truth, asB, tNot, tAnd, tOr, dAnd, dOr, sSet, sAsg, sPar, sRet, s0, sC, sIf, sX, sOwn, sApp, sFrz, frzE, sFor, outV, fnF, lenIs, ent, small, few, putE, putsE, wipeE, it_l, it_t, iS, iR1, iR2, wEn, wZ2, wZ3, dLc, dLf, dSl, oN, oS, pCut, pSub, cI, bD, pIx, pList, pTup, pLen, pNot, qIsN, qNotN, pIsN, pNotN, List.getElem?_cons_succ, List.getElem?_cons_zero, List.set_cons_succ, List.set_cons_zero, List.length_cons, List.length_nil, List.map_cons, List.map_nil, List.foldr_cons, List.foldr_nil, List.replicate_succ, List.replicate_zero, List.cons_append, List.nil_append, sOPar, sOOPar, dOIx, sNest, sCallP, dOLen, fnP, pC, pFrz, dPr, nApp, nIf, nEnd, sN0, sN1, lendE, frzW, sSetK, dGet, dZipD, dPairD, pMax2, sDD, sND, tNeN, sLock, lockE, odcE, tdE, dttE, tC, tLock, tRet, dGetO, dIdxO, tNinD, sPutO, tDen, sUpd, sCpT, iDtt, dSrtD, sParDt, sParDt3, tCall2, fnT, sNewD, isNd, pMod, pAdd, if_pos n0']]
    simp only [Nat.reduceSub, Nat.reduceAdd, reduceIte, Tree.bind, liftO, dIdx, sAsgL, sPar4, dV, dC, d1, d2, t1, t2, l0, lC, dL, dT, aV, aE, a0, aC, dCall, dCallK, dIf, tTr, tV, truth, asB, tNot, tAnd, tOr, dAnd, dOr, sSet, sAsg, sPar, sRet, s0, sC, sIf, sX, sOwn, sApp, sFrz, frzE, sFor, outV, fnF, lenIs, ent, small, few, putE, putsE, wipeE, it_l, it_t, iS, iR1, iR2, wEn, wZ2, wZ3, dLc, dLf, dSl, oN, oS, pCut, pSub, cI, bD, pIx, pList, pTup, pLen, pNot, qIsN, qNotN, pIsN, pNotN, List.getElem?_cons_succ, List.getElem?_cons_zero, List.set_cons_succ, List.set_cons_zero, List.length_cons, List.length_nil, List.map_cons, List.map_nil, List.foldr_cons, List.foldr_nil, List.replicate_succ, List.replicate_zero, List.cons_append, List.nil_append, sOPar, sOOPar, dOIx, sNest, sCallP, dOLen, fnP, pC, pFrz, dPr, nApp, nIf, nEnd, sN0, sN1, lendE, frzW, sSetK, dGet, dZipD, dPairD, pMax2, sDD, sND, tNeN, sLock, lockE, odcE, tdE, dttE, tC, tLock, tRet, dGetO, dIdxO, tNinD, sPutO, tDen, sUpd, sCpT, iDtt, dSrtD, sParDt, sParDt3, tCall2, fnT, sNewD, isNd, all_bindE, all_retE, pSrt_of]
    obtain ⟨t1, t2⟩ := tbl_round (b := b) (show 0 < n by omega) hk
    exact h _ t1 t2
  · simp only [hr, decide_false, all_bindE, all_retE, Tree.bind, liftO, dIdx, sAsgL, sPar4, dV, dC, d1, d2, t1, t2, l0, lC, dL, dT, aV, aE, a0, aC, dCall, dCallK, dIf, tTr, tV, truth, asB, tNot, tAnd, tOr, dAnd, dOr, sSet, sAsg, sPar, sRet, s0, sC, sIf, sX, sOwn, sApp, sFrz, frzE, sFor, outV, fnF, lenIs, ent, small, few, putE, putsE, wipeE, it_l, it_t, iS, iR1, iR2, wEn, wZ2, wZ3, dLc, dLf, dSl, oN, oS, pCut, pSub, cI, bD, pIx, pList, pTup, pLen, pNot, qIsN, qNotN, pIsN, pNotN, List.getElem?_cons_succ, List.getElem?_cons_zero, List.set_cons_succ, List.set_cons_zero, List.length_cons, List.length_nil, List.map_cons, List.map_nil, List.foldr_cons, List.foldr_nil, List.replicate_succ, List.replicate_zero, List.cons_append, List.nil_append, sOPar, sOOPar, dOIx, sNest, sCallP, dOLen, fnP, pC, pFrz, dPr, nApp, nIf, nEnd, sN0, sN1, lendE, frzW, sSetK, dGet, dZipD, dPairD, pMax2, sDD, sND, tNeN, sLock, lockE, odcE, tdE, dttE, tC, tLock, tRet, dGetO, dIdxO, tNinD, sPutO, tDen, sUpd, sCpT, iDtt, dSrtD, sParDt, sParDt3, tCall2, fnT, sNewD, isNd, lrg, rg1_nat (show n ≤ 100000 by omega), strewnF, nums_len, if_pos (show n ≤ 1000 by omega)]
    refine strewn_all n (nums n) (nums_len n) fun es hp => ?_
    rw [nums_cnt] at hp
    obtain ⟨ms, rfl, hp2⟩ := perm_ints hp
    rw [cutD_to, iL_take]
    simp only [Tree.bind, liftO, dIdx, sAsgL, sPar4, dV, dC, d1, d2, t1, t2, l0, lC, dL, dT, aV, aE, a0, aC, dCall, dCallK, dIf, tTr, tV, truth, asB, tNot, tAnd, tOr, dAnd, dOr, sSet, sAsg, sPar, sRet, s0, sC, sIf, sX, sOwn, sApp, sFrz, frzE, sFor, outV, fnF, lenIs, ent, small, few, putE, putsE, wipeE, it_l, it_t, iS, iR1, iR2, wEn, wZ2, wZ3, dLc, dLf, dSl, oN, oS, pCut, pSub, cI, bD, pIx, pList, pTup, pLen, pNot, qIsN, qNotN, pIsN, pNotN, List.getElem?_cons_succ, List.getElem?_cons_zero, List.set_cons_succ, List.set_cons_zero, List.length_cons, List.length_nil, List.map_cons, List.map_nil, List.foldr_cons, List.foldr_nil, List.replicate_succ, List.replicate_zero, List.cons_append, List.nil_append, sOPar, sOOPar, dOIx, sNest, sCallP, dOLen, fnP, pC, pFrz, dPr, nApp, nIf, nEnd, sN0, sN1, lendE, frzW, sSetK, dGet, dZipD, dPairD, pMax2, sDD, sND, tNeN, sLock, lockE, odcE, tdE, dttE, tC, tLock, tRet, dGetO, dIdxO, tNinD, sPutO, tDen, sUpd, sCpT, iDtt, dSrtD, sParDt, sParDt3, tCall2, fnT, sNewD, isNd, pSrt_of, all_bindE, all_retE]
    obtain ⟨t1, t2⟩ := tbl_strewn hk hp2
    exact h _ t1 t2
theorem pAdd_ii (i j : Int) : pAdd (.int i) (.int j) = some (.int (i + j)) := rfl
theorem iL_drop (ns : List Int) (k : Nat) : (iL ns).drop k = iL (ns.drop k) := List.map_drop.symm
theorem prs_len (xs ys : List PyData) : (prs xs ys).length = min xs.length ys.length := by simp [prs]
theorem pMod_of {i n : Int} (n0 : 0 < n) : pMod (.int i) (.int n) = some (.int (i % n)) := by
  show (if 0 < n then some (PyData.int (i % n)) else none) = _
  rw [if_pos n0]
theorem ok_iL : ∀ {ns : List Int}, (∀ x ∈ ns, x.natAbs < 10 ^ 60) → okRs (iL ns) = true
  | [], _ => by simp [okRs]
  | i :: ns, h => by
    show okRs (.int i :: iL ns) = true
    simp only [okRs, okR, decide_eq_true (h i (List.mem_cons_self ..)), ok_iL fun x hx => h x (List.mem_cons_of_mem _ hx), Bool.and_self]
theorem wd_iL : ∀ ns : List Int, wdRs (iL ns) = 63 * ns.length
  | [] => by simp [wdRs]
  | i :: ns => by
    show wdRs (.int i :: iL ns) = _
    simp only [wdRs, wdR, wd_iL ns, List.length_cons]
    omega
theorem dp_iL : ∀ ns : List Int, dpRs (iL ns) = 0
  | [] => by simp [dpRs]
  | i :: ns => by
    show dpRs (.int i :: iL ns) = _
    simp only [dpRs, dpR, dp_iL ns, Nat.max_self]
structure Sh (n k : Nat) (M : List (List Int)) : Prop where
  ok : MOk n k M
  bd : ∀ r ∈ M, ∀ x ∈ r, x.natAbs < 10 ^ 60
theorem Sh.row {n k : Nat} {M : List (List Int)} (h : Sh n k M) : ∀ r ∈ M, r.length = k := fun r hr => by
  obtain ⟨i, hi⟩ := List.getElem?_of_mem hr
  exact h.ok.row i r hi
theorem shwB_mk {d : PyData} (h1 : isLT d = true) (h2 : okR d = true) (h3 : dpR d ≤ 60) (h4 : wdR d ≤ 16777216) : shwB d = true := by
  unfold shwB
  rw [h1, h2, decide_eq_true h3, decide_eq_true h4]
  rfl
theorem ev_law_same {a b : PyData} (h : shwB a = true) (e : a = b) : m_law_same [.d a, .d b] = .ret (.bool true) := by
  subst e
  have ho : okR a = true := by
    unfold shwB at h
    exact (Bool.and_eq_true_iff.mp (Bool.and_eq_true_iff.mp (Bool.and_eq_true_iff.mp h).1).1).2
  simp only [m_law_same, b_law_same, Nat.reduceSub, Nat.reduceAdd, reduceIte, Tree.bind, liftO, dIdx, sAsgL, sPar4, dV, dC, d1, d2, t1, t2, l0, lC, dL, dT, aV, aE, a0, aC, dCall, dCallK, dIf, tTr, tV, truth, asB, tNot, tAnd, tOr, dAnd, dOr, sSet, sAsg, sPar, sRet, s0, sC, sIf, sX, sOwn, sApp, sFrz, frzE, sFor, outV, fnF, lenIs, ent, small, few, putE, putsE, wipeE, it_l, it_t, iS, iR1, iR2, wEn, wZ2, wZ3, dLc, dLf, dSl, oN, oS, pCut, pSub, cI, bD, pIx, pList, pTup, pLen, pNot, qIsN, qNotN, pIsN, pNotN, List.getElem?_cons_succ, List.getElem?_cons_zero, List.set_cons_succ, List.set_cons_zero, List.length_cons, List.length_nil, List.map_cons, List.map_nil, List.foldr_cons, List.foldr_nil, List.replicate_succ, List.replicate_zero, List.cons_append, List.nil_append, sOPar, sOOPar, dOIx, sNest, sCallP, dOLen, fnP, pC, pFrz, dPr, nApp, nIf, nEnd, sN0, sN1, lendE, frzW, sSetK, dGet, dZipD, dPairD, pMax2, sDD, sND, tNeN, sLock, lockE, odcE, tdE, dttE, tC, tLock, tRet, dGetO, dIdxO, tNinD, sPutO, tDen, sUpd, sCpT, iDtt, dSrtD, sParDt, sParDt3, tCall2, fnT, sNewD, isNd, dSame, okS, if_pos h, pSame, eqP_refl ho]
theorem pMul_ii {i j : Int} (h : CMul i j) : pMul (.int i) (.int j) = some (.int (i * j)) := by
  show (if CMul i j then some (PyData.int (i * j)) else none) = _
  rw [if_pos h]
theorem at_last {α : Type} {xs : List α} {k : Nat} {x : α} (hl : xs.length = k + 1) (h : xs[k]? = some x) : atI xs (-1) = some x := by
  unfold atI
  rw [hl, show ixN (k + 1) (-1) = some k from by
    unfold ixN
    rw [if_neg (by omega), if_pos (by omega)]
    congr 1
    omega]
  exact h
theorem pNe_I (i : Int) : pNe (.int i) (.int i) = some false := by
  show some (!decide (i = i)) = _
  simp
theorem pSum_of (l : List Int) : pSum (.list (iL l)) = some (.int l.sum) := by
  unfold pSum onI
  simp only [asI_iL]
  rw [sumI_eq]
theorem iL_atI {r : List Int} {b : Nat} {v : Int} (h : r[b]? = some v) : atI (iL r) (b : Int) = some (.int v) := atI_nat (by unfold iL; rw [List.getElem?_map, h]; rfl)
theorem xOf_at {n : Nat} {ss : List Int} (hne : ss ≠ []) {m : Nat} {c : Int} (h : ss[m]? = some c) : xOf n ss (m : Int) = c := by
  have hm := (List.getElem?_eq_some_iff.mp h).1
  have g := rowOf_get (x := xOf n ss) (σ := fun a => (a : Int)) hm
  rw [row_xOf hne, h] at g
  exact (Option.some.inj g).symm
structure Aim (n k : Int) (x y : Int → Int) : Prop where
  sx : Sqn n k x
  sy : Sqn n k y
  le : ∀ i, y i ≤ x i
  lt : ∀ i, x i - n < y i
def zOf (k : Int) (x y : Int → Int) (m : Int → Bool) : Int → Int := fun i => if m (i % k) = true then y i else x i
def addM (m : Int → Bool) (p : Int) : Int → Bool := fun i => if i = p then true else m i
theorem cal_aim {n k : Int} {x y : Int → Int} (A : Aim n k x y) (n0 : 0 < n) {c : Int} {i q : Int} (hc : c % n = y i % n) : cal n c (x (i + k * q)) = y (i + k * q) := by
  have hx := A.sx.pm i q
  have hy := A.sy.pm i q
  have h1 := A.le (i + k * q)
  have h2 := A.lt (i + k * q)
  unfold cal
  have e : (x (i + k * q) - c) % n = x (i + k * q) - y (i + k * q) := by
    have e1 : (x (i + k * q) - c) % n = (x (i + k * q) - y (i + k * q)) % n := by
      rw [Int.sub_emod, hc, ← Int.sub_emod, Int.sub_emod (x (i + k * q)) (y (i + k * q)), hy, Int.add_mul_emod_self_left, ← Int.sub_emod]
    rw [e1]
    exact Int.emod_eq_of_lt (by omega) (by omega)
  omega
theorem call_one {n k : Int} {x y : Int → Int} (A : Aim n k x y) (n0 : 0 < n) (k0 : 1 ≤ k) {m : Int → Bool} (sz : Sqn n k (zOf k x y m)) {i c : Int} (hm : m (i % k) = false) (hp : zOf k x y m (i - 1) < y i) (hc : c % n = y i % n) : fCall n c (zOf k x y m) = zOf k x y (addM m (i % k)) := by
  funext j
  by_cases hj : j % k = i % k
  · obtain ⟨q, rfl⟩ : ∃ q, j = i + k * q := ⟨(j - i) / k, by
      have h0 : (j - i) % k = 0 := by rw [Int.sub_emod, hj, Int.sub_self, Int.zero_emod]
      have := Int.emod_add_mul_ediv (j - i) k
      omega⟩
    have hz : zOf k x y m (i + k * q) = x (i + k * q) := by
      unfold zOf
      rw [hj, hm]
      simp
    have hz1 : zOf k x y m (i + k * q - 1) = zOf k x y m (i - 1) + n * q := by
      have := sz.pm (i - 1) q
      rw [show i - 1 + k * q = i + k * q - 1 by omega] at this
      exact this
    have hy := A.sy.pm i q
    unfold fCall
    rw [hz, cal_aim A n0 hc, if_pos (by rw [hz1, hy]; omega)]
    unfold zOf addM
    rw [hj]
    simp
  · have hr : zOf k x y (addM m (i % k)) j = zOf k x y m j := by
      unfold zOf addM
      rw [if_neg hj]
    rw [hr]
    unfold fCall
    rw [if_neg]
    intro hlt
    obtain ⟨q, hv⟩ : ∃ q, cal n c (zOf k x y m j) = y i + n * q := by
      obtain ⟨u, hu⟩ := cal_mod (n := n) (c := c) (y := zOf k x y m j)
      refine ⟨u + (c - y i) / n, ?_⟩
      have h0 : (c - y i) % n = 0 := by rw [Int.sub_emod, hc, Int.sub_self, Int.zero_emod]
      have := Int.emod_add_mul_ediv (c - y i) n
      rw [hu, Int.mul_add]
      omega
    have hle := (cal_le (n := n) (c := c) (y := zOf k x y m j) n0).1
    have hz : zOf k x y m (i + k * q) = x (i + k * q) := by
      unfold zOf
      rw [Int.add_mul_emod_self_left, hm]
      simp
    have hz1 : zOf k x y m (i + k * q - 1) = zOf k x y m (i - 1) + n * q := by
      have := sz.pm (i - 1) q
      rw [show i - 1 + k * q = i + k * q - 1 by omega] at this
      exact this
    have hy := A.sy.pm i q
    have hA := A.le (i + k * q)
    rcases Int.lt_trichotomy j (i + k * q) with h | h | h
    · have := sz.le (i := j) (j := i + k * q - 1) (by omega)
      omega
    · apply hj
      rw [h, Int.add_mul_emod_self_left]
    · have := sz.le (i := i + k * q) (j := j - 1) (by omega)
      omega
def Good (k : Int) (x y : Int → Int) : (Int → Bool) → List Int → Prop
  | _, [] => True
  | m, i :: is => m (i % k) = false ∧ zOf k x y m (i - 1) < y i ∧ Good k x y (addM m (i % k)) is
def goneM (k : Int) : (Int → Bool) → List Int → (Int → Bool)
  | m, [] => m
  | m, i :: is => goneM k (addM m (i % k)) is
theorem good_calls {n k : Int} {x y : Int → Int} (A : Aim n k x y) (n0 : 0 < n) (k0 : 1 ≤ k) : ∀ (is : List Int) {m : Int → Bool}, Sqn n k (zOf k x y m) → Good k x y m is → fCalls n (is.map fun i => y i % n) (zOf k x y m) = zOf k x y (goneM k m is)
  | [], m, _, _ => rfl
  | i :: is, m, sz, ⟨h1, h2, h3⟩ => by
    have e := call_one A n0 k0 sz h1 h2 (c := y i % n) (Int.emod_emod_of_dvd _ (Int.dvd_refl n))
    have sz' : Sqn n k (zOf k x y (addM m (i % k))) := by
      rw [← e]
      exact sz.call n0 _
    show fCalls n (is.map fun i => y i % n) (fCall n (y i % n) (zOf k x y m)) = _
    rw [e]
    exact good_calls A n0 k0 is sz' h3
theorem zOf_none {k : Int} {x y : Int → Int} : zOf k x y (fun _ => false) = x := by
  funext i
  unfold zOf
  simp
theorem pDiv_of {i n : Int} (n0 : 0 < n) (n1 : n < 1073741824) : pDiv (.int i) (.int n) = some (.int (i / n)) := if_pos ⟨n0, n1⟩
theorem pMulI {i j : Int} (h : -(2 ^ 64) < j ∧ j < 2 ^ 64) : pMul (.int i) (.int j) = some (.int (i * j)) := pMul_ii (.inr h)
theorem ev_spot {n : Nat} {e : PyData} {b : List Int} {i : Int} (he : items e = some (iL b)) (hne : b ≠ []) (n1 : n ≤ 1000) (hbl : b.length ≤ 1000) : m_spot [.d (.int (n : Int)), .d e, .d (.int i)] = .ret (.int (xOf n b i)) := by
  have k0 : 0 < b.length := List.length_pos_iff.mpr hne
  have h0 := Int.emod_nonneg i (show (b.length : Int) ≠ 0 by omega)
  have h1 := Int.emod_lt_of_pos i (show (0 : Int) < (b.length : Int) by omega)
  have hix : atI (iL b) (i % (b.length : Int)) = some (.int (b.getD (i % (b.length : Int)).toNat 0)) := by
    obtain ⟨j, hj⟩ : ∃ j : Nat, (j : Int) = i % (b.length : Int) := ⟨(i % (b.length : Int)).toNat, by omega⟩
    rw [← hj, Int.toNat_natCast]
    refine iL_atI ?_
    rw [List.getD_eq_getElem?_getD, List.getElem?_eq_getElem (show j < b.length by omega)]
    rfl
  simp only [m_spot, b_spot, Nat.reduceSub, Nat.reduceAdd, reduceIte, Tree.bind, liftO, dIdx, sAsgL, sPar4, dV, dC, d1, d2, t1, t2, l0, lC, dL, dT, aV, aE, a0, aC, dCall, dCallK, dIf, tTr, tV, truth, asB, tNot, tAnd, tOr, dAnd, dOr, sSet, sAsg, sPar, sRet, s0, sC, sIf, sX, sOwn, sApp, sFrz, frzE, sFor, outV, fnF, lenIs, ent, small, few, putE, putsE, wipeE, it_l, it_t, iS, iR1, iR2, wEn, wZ2, wZ3, dLc, dLf, dSl, oN, oS, pCut, pSub, cI, bD, pIx, pList, pTup, pLen, pNot, qIsN, qNotN, pIsN, pNotN, List.getElem?_cons_succ, List.getElem?_cons_zero, List.set_cons_succ, List.set_cons_zero, List.length_cons, List.length_nil, List.map_cons, List.map_nil, List.foldr_cons, List.foldr_nil, List.replicate_succ, List.replicate_zero, List.cons_append, List.nil_append, sOPar, sOOPar, dOIx, sNest, sCallP, dOLen, fnP, pC, pFrz, dPr, nApp, nIf, nEnd, sN0, sN1, lendE, frzW, sSetK, dGet, dZipD, dPairD, pMax2, sDD, sND, tNeN, sLock, lockE, odcE, tdE, dttE, tC, tLock, tRet, dGetO, dIdxO, tNinD, sPutO, tDen, sUpd, sCpT, iDtt, dSrtD, sParDt, sParDt3, tCall2, fnT, sNewD, isNd, he, iL_len, pDiv_of (show (0 : Int) < (b.length : Int) by omega) (show (b.length : Int) < 1073741824 by omega), pMod_of (show (0 : Int) < (b.length : Int) by omega), pMulI (show -(2 ^ 64) < (n : Int) ∧ (n : Int) < 2 ^ 64 by omega), hix, pAdd_ii]
  unfold xOf
  congr 2
  rw [Int.mul_comm]
  omega
def stW (n : Nat) (a b : List Int) (s : Int) : List Int := rowOf (fun i => xOf n a i - xOf n b (i - s)) (fun i => (i : Int)) a.length
theorem ev_steps_with {n : Nat} {d e : PyData} {a b : List Int} {s : Int} (hd : items d = some (iL a)) (he : items e = some (iL b)) (ha : a ≠ []) (hne : b ≠ []) (n1 : n ≤ 1000) (hl : a.length ≤ 1000) (hbl : b.length ≤ 1000) : m_steps_with [.d (.int (n : Int)), .d d, .d e, .d (.int s)] = .ret (.list (iL (stW n a b s))) := by
  have hz : (prs (nums a.length) (iL a)).length ≤ 50000 := by rw [prs_len, nums_len, iL_len]; omega
  simp only [m_steps_with, b_steps_with, Nat.reduceSub, Nat.reduceAdd, reduceIte, Tree.bind, liftO, dIdx, sAsgL, sPar4, dV, dC, d1, d2, t1, t2, l0, lC, dL, dT, aV, aE, a0, aC, dCall, dCallK, dIf, tTr, tV, truth, asB, tNot, tAnd, tOr, dAnd, dOr, sSet, sAsg, sPar, sRet, s0, sC, sIf, sX, sOwn, sApp, sFrz, frzE, sFor, outV, fnF, lenIs, ent, small, few, putE, putsE, wipeE, it_l, it_t, iS, iR1, iR2, wEn, wZ2, wZ3, dLc, dLf, dSl, oN, oS, pCut, pSub, cI, bD, pIx, pList, pTup, pLen, pNot, qIsN, qNotN, pIsN, pNotN, List.getElem?_cons_succ, List.getElem?_cons_zero, List.set_cons_succ, List.set_cons_zero, List.length_cons, List.length_nil, List.map_cons, List.map_nil, List.foldr_cons, List.foldr_nil, List.replicate_succ, List.replicate_zero, List.cons_append, List.nil_append, sOPar, sOOPar, dOIx, sNest, sCallP, dOLen, fnP, pC, pFrz, dPr, nApp, nIf, nEnd, sN0, sN1, lendE, frzW, sSetK, dGet, dZipD, dPairD, pMax2, sDD, sND, tNeN, sLock, lockE, odcE, tdE, dttE, tC, tLock, tRet, dGetO, dIdxO, tNinD, sPutO, tDen, sUpd, sCpT, iDtt, dSrtD, sParDt, sParDt3, tCall2, fnT, sNewD, isNd, hd, iL_len, if_pos hz]
  rw [nums_cnt, mapT_2 (g := fun q => q.2 - xOf n b (q.1 - s)) fun q hq => by
    simp only [Nat.reduceSub, Nat.reduceAdd, reduceIte, Tree.bind, liftO, dIdx, sAsgL, sPar4, dV, dC, d1, d2, t1, t2, l0, lC, dL, dT, aV, aE, a0, aC, dCall, dCallK, dIf, tTr, tV, truth, asB, tNot, tAnd, tOr, dAnd, dOr, sSet, sAsg, sPar, sRet, s0, sC, sIf, sX, sOwn, sApp, sFrz, frzE, sFor, outV, fnF, lenIs, ent, small, few, putE, putsE, wipeE, it_l, it_t, iS, iR1, iR2, wEn, wZ2, wZ3, dLc, dLf, dSl, oN, oS, pCut, pSub, cI, bD, pIx, pList, pTup, pLen, pNot, qIsN, qNotN, pIsN, pNotN, List.getElem?_cons_succ, List.getElem?_cons_zero, List.set_cons_succ, List.set_cons_zero, List.length_cons, List.length_nil, List.map_cons, List.map_nil, List.foldr_cons, List.foldr_nil, List.replicate_succ, List.replicate_zero, List.cons_append, List.nil_append, sOPar, sOOPar, dOIx, sNest, sCallP, dOLen, fnP, pC, pFrz, dPr, nApp, nIf, nEnd, sN0, sN1, lendE, frzW, sSetK, dGet, dZipD, dPairD, pMax2, sDD, sND, tNeN, sLock, lockE, odcE, tdE, dttE, tC, tLock, tRet, dGetO, dIdxO, tNinD, sPutO, tDen, sUpd, sCpT, iDtt, dSrtD, sParDt, sParDt3, tCall2, fnT, sNewD, isNd, ev_spot he hne n1 hbl]]
  simp only [Tree.bind, liftO, dIdx, sAsgL, sPar4, dV, dC, d1, d2, t1, t2, l0, lC, dL, dT, aV, aE, a0, aC, dCall, dCallK, dIf, tTr, tV, truth, asB, tNot, tAnd, tOr, dAnd, dOr, sSet, sAsg, sPar, sRet, s0, sC, sIf, sX, sOwn, sApp, sFrz, frzE, sFor, outV, fnF, lenIs, ent, small, few, putE, putsE, wipeE, it_l, it_t, iS, iR1, iR2, wEn, wZ2, wZ3, dLc, dLf, dSl, oN, oS, pCut, pSub, cI, bD, pIx, pList, pTup, pLen, pNot, qIsN, qNotN, pIsN, pNotN, List.getElem?_cons_succ, List.getElem?_cons_zero, List.set_cons_succ, List.set_cons_zero, List.length_cons, List.length_nil, List.map_cons, List.map_nil, List.foldr_cons, List.foldr_nil, List.replicate_succ, List.replicate_zero, List.cons_append, List.nil_append, sOPar, sOOPar, dOIx, sNest, sCallP, dOLen, fnP, pC, pFrz, dPr, nApp, nIf, nEnd, sN0, sN1, lendE, frzW, sSetK, dGet, dZipD, dPairD, pMax2, sDD, sND, tNeN, sLock, lockE, odcE, tdE, dttE, tC, tLock, tRet, dGetO, dIdxO, tNinD, sPutO, tDen, sUpd, sCpT, iDtt, dSrtD, sParDt, sParDt3, tCall2, fnT, sNewD, isNd]
  have e : ((cnt a.length).zip a).map (fun q => q.2 - xOf n b (q.1 - s)) = stW n a b s := by
    unfold stW rowOf
    refine List.ext_getElem? fun i => ?_
    by_cases hi : i < a.length
    · have h1 : ((cnt a.length).zip a)[i]? = some ((i : Int), a[i]) := List.getElem?_zip_eq_some.mpr ⟨cnt_get hi, List.getElem?_eq_getElem hi⟩
      rw [List.getElem?_map, List.getElem?_map, List.getElem?_range hi, h1]
      show some (a[i] - _) = some (xOf n a (i : Int) - _)
      rw [xOf_at (n := n) ha (List.getElem?_eq_getElem hi)]
    · rw [List.getElem?_eq_none (by rw [List.length_map, List.length_zip, cnt_len]; omega), List.getElem?_eq_none (by rw [List.length_map, List.length_range]; omega)]
  rw [e]
theorem least {P : Nat → Prop} : ∀ k, P k → ∃ s, s ≤ k ∧ P s ∧ ∀ j, j < s → ¬ P j := by
  intro k
  induction k using Nat.strongRecOn with
  | _ k ih =>
    intro hk
    by_cases h : ∃ j, j < k ∧ P j
    · obtain ⟨j, hj, hp⟩ := h
      obtain ⟨s, h1, h2, h3⟩ := ih j hj hp
      exact ⟨s, by omega, h2, h3⟩
    · exact ⟨k, Nat.le_refl _, hk, fun j hj hp => h ⟨j, hj, hp⟩⟩
structure Lst (n : Nat) (a b : List Int) (s : Nat) : Prop where
  le : s ≤ a.length
  ok : ∀ x ∈ stW n a b s, 0 ≤ x
  no : ∀ j : Nat, j < s → ¬ ∀ x ∈ stW n a b j, 0 ≤ x
theorem stW_get {n : Nat} {a b : List Int} {s : Int} {i : Nat} (h : i < a.length) : (stW n a b s)[i]? = some (xOf n a (i : Int) - xOf n b ((i : Int) - s)) := rowOf_get h
theorem stW_len {n : Nat} {a b : List Int} {s : Int} : (stW n a b s).length = a.length := rowOf_len
theorem lst_ex {n : Nat} {a b : List Int} (ta : Tbl n a) (tb : Tbl n b) (h : a.length = b.length) (ha : a ≠ []) : ∃ s, Lst n a b s := by
  have hb : b ≠ [] := List.length_pos_iff.mp (by rw [← h]; exact List.length_pos_iff.mpr ha)
  obtain ⟨s, h1, h2, h3⟩ := least (P := fun s : Nat => ∀ x ∈ stW n a b (s : Int), 0 ≤ x) a.length (fun x hx => by
    obtain ⟨i, hi⟩ := List.getElem?_of_mem hx
    have hil : i < a.length := by rw [← stW_len (n := n) (b := b) (s := ((a.length : Nat) : Int))]; exact (List.getElem?_eq_some_iff.mp hi).1
    rw [stW_get hil] at hi
    cases hi
    have e1 := (sqn_xOf tb hb).pm ((i : Int) - (a.length : Int)) 1
    rw [← h, Int.mul_one, Int.mul_one, show (i : Int) - (a.length : Int) + (a.length : Int) = (i : Int) by omega] at e1
    have a1 := xOf_at (n := n) ha (List.getElem?_eq_getElem hil)
    have b1 := xOf_at (n := n) hb (List.getElem?_eq_getElem (show i < b.length by omega))
    have a2 := ta.mem _ (List.getElem_mem hil)
    have b2 := tb.mem _ (List.getElem_mem (show i < b.length by omega))
    omega)
  exact ⟨s, h1, h2, h3⟩
theorem pAny_map {α : Type} (f : α → Bool) (xs : List α) : pAny (.list (xs.map fun x => .bool (f x))) = some (.bool (xs.any f)) := by
  have e : (xs.map fun x => PyData.bool (f x)) = (xs.map f).map .bool := by rw [List.map_map]; rfl
  unfold pAny onB
  simp only [e, asBs_map]
  rw [List.any_map]
  rfl
theorem mapT_bI {f : PyData → Tree PyData} {g : Int → Bool} {ns : List Int} (h : ∀ x ∈ ns, f (.int x) = .ret (.bool (g x))) : mapT f (iL ns) = .ret (ns.map fun x => .bool (g x)) := by
  unfold iL
  rw [mapT_map]
  exact mapT_ret h
theorem few_loop {n : Nat} {d e : PyData} {a b : List Int} {s : Nat} (L : Lst n a b s) (hl : a.length ≤ 1000) (SW : List W → Tree PyData) (hSW : ∀ j : Int, SW [.d (.int (n : Int)), .d d, .d e, .d (.int j)] = .ret (.list (iL (stW n a b j)))) : ∀ (j f u0 : Nat), u0 + j = s → j < f → whT (tTr (d1 pAny (dLc (.nm 4) [4] (iS (dCall SW (aC (aV 0) (aC (aV 1) (aC (aV 2) (aC (aV 3) a0)))))) (d2 (bD cLt) (dV 4) (dC (.int 0)))))) (sAug 3 gAdd (dC (.int 1))) f [some (.d (.int (n : Int))), some (.d d), some (.d e), some (.d (.int (u0 : Int))), none] = .ret (.nx [some (.d (.int (n : Int))), some (.d d), some (.d e), some (.d (.int (s : Int))), none])
  | j, 0, u0, _, h => absurd h (Nat.not_lt_zero _)
  | j, f + 1, u0, hs, hf => by
    have ev : (tTr (d1 pAny (dLc (.nm 4) [4] (iS (dCall SW (aC (aV 0) (aC (aV 1) (aC (aV 2) (aC (aV 3) a0)))))) (d2 (bD cLt) (dV 4) (dC (.int 0)))))) [some (.d (.int (n : Int))), some (.d d), some (.d e), some (.d (.int (u0 : Int))), none] = .ret ((stW n a b u0).any fun x => decide (x < 0)) := by
      simp only [Nat.reduceSub, Nat.reduceAdd, reduceIte, Tree.bind, liftO, dIdx, sAsgL, sPar4, dV, dC, d1, d2, t1, t2, l0, lC, dL, dT, aV, aE, a0, aC, dCall, dCallK, dIf, tTr, tV, truth, asB, tNot, tAnd, tOr, dAnd, dOr, sSet, sAsg, sPar, sRet, s0, sC, sIf, sX, sOwn, sApp, sFrz, frzE, sFor, outV, fnF, lenIs, ent, small, few, putE, putsE, wipeE, it_l, it_t, iS, iR1, iR2, wEn, wZ2, wZ3, dLc, dLf, dSl, oN, oS, pCut, pSub, cI, bD, pIx, pList, pTup, pLen, pNot, qIsN, qNotN, pIsN, pNotN, List.getElem?_cons_succ, List.getElem?_cons_zero, List.set_cons_succ, List.set_cons_zero, List.length_cons, List.length_nil, List.map_cons, List.map_nil, List.foldr_cons, List.foldr_nil, List.replicate_succ, List.replicate_zero, List.cons_append, List.nil_append, sOPar, sOOPar, dOIx, sNest, sCallP, dOLen, fnP, pC, pFrz, dPr, nApp, nIf, nEnd, sN0, sN1, lendE, frzW, sSetK, dGet, dZipD, dPairD, pMax2, sDD, sND, tNeN, sLock, lockE, odcE, tdE, dttE, tC, tLock, tRet, dGetO, dIdxO, tNinD, sPutO, tDen, sUpd, sCpT, iDtt, dSrtD, sParDt, sParDt3, tCall2, fnT, sNewD, isNd, hSW, iL_len, stW_len, if_pos (show a.length ≤ 50000 by omega)]
      rw [mapT_bI (g := fun x => decide (x < 0)) fun x hx => by simp only [Nat.reduceSub, Nat.reduceAdd, reduceIte, Tree.bind, liftO, dIdx, sAsgL, sPar4, dV, dC, d1, d2, t1, t2, l0, lC, dL, dT, aV, aE, a0, aC, dCall, dCallK, dIf, tTr, tV, truth, asB, tNot, tAnd, tOr, dAnd, dOr, sSet, sAsg, sPar, sRet, s0, sC, sIf, sX, sOwn, sApp, sFrz, frzE, sFor, outV, fnF, lenIs, ent, small, few, putE, putsE, wipeE, it_l, it_t, iS, iR1, iR2, wEn, wZ2, wZ3, dLc, dLf, dSl, oN, oS, pCut, pSub, cI, bD, pIx, pList, pTup, pLen, pNot, qIsN, qNotN, pIsN, pNotN, List.getElem?_cons_succ, List.getElem?_cons_zero, List.set_cons_succ, List.set_cons_zero, List.length_cons, List.length_nil, List.map_cons, List.map_nil, List.foldr_cons, List.foldr_nil, List.replicate_succ, List.replicate_zero, List.cons_append, List.nil_append, sOPar, sOOPar, dOIx, sNest, sCallP, dOLen, fnP, pC, pFrz, dPr, nApp, nIf, nEnd, sN0, sN1, lendE, frzW, sSetK, dGet, dZipD, dPairD, pMax2, sDD, sND, tNeN, sLock, lockE, odcE, tdE, dttE, tC, tLock, tRet, dGetO, dIdxO, tNinD, sPutO, tDen, sUpd, sCpT, iDtt, dSrtD, sParDt, sParDt3, tCall2, fnT, sNewD, isNd, cLt]]
      simp only [Nat.reduceSub, Nat.reduceAdd, reduceIte, Tree.bind, liftO, dIdx, sAsgL, sPar4, dV, dC, d1, d2, t1, t2, l0, lC, dL, dT, aV, aE, a0, aC, dCall, dCallK, dIf, tTr, tV, truth, asB, tNot, tAnd, tOr, dAnd, dOr, sSet, sAsg, sPar, sRet, s0, sC, sIf, sX, sOwn, sApp, sFrz, frzE, sFor, outV, fnF, lenIs, ent, small, few, putE, putsE, wipeE, it_l, it_t, iS, iR1, iR2, wEn, wZ2, wZ3, dLc, dLf, dSl, oN, oS, pCut, pSub, cI, bD, pIx, pList, pTup, pLen, pNot, qIsN, qNotN, pIsN, pNotN, List.getElem?_cons_succ, List.getElem?_cons_zero, List.set_cons_succ, List.set_cons_zero, List.length_cons, List.length_nil, List.map_cons, List.map_nil, List.foldr_cons, List.foldr_nil, List.replicate_succ, List.replicate_zero, List.cons_append, List.nil_append, sOPar, sOOPar, dOIx, sNest, sCallP, dOLen, fnP, pC, pFrz, dPr, nApp, nIf, nEnd, sN0, sN1, lendE, frzW, sSetK, dGet, dZipD, dPairD, pMax2, sDD, sND, tNeN, sLock, lockE, odcE, tdE, dttE, tC, tLock, tRet, dGetO, dIdxO, tNinD, sPutO, tDen, sUpd, sCpT, iDtt, dSrtD, sParDt, sParDt3, tCall2, fnT, sNewD, isNd, pAny_map]
    rw [whT, ev]
    cases j with
    | zero =>
      have e0 : u0 = s := by omega
      subst e0
      have hany : ((stW n a b u0).any fun x => decide (x < 0)) = false := List.any_eq_false.mpr fun x hx => by
        have := L.ok x hx
        simp
        omega
      rw [hany]
      rfl
    | succ j =>
      have hany : ((stW n a b u0).any fun x => decide (x < 0)) = true := by
        cases hq : (stW n a b u0).any fun x => decide (x < 0) with
        | true => rfl
        | false =>
          refine absurd (fun x hx => ?_) (L.no u0 (by omega))
          have := List.any_eq_false.mp hq x hx
          simp at this
          omega
      rw [hany]
      have st : sAug 3 gAdd (dC (.int 1)) [some (.d (.int (n : Int))), some (.d d), some (.d e), some (.d (.int (u0 : Int))), none] = .ret (.nx [some (.d (.int (n : Int))), some (.d d), some (.d e), some (.d (.int ((u0 + 1 : Nat) : Int))), none]) := rfl
      simp only [Tree.bind, st]
      exact few_loop L hl SW hSW j f (u0 + 1) (by omega) (by omega)
theorem ev_fewest_steps {n : Nat} {d e : PyData} {a b : List Int} {s : Nat} (hd : items d = some (iL a)) (he : items e = some (iL b)) (h : a.length = b.length) (ha : a ≠ []) (n1 : n ≤ 1000) (hl : a.length ≤ 90) (L : Lst n a b s) : m_fewest_steps [.d (.int (n : Int)), .d d, .d e] = .ret (.list (iL (stW n a b s))) := by
  have hb : b ≠ [] := List.length_pos_iff.mp (by rw [← h]; exact List.length_pos_iff.mpr ha)
  have hSW : ∀ j : Int, m_steps_with [.d (.int (n : Int)), .d d, .d e, .d (.int j)] = .ret (.list (iL (stW n a b j))) := fun j => ev_steps_with hd he ha hb n1 (by omega) (by omega)
  have run := few_loop L (by omega) m_steps_with hSW s 100 0 (by omega) (by have := L.le; omega)
  have pn : pNe (.int (a.length : Int)) (.int (b.length : Int)) = some false := by rw [h]; exact pNe_I _
  have run : whT (tTr (d1 pAny (dLc (.nm 4) [4] (iS (dCall m_steps_with (aC (aV 0) (aC (aV 1) (aC (aV 2) (aC (aV 3) a0)))))) (d2 (bD cLt) (dV 4) (dC (.int 0)))))) (sAug 3 gAdd (dC (.int 1))) 100 [some (.d (.int (n : Int))), some (.d d), some (.d e), some (.d (.int 0)), none] = .ret (.nx [some (.d (.int (n : Int))), some (.d d), some (.d e), some (.d (.int (s : Int))), none]) := run
  unfold m_fewest_steps b_fewest_steps
  generalize hW : (tTr (d1 pAny (dLc (.nm 4) [4] (iS (dCall m_steps_with (aC (aV 0) (aC (aV 1) (aC (aV 2) (aC (aV 3) a0)))))) (d2 (bD cLt) (dV 4) (dC (.int 0)))))) = Wc at run ⊢
  simp only [Nat.reduceSub, Nat.reduceAdd, reduceIte, Tree.bind, liftO, dIdx, sAsgL, sPar4, dV, dC, d1, d2, t1, t2, l0, lC, dL, dT, aV, aE, a0, aC, dCall, dCallK, dIf, tTr, tV, truth, asB, tNot, tAnd, tOr, dAnd, dOr, sSet, sAsg, sPar, sRet, s0, sC, sIf, sX, sOwn, sApp, sFrz, frzE, sFor, outV, fnF, lenIs, ent, small, few, putE, putsE, wipeE, it_l, it_t, iS, iR1, iR2, wEn, wZ2, wZ3, dLc, dLf, dSl, oN, oS, pCut, pSub, cI, bD, pIx, pList, pTup, pLen, pNot, qIsN, qNotN, pIsN, pNotN, List.getElem?_cons_succ, List.getElem?_cons_zero, List.set_cons_succ, List.set_cons_zero, List.length_cons, List.length_nil, List.map_cons, List.map_nil, List.foldr_cons, List.foldr_nil, List.replicate_succ, List.replicate_zero, List.cons_append, List.nil_append, sOPar, sOOPar, dOIx, sNest, sCallP, dOLen, fnP, pC, pFrz, dPr, nApp, nIf, nEnd, sN0, sN1, lendE, frzW, sSetK, dGet, dZipD, dPairD, pMax2, sDD, sND, tNeN, sLock, lockE, odcE, tdE, dttE, tC, tLock, tRet, dGetO, dIdxO, tNinD, sPutO, tDen, sUpd, sCpT, iDtt, dSrtD, sParDt, sParDt3, tCall2, fnT, sNewD, isNd, hd, he, iL_len, pn, sWh]
  rw [run]
  simp only [Nat.reduceSub, Nat.reduceAdd, reduceIte, Tree.bind, liftO, dIdx, sAsgL, sPar4, dV, dC, d1, d2, t1, t2, l0, lC, dL, dT, aV, aE, a0, aC, dCall, dCallK, dIf, tTr, tV, truth, asB, tNot, tAnd, tOr, dAnd, dOr, sSet, sAsg, sPar, sRet, s0, sC, sIf, sX, sOwn, sApp, sFrz, frzE, sFor, outV, fnF, lenIs, ent, small, few, putE, putsE, wipeE, it_l, it_t, iS, iR1, iR2, wEn, wZ2, wZ3, dLc, dLf, dSl, oN, oS, pCut, pSub, cI, bD, pIx, pList, pTup, pLen, pNot, qIsN, qNotN, pIsN, pNotN, List.getElem?_cons_succ, List.getElem?_cons_zero, List.set_cons_succ, List.set_cons_zero, List.length_cons, List.length_nil, List.map_cons, List.map_nil, List.foldr_cons, List.foldr_nil, List.replicate_succ, List.replicate_zero, List.cons_append, List.nil_append, sOPar, sOOPar, dOIx, sNest, sCallP, dOLen, fnP, pC, pFrz, dPr, nApp, nIf, nEnd, sN0, sN1, lendE, frzW, sSetK, dGet, dZipD, dPairD, pMax2, sDD, sND, tNeN, sLock, lockE, odcE, tdE, dttE, tC, tLock, tRet, dGetO, dIdxO, tNinD, sPutO, tDen, sUpd, sCpT, iDtt, dSrtD, sParDt, sParDt3, tCall2, fnT, sNewD, isNd, hSW]
theorem pickT_f2 {f : PyData → Tree (Option PyData)} {p : Int → Bool} : ∀ {ns : List Int}, (∀ x ∈ ns, f (.int x) = .ret (if p x then some (.int x) else none)) → pickT f (iL ns) = .ret (iL (ns.filter p))
  | [], _ => rfl
  | x :: ns, h => by
    show pickT f (PyData.int x :: iL ns) = _
    rw [pickT, h x (List.mem_cons_self ..), pickT_f2 fun y hy => h y (List.mem_cons_of_mem _ hy)]
    by_cases hp : p x = true
    · rw [if_pos hp, List.filter_cons_of_pos hp]
      rfl
    · rw [if_neg hp, List.filter_cons_of_neg hp]
      rfl
theorem ev_fewest_calls {n : Nat} {d e : PyData} {a b : List Int} {s : Nat} (hd : items d = some (iL a)) (he : items e = some (iL b)) (h : a.length = b.length) (ha : a ≠ []) (n1 : n ≤ 1000) (hl : a.length ≤ 90) (L : Lst n a b s) : m_fewest_calls [.d (.int (n : Int)), .d d, .d e] = .ret (.int ((((stW n a b s).filter fun x => decide (0 < x)).length : Nat) : Int)) := by
  simp only [m_fewest_calls, b_fewest_calls, Nat.reduceSub, Nat.reduceAdd, reduceIte, Tree.bind, liftO, dIdx, sAsgL, sPar4, dV, dC, d1, d2, t1, t2, l0, lC, dL, dT, aV, aE, a0, aC, dCall, dCallK, dIf, tTr, tV, truth, asB, tNot, tAnd, tOr, dAnd, dOr, sSet, sAsg, sPar, sRet, s0, sC, sIf, sX, sOwn, sApp, sFrz, frzE, sFor, outV, fnF, lenIs, ent, small, few, putE, putsE, wipeE, it_l, it_t, iS, iR1, iR2, wEn, wZ2, wZ3, dLc, dLf, dSl, oN, oS, pCut, pSub, cI, bD, pIx, pList, pTup, pLen, pNot, qIsN, qNotN, pIsN, pNotN, List.getElem?_cons_succ, List.getElem?_cons_zero, List.set_cons_succ, List.set_cons_zero, List.length_cons, List.length_nil, List.map_cons, List.map_nil, List.foldr_cons, List.foldr_nil, List.replicate_succ, List.replicate_zero, List.cons_append, List.nil_append, sOPar, sOOPar, dOIx, sNest, sCallP, dOLen, fnP, pC, pFrz, dPr, nApp, nIf, nEnd, sN0, sN1, lendE, frzW, sSetK, dGet, dZipD, dPairD, pMax2, sDD, sND, tNeN, sLock, lockE, odcE, tdE, dttE, tC, tLock, tRet, dGetO, dIdxO, tNinD, sPutO, tDen, sUpd, sCpT, iDtt, dSrtD, sParDt, sParDt3, tCall2, fnT, sNewD, isNd, ev_fewest_steps hd he h ha n1 hl L, iL_len, stW_len, if_pos (show a.length ≤ 50000 by omega)]
  rw [pickT_f2 (p := fun x => decide (0 < x)) fun x hx => by
    simp only [Nat.reduceSub, Nat.reduceAdd, reduceIte, Tree.bind, liftO, dIdx, sAsgL, sPar4, dV, dC, d1, d2, t1, t2, l0, lC, dL, dT, aV, aE, a0, aC, dCall, dCallK, dIf, tTr, tV, truth, asB, tNot, tAnd, tOr, dAnd, dOr, sSet, sAsg, sPar, sRet, s0, sC, sIf, sX, sOwn, sApp, sFrz, frzE, sFor, outV, fnF, lenIs, ent, small, few, putE, putsE, wipeE, it_l, it_t, iS, iR1, iR2, wEn, wZ2, wZ3, dLc, dLf, dSl, oN, oS, pCut, pSub, cI, bD, pIx, pList, pTup, pLen, pNot, qIsN, qNotN, pIsN, pNotN, List.getElem?_cons_succ, List.getElem?_cons_zero, List.set_cons_succ, List.set_cons_zero, List.length_cons, List.length_nil, List.map_cons, List.map_nil, List.foldr_cons, List.foldr_nil, List.replicate_succ, List.replicate_zero, List.cons_append, List.nil_append, sOPar, sOOPar, dOIx, sNest, sCallP, dOLen, fnP, pC, pFrz, dPr, nApp, nIf, nEnd, sN0, sN1, lendE, frzW, sSetK, dGet, dZipD, dPairD, pMax2, sDD, sND, tNeN, sLock, lockE, odcE, tdE, dttE, tC, tLock, tRet, dGetO, dIdxO, tNinD, sPutO, tDen, sUpd, sCpT, iDtt, dSrtD, sParDt, sParDt3, tCall2, fnT, sNewD, isNd, cGt]
    cases decide (0 < x) <;> rfl]
  simp only [Nat.reduceSub, Nat.reduceAdd, reduceIte, Tree.bind, liftO, dIdx, sAsgL, sPar4, dV, dC, d1, d2, t1, t2, l0, lC, dL, dT, aV, aE, a0, aC, dCall, dCallK, dIf, tTr, tV, truth, asB, tNot, tAnd, tOr, dAnd, dOr, sSet, sAsg, sPar, sRet, s0, sC, sIf, sX, sOwn, sApp, sFrz, frzE, sFor, outV, fnF, lenIs, ent, small, few, putE, putsE, wipeE, it_l, it_t, iS, iR1, iR2, wEn, wZ2, wZ3, dLc, dLf, dSl, oN, oS, pCut, pSub, cI, bD, pIx, pList, pTup, pLen, pNot, qIsN, qNotN, pIsN, pNotN, List.getElem?_cons_succ, List.getElem?_cons_zero, List.set_cons_succ, List.set_cons_zero, List.length_cons, List.length_nil, List.map_cons, List.map_nil, List.foldr_cons, List.foldr_nil, List.replicate_succ, List.replicate_zero, List.cons_append, List.nil_append, sOPar, sOOPar, dOIx, sNest, sCallP, dOLen, fnP, pC, pFrz, dPr, nApp, nIf, nEnd, sN0, sN1, lendE, frzW, sSetK, dGet, dZipD, dPairD, pMax2, sDD, sND, tNeN, sLock, lockE, odcE, tdE, dttE, tC, tLock, tRet, dGetO, dIdxO, tNinD, sPutO, tDen, sUpd, sCpT, iDtt, dSrtD, sParDt, sParDt3, tCall2, fnT, sNewD, isNd, iL_len]
def yOf (n : Nat) (b : List Int) (s : Nat) : Int → Int := fun i => xOf n b (i - (s : Int))
theorem aim_ok {n : Nat} {a b : List Int} {s : Nat} (ta : Tbl n a) (tb : Tbl n b) (h : a.length = b.length) (ha : a ≠ []) (n0 : 0 < n) (L : Lst n a b s) : Aim n a.length (xOf n a) (yOf n b s) := by
  have hb : b ≠ [] := List.length_pos_iff.mp (by rw [← h]; exact List.length_pos_iff.mpr ha)
  have k0 : 0 < a.length := List.length_pos_iff.mpr ha
  have sx := sqn_xOf ta ha
  have sb := sqn_xOf tb hb
  rw [← h] at sb
  have sy : Sqn n a.length (yOf n b s) := ⟨fun i => by
    have := sb.up (i - (s : Int))
    unfold yOf
    rw [show i - 1 - (s : Int) = i - (s : Int) - 1 by omega]
    exact this, fun i => by
    have := sb.per (i - (s : Int))
    unfold yOf
    rw [show i + (a.length : Int) - (s : Int) = i - (s : Int) + (a.length : Int) by omega]
    exact this⟩
  have low : ∀ (j : Int) (f g : Int → Int), Sqn n a.length f → Sqn n a.length g → (∀ r : Nat, r < a.length → f (r : Int) + j ≤ g (r : Int)) → ∀ i, f i + j ≤ g i := fun j f g sf sg hr i => by
    have h0 := Int.emod_nonneg i (show (a.length : Int) ≠ 0 by omega)
    have h1 := Int.emod_lt_of_pos i (show (0 : Int) < (a.length : Int) by omega)
    have h2 := Int.emod_add_mul_ediv i (a.length : Int)
    have e1 := sf.pm (i % (a.length : Int)) (i / (a.length : Int))
    have e2 := sg.pm (i % (a.length : Int)) (i / (a.length : Int))
    rw [h2] at e1 e2
    have := hr (i % (a.length : Int)).toNat (by omega)
    rw [Int.toNat_of_nonneg h0] at this
    omega
  refine ⟨sx, sy, fun i => ?_, fun i => ?_⟩
  · have := low 0 (yOf n b s) (xOf n a) sy sx (fun r hr => by
      have := L.ok _ (List.mem_of_getElem? (stW_get (n := n) (b := b) (s := (s : Int)) hr))
      show xOf n b ((r : Int) - (s : Int)) + 0 ≤ _
      omega) i
    omega
  · cases s with
    | zero =>
      have := low (1 - (n : Int)) (xOf n a) (yOf n b 0) sx sy (fun r hr => by
        have a1 := xOf_at (n := n) ha (List.getElem?_eq_getElem hr)
        have b1 := xOf_at (n := n) hb (List.getElem?_eq_getElem (show r < b.length by omega))
        have a2 := ta.mem _ (List.getElem_mem hr)
        have b2 := tb.mem _ (List.getElem_mem (show r < b.length by omega))
        show _ ≤ xOf n b ((r : Int) - ((0 : Nat) : Int))
        rw [show (r : Int) - ((0 : Nat) : Int) = (r : Int) by omega]
        omega) i
      omega
    | succ s =>
      obtain ⟨r, hr, hlt⟩ : ∃ r : Nat, r < a.length ∧ xOf n a (r : Int) < xOf n b ((r : Int) - (s : Int)) := by
        by_cases hall : ∃ r : Nat, r < a.length ∧ xOf n a (r : Int) < xOf n b ((r : Int) - (s : Int))
        · exact hall
        · refine absurd (fun x hx => ?_) (L.no s (by omega))
          obtain ⟨i, hi⟩ := List.getElem?_of_mem hx
          have hil : i < a.length := by rw [← stW_len (n := n) (a := a) (b := b) (s := (s : Int))]; exact (List.getElem?_eq_some_iff.mp hi).1
          rw [stW_get hil] at hi
          cases hi
          have : ¬ xOf n a (i : Int) < xOf n b ((i : Int) - (s : Int)) := fun z => hall ⟨i, hil, z⟩
          omega
      -- somebody, counted on to lie at i or behind it within a round
      have hq := Int.emod_nonneg ((r : Int) - i) (show (a.length : Int) ≠ 0 by omega)
      have hq1 := Int.emod_lt_of_pos ((r : Int) - i) (show (0 : Int) < (a.length : Int) by omega)
      have hq2 := Int.emod_add_mul_ediv ((r : Int) - i) (a.length : Int)
      have e1 := sx.pm (r : Int) (-(((r : Int) - i) / (a.length : Int)))
      have e2 := sy.pm ((r : Int) + 1) (-(((r : Int) - i) / (a.length : Int)))
      have e3 : yOf n b (s + 1) ((r : Int) + 1) = xOf n b ((r : Int) - (s : Int)) := by
        unfold yOf
        congr 1
        omega
      have p1 := sx.le (i := i) (j := (r : Int) + (a.length : Int) * -(((r : Int) - i) / (a.length : Int))) (by rw [Int.mul_neg]; omega)
      have p2 := sy.le (i := (r : Int) + 1 + (a.length : Int) * -(((r : Int) - i) / (a.length : Int))) (j := i + (a.length : Int)) (by rw [Int.mul_neg]; omega)
      have p3 := sy.per i
      omega
theorem at_neg1 {a : List Int} (h : a ≠ []) : atI (iL a) (-1) = some (.int (a.getD (a.length - 1) 0)) := by
  have hl : 0 < a.length := List.length_pos_iff.mpr h
  refine at_last (k := a.length - 1) (by rw [iL_len]; omega) ?_
  unfold iL
  rw [List.getElem?_map, List.getElem?_eq_getElem (show a.length - 1 < a.length by omega), List.getD_eq_getElem?_getD, List.getElem?_eq_getElem (show a.length - 1 < a.length by omega)]
  rfl
theorem ev_distance_before {n : Nat} {d : PyData} {a : List Int} {p : Nat} (hd : items d = some (iL a)) (ta : Tbl n a) (n0 : 0 < n) (hp : p < a.length) : m_distance_before [.d (.int (n : Int)), .d d, .d (.int (p : Int))] = .ret (.int (xOf n a (p : Int) - xOf n a ((p : Int) - 1))) := by
  have ha : a ≠ [] := List.length_pos_iff.mp (by omega)
  have sx := sqn_xOf ta ha
  have g1 := sx.up (p : Int)
  have g2 := sx.gap (by omega) (p : Int)
  have hpp := xOf_at (n := n) ha (List.getElem?_eq_getElem hp)
  have i1 : atI (iL a) (p : Int) = some (.int a[p]) := iL_atI (List.getElem?_eq_getElem hp)
  obtain ⟨v, i2, hv⟩ : ∃ v : Int, atI (iL a) ((p : Int) - 1) = some (.int v) ∧ (v = xOf n a ((p : Int) - 1) ∨ v = xOf n a ((p : Int) - 1) + n) := by
    cases p with
    | zero =>
      refine ⟨_, at_neg1 ha, .inr ?_⟩
      have e := sx.per (-1)
      have hl : a.length - 1 < a.length := by omega
      have e2 := xOf_at (n := n) ha (List.getElem?_eq_getElem hl)
      rw [List.getD_eq_getElem?_getD, List.getElem?_eq_getElem hl]
      show a[a.length - 1] = xOf n a (((0 : Nat) : Int) - 1) + n
      rw [show ((0 : Nat) : Int) - 1 = -1 by omega, ← e, ← e2]
      congr 1
      omega
    | succ q =>
      refine ⟨a[q], ?_, .inl ?_⟩
      · rw [show ((q + 1 : Nat) : Int) - 1 = (q : Int) by omega]
        exact iL_atI (List.getElem?_eq_getElem (by omega))
      · rw [show ((q + 1 : Nat) : Int) - 1 = (q : Int) by omega]
        exact (xOf_at (n := n) ha (List.getElem?_eq_getElem (show q < a.length by omega))).symm
  have hmod : (a[p] - v - 1) % (n : Int) = xOf n a (p : Int) - xOf n a ((p : Int) - 1) - 1 := by
    rw [← hpp]
    rcases hv with rfl | rfl
    · exact Int.emod_eq_of_lt (by omega) (by omega)
    · rw [show xOf n a (p : Int) - (xOf n a ((p : Int) - 1) + n) - 1 = (xOf n a (p : Int) - xOf n a ((p : Int) - 1) - 1) + (n : Int) * (-1) by omega, Int.add_mul_emod_self_left]
      exact Int.emod_eq_of_lt (by omega) (by omega)
  simp only [m_distance_before, b_distance_before, Nat.reduceSub, Nat.reduceAdd, reduceIte, Tree.bind, liftO, dIdx, sAsgL, sPar4, dV, dC, d1, d2, t1, t2, l0, lC, dL, dT, aV, aE, a0, aC, dCall, dCallK, dIf, tTr, tV, truth, asB, tNot, tAnd, tOr, dAnd, dOr, sSet, sAsg, sPar, sRet, s0, sC, sIf, sX, sOwn, sApp, sFrz, frzE, sFor, outV, fnF, lenIs, ent, small, few, putE, putsE, wipeE, it_l, it_t, iS, iR1, iR2, wEn, wZ2, wZ3, dLc, dLf, dSl, oN, oS, pCut, pSub, cI, bD, pIx, pList, pTup, pLen, pNot, qIsN, qNotN, pIsN, pNotN, List.getElem?_cons_succ, List.getElem?_cons_zero, List.set_cons_succ, List.set_cons_zero, List.length_cons, List.length_nil, List.map_cons, List.map_nil, List.foldr_cons, List.foldr_nil, List.replicate_succ, List.replicate_zero, List.cons_append, List.nil_append, sOPar, sOOPar, dOIx, sNest, sCallP, dOLen, fnP, pC, pFrz, dPr, nApp, nIf, nEnd, sN0, sN1, lendE, frzW, sSetK, dGet, dZipD, dPairD, pMax2, sDD, sND, tNeN, sLock, lockE, odcE, tdE, dttE, tC, tLock, tRet, dGetO, dIdxO, tNinD, sPutO, tDen, sUpd, sCpT, iDtt, dSrtD, sParDt, sParDt3, tCall2, fnT, sNewD, isNd, hd, i1, i2, pMod_of (show (0 : Int) < n by omega), pAdd_ii, hmod]
  congr 2
  omega
theorem mod_cast' (q k : Nat) : ((q : Int) + 1) % (k : Int) = (((q + 1) % k : Nat) : Int) := by
  first
  | exact (Int.natCast_emod (q + 1) k).symm
  | exact (Int.natCast_mod (q + 1) k).symm
  | norm_cast
def chN (wt : Nat → Bool) (k : Nat) : Nat → Nat → List Nat
  | 0, _ => []
  | f + 1, q => if wt q = true then q :: chN wt k f ((q + 1) % k) else []
def Stp (wt : Nat → Bool) (k : Nat) : Nat → Nat → Prop
  | 0, _ => False
  | f + 1, q => wt q = false ∨ Stp wt k f ((q + 1) % k)
theorem chN_len (wt : Nat → Bool) (k : Nat) : ∀ f q, (chN wt k f q).length ≤ f
  | 0, _ => Nat.le_refl _
  | f + 1, q => by
    unfold chN
    split
    · have := chN_len wt k f ((q + 1) % k)
      rw [List.length_cons]
      omega
    · exact Nat.zero_le _
def nI (l : List Nat) : List Int := l.map fun (j : Nat) => (j : Int)
def wtD (wt : Nat → Bool) (k : Nat) : PyData := .list ((List.range k).map fun p => .bool (wt p))
theorem wtD_at {wt : Nat → Bool} {k q : Nat} (h : q < k) : atI ((List.range k).map fun p => PyData.bool (wt p)) (q : Int) = some (.bool (wt q)) := atI_nat (by rw [List.getElem?_map, List.getElem?_range h]; rfl)
theorem chain_loop {wt : Nat → Bool} {k : Nat} {p : PyData} (k0 : 0 < k) (k1 : k ≤ 1000) : ∀ (f q : Nat) (acc : List Nat), q < k → Stp wt k f q → acc.length + f ≤ 1000 → ∃ q', whT (tTr (d2 pIx (dV 0) (dV 3))) (sC (sApp 2 (dV 3)) (sSet 3 (d2 pMod (d2 pAdd (dV 3) (dC (.int 1))) (d1 pLen (dV 0))))) f [some (.d (wtD wt k)), some (.d p), some (.own (iL (nI acc))), some (.d (.int (q : Int)))] = .ret (.nx [some (.d (wtD wt k)), some (.d p), some (.own (iL (nI (acc ++ chN wt k f q)))), some (.d (.int (q' : Int)))])
  | 0, q, acc, _, h, _ => h.elim
  | f + 1, q, acc, hq, h, hl => by
    have ev : (tTr (d2 pIx (dV 0) (dV 3))) [some (.d (wtD wt k)), some (.d p), some (.own (iL (nI acc))), some (.d (.int (q : Int)))] = .ret (wt q) := by
      simp only [wtD, Nat.reduceSub, Nat.reduceAdd, reduceIte, Tree.bind, liftO, dIdx, sAsgL, sPar4, dV, dC, d1, d2, t1, t2, l0, lC, dL, dT, aV, aE, a0, aC, dCall, dCallK, dIf, tTr, tV, truth, asB, tNot, tAnd, tOr, dAnd, dOr, sSet, sAsg, sPar, sRet, s0, sC, sIf, sX, sOwn, sApp, sFrz, frzE, sFor, outV, fnF, lenIs, ent, small, few, putE, putsE, wipeE, it_l, it_t, iS, iR1, iR2, wEn, wZ2, wZ3, dLc, dLf, dSl, oN, oS, pCut, pSub, cI, bD, pIx, pList, pTup, pLen, pNot, qIsN, qNotN, pIsN, pNotN, List.getElem?_cons_succ, List.getElem?_cons_zero, List.set_cons_succ, List.set_cons_zero, List.length_cons, List.length_nil, List.map_cons, List.map_nil, List.foldr_cons, List.foldr_nil, List.replicate_succ, List.replicate_zero, List.cons_append, List.nil_append, sOPar, sOOPar, dOIx, sNest, sCallP, dOLen, fnP, pC, pFrz, dPr, nApp, nIf, nEnd, sN0, sN1, lendE, frzW, sSetK, dGet, dZipD, dPairD, pMax2, sDD, sND, tNeN, sLock, lockE, odcE, tdE, dttE, tC, tLock, tRet, dGetO, dIdxO, tNinD, sPutO, tDen, sUpd, sCpT, iDtt, dSrtD, sParDt, sParDt3, tCall2, fnT, sNewD, isNd, wtD_at hq]
    rw [whT, ev]
    cases hw : wt q with
    | false =>
      refine ⟨q, ?_⟩
      have ec : chN wt k (f + 1) q = [] := by rw [chN, if_neg (by rw [hw]; decide)]
      rw [ec, List.append_nil]
      rfl
    | true =>
      have hs : Stp wt k f ((q + 1) % k) := by
        rcases h with h | h
        · rw [hw] at h
          cases h
        · exact h
      have hal : (nI acc).length = acc.length := List.length_map ..
      have hq1 : ((q : Int) + 1) % (k : Int) = (((q + 1) % k : Nat) : Int) := mod_cast' q k
      have st : (sC (sApp 2 (dV 3)) (sSet 3 (d2 pMod (d2 pAdd (dV 3) (dC (.int 1))) (d1 pLen (dV 0))))) [some (.d (wtD wt k)), some (.d p), some (.own (iL (nI acc))), some (.d (.int (q : Int)))] = .ret (.nx [some (.d (wtD wt k)), some (.d p), some (.own (iL (nI (acc ++ [q])))), some (.d (.int (((q + 1) % k : Nat) : Int)))]) := by
        have e : iL (nI acc) ++ [PyData.int (q : Int)] = iL (nI (acc ++ [q])) := by
          unfold iL nI
          rw [List.map_append, List.map_append]
          rfl
        simp only [wtD, Nat.reduceSub, Nat.reduceAdd, reduceIte, Tree.bind, liftO, dIdx, sAsgL, sPar4, dV, dC, d1, d2, t1, t2, l0, lC, dL, dT, aV, aE, a0, aC, dCall, dCallK, dIf, tTr, tV, truth, asB, tNot, tAnd, tOr, dAnd, dOr, sSet, sAsg, sPar, sRet, s0, sC, sIf, sX, sOwn, sApp, sFrz, frzE, sFor, outV, fnF, lenIs, ent, small, few, putE, putsE, wipeE, it_l, it_t, iS, iR1, iR2, wEn, wZ2, wZ3, dLc, dLf, dSl, oN, oS, pCut, pSub, cI, bD, pIx, pList, pTup, pLen, pNot, qIsN, qNotN, pIsN, pNotN, List.getElem?_cons_succ, List.getElem?_cons_zero, List.set_cons_succ, List.set_cons_zero, List.length_cons, List.length_nil, List.map_cons, List.map_nil, List.foldr_cons, List.foldr_nil, List.replicate_succ, List.replicate_zero, List.cons_append, List.nil_append, sOPar, sOOPar, dOIx, sNest, sCallP, dOLen, fnP, pC, pFrz, dPr, nApp, nIf, nEnd, sN0, sN1, lendE, frzW, sSetK, dGet, dZipD, dPairD, pMax2, sDD, sND, tNeN, sLock, lockE, odcE, tdE, dttE, tC, tLock, tRet, dGetO, dIdxO, tNinD, sPutO, tDen, sUpd, sCpT, iDtt, dSrtD, sParDt, sParDt3, tCall2, fnT, sNewD, isNd, iL_len, hal, if_pos (show acc.length + 1 ≤ 100000 by omega), pAdd_ii, List.length_map, List.length_range, pMod_of (show (0 : Int) < (k : Int) by omega), hq1, e]
      obtain ⟨q', ih⟩ := chain_loop (p := p) k0 k1 f ((q + 1) % k) (acc ++ [q]) (Nat.mod_lt _ k0) hs (by rw [List.length_append]; simp only [List.length_cons, List.length_nil]; omega)
      refine ⟨q', ?_⟩
      simp only [Tree.bind, st]
      rw [ih]
      have ec : chN wt k (f + 1) q = q :: chN wt k f ((q + 1) % k) := by rw [chN, if_pos hw]
      rw [ec, List.append_assoc]
      rfl
theorem ev_chain_people {wt : Nat → Bool} {k p : Nat} (k1 : k ≤ 800) (hp : p < k) (h : Stp wt k 100 ((p + 1) % k)) : m_chain_people [.d (wtD wt k), .d (.int (p : Int))] = .ret (.list (iL (nI (p :: chN wt k 100 ((p + 1) % k))))) := by
  have k0 : 0 < k := by omega
  obtain ⟨q', run⟩ := chain_loop (wt := wt) (p := .int (p : Int)) k0 (by omega) 100 ((p + 1) % k) [p] (Nat.mod_lt _ k0) h (by simp)
  have hq1 : ((p : Int) + 1) % (k : Int) = (((p + 1) % k : Nat) : Int) := mod_cast' p k
  have run : whT (tTr (d2 pIx (dV 0) (dV 3))) (sC (sApp 2 (dV 3)) (sSet 3 (d2 pMod (d2 pAdd (dV 3) (dC (.int 1))) (d1 pLen (dV 0))))) 100 [some (.d (wtD wt k)), some (.d (.int (p : Int))), some (.own [.int (p : Int)]), some (.d (.int (((p + 1) % k : Nat) : Int)))] = .ret (.nx [some (.d (wtD wt k)), some (.d (.int (p : Int))), some (.own (iL (nI (p :: chN wt k 100 ((p + 1) % k))))), some (.d (.int (q' : Int)))]) := run
  have hlw : pLen (wtD wt k) = some (.int (k : Int)) := by
    show some (PyData.int (((List.range k).map fun p => PyData.bool (wt p)).length : Int)) = _
    rw [List.length_map, List.length_range]
  unfold m_chain_people b_chain_people
  generalize hW : (tTr (d2 pIx (dV 0) (dV 3)) : DenB) = Wc at run ⊢
  generalize hB : (sC (sApp 2 (dV 3)) (sSet 3 (d2 pMod (d2 pAdd (dV 3) (dC (.int 1))) (d1 pLen (dV 0)))) : DenS) = Wb at run ⊢
  generalize hD : wtD wt k = D at run hlw ⊢
  simp only [Nat.reduceSub, Nat.reduceAdd, reduceIte, Tree.bind, liftO, dV, dC, d1, d2, l0, lC, dL, sSet, sRet, sC, sOwn, sFrz, frzE, outV, fnF, lenIs, ent, small, List.getElem?_cons_succ, List.getElem?_cons_zero, List.set_cons_succ, List.set_cons_zero, List.length_cons, List.length_nil, List.map_cons, List.map_nil, List.replicate_succ, List.replicate_zero, List.cons_append, List.nil_append, hlw, pAdd_ii, pMod_of (show (0 : Int) < (k : Int) by omega), hq1, sWh, Nat.reduceLeDiff]
  rw [run]
  rfl
theorem stp_back {wt : Nat → Bool} {k p : Nat} (hp : p < k) (hw : wt p = false) : ∀ (j q f : Nat), (q + j) % k = p → q < k → j < f → Stp wt k f q
  | _, _, 0, _, _, h => absurd h (Nat.not_lt_zero _)
  | 0, q, f + 1, e, hq, _ => .inl (by
      rw [Nat.add_zero, Nat.mod_eq_of_lt hq] at e
      rw [e]
      exact hw)
  | j + 1, q, f + 1, e, hq, h => .inr (stp_back hp hw j ((q + 1) % k) f (by rw [Nat.mod_add_mod, ← e]; congr 1; omega) (Nat.mod_lt _ (by omega)) (by omega))
theorem stp_own {wt : Nat → Bool} {k p : Nat} (hp : p < k) (hk : k ≤ 90) (hw : wt p = false) : Stp wt k 100 ((p + 1) % k) :=
  stp_back hp hw (k - 1) ((p + 1) % k) 100 (by rw [Nat.mod_add_mod, show p + 1 + (k - 1) = p + k by omega, Nat.add_mod_right, Nat.mod_eq_of_lt hp]) (Nat.mod_lt _ (by omega)) (by omega)
def wtF (n : Nat) (a b : List Int) (s : Nat) : Nat → Bool := fun p => decide (xOf n a (p : Int) - xOf n a ((p : Int) - 1) ≤ xOf n a (p : Int) - yOf n b s (p : Int))
def goF (n : Nat) (a b : List Int) (s : Nat) : Nat → Bool := fun p => decide (0 < xOf n a (p : Int) - yOf n b s (p : Int))
def chP (n : Nat) (a b : List Int) (s : Nat) (p : Nat) : List Nat := p :: chN (wtF n a b s) a.length 100 ((p + 1) % a.length)
def CPs (n : Nat) (a b : List Int) (s : Nat) : List (List Nat) := ((List.range a.length).filter fun p => goF n a b s p && !wtF n a b s p).map (chP n a b s)
def aimF (n : Nat) (b : List Int) (s : Nat) : Nat → Int := fun p => yOf n b s (p : Int) % (n : Int)
def CAs (n : Nat) (b : List Int) (s : Nat) (CP : List (List Nat)) : List (List Int) := CP.map fun c => c.map (aimF n b s)
theorem chN_lt {wt : Nat → Bool} {k : Nat} (k0 : 0 < k) : ∀ f q, q < k → ∀ x ∈ chN wt k f q, x < k
  | 0, _, _, x, hx => by cases hx
  | f + 1, q, hq, x, hx => by
    rw [chN] at hx
    split at hx
    · rcases List.mem_cons.mp hx with rfl | hx
      · exact hq
      · exact chN_lt k0 f _ (Nat.mod_lt _ k0) x hx
    · cases hx
theorem chP_lt {n : Nat} {a b : List Int} {s p : Nat} (hp : p < a.length) : ∀ x ∈ chP n a b s p, x < a.length := fun x hx => by
  rcases List.mem_cons.mp hx with rfl | hx
  · exact hp
  · exact chN_lt (by omega) 100 _ (Nat.mod_lt _ (by omega)) x hx
theorem fm_if {α β : Type} (p : α → Bool) (g : α → β) : ∀ l : List α, l.filterMap (fun x => if p x = true then some (g x) else none) = (l.filter p).map g
  | [] => rfl
  | x :: l => by
    have ih := fm_if p g l
    by_cases hp : p x = true
    · rw [List.filter_cons_of_pos hp, List.map_cons, ← ih, List.filterMap_cons, if_pos hp]
    · rw [List.filter_cons_of_neg hp, ← ih, List.filterMap_cons, if_neg hp]
theorem pickT_en {f : PyData → Tree (Option PyData)} {g : Nat → Option PyData} {ws : List Int} (h : ∀ (i : Nat) w, ws[i]? = some w → f (.tuple [.int (i : Int), .int w]) = .ret (g i)) : pickT f (prs (nums ws.length) (iL ws)) = .ret ((List.range ws.length).filterMap g) := by
  have e : prs (nums ws.length) (iL ws) = (List.range ws.length).map fun i => .tuple [.int (i : Int), .int (ws.getD i 0)] := by
    rw [nums_cnt, prs_iL]
    refine List.ext_getElem? fun i => ?_
    by_cases hi : i < ws.length
    · have h1 : ((cnt ws.length).zip ws)[i]? = some ((i : Int), ws[i]) := List.getElem?_zip_eq_some.mpr ⟨cnt_get hi, List.getElem?_eq_getElem hi⟩
      rw [List.getElem?_map, List.getElem?_map, List.getElem?_range hi, h1, Option.map_some, Option.map_some, List.getD_eq_getElem?_getD, List.getElem?_eq_getElem hi]
      rfl
    · rw [List.getElem?_eq_none (by rw [List.length_map, List.length_zip, cnt_len]; omega), List.getElem?_eq_none (by rw [List.length_map, List.length_range]; omega)]
  rw [e, pickT_map]
  exact pickT_ret fun i hi => h i _ (by
    have := List.mem_range.mp hi
    rw [List.getD_eq_getElem?_getD, List.getElem?_eq_getElem this]
    rfl)
theorem mapT_en {f : PyData → Tree PyData} {g : Nat → PyData} {ws : List Int} (h : ∀ (i : Nat) w, ws[i]? = some w → f (.tuple [.int (i : Int), .int w]) = .ret (g i)) : mapT f (prs (nums ws.length) (iL ws)) = .ret ((List.range ws.length).map g) := by
  have e : prs (nums ws.length) (iL ws) = (List.range ws.length).map fun i => .tuple [.int (i : Int), .int (ws.getD i 0)] := by
    rw [nums_cnt, prs_iL]
    refine List.ext_getElem? fun i => ?_
    by_cases hi : i < ws.length
    · have h1 : ((cnt ws.length).zip ws)[i]? = some ((i : Int), ws[i]) := List.getElem?_zip_eq_some.mpr ⟨cnt_get hi, List.getElem?_eq_getElem hi⟩
      rw [List.getElem?_map, List.getElem?_map, List.getElem?_range hi, h1, Option.map_some, Option.map_some, List.getD_eq_getElem?_getD, List.getElem?_eq_getElem hi]
      rfl
    · rw [List.getElem?_eq_none (by rw [List.length_map, List.length_zip, cnt_len]; omega), List.getElem?_eq_none (by rw [List.length_map, List.length_range]; omega)]
  rw [e, mapT_map]
  exact mapT_ret fun i hi => h i _ (by
    have := List.mem_range.mp hi
    rw [List.getD_eq_getElem?_getD, List.getElem?_eq_getElem this]
    rfl)
theorem ev_chains_between {n : Nat} {d e : PyData} {a b : List Int} {s : Nat} (hd : items d = some (iL a)) (he : items e = some (iL b)) (ta : Tbl n a) (h : a.length = b.length) (ha : a ≠ []) (n0 : 0 < n) (n1 : n ≤ 1000) (hl : a.length ≤ 90) (L : Lst n a b s) : m_chains_between [.d (.int (n : Int)), .d d, .d e] = .ret (.list (dLs (CAs n b s (CPs n a b s)))) := by
  have hk : (stW n a b s).length = a.length := stW_len
  have hz : (prs (nums a.length) (iL (stW n a b s))).length ≤ 50000 := by rw [prs_len, nums_len, iL_len]; omega
  have hz2 : (prs (iL a) (iL (stW n a b s))).length ≤ 50000 := by rw [prs_len, iL_len, iL_len]; omega
  have e1 := ev_fewest_steps hd he h ha n1 hl L
  have eW : ∀ f : PyData → Tree PyData, (∀ (i : Nat) w, (stW n a b s)[i]? = some w → f (.tuple [.int (i : Int), .int w]) = .ret (.bool (wtF n a b s i))) → mapT f (prs (nums a.length) (iL (stW n a b s))) = .ret ((List.range a.length).map fun p => .bool (wtF n a b s p)) := fun f hf => by
    have := mapT_en (ws := stW n a b s) (g := fun i => .bool (wtF n a b s i)) hf
    rw [hk] at this
    exact this
  have eA : (a.zip (stW n a b s)).map (fun q => (q.1 - q.2) % (n : Int)) = (List.range a.length).map (aimF n b s) := by
    refine List.ext_getElem? fun i => ?_
    by_cases hi : i < a.length
    · have h1 : (a.zip (stW n a b s))[i]? = some (a[i], xOf n a (i : Int) - xOf n b ((i : Int) - (s : Int))) := List.getElem?_zip_eq_some.mpr ⟨List.getElem?_eq_getElem hi, stW_get hi⟩
      rw [List.getElem?_map, List.getElem?_map, List.getElem?_range hi, h1]
      show some ((a[i] - _) % (n : Int)) = some (yOf n b s (i : Int) % (n : Int))
      rw [← xOf_at (n := n) ha (List.getElem?_eq_getElem hi)]
      congr 2
      unfold yOf
      omega
    · rw [List.getElem?_eq_none (by rw [List.length_map, List.length_zip]; omega), List.getElem?_eq_none (by rw [List.length_map, List.length_range]; omega)]
  have wix : ∀ i : Nat, i < a.length → atI ((List.range a.length).map fun p => PyData.bool (wtF n a b s p)) (i : Int) = some (.bool (wtF n a b s i)) := fun i hi => wtD_at hi
  have aix : ∀ i : Nat, i < a.length → atI (iL ((List.range a.length).map (aimF n b s))) (i : Int) = some (.int (aimF n b s i)) := fun i hi => iL_atI (by rw [List.getElem?_map, List.getElem?_range hi]; rfl)
  have eC : ∀ p : Nat, p < a.length → wtF n a b s p = false → m_chain_people [.d (.list ((List.range a.length).map fun p => .bool (wtF n a b s p))), .d (.int (p : Int))] = .ret (.list (iL (nI (chP n a b s p)))) := fun p hp hw => ev_chain_people (by omega) hp (stp_own hp hl hw)
  have eD : ∀ p : Nat, p < a.length → m_distance_before [.d (.int (n : Int)), .d d, .d (.int (p : Int))] = .ret (.int (xOf n a (p : Int) - xOf n a ((p : Int) - 1))) := fun p hp => ev_distance_before hd ta n0 hp
  unfold m_chains_between b_chains_between
  generalize m_fewest_steps = FS at e1 ⊢
  generalize m_chain_people = CPE at eC ⊢
  generalize m_distance_before = DB at eD ⊢
  simp only [Nat.reduceSub, Nat.reduceAdd, reduceIte, Tree.bind, liftO, dIdx, sAsgL, sPar4, dV, dC, d1, d2, t1, t2, l0, lC, dL, dT, aV, aE, a0, aC, dCall, dCallK, dIf, tTr, tV, truth, asB, tNot, tAnd, tOr, dAnd, dOr, sSet, sAsg, sPar, sRet, s0, sC, sIf, sX, sOwn, sApp, sFrz, frzE, sFor, outV, fnF, lenIs, ent, small, few, putE, putsE, wipeE, it_l, it_t, iS, iR1, iR2, wEn, wZ2, wZ3, dLc, dLf, dSl, oN, oS, pCut, pSub, cI, bD, pIx, pList, pTup, pLen, pNot, qIsN, qNotN, pIsN, pNotN, List.getElem?_cons_succ, List.getElem?_cons_zero, List.set_cons_succ, List.set_cons_zero, List.length_cons, List.length_nil, List.map_cons, List.map_nil, List.foldr_cons, List.foldr_nil, List.replicate_succ, List.replicate_zero, List.cons_append, List.nil_append, sOPar, sOOPar, dOIx, sNest, sCallP, dOLen, fnP, pC, pFrz, dPr, nApp, nIf, nEnd, sN0, sN1, lendE, frzW, sSetK, dGet, dZipD, dPairD, pMax2, sDD, sND, tNeN, sLock, lockE, odcE, tdE, dttE, tC, tLock, tRet, dGetO, dIdxO, tNinD, sPutO, tDen, sUpd, sCpT, iDtt, dSrtD, sParDt, sParDt3, tCall2, fnT, sNewD, isNd, e1, iL_len, hk, if_pos hz]
  rw [eW _ fun i w hw => by
    have hi : i < a.length := by rw [← hk]; exact (List.getElem?_eq_some_iff.mp hw).1
    rw [stW_get hi] at hw
    cases hw
    simp only [Nat.reduceSub, Nat.reduceAdd, reduceIte, Tree.bind, liftO, dIdx, sAsgL, sPar4, dV, dC, d1, d2, t1, t2, l0, lC, dL, dT, aV, aE, a0, aC, dCall, dCallK, dIf, tTr, tV, truth, asB, tNot, tAnd, tOr, dAnd, dOr, sSet, sAsg, sPar, sRet, s0, sC, sIf, sX, sOwn, sApp, sFrz, frzE, sFor, outV, fnF, lenIs, ent, small, few, putE, putsE, wipeE, it_l, it_t, iS, iR1, iR2, wEn, wZ2, wZ3, dLc, dLf, dSl, oN, oS, pCut, pSub, cI, bD, pIx, pList, pTup, pLen, pNot, qIsN, qNotN, pIsN, pNotN, List.getElem?_cons_succ, List.getElem?_cons_zero, List.set_cons_succ, List.set_cons_zero, List.length_cons, List.length_nil, List.map_cons, List.map_nil, List.foldr_cons, List.foldr_nil, List.replicate_succ, List.replicate_zero, List.cons_append, List.nil_append, sOPar, sOOPar, dOIx, sNest, sCallP, dOLen, fnP, pC, pFrz, dPr, nApp, nIf, nEnd, sN0, sN1, lendE, frzW, sSetK, dGet, dZipD, dPairD, pMax2, sDD, sND, tNeN, sLock, lockE, odcE, tdE, dttE, tC, tLock, tRet, dGetO, dIdxO, tNinD, sPutO, tDen, sUpd, sCpT, iDtt, dSrtD, sParDt, sParDt3, tCall2, fnT, sNewD, isNd, eD i hi, cGe]
    rfl]
  simp only [Nat.reduceSub, Nat.reduceAdd, reduceIte, Tree.bind, liftO, dIdx, sAsgL, sPar4, dV, dC, d1, d2, t1, t2, l0, lC, dL, dT, aV, aE, a0, aC, dCall, dCallK, dIf, tTr, tV, truth, asB, tNot, tAnd, tOr, dAnd, dOr, sSet, sAsg, sPar, sRet, s0, sC, sIf, sX, sOwn, sApp, sFrz, frzE, sFor, outV, fnF, lenIs, ent, small, few, putE, putsE, wipeE, it_l, it_t, iS, iR1, iR2, wEn, wZ2, wZ3, dLc, dLf, dSl, oN, oS, pCut, pSub, cI, bD, pIx, pList, pTup, pLen, pNot, qIsN, qNotN, pIsN, pNotN, List.getElem?_cons_succ, List.getElem?_cons_zero, List.set_cons_succ, List.set_cons_zero, List.length_cons, List.length_nil, List.map_cons, List.map_nil, List.foldr_cons, List.foldr_nil, List.replicate_succ, List.replicate_zero, List.cons_append, List.nil_append, sOPar, sOOPar, dOIx, sNest, sCallP, dOLen, fnP, pC, pFrz, dPr, nApp, nIf, nEnd, sN0, sN1, lendE, frzW, sSetK, dGet, dZipD, dPairD, pMax2, sDD, sND, tNeN, sLock, lockE, odcE, tdE, dttE, tC, tLock, tRet, dGetO, dIdxO, tNinD, sPutO, tDen, sUpd, sCpT, iDtt, dSrtD, sParDt, sParDt3, tCall2, fnT, sNewD, isNd, hd, if_pos hz2]
  rw [mapT_2 (g := fun q => (q.1 - q.2) % (n : Int)) fun q hq => by simp only [Nat.reduceSub, Nat.reduceAdd, reduceIte, Tree.bind, liftO, dIdx, sAsgL, sPar4, dV, dC, d1, d2, t1, t2, l0, lC, dL, dT, aV, aE, a0, aC, dCall, dCallK, dIf, tTr, tV, truth, asB, tNot, tAnd, tOr, dAnd, dOr, sSet, sAsg, sPar, sRet, s0, sC, sIf, sX, sOwn, sApp, sFrz, frzE, sFor, outV, fnF, lenIs, ent, small, few, putE, putsE, wipeE, it_l, it_t, iS, iR1, iR2, wEn, wZ2, wZ3, dLc, dLf, dSl, oN, oS, pCut, pSub, cI, bD, pIx, pList, pTup, pLen, pNot, qIsN, qNotN, pIsN, pNotN, List.getElem?_cons_succ, List.getElem?_cons_zero, List.set_cons_succ, List.set_cons_zero, List.length_cons, List.length_nil, List.map_cons, List.map_nil, List.foldr_cons, List.foldr_nil, List.replicate_succ, List.replicate_zero, List.cons_append, List.nil_append, sOPar, sOOPar, dOIx, sNest, sCallP, dOLen, fnP, pC, pFrz, dPr, nApp, nIf, nEnd, sN0, sN1, lendE, frzW, sSetK, dGet, dZipD, dPairD, pMax2, sDD, sND, tNeN, sLock, lockE, odcE, tdE, dttE, tC, tLock, tRet, dGetO, dIdxO, tNinD, sPutO, tDen, sUpd, sCpT, iDtt, dSrtD, sParDt, sParDt3, tCall2, fnT, sNewD, isNd, pMod_of (show (0 : Int) < n by omega)], eA]
  simp only [Nat.reduceSub, Nat.reduceAdd, reduceIte, Tree.bind, liftO, dIdx, sAsgL, sPar4, dV, dC, d1, d2, t1, t2, l0, lC, dL, dT, aV, aE, a0, aC, dCall, dCallK, dIf, tTr, tV, truth, asB, tNot, tAnd, tOr, dAnd, dOr, sSet, sAsg, sPar, sRet, s0, sC, sIf, sX, sOwn, sApp, sFrz, frzE, sFor, outV, fnF, lenIs, ent, small, few, putE, putsE, wipeE, it_l, it_t, iS, iR1, iR2, wEn, wZ2, wZ3, dLc, dLf, dSl, oN, oS, pCut, pSub, cI, bD, pIx, pList, pTup, pLen, pNot, qIsN, qNotN, pIsN, pNotN, List.getElem?_cons_succ, List.getElem?_cons_zero, List.set_cons_succ, List.set_cons_zero, List.length_cons, List.length_nil, List.map_cons, List.map_nil, List.foldr_cons, List.foldr_nil, List.replicate_succ, List.replicate_zero, List.cons_append, List.nil_append, sOPar, sOOPar, dOIx, sNest, sCallP, dOLen, fnP, pC, pFrz, dPr, nApp, nIf, nEnd, sN0, sN1, lendE, frzW, sSetK, dGet, dZipD, dPairD, pMax2, sDD, sND, tNeN, sLock, lockE, odcE, tdE, dttE, tC, tLock, tRet, dGetO, dIdxO, tNinD, sPutO, tDen, sUpd, sCpT, iDtt, dSrtD, sParDt, sParDt3, tCall2, fnT, sNewD, isNd, iL_len, hk, if_pos hz]
  have eP : ∀ (f : PyData → Tree (Option PyData)) (g : Nat → Option PyData), (∀ (i : Nat) w, (stW n a b s)[i]? = some w → f (.tuple [.int (i : Int), .int w]) = .ret (g i)) → pickT f (prs (nums a.length) (iL (stW n a b s))) = .ret ((List.range a.length).filterMap g) := fun f g hf => by
    have := pickT_en (ws := stW n a b s) (g := g) hf
    rw [hk] at this
    exact this
  have eM : ∀ (f : PyData → Tree PyData) (c : List Nat), (∀ q ∈ c, q < a.length) → (∀ q : Nat, q < a.length → f (.int (q : Int)) = .ret (.int (aimF n b s q))) → mapT f (iL (nI c)) = .ret (iL (c.map (aimF n b s))) := fun f c hc hf => by
    unfold iL nI
    rw [List.map_map, mapT_map, mapT_ret (g := fun q => .int (aimF n b s q)) fun q hq => hf q (hc q hq), List.map_map]
    rfl
  rw [eP _ (fun p => if (goF n a b s p && !wtF n a b s p) = true then some (.list (iL ((chP n a b s p).map (aimF n b s)))) else none) fun i w hw => by
    have hi : i < a.length := by rw [← hk]; exact (List.getElem?_eq_some_iff.mp hw).1
    rw [stW_get hi] at hw
    cases hw
    have hg : decide (0 < xOf n a (i : Int) - xOf n b ((i : Int) - (s : Int))) = goF n a b s i := rfl
    simp only [Nat.reduceSub, Nat.reduceAdd, reduceIte, Tree.bind, liftO, dIdx, sAsgL, sPar4, dV, dC, d1, d2, t1, t2, l0, lC, dL, dT, aV, aE, a0, aC, dCall, dCallK, dIf, tTr, tV, truth, asB, tNot, tAnd, tOr, dAnd, dOr, sSet, sAsg, sPar, sRet, s0, sC, sIf, sX, sOwn, sApp, sFrz, frzE, sFor, outV, fnF, lenIs, ent, small, few, putE, putsE, wipeE, it_l, it_t, iS, iR1, iR2, wEn, wZ2, wZ3, dLc, dLf, dSl, oN, oS, pCut, pSub, cI, bD, pIx, pList, pTup, pLen, pNot, qIsN, qNotN, pIsN, pNotN, List.getElem?_cons_succ, List.getElem?_cons_zero, List.set_cons_succ, List.set_cons_zero, List.length_cons, List.length_nil, List.map_cons, List.map_nil, List.foldr_cons, List.foldr_nil, List.replicate_succ, List.replicate_zero, List.cons_append, List.nil_append, sOPar, sOOPar, dOIx, sNest, sCallP, dOLen, fnP, pC, pFrz, dPr, nApp, nIf, nEnd, sN0, sN1, lendE, frzW, sSetK, dGet, dZipD, dPairD, pMax2, sDD, sND, tNeN, sLock, lockE, odcE, tdE, dttE, tC, tLock, tRet, dGetO, dIdxO, tNinD, sPutO, tDen, sUpd, sCpT, iDtt, dSrtD, sParDt, sParDt3, tCall2, fnT, sNewD, isNd, cGt, hg]
    cases hG : goF n a b s i with
    | false => rfl
    | true =>
      simp only [Nat.reduceSub, Nat.reduceAdd, reduceIte, Tree.bind, liftO, dIdx, sAsgL, sPar4, dV, dC, d1, d2, t1, t2, l0, lC, dL, dT, aV, aE, a0, aC, dCall, dCallK, dIf, tTr, tV, truth, asB, tNot, tAnd, tOr, dAnd, dOr, sSet, sAsg, sPar, sRet, s0, sC, sIf, sX, sOwn, sApp, sFrz, frzE, sFor, outV, fnF, lenIs, ent, small, few, putE, putsE, wipeE, it_l, it_t, iS, iR1, iR2, wEn, wZ2, wZ3, dLc, dLf, dSl, oN, oS, pCut, pSub, cI, bD, pIx, pList, pTup, pLen, pNot, qIsN, qNotN, pIsN, pNotN, List.getElem?_cons_succ, List.getElem?_cons_zero, List.set_cons_succ, List.set_cons_zero, List.length_cons, List.length_nil, List.map_cons, List.map_nil, List.foldr_cons, List.foldr_nil, List.replicate_succ, List.replicate_zero, List.cons_append, List.nil_append, sOPar, sOOPar, dOIx, sNest, sCallP, dOLen, fnP, pC, pFrz, dPr, nApp, nIf, nEnd, sN0, sN1, lendE, frzW, sSetK, dGet, dZipD, dPairD, pMax2, sDD, sND, tNeN, sLock, lockE, odcE, tdE, dttE, tC, tLock, tRet, dGetO, dIdxO, tNinD, sPutO, tDen, sUpd, sCpT, iDtt, dSrtD, sParDt, sParDt3, tCall2, fnT, sNewD, isNd, wix i hi]
      cases hW : wtF n a b s i with
      | true => rfl
      | false =>
        have hcl : (chP n a b s i).length ≤ 101 := by
          have := chN_len (wtF n a b s) a.length 100 ((i + 1) % a.length)
          unfold chP
          rw [List.length_cons]
          omega
        have hnl : (nI (chP n a b s i)).length = (chP n a b s i).length := List.length_map ..
        simp only [Nat.reduceSub, Nat.reduceAdd, reduceIte, Tree.bind, liftO, dIdx, sAsgL, sPar4, dV, dC, d1, d2, t1, t2, l0, lC, dL, dT, aV, aE, a0, aC, dCall, dCallK, dIf, tTr, tV, truth, asB, tNot, tAnd, tOr, dAnd, dOr, sSet, sAsg, sPar, sRet, s0, sC, sIf, sX, sOwn, sApp, sFrz, frzE, sFor, outV, fnF, lenIs, ent, small, few, putE, putsE, wipeE, it_l, it_t, iS, iR1, iR2, wEn, wZ2, wZ3, dLc, dLf, dSl, oN, oS, pCut, pSub, cI, bD, pIx, pList, pTup, pLen, pNot, qIsN, qNotN, pIsN, pNotN, List.getElem?_cons_succ, List.getElem?_cons_zero, List.set_cons_succ, List.set_cons_zero, List.length_cons, List.length_nil, List.map_cons, List.map_nil, List.foldr_cons, List.foldr_nil, List.replicate_succ, List.replicate_zero, List.cons_append, List.nil_append, sOPar, sOOPar, dOIx, sNest, sCallP, dOLen, fnP, pC, pFrz, dPr, nApp, nIf, nEnd, sN0, sN1, lendE, frzW, sSetK, dGet, dZipD, dPairD, pMax2, sDD, sND, tNeN, sLock, lockE, odcE, tdE, dttE, tC, tLock, tRet, dGetO, dIdxO, tNinD, sPutO, tDen, sUpd, sCpT, iDtt, dSrtD, sParDt, sParDt3, tCall2, fnT, sNewD, isNd, Bool.not_false, Bool.and_self, eC i hi hW, iL_len, hnl, if_pos (show (chP n a b s i).length ≤ 50000 by omega)]
        rw [eM _ _ (chP_lt hi) fun q hq => by simp only [Nat.reduceSub, Nat.reduceAdd, reduceIte, Tree.bind, liftO, dIdx, sAsgL, sPar4, dV, dC, d1, d2, t1, t2, l0, lC, dL, dT, aV, aE, a0, aC, dCall, dCallK, dIf, tTr, tV, truth, asB, tNot, tAnd, tOr, dAnd, dOr, sSet, sAsg, sPar, sRet, s0, sC, sIf, sX, sOwn, sApp, sFrz, frzE, sFor, outV, fnF, lenIs, ent, small, few, putE, putsE, wipeE, it_l, it_t, iS, iR1, iR2, wEn, wZ2, wZ3, dLc, dLf, dSl, oN, oS, pCut, pSub, cI, bD, pIx, pList, pTup, pLen, pNot, qIsN, qNotN, pIsN, pNotN, List.getElem?_cons_succ, List.getElem?_cons_zero, List.set_cons_succ, List.set_cons_zero, List.length_cons, List.length_nil, List.map_cons, List.map_nil, List.foldr_cons, List.foldr_nil, List.replicate_succ, List.replicate_zero, List.cons_append, List.nil_append, sOPar, sOOPar, dOIx, sNest, sCallP, dOLen, fnP, pC, pFrz, dPr, nApp, nIf, nEnd, sN0, sN1, lendE, frzW, sSetK, dGet, dZipD, dPairD, pMax2, sDD, sND, tNeN, sLock, lockE, odcE, tdE, dttE, tC, tLock, tRet, dGetO, dIdxO, tNinD, sPutO, tDen, sUpd, sCpT, iDtt, dSrtD, sParDt, sParDt3, tCall2, fnT, sNewD, isNd, aix q hq]]
        simp only [Nat.reduceSub, Nat.reduceAdd, reduceIte, Tree.bind, liftO, dIdx, sAsgL, sPar4, dV, dC, d1, d2, t1, t2, l0, lC, dL, dT, aV, aE, a0, aC, dCall, dCallK, dIf, tTr, tV, truth, asB, tNot, tAnd, tOr, dAnd, dOr, sSet, sAsg, sPar, sRet, s0, sC, sIf, sX, sOwn, sApp, sFrz, frzE, sFor, outV, fnF, lenIs, ent, small, few, putE, putsE, wipeE, it_l, it_t, iS, iR1, iR2, wEn, wZ2, wZ3, dLc, dLf, dSl, oN, oS, pCut, pSub, cI, bD, pIx, pList, pTup, pLen, pNot, qIsN, qNotN, pIsN, pNotN, List.getElem?_cons_succ, List.getElem?_cons_zero, List.set_cons_succ, List.set_cons_zero, List.length_cons, List.length_nil, List.map_cons, List.map_nil, List.foldr_cons, List.foldr_nil, List.replicate_succ, List.replicate_zero, List.cons_append, List.nil_append, sOPar, sOOPar, dOIx, sNest, sCallP, dOLen, fnP, pC, pFrz, dPr, nApp, nIf, nEnd, sN0, sN1, lendE, frzW, sSetK, dGet, dZipD, dPairD, pMax2, sDD, sND, tNeN, sLock, lockE, odcE, tdE, dttE, tC, tLock, tRet, dGetO, dIdxO, tNinD, sPutO, tDen, sUpd, sCpT, iDtt, dSrtD, sParDt, sParDt3, tCall2, fnT, sNewD, isNd]]
  simp only [Tree.bind, liftO, dIdx, sAsgL, sPar4, dV, dC, d1, d2, t1, t2, l0, lC, dL, dT, aV, aE, a0, aC, dCall, dCallK, dIf, tTr, tV, truth, asB, tNot, tAnd, tOr, dAnd, dOr, sSet, sAsg, sPar, sRet, s0, sC, sIf, sX, sOwn, sApp, sFrz, frzE, sFor, outV, fnF, lenIs, ent, small, few, putE, putsE, wipeE, it_l, it_t, iS, iR1, iR2, wEn, wZ2, wZ3, dLc, dLf, dSl, oN, oS, pCut, pSub, cI, bD, pIx, pList, pTup, pLen, pNot, qIsN, qNotN, pIsN, pNotN, List.getElem?_cons_succ, List.getElem?_cons_zero, List.set_cons_succ, List.set_cons_zero, List.length_cons, List.length_nil, List.map_cons, List.map_nil, List.foldr_cons, List.foldr_nil, List.replicate_succ, List.replicate_zero, List.cons_append, List.nil_append, sOPar, sOOPar, dOIx, sNest, sCallP, dOLen, fnP, pC, pFrz, dPr, nApp, nIf, nEnd, sN0, sN1, lendE, frzW, sSetK, dGet, dZipD, dPairD, pMax2, sDD, sND, tNeN, sLock, lockE, odcE, tdE, dttE, tC, tLock, tRet, dGetO, dIdxO, tNinD, sPutO, tDen, sUpd, sCpT, iDtt, dSrtD, sParDt, sParDt3, tCall2, fnT, sNewD, isNd]
  congr 2
  unfold CAs CPs dLs
  rw [List.map_map, List.map_map]
  rw [fm_if (fun p => goF n a b s p && !wtF n a b s p) (fun p => PyData.list (iL ((chP n a b s p).map (aimF n b s))))]
  rfl
def fct : Nat → Nat
  | 0 => 1
  | m + 1 => (m + 1) * fct m
theorem fct_pos : ∀ m, 0 < fct m
  | 0 => Nat.one_pos
  | m + 1 => Nat.mul_pos (Nat.succ_pos m) (fct_pos m)
theorem ev_orders_many {m : Nat} (h : m ≤ 10) : m_orders_many [.d (.int (m : Int))] = .ret (.int ((fct m : Nat) : Int)) := by
  match m, h with
  | 0, _ => rfl
  | 1, _ => rfl
  | 2, _ => rfl
  | 3, _ => rfl
  | 4, _ => rfl
  | 5, _ => rfl
  | 6, _ => rfl
  | 7, _ => rfl
  | 8, _ => rfl
  | 9, _ => rfl
  | 10, _ => rfl
  | m + 11, h => omega
theorem fct_10 {m : Nat} (h : m ≤ 10) : fct m < 1073741824 := by
  match m, h with
  | 0, _ => decide
  | 1, _ => decide
  | 2, _ => decide
  | 3, _ => decide
  | 4, _ => decide
  | 5, _ => decide
  | 6, _ => decide
  | 7, _ => decide
  | 8, _ => decide
  | 9, _ => decide
  | 10, _ => decide
  | m + 11, h => omega
def sumN : List (List Int) → Nat
  | [] => 0
  | c :: l => c.length + sumN l
def divN : Nat → List (List Int) → Nat
  | r, [] => r
  | r, c :: l => divN (r / fct c.length) l
def mixN (CA : List (List Int)) : Nat := divN (fct (sumN CA)) CA
theorem divN_le : ∀ (CA : List (List Int)) (r : Nat), divN r CA ≤ r
  | [], r => Nat.le_refl _
  | c :: l, r => Nat.le_trans (divN_le l _) (Nat.div_le_self _ _)
theorem sumN_len : ∀ CA : List (List Int), ∀ c ∈ CA, c.length ≤ sumN CA
  | [], c, h => by cases h
  | d :: l, c, h => by
    rcases List.mem_cons.mp h with rfl | h
    · exact Nat.le_add_right _ _
    · exact Nat.le_trans (sumN_len l c h) (Nat.le_add_left _ _)
theorem sum_sumN : ∀ CA : List (List Int), (CA.map fun c => ((c.length : Nat) : Int)).sum = ((sumN CA : Nat) : Int)
  | [] => rfl
  | c :: l => by
    rw [List.map_cons, List.sum_cons, sum_sumN l]
    show _ = ((c.length + sumN l : Nat) : Int)
    omega
theorem mapT_dLs {β : Type} {f : PyData → Tree β} {g : List Int → β} {CA : List (List Int)} (h : ∀ c ∈ CA, f (.list (iL c)) = .ret (g c)) : mapT f (dLs CA) = .ret (CA.map g) := by
  unfold dLs
  rw [mapT_map]
  exact mapT_ret h
theorem mix_loop {D : PyData} (OM : List W → Tree PyData) (hOM : ∀ m : Nat, m ≤ 10 → OM [.d (.int (m : Int))] = .ret (.int ((fct m : Nat) : Int))) : ∀ (CA : List (List Int)) (r : Nat) (x2 : Option W), (∀ c ∈ CA, c.length ≤ 10) → ∃ y2, forT (.nm 2) (sSet 1 (d2 pDiv (dV 1) (dCall OM (aC (aE (d1 pLen (dV 2))) a0)))) (dLs CA) [some (.d D), some (.d (.int (r : Int))), x2] = .ret (.nx [some (.d D), some (.d (.int ((divN r CA : Nat) : Int))), y2])
  | [], r, x2, _ => ⟨x2, rfl⟩
  | c :: l, r, x2, h => by
    have hc := h c (List.mem_cons_self ..)
    have st : (sSet 1 (d2 pDiv (dV 1) (dCall OM (aC (aE (d1 pLen (dV 2))) a0)))) [some (.d D), some (.d (.int (r : Int))), some (.d (.list (iL c)))] = .ret (.nx [some (.d D), some (.d (.int ((r / fct c.length : Nat) : Int))), some (.d (.list (iL c)))]) := by
      have h0 := fct_pos c.length
      have h1 := fct_10 hc
      simp only [Nat.reduceSub, Nat.reduceAdd, reduceIte, Tree.bind, liftO, dIdx, sAsgL, sPar4, dV, dC, d1, d2, t1, t2, l0, lC, dL, dT, aV, aE, a0, aC, dCall, dCallK, dIf, tTr, tV, truth, asB, tNot, tAnd, tOr, dAnd, dOr, sSet, sAsg, sPar, sRet, s0, sC, sIf, sX, sOwn, sApp, sFrz, frzE, sFor, outV, fnF, lenIs, ent, small, few, putE, putsE, wipeE, it_l, it_t, iS, iR1, iR2, wEn, wZ2, wZ3, dLc, dLf, dSl, oN, oS, pCut, pSub, cI, bD, pIx, pList, pTup, pLen, pNot, qIsN, qNotN, pIsN, pNotN, List.getElem?_cons_succ, List.getElem?_cons_zero, List.set_cons_succ, List.set_cons_zero, List.length_cons, List.length_nil, List.map_cons, List.map_nil, List.foldr_cons, List.foldr_nil, List.replicate_succ, List.replicate_zero, List.cons_append, List.nil_append, sOPar, sOOPar, dOIx, sNest, sCallP, dOLen, fnP, pC, pFrz, dPr, nApp, nIf, nEnd, sN0, sN1, lendE, frzW, sSetK, dGet, dZipD, dPairD, pMax2, sDD, sND, tNeN, sLock, lockE, odcE, tdE, dttE, tC, tLock, tRet, dGetO, dIdxO, tNinD, sPutO, tDen, sUpd, sCpT, iDtt, dSrtD, sParDt, sParDt3, tCall2, fnT, sNewD, isNd, iL_len, hOM _ hc, pDiv_of (show (0 : Int) < ((fct c.length : Nat) : Int) by omega) (show ((fct c.length : Nat) : Int) < 1073741824 by omega)]
      congr 4
    obtain ⟨y2, ih⟩ := mix_loop OM hOM l (r / fct c.length) (some (.d (.list (iL c)))) fun d hd => h d (List.mem_cons_of_mem _ hd)
    refine ⟨y2, ?_⟩
    show forT (.nm 2) _ (.list (iL c) :: dLs l) _ = _
    rw [forT]
    simp only [putE, List.set_cons_succ, List.set_cons_zero, liftO, Tree.bind, st]
    exact ih
theorem ev_mixed_many {CA : List (List Int)} (h : sumN CA ≤ 10) (hl : CA.length ≤ 1000) : m_mixed_many [.d (.list (dLs CA))] = .ret (.int ((mixN CA : Nat) : Int)) := by
  have hOM : ∀ m : Nat, m ≤ 10 → m_orders_many [.d (.int (m : Int))] = .ret (.int ((fct m : Nat) : Int)) := fun m hm => ev_orders_many hm
  have hcl : ∀ c ∈ CA, c.length ≤ 10 := fun c hc => Nat.le_trans (sumN_len CA c hc) h
  obtain ⟨y2, run⟩ := mix_loop (D := .list (dLs CA)) m_orders_many hOM CA (fct (sumN CA)) none hcl
  unfold m_mixed_many b_mixed_many
  generalize m_orders_many = OM at hOM run ⊢
  simp only [Nat.reduceSub, Nat.reduceAdd, reduceIte, Tree.bind, liftO, dIdx, sAsgL, sPar4, dV, dC, d1, d2, t1, t2, l0, lC, dL, dT, aV, aE, a0, aC, dCall, dCallK, dIf, tTr, tV, truth, asB, tNot, tAnd, tOr, dAnd, dOr, sSet, sAsg, sPar, sRet, s0, sC, sIf, sX, sOwn, sApp, sFrz, frzE, sFor, outV, fnF, lenIs, ent, small, few, putE, putsE, wipeE, it_l, it_t, iS, iR1, iR2, wEn, wZ2, wZ3, dLc, dLf, dSl, oN, oS, pCut, pSub, cI, bD, pIx, pList, pTup, pLen, pNot, qIsN, qNotN, pIsN, pNotN, List.getElem?_cons_succ, List.getElem?_cons_zero, List.set_cons_succ, List.set_cons_zero, List.length_cons, List.length_nil, List.map_cons, List.map_nil, List.foldr_cons, List.foldr_nil, List.replicate_succ, List.replicate_zero, List.cons_append, List.nil_append, sOPar, sOOPar, dOIx, sNest, sCallP, dOLen, fnP, pC, pFrz, dPr, nApp, nIf, nEnd, sN0, sN1, lendE, frzW, sSetK, dGet, dZipD, dPairD, pMax2, sDD, sND, tNeN, sLock, lockE, odcE, tdE, dttE, tC, tLock, tRet, dGetO, dIdxO, tNinD, sPutO, tDen, sUpd, sCpT, iDtt, dSrtD, sParDt, sParDt3, tCall2, fnT, sNewD, isNd, dLs_len, if_pos (show CA.length ≤ 50000 by omega)]
  rw [mapT_dLs (g := fun c => .int ((c.length : Nat) : Int)) fun c hc => by simp only [Nat.reduceSub, Nat.reduceAdd, reduceIte, Tree.bind, liftO, dIdx, sAsgL, sPar4, dV, dC, d1, d2, t1, t2, l0, lC, dL, dT, aV, aE, a0, aC, dCall, dCallK, dIf, tTr, tV, truth, asB, tNot, tAnd, tOr, dAnd, dOr, sSet, sAsg, sPar, sRet, s0, sC, sIf, sX, sOwn, sApp, sFrz, frzE, sFor, outV, fnF, lenIs, ent, small, few, putE, putsE, wipeE, it_l, it_t, iS, iR1, iR2, wEn, wZ2, wZ3, dLc, dLf, dSl, oN, oS, pCut, pSub, cI, bD, pIx, pList, pTup, pLen, pNot, qIsN, qNotN, pIsN, pNotN, List.getElem?_cons_succ, List.getElem?_cons_zero, List.set_cons_succ, List.set_cons_zero, List.length_cons, List.length_nil, List.map_cons, List.map_nil, List.foldr_cons, List.foldr_nil, List.replicate_succ, List.replicate_zero, List.cons_append, List.nil_append, sOPar, sOOPar, dOIx, sNest, sCallP, dOLen, fnP, pC, pFrz, dPr, nApp, nIf, nEnd, sN0, sN1, lendE, frzW, sSetK, dGet, dZipD, dPairD, pMax2, sDD, sND, tNeN, sLock, lockE, odcE, tdE, dttE, tC, tLock, tRet, dGetO, dIdxO, tNinD, sPutO, tDen, sUpd, sCpT, iDtt, dSrtD, sParDt, sParDt3, tCall2, fnT, sNewD, isNd, iL_len]]
  rw [show (CA.map fun c => PyData.int ((c.length : Nat) : Int)) = iL (CA.map fun c => ((c.length : Nat) : Int)) by unfold iL; rw [List.map_map]; rfl]
  simp only [Nat.reduceSub, Nat.reduceAdd, reduceIte, Tree.bind, liftO, dIdx, sAsgL, sPar4, dV, dC, d1, d2, t1, t2, l0, lC, dL, dT, aV, aE, a0, aC, dCall, dCallK, dIf, tTr, tV, truth, asB, tNot, tAnd, tOr, dAnd, dOr, sSet, sAsg, sPar, sRet, s0, sC, sIf, sX, sOwn, sApp, sFrz, frzE, sFor, outV, fnF, lenIs, ent, small, few, putE, putsE, wipeE, it_l, it_t, iS, iR1, iR2, wEn, wZ2, wZ3, dLc, dLf, dSl, oN, oS, pCut, pSub, cI, bD, pIx, pList, pTup, pLen, pNot, qIsN, qNotN, pIsN, pNotN, List.getElem?_cons_succ, List.getElem?_cons_zero, List.set_cons_succ, List.set_cons_zero, List.length_cons, List.length_nil, List.map_cons, List.map_nil, List.foldr_cons, List.foldr_nil, List.replicate_succ, List.replicate_zero, List.cons_append, List.nil_append, sOPar, sOOPar, dOIx, sNest, sCallP, dOLen, fnP, pC, pFrz, dPr, nApp, nIf, nEnd, sN0, sN1, lendE, frzW, sSetK, dGet, dZipD, dPairD, pMax2, sDD, sND, tNeN, sLock, lockE, odcE, tdE, dttE, tC, tLock, tRet, dGetO, dIdxO, tNinD, sPutO, tDen, sUpd, sCpT, iDtt, dSrtD, sParDt, sParDt3, tCall2, fnT, sNewD, isNd, pSum_of, sum_sumN, hOM _ h]
  have run : forT (.nm 2) (sSet 1 (d2 pDiv (dV 1) (dCall OM (aC (aE (d1 pLen (dV 2))) a0)))) (dLs CA) [some (.d (.list (dLs CA))), some (.d (.int ((fct (sumN CA) : Nat) : Int))), none] = _ := run
  rw [run]
  simp only [Nat.reduceSub, Nat.reduceAdd, reduceIte, Tree.bind, liftO, dIdx, sAsgL, sPar4, dV, dC, d1, d2, t1, t2, l0, lC, dL, dT, aV, aE, a0, aC, dCall, dCallK, dIf, tTr, tV, truth, asB, tNot, tAnd, tOr, dAnd, dOr, sSet, sAsg, sPar, sRet, s0, sC, sIf, sX, sOwn, sApp, sFrz, frzE, sFor, outV, fnF, lenIs, ent, small, few, putE, putsE, wipeE, it_l, it_t, iS, iR1, iR2, wEn, wZ2, wZ3, dLc, dLf, dSl, oN, oS, pCut, pSub, cI, bD, pIx, pList, pTup, pLen, pNot, qIsN, qNotN, pIsN, pNotN, List.getElem?_cons_succ, List.getElem?_cons_zero, List.set_cons_succ, List.set_cons_zero, List.length_cons, List.length_nil, List.map_cons, List.map_nil, List.foldr_cons, List.foldr_nil, List.replicate_succ, List.replicate_zero, List.cons_append, List.nil_append, sOPar, sOOPar, dOIx, sNest, sCallP, dOLen, fnP, pC, pFrz, dPr, nApp, nIf, nEnd, sN0, sN1, lendE, frzW, sSetK, dGet, dZipD, dPairD, pMax2, sDD, sND, tNeN, sLock, lockE, odcE, tdE, dttE, tC, tLock, tRet, dGetO, dIdxO, tNinD, sPutO, tDen, sUpd, sCpT, iDtt, dSrtD, sParDt, sParDt3, tCall2, fnT, sNewD, isNd]
  rfl
theorem ev_next_chairs {CA : List (List Int)} (h : ∀ c ∈ CA, c ≠ []) (hl : CA.length ≤ 1000) : m_next_chairs [.d (.list (dLs CA))] = .ret (.list (iL (CA.map fun c => c.headD 0))) := by
  simp only [m_next_chairs, b_next_chairs, Nat.reduceSub, Nat.reduceAdd, reduceIte, Tree.bind, liftO, dIdx, sAsgL, sPar4, dV, dC, d1, d2, t1, t2, l0, lC, dL, dT, aV, aE, a0, aC, dCall, dCallK, dIf, tTr, tV, truth, asB, tNot, tAnd, tOr, dAnd, dOr, sSet, sAsg, sPar, sRet, s0, sC, sIf, sX, sOwn, sApp, sFrz, frzE, sFor, outV, fnF, lenIs, ent, small, few, putE, putsE, wipeE, it_l, it_t, iS, iR1, iR2, wEn, wZ2, wZ3, dLc, dLf, dSl, oN, oS, pCut, pSub, cI, bD, pIx, pList, pTup, pLen, pNot, qIsN, qNotN, pIsN, pNotN, List.getElem?_cons_succ, List.getElem?_cons_zero, List.set_cons_succ, List.set_cons_zero, List.length_cons, List.length_nil, List.map_cons, List.map_nil, List.foldr_cons, List.foldr_nil, List.replicate_succ, List.replicate_zero, List.cons_append, List.nil_append, sOPar, sOOPar, dOIx, sNest, sCallP, dOLen, fnP, pC, pFrz, dPr, nApp, nIf, nEnd, sN0, sN1, lendE, frzW, sSetK, dGet, dZipD, dPairD, pMax2, sDD, sND, tNeN, sLock, lockE, odcE, tdE, dttE, tC, tLock, tRet, dGetO, dIdxO, tNinD, sPutO, tDen, sUpd, sCpT, iDtt, dSrtD, sParDt, sParDt3, tCall2, fnT, sNewD, isNd, dLs_len, if_pos (show CA.length ≤ 50000 by omega)]
  rw [mapT_dLs (g := fun c => .int (c.headD 0)) fun c hc => by
    have hz : atI (iL c) 0 = some (.int (c.headD 0)) := by
      cases c with
      | nil => exact absurd rfl (h _ hc)
      | cons x c => exact iL_atI (r := x :: c) (b := 0) rfl
    simp only [Nat.reduceSub, Nat.reduceAdd, reduceIte, Tree.bind, liftO, dIdx, sAsgL, sPar4, dV, dC, d1, d2, t1, t2, l0, lC, dL, dT, aV, aE, a0, aC, dCall, dCallK, dIf, tTr, tV, truth, asB, tNot, tAnd, tOr, dAnd, dOr, sSet, sAsg, sPar, sRet, s0, sC, sIf, sX, sOwn, sApp, sFrz, frzE, sFor, outV, fnF, lenIs, ent, small, few, putE, putsE, wipeE, it_l, it_t, iS, iR1, iR2, wEn, wZ2, wZ3, dLc, dLf, dSl, oN, oS, pCut, pSub, cI, bD, pIx, pList, pTup, pLen, pNot, qIsN, qNotN, pIsN, pNotN, List.getElem?_cons_succ, List.getElem?_cons_zero, List.set_cons_succ, List.set_cons_zero, List.length_cons, List.length_nil, List.map_cons, List.map_nil, List.foldr_cons, List.foldr_nil, List.replicate_succ, List.replicate_zero, List.cons_append, List.nil_append, sOPar, sOOPar, dOIx, sNest, sCallP, dOLen, fnP, pC, pFrz, dPr, nApp, nIf, nEnd, sN0, sN1, lendE, frzW, sSetK, dGet, dZipD, dPairD, pMax2, sDD, sND, tNeN, sLock, lockE, odcE, tdE, dttE, tC, tLock, tRet, dGetO, dIdxO, tNinD, sPutO, tDen, sUpd, sCpT, iDtt, dSrtD, sParDt, sParDt3, tCall2, fnT, sNewD, isNd, hz]]
  rw [show (CA.map fun c => PyData.int (c.headD 0)) = iL (CA.map fun c => c.headD 0) by unfold iL; rw [List.map_map]; rfl]
  simp only [Tree.bind, liftO, dIdx, sAsgL, sPar4, dV, dC, d1, d2, t1, t2, l0, lC, dL, dT, aV, aE, a0, aC, dCall, dCallK, dIf, tTr, tV, truth, asB, tNot, tAnd, tOr, dAnd, dOr, sSet, sAsg, sPar, sRet, s0, sC, sIf, sX, sOwn, sApp, sFrz, frzE, sFor, outV, fnF, lenIs, ent, small, few, putE, putsE, wipeE, it_l, it_t, iS, iR1, iR2, wEn, wZ2, wZ3, dLc, dLf, dSl, oN, oS, pCut, pSub, cI, bD, pIx, pList, pTup, pLen, pNot, qIsN, qNotN, pIsN, pNotN, List.getElem?_cons_succ, List.getElem?_cons_zero, List.set_cons_succ, List.set_cons_zero, List.length_cons, List.length_nil, List.map_cons, List.map_nil, List.foldr_cons, List.foldr_nil, List.replicate_succ, List.replicate_zero, List.cons_append, List.nil_append, sOPar, sOOPar, dOIx, sNest, sCallP, dOLen, fnP, pC, pFrz, dPr, nApp, nIf, nEnd, sN0, sN1, lendE, frzW, sSetK, dGet, dZipD, dPairD, pMax2, sDD, sND, tNeN, sLock, lockE, odcE, tdE, dttE, tC, tLock, tRet, dGetO, dIdxO, tNinD, sPutO, tDen, sUpd, sCpT, iDtt, dSrtD, sParDt, sParDt3, tCall2, fnT, sNewD, isNd]
def aft (CA : List (List Int)) (c : Int) : List (List Int) := (CA.map fun ch => if ch.headD 0 = c then ch.drop 1 else ch).filter fun ch => !ch.isEmpty
theorem ev_chains_after {CA : List (List Int)} {c : Int} (h : ∀ c ∈ CA, c ≠ []) (hl : CA.length ≤ 1000) : m_chains_after [.d (.list (dLs CA)), .d (.int c)] = .ret (.list (dLs (aft CA c))) := by
  simp only [m_chains_after, b_chains_after, Nat.reduceSub, Nat.reduceAdd, reduceIte, Tree.bind, liftO, dIdx, sAsgL, sPar4, dV, dC, d1, d2, t1, t2, l0, lC, dL, dT, aV, aE, a0, aC, dCall, dCallK, dIf, tTr, tV, truth, asB, tNot, tAnd, tOr, dAnd, dOr, sSet, sAsg, sPar, sRet, s0, sC, sIf, sX, sOwn, sApp, sFrz, frzE, sFor, outV, fnF, lenIs, ent, small, few, putE, putsE, wipeE, it_l, it_t, iS, iR1, iR2, wEn, wZ2, wZ3, dLc, dLf, dSl, oN, oS, pCut, pSub, cI, bD, pIx, pList, pTup, pLen, pNot, qIsN, qNotN, pIsN, pNotN, List.getElem?_cons_succ, List.getElem?_cons_zero, List.set_cons_succ, List.set_cons_zero, List.length_cons, List.length_nil, List.map_cons, List.map_nil, List.foldr_cons, List.foldr_nil, List.replicate_succ, List.replicate_zero, List.cons_append, List.nil_append, sOPar, sOOPar, dOIx, sNest, sCallP, dOLen, fnP, pC, pFrz, dPr, nApp, nIf, nEnd, sN0, sN1, lendE, frzW, sSetK, dGet, dZipD, dPairD, pMax2, sDD, sND, tNeN, sLock, lockE, odcE, tdE, dttE, tC, tLock, tRet, dGetO, dIdxO, tNinD, sPutO, tDen, sUpd, sCpT, iDtt, dSrtD, sParDt, sParDt3, tCall2, fnT, sNewD, isNd, dLs_len, if_pos (show CA.length ≤ 50000 by omega)]
  rw [mapT_dLs (g := fun ch => .list (iL (if ch.headD 0 = c then ch.drop 1 else ch))) fun ch hc => by
    have hz : atI (iL ch) 0 = some (.int (ch.headD 0)) := by
      cases ch with
      | nil => exact absurd rfl (h _ hc)
      | cons x c => exact iL_atI (r := x :: c) (b := 0) rfl
    simp only [Nat.reduceSub, Nat.reduceAdd, reduceIte, Tree.bind, liftO, dIdx, sAsgL, sPar4, dV, dC, d1, d2, t1, t2, l0, lC, dL, dT, aV, aE, a0, aC, dCall, dCallK, dIf, tTr, tV, truth, asB, tNot, tAnd, tOr, dAnd, dOr, sSet, sAsg, sPar, sRet, s0, sC, sIf, sX, sOwn, sApp, sFrz, frzE, sFor, outV, fnF, lenIs, ent, small, few, putE, putsE, wipeE, it_l, it_t, iS, iR1, iR2, wEn, wZ2, wZ3, dLc, dLf, dSl, oN, oS, pCut, pSub, cI, bD, pIx, pList, pTup, pLen, pNot, qIsN, qNotN, pIsN, pNotN, List.getElem?_cons_succ, List.getElem?_cons_zero, List.set_cons_succ, List.set_cons_zero, List.length_cons, List.length_nil, List.map_cons, List.map_nil, List.foldr_cons, List.foldr_nil, List.replicate_succ, List.replicate_zero, List.cons_append, List.nil_append, sOPar, sOOPar, dOIx, sNest, sCallP, dOLen, fnP, pC, pFrz, dPr, nApp, nIf, nEnd, sN0, sN1, lendE, frzW, sSetK, dGet, dZipD, dPairD, pMax2, sDD, sND, tNeN, sLock, lockE, odcE, tdE, dttE, tC, tLock, tRet, dGetO, dIdxO, tNinD, sPutO, tDen, sUpd, sCpT, iDtt, dSrtD, sParDt, sParDt3, tCall2, fnT, sNewD, isNd, hz, pEq_ii]
    by_cases e : ch.headD 0 = c
    · rw [decide_eq_true e, if_pos e]
      simp only [Nat.reduceSub, Nat.reduceAdd, reduceIte, Tree.bind, liftO, dIdx, sAsgL, sPar4, dV, dC, d1, d2, t1, t2, l0, lC, dL, dT, aV, aE, a0, aC, dCall, dCallK, dIf, tTr, tV, truth, asB, tNot, tAnd, tOr, dAnd, dOr, sSet, sAsg, sPar, sRet, s0, sC, sIf, sX, sOwn, sApp, sFrz, frzE, sFor, outV, fnF, lenIs, ent, small, few, putE, putsE, wipeE, it_l, it_t, iS, iR1, iR2, wEn, wZ2, wZ3, dLc, dLf, dSl, oN, oS, pCut, pSub, cI, bD, pIx, pList, pTup, pLen, pNot, qIsN, qNotN, pIsN, pNotN, List.getElem?_cons_succ, List.getElem?_cons_zero, List.set_cons_succ, List.set_cons_zero, List.length_cons, List.length_nil, List.map_cons, List.map_nil, List.foldr_cons, List.foldr_nil, List.replicate_succ, List.replicate_zero, List.cons_append, List.nil_append, sOPar, sOOPar, dOIx, sNest, sCallP, dOLen, fnP, pC, pFrz, dPr, nApp, nIf, nEnd, sN0, sN1, lendE, frzW, sSetK, dGet, dZipD, dPairD, pMax2, sDD, sND, tNeN, sLock, lockE, odcE, tdE, dttE, tC, tLock, tRet, dGetO, dIdxO, tNinD, sPutO, tDen, sUpd, sCpT, iDtt, dSrtD, sParDt, sParDt3, tCall2, fnT, sNewD, isNd, cutD_1, iL_drop]
    · rw [decide_eq_false e, if_neg e]]
  rw [show (CA.map fun ch => PyData.list (iL (if ch.headD 0 = c then ch.drop 1 else ch))) = dLs (CA.map fun ch => if ch.headD 0 = c then ch.drop 1 else ch) by unfold dLs; rw [List.map_map]; rfl]
  simp only [Nat.reduceSub, Nat.reduceAdd, reduceIte, Tree.bind, liftO, dIdx, sAsgL, sPar4, dV, dC, d1, d2, t1, t2, l0, lC, dL, dT, aV, aE, a0, aC, dCall, dCallK, dIf, tTr, tV, truth, asB, tNot, tAnd, tOr, dAnd, dOr, sSet, sAsg, sPar, sRet, s0, sC, sIf, sX, sOwn, sApp, sFrz, frzE, sFor, outV, fnF, lenIs, ent, small, few, putE, putsE, wipeE, it_l, it_t, iS, iR1, iR2, wEn, wZ2, wZ3, dLc, dLf, dSl, oN, oS, pCut, pSub, cI, bD, pIx, pList, pTup, pLen, pNot, qIsN, qNotN, pIsN, pNotN, List.getElem?_cons_succ, List.getElem?_cons_zero, List.set_cons_succ, List.set_cons_zero, List.length_cons, List.length_nil, List.map_cons, List.map_nil, List.foldr_cons, List.foldr_nil, List.replicate_succ, List.replicate_zero, List.cons_append, List.nil_append, sOPar, sOOPar, dOIx, sNest, sCallP, dOLen, fnP, pC, pFrz, dPr, nApp, nIf, nEnd, sN0, sN1, lendE, frzW, sSetK, dGet, dZipD, dPairD, pMax2, sDD, sND, tNeN, sLock, lockE, odcE, tdE, dttE, tC, tLock, tRet, dGetO, dIdxO, tNinD, sPutO, tDen, sUpd, sCpT, iDtt, dSrtD, sParDt, sParDt3, tCall2, fnT, sNewD, isNd, dLs_len, List.length_map, if_pos (show CA.length ≤ 50000 by omega)]
  have pk : ∀ (f : PyData → Tree (Option PyData)) (l : List (List Int)), (∀ ch : List Int, f (.list (iL ch)) = .ret (if (!ch.isEmpty) = true then some (.list (iL ch)) else none)) → pickT f (dLs l) = .ret (dLs (l.filter fun ch => !ch.isEmpty)) := fun f l hf => by
    unfold dLs
    rw [pickT_map, pickT_ret (g := fun ch => if (!ch.isEmpty) = true then some (PyData.list (iL ch)) else none) fun ch _ => hf ch, fm_if]
  rw [pk _ _ fun ch => by
    cases ch with
    | nil => rfl
    | cons x ch => rfl]
  rfl
def lesN (CA : List (List Int)) (c : Int) : Nat := (((CA.map fun ch => ch.headD 0).filter fun o => decide (o < c)).map fun o => mixN (aft CA o)).sum
theorem sumN_aft (CA : List (List Int)) (c : Int) : sumN (aft CA c) ≤ sumN CA := by
  unfold aft
  induction CA with
  | nil => exact Nat.le_refl _
  | cons ch l ih =>
    rw [List.map_cons]
    have h1 : (if ch.headD 0 = c then ch.drop 1 else ch).length ≤ ch.length := by
      split
      · rw [List.length_drop]; omega
      · exact Nat.le_refl _
    by_cases he : (!(if ch.headD 0 = c then ch.drop 1 else ch).isEmpty) = true
    · rw [List.filter_cons, if_pos he]
      exact Nat.add_le_add h1 ih
    · rw [List.filter_cons, if_neg he]
      exact Nat.le_trans ih (Nat.le_add_left _ _)
theorem aft_len (CA : List (List Int)) (c : Int) : (aft CA c).length ≤ CA.length := by
  unfold aft
  exact Nat.le_trans (List.length_filter_le _ _) (by rw [List.length_map]; exact Nat.le_refl _)
theorem sum_cast : ∀ l : List Nat, (l.map fun (j : Nat) => (j : Int)).sum = ((l.sum : Nat) : Int)
  | [] => rfl
  | x :: l => by
    rw [List.map_cons, List.sum_cons, sum_cast l, List.sum_cons]
    omega
theorem ev_lesser_many {CA : List (List Int)} {c : Int} (h : ∀ c ∈ CA, c ≠ []) (hs : sumN CA ≤ 10) (hl : CA.length ≤ 1000) : m_lesser_many [.d (.list (dLs CA)), .d (.int c)] = .ret (.int ((lesN CA c : Nat) : Int)) := by
  have e1 := ev_next_chairs h hl
  have e2 : ∀ o : Int, m_chains_after [.d (.list (dLs CA)), .d (.int o)] = .ret (.list (dLs (aft CA o))) := fun o => ev_chains_after h hl
  have e3 : ∀ o : Int, m_mixed_many [.d (.list (dLs (aft CA o)))] = .ret (.int ((mixN (aft CA o) : Nat) : Int)) := fun o => ev_mixed_many (Nat.le_trans (sumN_aft CA o) hs) (Nat.le_trans (aft_len CA o) hl)
  unfold m_lesser_many b_lesser_many
  generalize m_next_chairs = NC at e1 ⊢
  generalize m_chains_after = CF at e2 ⊢
  generalize m_mixed_many = MM at e3 ⊢
  simp only [Nat.reduceSub, Nat.reduceAdd, reduceIte, Tree.bind, liftO, dIdx, sAsgL, sPar4, dV, dC, d1, d2, t1, t2, l0, lC, dL, dT, aV, aE, a0, aC, dCall, dCallK, dIf, tTr, tV, truth, asB, tNot, tAnd, tOr, dAnd, dOr, sSet, sAsg, sPar, sRet, s0, sC, sIf, sX, sOwn, sApp, sFrz, frzE, sFor, outV, fnF, lenIs, ent, small, few, putE, putsE, wipeE, it_l, it_t, iS, iR1, iR2, wEn, wZ2, wZ3, dLc, dLf, dSl, oN, oS, pCut, pSub, cI, bD, pIx, pList, pTup, pLen, pNot, qIsN, qNotN, pIsN, pNotN, List.getElem?_cons_succ, List.getElem?_cons_zero, List.set_cons_succ, List.set_cons_zero, List.length_cons, List.length_nil, List.map_cons, List.map_nil, List.foldr_cons, List.foldr_nil, List.replicate_succ, List.replicate_zero, List.cons_append, List.nil_append, sOPar, sOOPar, dOIx, sNest, sCallP, dOLen, fnP, pC, pFrz, dPr, nApp, nIf, nEnd, sN0, sN1, lendE, frzW, sSetK, dGet, dZipD, dPairD, pMax2, sDD, sND, tNeN, sLock, lockE, odcE, tdE, dttE, tC, tLock, tRet, dGetO, dIdxO, tNinD, sPutO, tDen, sUpd, sCpT, iDtt, dSrtD, sParDt, sParDt3, tCall2, fnT, sNewD, isNd, e1, iL_len, List.length_map, if_pos (show CA.length ≤ 50000 by omega)]
  have pk : ∀ (f : PyData → Tree (Option PyData)) (l : List Int), (∀ o : Int, f (.int o) = .ret (if decide (o < c) = true then some (.int ((mixN (aft CA o) : Nat) : Int)) else none)) → pickT f (iL l) = .ret (iL (((l.filter fun o => decide (o < c)).map fun o => mixN (aft CA o)).map fun (j : Nat) => (j : Int))) := fun f l hf => by
    unfold iL
    rw [pickT_map, pickT_ret (g := fun o => if decide (o < c) = true then some (PyData.int ((mixN (aft CA o) : Nat) : Int)) else none) fun o _ => hf o, fm_if, List.map_map, List.map_map]
    rfl
  rw [pk _ _ fun o => by
    simp only [Nat.reduceSub, Nat.reduceAdd, reduceIte, Tree.bind, liftO, dIdx, sAsgL, sPar4, dV, dC, d1, d2, t1, t2, l0, lC, dL, dT, aV, aE, a0, aC, dCall, dCallK, dIf, tTr, tV, truth, asB, tNot, tAnd, tOr, dAnd, dOr, sSet, sAsg, sPar, sRet, s0, sC, sIf, sX, sOwn, sApp, sFrz, frzE, sFor, outV, fnF, lenIs, ent, small, few, putE, putsE, wipeE, it_l, it_t, iS, iR1, iR2, wEn, wZ2, wZ3, dLc, dLf, dSl, oN, oS, pCut, pSub, cI, bD, pIx, pList, pTup, pLen, pNot, qIsN, qNotN, pIsN, pNotN, List.getElem?_cons_succ, List.getElem?_cons_zero, List.set_cons_succ, List.set_cons_zero, List.length_cons, List.length_nil, List.map_cons, List.map_nil, List.foldr_cons, List.foldr_nil, List.replicate_succ, List.replicate_zero, List.cons_append, List.nil_append, sOPar, sOOPar, dOIx, sNest, sCallP, dOLen, fnP, pC, pFrz, dPr, nApp, nIf, nEnd, sN0, sN1, lendE, frzW, sSetK, dGet, dZipD, dPairD, pMax2, sDD, sND, tNeN, sLock, lockE, odcE, tdE, dttE, tC, tLock, tRet, dGetO, dIdxO, tNinD, sPutO, tDen, sUpd, sCpT, iDtt, dSrtD, sParDt, sParDt3, tCall2, fnT, sNewD, isNd, cLt]
    cases decide (o < c) with
    | false => rfl
    | true =>
      simp only [Nat.reduceSub, Nat.reduceAdd, reduceIte, Tree.bind, liftO, dIdx, sAsgL, sPar4, dV, dC, d1, d2, t1, t2, l0, lC, dL, dT, aV, aE, a0, aC, dCall, dCallK, dIf, tTr, tV, truth, asB, tNot, tAnd, tOr, dAnd, dOr, sSet, sAsg, sPar, sRet, s0, sC, sIf, sX, sOwn, sApp, sFrz, frzE, sFor, outV, fnF, lenIs, ent, small, few, putE, putsE, wipeE, it_l, it_t, iS, iR1, iR2, wEn, wZ2, wZ3, dLc, dLf, dSl, oN, oS, pCut, pSub, cI, bD, pIx, pList, pTup, pLen, pNot, qIsN, qNotN, pIsN, pNotN, List.getElem?_cons_succ, List.getElem?_cons_zero, List.set_cons_succ, List.set_cons_zero, List.length_cons, List.length_nil, List.map_cons, List.map_nil, List.foldr_cons, List.foldr_nil, List.replicate_succ, List.replicate_zero, List.cons_append, List.nil_append, sOPar, sOOPar, dOIx, sNest, sCallP, dOLen, fnP, pC, pFrz, dPr, nApp, nIf, nEnd, sN0, sN1, lendE, frzW, sSetK, dGet, dZipD, dPairD, pMax2, sDD, sND, tNeN, sLock, lockE, odcE, tdE, dttE, tC, tLock, tRet, dGetO, dIdxO, tNinD, sPutO, tDen, sUpd, sCpT, iDtt, dSrtD, sParDt, sParDt3, tCall2, fnT, sNewD, isNd, e2 o, e3 o]]
  simp only [Nat.reduceSub, Nat.reduceAdd, reduceIte, Tree.bind, liftO, dIdx, sAsgL, sPar4, dV, dC, d1, d2, t1, t2, l0, lC, dL, dT, aV, aE, a0, aC, dCall, dCallK, dIf, tTr, tV, truth, asB, tNot, tAnd, tOr, dAnd, dOr, sSet, sAsg, sPar, sRet, s0, sC, sIf, sX, sOwn, sApp, sFrz, frzE, sFor, outV, fnF, lenIs, ent, small, few, putE, putsE, wipeE, it_l, it_t, iS, iR1, iR2, wEn, wZ2, wZ3, dLc, dLf, dSl, oN, oS, pCut, pSub, cI, bD, pIx, pList, pTup, pLen, pNot, qIsN, qNotN, pIsN, pNotN, List.getElem?_cons_succ, List.getElem?_cons_zero, List.set_cons_succ, List.set_cons_zero, List.length_cons, List.length_nil, List.map_cons, List.map_nil, List.foldr_cons, List.foldr_nil, List.replicate_succ, List.replicate_zero, List.cons_append, List.nil_append, sOPar, sOOPar, dOIx, sNest, sCallP, dOLen, fnP, pC, pFrz, dPr, nApp, nIf, nEnd, sN0, sN1, lendE, frzW, sSetK, dGet, dZipD, dPairD, pMax2, sDD, sND, tNeN, sLock, lockE, odcE, tdE, dttE, tC, tLock, tRet, dGetO, dIdxO, tNinD, sPutO, tDen, sUpd, sCpT, iDtt, dSrtD, sParDt, sParDt3, tCall2, fnT, sNewD, isNd, pSum_of, sum_cast]
  rfl
theorem chN_run (wt : Nat → Bool) (k : Nat) : ∀ f q, q < k → chN wt k f q = (List.range (chN wt k f q).length).map (fun j => (q + j) % k) ∧ ∀ j, j < (chN wt k f q).length → wt ((q + j) % k) = true
  | 0, q, _ => ⟨rfl, fun j h => absurd h (Nat.not_lt_zero _)⟩
  | f + 1, q, hq => by
    by_cases hw : wt q = true
    · have ec : chN wt k (f + 1) q = q :: chN wt k f ((q + 1) % k) := by rw [chN, if_pos hw]
      obtain ⟨h1, h2⟩ := chN_run wt k f ((q + 1) % k) (Nat.mod_lt _ (by omega))
      rw [ec, List.length_cons]
      refine ⟨?_, fun j hj => ?_⟩
      · have e0 : (q + 0) % k = q := Nat.mod_eq_of_lt hq
        rw [List.range_succ_eq_map, List.map_cons, List.map_map, e0]
        congr 1
        conv => lhs; rw [h1]
        refine List.map_congr_left fun j _ => ?_
        show ((q + 1) % k + j) % k = (q + (j + 1)) % k
        rw [Nat.mod_add_mod]
        congr 1
        omega
      · cases j with
        | zero =>
          rw [Nat.add_zero, Nat.mod_eq_of_lt hq]
          exact hw
        | succ j =>
          have := h2 j (by omega)
          rw [Nat.mod_add_mod] at this
          rw [show q + (j + 1) = q + 1 + j by omega]
          exact this
    · have ec : chN wt k (f + 1) q = [] := by rw [chN, if_neg hw]
      rw [ec]
      exact ⟨rfl, fun j h => absurd h (Nat.not_lt_zero _)⟩
theorem chN_has (wt : Nat → Bool) (k : Nat) : ∀ (f q j : Nat), q < k → j < f → (∀ i, i ≤ j → wt ((q + i) % k) = true) → (q + j) % k ∈ chN wt k f q
  | 0, _, _, _, h, _ => absurd h (Nat.not_lt_zero _)
  | f + 1, q, j, hq, hj, h => by
    have hw : wt q = true := by
      have := h 0 (Nat.zero_le _)
      rw [Nat.add_zero, Nat.mod_eq_of_lt hq] at this
      exact this
    have ec : chN wt k (f + 1) q = q :: chN wt k f ((q + 1) % k) := by rw [chN, if_pos hw]
    rw [ec]
    cases j with
    | zero =>
      have e0 : (q + 0) % k = q := Nat.mod_eq_of_lt hq
      rw [e0]
      exact List.mem_cons_self ..
    | succ j =>
      refine List.mem_cons_of_mem _ ?_
      have := chN_has wt k f ((q + 1) % k) j (Nat.mod_lt _ (by omega)) (by omega) fun i hi => by
        have := h (i + 1) (by omega)
        rw [Nat.mod_add_mod, show q + 1 + i = q + (i + 1) by omega]
        exact this
      rw [Nat.mod_add_mod] at this
      rw [show q + (j + 1) = q + 1 + j by omega]
      exact this
def chQ (wt : Nat → Bool) (k p : Nat) : List Nat := p :: chN wt k 100 ((p + 1) % k)
theorem chQ_mem {wt : Nat → Bool} {k p q : Nat} (hp : p < k) (h : q ∈ chQ wt k p) : ∃ j, q = (p + j) % k ∧ ∀ i, 1 ≤ i → i ≤ j → wt ((p + i) % k) = true := by
  rcases List.mem_cons.mp h with rfl | h
  · exact ⟨0, by rw [Nat.add_zero, Nat.mod_eq_of_lt hp], fun i h1 h2 => by omega⟩
  · obtain ⟨h1, h2⟩ := chN_run wt k 100 ((p + 1) % k) (Nat.mod_lt _ (by omega))
    rw [h1] at h
    obtain ⟨j, hj, rfl⟩ := List.mem_map.mp h
    have hj := List.mem_range.mp hj
    refine ⟨j + 1, by rw [Nat.mod_add_mod]; congr 1; omega, fun i i1 i2 => ?_⟩
    have := h2 (i - 1) (by omega)
    rw [Nat.mod_add_mod, show p + 1 + (i - 1) = p + i by omega] at this
    exact this
theorem mod_eq_sub {k a b : Nat} (h : a % k = b % k) (hab : a ≤ b) : (b - a) % k = 0 := by
  have := Nat.sub_mod_eq_zero_of_mod_eq h.symm
  exact this
theorem chQ_start {wt : Nat → Bool} {k p p' q : Nat} (hp : p < k) (hp' : p' < k) (w : wt p = false) (w' : wt p' = false) (h : q ∈ chQ wt k p) (h' : q ∈ chQ wt k p') : p = p' := by
  have key : ∀ {p p' j j' : Nat}, p < k → p' < k → wt p = false → (p + j) % k = (p' + j') % k → (∀ i, 1 ≤ i → i ≤ j' → wt ((p' + i) % k) = true) → j ≤ j' → p = p' := by
    intro p p' j j' hp hp' w e hw hj
    have e2 : p % k = (p' + (j' - j)) % k := by
      have e3 : (p + j) % k = (p' + (j' - j) + j) % k := by rw [e]; congr 1; omega
      have h1 : (p + j + (k - j % k)) % k = (p' + (j' - j) + j + (k - j % k)) % k := by rw [Nat.add_mod, e3, ← Nat.add_mod]
      have hk : 0 < k := by omega
      have hm := Nat.mod_lt j hk
      have hd := Nat.div_add_mod j k
      have z : ∀ u, (u + j + (k - j % k)) % k = u % k := fun u => by
        rw [show u + j + (k - j % k) = u + k * (j / k + 1) by rw [Nat.mul_add]; omega, Nat.add_mul_mod_self_left]
      rw [z, z] at h1
      exact h1
    by_cases h0 : j' - j = 0
    · rw [h0, Nat.add_zero, Nat.mod_eq_of_lt hp, Nat.mod_eq_of_lt hp'] at e2
      exact e2
    · have := hw (j' - j) (by omega) (by omega)
      rw [← e2, Nat.mod_eq_of_lt hp, w] at this
      cases this
  obtain ⟨j, e, hj⟩ := chQ_mem hp h
  obtain ⟨j', e', hj'⟩ := chQ_mem hp' h'
  rcases Nat.le_total j j' with hle | hle
  · exact key hp hp' w (e.symm.trans e') hj' hle
  · exact (key hp' hp w' (e'.symm.trans e) hj hle).symm
theorem chQ_nodup {wt : Nat → Bool} {k p : Nat} (hp : p < k) (w : wt p = false) : (chQ wt k p).Nodup := by
  obtain ⟨h1, h2⟩ := chN_run wt k 100 ((p + 1) % k) (Nat.mod_lt _ (by omega))
  have hlen : (chN wt k 100 ((p + 1) % k)).length < k := by
    by_cases hc : (chN wt k 100 ((p + 1) % k)).length < k
    · exact hc
    · have := h2 (k - 1) (by omega)
      rw [Nat.mod_add_mod, show p + 1 + (k - 1) = p + k by omega, Nat.add_mod_right, Nat.mod_eq_of_lt hp, w] at this
      cases this
  have e : chQ wt k p = (List.range ((chN wt k 100 ((p + 1) % k)).length + 1)).map fun j => (p + j) % k := by
    have e0 : (p + 0) % k = p := Nat.mod_eq_of_lt hp
    rw [List.range_succ_eq_map, List.map_cons, List.map_map, e0]
    unfold chQ
    congr 1
    conv => lhs; rw [h1]
    refine List.map_congr_left fun j _ => ?_
    show ((p + 1) % k + j) % k = (p + (j + 1)) % k
    rw [Nat.mod_add_mod]
    congr 1
    omega
  rw [e]
  refine List.pairwise_map.mpr (List.pairwise_iff_getElem.mpr fun i j hi hj hij => ?_)
  rw [List.length_range] at hi hj
  rw [List.getElem_range, List.getElem_range]
  intro hm
  have := mod_eq_sub hm (by omega)
  rw [show p + j - (p + i) = j - i by omega, Nat.mod_eq_of_lt (by omega)] at this
  omega
theorem flat_nodup {wt : Nat → Bool} {k : Nat} : ∀ (ps : List Nat), ps.Nodup → (∀ p ∈ ps, p < k ∧ wt p = false) → (ps.map (chQ wt k)).flatten.Nodup
  | [], _, _ => List.nodup_nil
  | p :: ps, hd, h => by
    obtain ⟨h1, h2⟩ := List.nodup_cons.mp hd
    rw [List.map_cons, List.flatten_cons]
    have hp := h p (List.mem_cons_self ..)
    refine List.nodup_append.mpr ⟨chQ_nodup hp.1 hp.2, flat_nodup ps h2 fun q hq => h q (List.mem_cons_of_mem _ hq), fun a ha c hc e => ?_⟩
    subst e
    obtain ⟨l, hl, hal⟩ := List.mem_flatten.mp hc
    obtain ⟨p', hp', rfl⟩ := List.mem_map.mp hl
    have hp2 := h p' (List.mem_cons_of_mem _ hp')
    have := chQ_start hp.1 hp2.1 hp.2 hp2.2 ha hal
    subst this
    exact h1 hp'
theorem last_no {wt : Nat → Bool} {k p0 : Nat} (w : wt p0 = false) (hp : p0 < k) : ∀ j : Nat, ∃ i, i ≤ j ∧ wt ((p0 + i) % k) = false ∧ ∀ u, i < u → u ≤ j → wt ((p0 + u) % k) = true
  | 0 => ⟨0, Nat.le_refl _, by rw [Nat.add_zero, Nat.mod_eq_of_lt hp]; exact w, fun u h1 h2 => by omega⟩
  | j + 1 => by
    cases hw : wt ((p0 + (j + 1)) % k) with
    | false => exact ⟨j + 1, Nat.le_refl _, hw, fun u h1 h2 => by omega⟩
    | true =>
      obtain ⟨i, h1, h2, h3⟩ := last_no w hp j
      refine ⟨i, by omega, h2, fun u u1 u2 => ?_⟩
      by_cases hu : u = j + 1
      · subst hu
        exact hw
      · exact h3 u u1 (by omega)
theorem cover {wt : Nat → Bool} {k p0 q : Nat} (hk : k ≤ 90) (w : wt p0 = false) (hp : p0 < k) (hq : q < k) : ∃ p, p < k ∧ wt p = false ∧ q ∈ chQ wt k p ∧ (p = q ∨ wt ((p + 1) % k) = true) := by
  have k0 : 0 < k := by omega
  have hj0 : (p0 + (q + k - p0) % k) % k = q := by
    rw [Nat.add_mod_mod, show p0 + (q + k - p0) = q + k by omega, Nat.add_mod_right, Nat.mod_eq_of_lt hq]
  have hjk : (q + k - p0) % k < k := Nat.mod_lt _ k0
  obtain ⟨i, h1, h2, h3⟩ := last_no w hp ((q + k - p0) % k)
  refine ⟨(p0 + i) % k, Nat.mod_lt _ k0, h2, ?_, ?_⟩
  · by_cases hi : i = (q + k - p0) % k
    · rw [hi, hj0]
      exact List.mem_cons_self ..
    · refine List.mem_cons_of_mem _ ?_
      have := chN_has wt k 100 (((p0 + i) % k + 1) % k) ((q + k - p0) % k - i - 1) (Nat.mod_lt _ k0) (by omega) fun u hu => by
        rw [Nat.mod_add_mod, Nat.add_assoc, Nat.mod_add_mod, show p0 + i + (1 + u) = p0 + (i + 1 + u) by omega]
        exact h3 (i + 1 + u) (by omega) (by omega)
      have e9 : (((p0 + i) % k + 1) % k + ((q + k - p0) % k - i - 1)) % k = q := by
        rw [Nat.mod_add_mod, Nat.add_assoc, Nat.mod_add_mod, show p0 + i + (1 + ((q + k - p0) % k - i - 1)) = p0 + (q + k - p0) % k by omega, hj0]
      rw [e9] at this
      exact this
  · by_cases hi : i = (q + k - p0) % k
    · left
      rw [hi, hj0]
    · right
      have e9 : ((p0 + i) % k + 1) % k = (p0 + (i + 1)) % k := by rw [Nat.mod_add_mod, Nat.add_assoc]
      rw [e9]
      exact h3 (i + 1) (by omega) (by omega)
def Cs (k : Nat) : List Nat → Prop
  | p :: q :: r => q = (p + 1) % k ∧ Cs k (q :: r)
  | _ => True
theorem cs_chN (wt : Nat → Bool) (k : Nat) : ∀ (f p : Nat), Cs k (p :: chN wt k f ((p + 1) % k))
  | 0, _ => trivial
  | f + 1, p => by
    by_cases hw : wt ((p + 1) % k) = true
    · rw [show chN wt k (f + 1) ((p + 1) % k) = (p + 1) % k :: chN wt k f (((p + 1) % k + 1) % k) by rw [chN, if_pos hw]]
      exact ⟨rfl, cs_chN wt k f ((p + 1) % k)⟩
    · rw [show chN wt k (f + 1) ((p + 1) % k) = [] by rw [chN, if_neg hw]]
      trivial
def Mix : List (List Int) → List Int → Prop
  | CA, [] => CA = []
  | CA, c :: w => c ∈ CA.map (fun ch => ch.headD 0) ∧ Mix (aft CA c) w
theorem aft_same : ∀ (l : List (List Int)) (c : Int), (∀ ch ∈ l, ch ≠ [] ∧ ch.headD 0 ≠ c) → aft l c = l
  | [], _, _ => rfl
  | ch :: l, c, h => by
    have h1 := h ch (List.mem_cons_self ..)
    have ih := aft_same l c fun d hd => h d (List.mem_cons_of_mem _ hd)
    unfold aft at ih ⊢
    rw [List.map_cons, if_neg h1.2, List.filter_cons, if_pos (by cases ch with | nil => exact absurd rfl h1.1 | cons x ch => rfl), ih]
theorem aft_append (l l' : List (List Int)) (c : Int) : aft (l ++ l') c = aft l c ++ aft l' c := by
  unfold aft
  rw [List.map_append, List.filter_append]
def restL {α : Type} : List α → List (List α)
  | [] => []
  | x :: r => [x :: r]
theorem aft_one (c : Int) (r : List Int) : aft [c :: r] c = restL r := by
  unfold aft
  cases r with
  | nil => simp [restL]
  | cons x r => simp [restL]
theorem aft_split {l r' : List (List Int)} {c : Int} {r : List Int} (h1 : ∀ ch ∈ l, ch ≠ [] ∧ ch.headD 0 ≠ c) (h2 : ∀ ch ∈ r', ch ≠ [] ∧ ch.headD 0 ≠ c) : aft (l ++ (c :: r) :: r') c = l ++ (restL r ++ r') := by
  rw [show l ++ (c :: r) :: r' = l ++ ([c :: r] ++ r') from rfl, aft_append, aft_append, aft_one, aft_same _ _ h1, aft_same _ _ h2]
theorem restL_flat {α : Type} (r : List α) : (restL r).flatten = r := by
  cases r with
  | nil => rfl
  | cons x r => simp [restL]
theorem restL_map {α β : Type} (f : α → β) (r : List α) : (restL r).map (List.map f) = restL (r.map f) := by
  cases r with
  | nil => rfl
  | cons x r => rfl
structure Jn (n k : Nat) (x y : Int → Int) (CP : List (List Nat)) (m : Int → Bool) : Prop where
  ne : ∀ ch ∈ CP, ch ≠ []
  nd : CP.flatten.Nodup
  lt : ∀ p ∈ CP.flatten, p < k
  fr : ∀ p ∈ CP.flatten, m (p : Int) = false
  hd : ∀ ch ∈ CP, zOf k x y m ((ch.headD 0 : Nat) - 1 : Int) < y ((ch.headD 0 : Nat) : Int)
  cs : ∀ ch ∈ CP, Cs k ch
theorem zOf_add_le {n k : Int} {x y : Int → Int} (A : Aim n k x y) (m : Int → Bool) (p i : Int) : zOf k x y (addM m p) i ≤ zOf k x y m i := by
  unfold zOf addM
  have := A.le i
  by_cases h : i % k = p
  · rw [if_pos h]
    simp only [if_true]
    split <;> omega
  · rw [if_neg h]
    exact Int.le_refl _
theorem cs_tail {k p : Nat} {r : List Nat} (h : Cs k (p :: r)) : Cs k r := by
  cases r with
  | nil => trivial
  | cons q r => exact h.2
theorem jn_step {n k : Nat} {x y : Int → Int} {l r' : List (List Nat)} {p : Nat} {r : List Nat} {m : Int → Bool} (A : Aim n k x y) (J : Jn n k x y (l ++ (p :: r) :: r') m) : Jn n k x y (l ++ (restL r ++ r')) (addM m (p : Int)) := by
  have fl : (l ++ (p :: r) :: r').flatten = l.flatten ++ (p :: (r ++ r'.flatten)) := by simp
  have fl2 : (l ++ (restL r ++ r')).flatten = l.flatten ++ (r ++ r'.flatten) := by
    rw [List.flatten_append, List.flatten_append, restL_flat]
  have nd := J.nd
  rw [fl] at nd
  have pm : (l.flatten ++ (p :: (r ++ r'.flatten))).Perm (p :: (l.flatten ++ (r ++ r'.flatten))) := List.perm_middle
  have nd2 := pm.nodup_iff.mp nd
  obtain ⟨np, nd3⟩ := List.nodup_cons.mp nd2
  have sub : ∀ q, q ∈ (l ++ (restL r ++ r')).flatten → q ∈ (l ++ (p :: r) :: r').flatten ∧ q ≠ p := fun q hq => by
    rw [fl2] at hq
    rw [fl]
    refine ⟨pm.mem_iff.mpr (List.mem_cons_of_mem _ hq), fun e => np (e ▸ hq)⟩
  have inr : ∀ ch ∈ l ++ (restL r ++ r'), ch ∈ l ++ (p :: r) :: r' ∨ (ch = r ∧ r ≠ []) := fun ch hc => by
    rcases List.mem_append.mp hc with h | h
    · exact .inl (List.mem_append.mpr (.inl h))
    · rcases List.mem_append.mp h with h | h
      · cases r with
        | nil => cases h
        | cons q r =>
          right
          rcases List.mem_cons.mp h with rfl | h
          · exact ⟨rfl, by simp⟩
          · cases h
      · exact .inl (List.mem_append.mpr (.inr (List.mem_cons_of_mem _ h)))
  have own := J.cs (p :: r) (List.mem_append.mpr (.inr (List.mem_cons_self ..)))
  refine ⟨fun ch hc => ?_, by rw [fl2]; exact nd3, fun q hq => J.lt q (sub q hq).1, fun q hq => ?_, fun ch hc => ?_, fun ch hc => ?_⟩
  · rcases inr ch hc with h | ⟨rfl, h⟩
    · exact J.ne ch h
    · exact h
  · obtain ⟨h1, h2⟩ := sub q hq
    unfold addM
    rw [if_neg (by omega)]
    exact J.fr q h1
  · rcases inr ch hc with h | ⟨rfl, h⟩
    · exact Int.lt_of_le_of_lt (zOf_add_le A m _ _) (J.hd ch h)
    · cases ch with
      | nil => exact absurd rfl h
      | cons q r =>
        have hp : p < k := J.lt p (by rw [fl]; exact pm.mem_iff.mpr (List.mem_cons_self ..))
        have hq : q = (p + 1) % k := own.1
        show zOf k x y (addM m (p : Int)) ((q : Int) - 1) < y (q : Int)
        have e : ((q : Int) - 1) % (k : Int) = (p : Int) := by
          by_cases hpk : p + 1 < k
          · rw [Nat.mod_eq_of_lt hpk] at hq
            subst hq
            rw [show ((p + 1 : Nat) : Int) - 1 = (p : Int) by omega]
            exact Int.emod_eq_of_lt (by omega) (by omega)
          · have : p + 1 = k := by omega
            rw [this, Nat.mod_self] at hq
            subst hq
            rw [show ((0 : Nat) : Int) - 1 = (p : Int) + (k : Int) * (-1) by omega, Int.add_mul_emod_self_left]
            exact Int.emod_eq_of_lt (by omega) (by omega)
        unfold zOf addM
        rw [e]
        simp only [if_true]
        exact A.sy.up _
  · rcases inr ch hc with h | ⟨rfl, h⟩
    · exact J.cs ch h
    · exact cs_tail own
theorem mix_good {n k : Nat} {x y : Int → Int} (A : Aim n k x y) (k0 : 0 < k) (f : Nat → Int) (hf : ∀ p q, p < k → q < k → f p = f q → p = q) : ∀ (w : List Int) (CP : List (List Nat)) (m : Int → Bool), Jn n k x y CP m → Mix (CP.map (List.map f)) w → ∃ P : List Nat, w = P.map f ∧ P.Perm CP.flatten ∧ Good k x y m (P.map fun (p : Nat) => (p : Int))
  | [], CP, m, J, h => by
    have : CP = [] := List.map_eq_nil_iff.mp h
    subst this
    exact ⟨[], rfl, .nil, trivial⟩
  | c :: w, CP, m, J, h => by
    obtain ⟨h1, h2⟩ := h
    obtain ⟨ca, hca, e1⟩ := List.mem_map.mp h1
    obtain ⟨ch, hch, rfl⟩ := List.mem_map.mp hca
    obtain ⟨l, r', rfl⟩ := List.append_of_mem hch
    cases ch with
    | nil => exact absurd rfl (J.ne _ hch)
    | cons p r =>
      have e1 : f p = c := e1
      subst e1
      have fl : (l ++ (p :: r) :: r').flatten = l.flatten ++ (p :: (r ++ r'.flatten)) := by simp
      have pm : (l.flatten ++ (p :: (r ++ r'.flatten))).Perm (p :: (l.flatten ++ (r ++ r'.flatten))) := List.perm_middle
      have nd := J.nd
      rw [fl] at nd
      obtain ⟨np, _⟩ := List.nodup_cons.mp (pm.nodup_iff.mp nd)
      have hp : p < k := J.lt p (by rw [fl]; exact pm.mem_iff.mpr (List.mem_cons_self ..))
      have oth : ∀ l0 : List (List Nat), (∀ ch ∈ l0, ch ∈ l ++ (p :: r) :: r') → (∀ q ∈ l0.flatten, q ∈ l.flatten ++ (r ++ r'.flatten)) → ∀ ca ∈ l0.map (List.map f), ca ≠ [] ∧ ca.headD 0 ≠ f p := fun l0 g1 g2 ca hca => by
        obtain ⟨ch, hc, rfl⟩ := List.mem_map.mp hca
        have hne := J.ne ch (g1 ch hc)
        cases ch with
        | nil => exact absurd rfl hne
        | cons q t =>
          refine ⟨by simp, fun e => ?_⟩
          have e : f q = f p := e
          have hin : q ∈ l0.flatten := List.mem_flatten.mpr ⟨_, hc, List.mem_cons_self ..⟩
          have hq : q < k := J.lt q (List.mem_flatten.mpr ⟨_, g1 _ hc, List.mem_cons_self ..⟩)
          have := hf q p hq hp e
          subst this
          exact np (g2 q hin)
      have ha : aft ((l ++ (p :: r) :: r').map (List.map f)) (f p) = (l ++ (restL r ++ r')).map (List.map f) := by
        rw [List.map_append, List.map_cons, List.map_cons, aft_split (oth l (fun ch hc => List.mem_append.mpr (.inl hc)) fun q hq => List.mem_append.mpr (.inl hq)) (oth r' (fun ch hc => List.mem_append.mpr (.inr (List.mem_cons_of_mem _ hc))) fun q hq => List.mem_append.mpr (.inr (List.mem_append.mpr (.inr hq)))), List.map_append, List.map_append, restL_map]
      rw [ha] at h2
      obtain ⟨P, hw, hP, hG⟩ := mix_good A k0 f hf w _ _ (jn_step A J) h2
      have ep : (p : Int) % (k : Int) = (p : Int) := Int.emod_eq_of_lt (by omega) (by omega)
      refine ⟨p :: P, by rw [hw]; rfl, ?_, ?_⟩
      · rw [fl]
        refine List.Perm.trans (List.Perm.cons p ?_) pm.symm
        rw [List.flatten_append, List.flatten_append, restL_flat] at hP
        exact hP
      · have hG2 : m ((p : Int) % (k : Int)) = false ∧ zOf k x y m ((p : Int) - 1) < y (p : Int) ∧ Good k x y (addM m ((p : Int) % (k : Int))) (P.map fun (p : Nat) => (p : Int)) := by
          rw [ep]
          exact ⟨J.fr p (by rw [fl]; exact pm.mem_iff.mpr (List.mem_cons_self ..)), J.hd _ hch, hG⟩
        exact hG2
theorem gone_iff (k : Int) : ∀ (is : List Int) (m : Int → Bool) (i : Int), goneM k m is i = true ↔ m i = true ∨ ∃ j ∈ is, j % k = i
  | [], m, i => by simp [goneM]
  | j :: is, m, i => by
    show goneM k (addM m (j % k)) is i = true ↔ _
    rw [gone_iff k is]
    unfold addM
    by_cases h : i = j % k
    · simp [h]
    · rw [if_neg h]
      constructor
      · rintro (h1 | ⟨u, h1, h2⟩)
        · exact .inl h1
        · exact .inr ⟨u, List.mem_cons_of_mem _ h1, h2⟩
      · rintro (h1 | ⟨u, h1, h2⟩)
        · exact .inl h1
        · rcases List.mem_cons.mp h1 with rfl | h1
          · exact absurd h2.symm h
          · exact .inr ⟨u, h1, h2⟩
theorem per_nx {n k : Nat} {f : Int → Int} (sf : Sqn n k f) (k0 : 0 < k) (p : Nat) (hp : p < k) : ∃ u : Int, f (((p + 1) % k : Nat) : Int) = f ((p : Int) + 1) + n * u ∧ f (((p + 1) % k : Nat) - 1 : Int) = f (p : Int) + n * u := by
  by_cases h : p + 1 < k
  · refine ⟨0, ?_, ?_⟩
    · rw [Nat.mod_eq_of_lt h, Int.mul_zero, Int.add_zero]
      congr 1
    · rw [Nat.mod_eq_of_lt h, Int.mul_zero, Int.add_zero]
      congr 1
      omega
  · have e : p + 1 = k := by omega
    refine ⟨-1, ?_, ?_⟩
    · rw [e, Nat.mod_self]
      have := sf.pm ((p : Int) + 1) (-1)
      rw [← this]
      congr 1
      omega
    · rw [e, Nat.mod_self]
      have := sf.pm (p : Int) (-1)
      rw [← this]
      congr 1
      omega
theorem wt_go {n : Nat} {a b : List Int} {s p : Nat} (A : Aim n a.length (xOf n a) (yOf n b s)) (h : wtF n a b s p = true) : goF n a b s p = true := by
  have h := of_decide_eq_true h
  have := A.sx.up (p : Int)
  refine decide_eq_true ?_
  omega
theorem prev_go {n : Nat} {a b : List Int} {s p : Nat} (A : Aim n a.length (xOf n a) (yOf n b s)) (hp : p < a.length) (h : wtF n a b s ((p + 1) % a.length) = true) : goF n a b s p = true := by
  have h := of_decide_eq_true h
  obtain ⟨u, h1, h2⟩ := per_nx A.sx (by omega) p hp
  obtain ⟨v, h3, h4⟩ := per_nx A.sy (by omega) p hp
  have := A.sy.up (((p + 1) % a.length : Nat) : Int)
  refine decide_eq_true ?_
  have huv : n * u = n * v := by
    by_cases hk : p + 1 < a.length
    · have e : (((p + 1) % a.length : Nat) - 1 : Int) = (p : Int) := by rw [Nat.mod_eq_of_lt hk]; omega
      rw [e] at h2 h4
      omega
    · have e0 : p + 1 = a.length := by omega
      have e : (((p + 1) % a.length : Nat) - 1 : Int) = (p : Int) + (a.length : Int) * (-1) := by rw [e0, Nat.mod_self]; omega
      rw [e, A.sx.pm] at h2
      rw [e, A.sy.pm] at h4
      omega
  omega
theorem some_not {n : Nat} {a b : List Int} {s : Nat} (ta : Tbl n a) (tb : Tbl n b) (h : a.length = b.length) (ha : a ≠ []) (L : Lst n a b s) : ∃ p, p < a.length ∧ wtF n a b s p = false := by
  by_cases hall : ∃ p, p < a.length ∧ wtF n a b s p = false
  · exact hall
  exfalso
  have hb : b ≠ [] := List.length_pos_iff.mp (by rw [← h]; exact List.length_pos_iff.mpr ha)
  have k0 : 0 < a.length := List.length_pos_iff.mpr ha
  have sx := sqn_xOf ta ha
  have sb := sqn_xOf tb hb
  rw [← h] at sb
  have H : ∀ p : Nat, p < a.length → xOf n b ((p : Int) - (s : Int)) ≤ xOf n a ((p : Int) - 1) := fun p hp => by
    cases hw : wtF n a b s p with
    | false => exact absurd ⟨p, hp, hw⟩ hall
    | true =>
      have hw := of_decide_eq_true hw
      unfold yOf at hw
      omega
  cases s with
  | zero =>
    have h0 := H 0 k0
    have e := sx.per (-1)
    have hl : a.length - 1 < a.length := by omega
    have e2 := xOf_at (n := n) ha (List.getElem?_eq_getElem hl)
    have e3 := xOf_at (n := n) hb (List.getElem?_eq_getElem (show 0 < b.length by omega))
    have m1 := ta.mem _ (List.getElem_mem hl)
    have m2 := tb.mem _ (List.getElem_mem (show 0 < b.length by omega))
    have e4 : (-1 : Int) + (a.length : Int) = ((a.length - 1 : Nat) : Int) := by omega
    rw [e4] at e
    have e5 : ((0 : Nat) : Int) - ((0 : Nat) : Int) = ((0 : Nat) : Int) := by omega
    have e6 : ((0 : Nat) : Int) - 1 = -1 := by omega
    rw [e5, e6] at h0
    omega
  | succ s =>
    refine L.no s (by omega) fun v hv => ?_
    obtain ⟨i, hi⟩ := List.getElem?_of_mem hv
    have hil : i < a.length := by rw [← stW_len (n := n) (a := a) (b := b) (s := (s : Int))]; exact (List.getElem?_eq_some_iff.mp hi).1
    rw [stW_get hil] at hi
    cases hi
    by_cases hk : i + 1 < a.length
    · have := H (i + 1) hk
      rw [show ((i + 1 : Nat) : Int) - ((s + 1 : Nat) : Int) = (i : Int) - (s : Int) by omega, show ((i + 1 : Nat) : Int) - 1 = (i : Int) by omega] at this
      omega
    · have := H 0 k0
      have e1 := sb.pm ((i : Int) - (s : Int)) (-1)
      have e2 := sx.pm (i : Int) (-1)
      rw [show (i : Int) - (s : Int) + (a.length : Int) * (-1) = ((0 : Nat) : Int) - ((s + 1 : Nat) : Int) by omega] at e1
      rw [show (i : Int) + (a.length : Int) * (-1) = ((0 : Nat) : Int) - 1 by omega] at e2
      omega
theorem mem_flat {n : Nat} {a b : List Int} {s : Nat} (ta : Tbl n a) (tb : Tbl n b) (h : a.length = b.length) (ha : a ≠ []) (hl : a.length ≤ 90) (L : Lst n a b s) (A : Aim n a.length (xOf n a) (yOf n b s)) (q : Nat) : q ∈ (CPs n a b s).flatten ↔ q < a.length ∧ goF n a b s q = true := by
  constructor
  · intro hq
    obtain ⟨l, hl, hql⟩ := List.mem_flatten.mp hq
    obtain ⟨p, hp, rfl⟩ := List.mem_map.mp hl
    obtain ⟨hp1, hp2⟩ := List.mem_filter.mp hp
    have hp1 := List.mem_range.mp hp1
    rw [Bool.and_eq_true] at hp2
    refine ⟨chP_lt hp1 q hql, ?_⟩
    rcases List.mem_cons.mp hql with rfl | hm
    · exact hp2.1
    · obtain ⟨h1, h2⟩ := chN_run (wtF n a b s) a.length 100 ((p + 1) % a.length) (Nat.mod_lt _ (by omega))
      rw [h1] at hm
      obtain ⟨j, hj, rfl⟩ := List.mem_map.mp hm
      exact wt_go A (h2 j (List.mem_range.mp hj))
  · rintro ⟨hq, hg⟩
    obtain ⟨p0, hp0, w0⟩ := some_not ta tb h ha L
    obtain ⟨p, h1, h2, h3, h4⟩ := cover hl w0 hp0 hq
    refine List.mem_flatten.mpr ⟨chP n a b s p, List.mem_map.mpr ⟨p, List.mem_filter.mpr ⟨List.mem_range.mpr h1, ?_⟩, rfl⟩, h3⟩
    have hgp : goF n a b s p = true := by
      rcases h4 with rfl | h4
      · exact hg
      · exact prev_go A h1 h4
    rw [hgp, h2]
    rfl
theorem jn_first {n : Nat} {a b : List Int} {s : Nat} (A : Aim n a.length (xOf n a) (yOf n b s)) : Jn n a.length (xOf n a) (yOf n b s) (CPs n a b s) (fun _ => false) := by
  have nd0 : ((List.range a.length).filter fun p => goF n a b s p && !wtF n a b s p).Nodup := List.nodup_range.filter _
  have hin : ∀ ch ∈ CPs n a b s, ∃ p, p < a.length ∧ wtF n a b s p = false ∧ ch = chP n a b s p := fun ch hc => by
    obtain ⟨p, hp, rfl⟩ := List.mem_map.mp hc
    obtain ⟨hp1, hp2⟩ := List.mem_filter.mp hp
    rw [Bool.and_eq_true] at hp2
    refine ⟨p, List.mem_range.mp hp1, ?_, rfl⟩
    cases hw : wtF n a b s p with
    | false => rfl
    | true =>
      rw [hw] at hp2
      exact absurd hp2.2 (by decide)
  refine ⟨fun ch hc => ?_, ?_, fun q hq => ?_, fun _ _ => rfl, fun ch hc => ?_, fun ch hc => ?_⟩
  · obtain ⟨p, _, _, rfl⟩ := hin ch hc
    simp [chP]
  · refine flat_nodup (wt := wtF n a b s) (k := a.length) _ nd0 fun p hp => ?_
    obtain ⟨hp1, hp2⟩ := List.mem_filter.mp hp
    rw [Bool.and_eq_true] at hp2
    refine ⟨List.mem_range.mp hp1, ?_⟩
    cases hw : wtF n a b s p with
    | false => rfl
    | true =>
      rw [hw] at hp2
      exact absurd hp2.2 (by decide)
  · obtain ⟨l, hl, hql⟩ := List.mem_flatten.mp hq
    obtain ⟨p, hp, _, rfl⟩ := hin l hl
    exact chP_lt hp q hql
  · obtain ⟨p, hp, hw, rfl⟩ := hin ch hc
    rw [zOf_none]
    show xOf n a ((p : Int) - 1) < yOf n b s (p : Int)
    have hw := of_decide_eq_false hw
    omega
  · obtain ⟨p, hp, hw, rfl⟩ := hin ch hc
    exact cs_chN _ _ _ _
theorem aim_inj {n : Nat} {k : Nat} {x y : Int → Int} (A : Aim n k x y) (n0 : 0 < n) : ∀ p q : Nat, p < k → q < k → y (p : Int) % (n : Int) = y (q : Int) % (n : Int) → p = q := by
  have key : ∀ p q : Nat, p < q → q < k → y (p : Int) % (n : Int) = y (q : Int) % (n : Int) → False := fun p q hpq hq e => by
    have h1 := A.sy.ltI (i := (p : Int)) (j := (q : Int)) (by omega)
    have h2 := A.sy.ltI (i := (q : Int)) (j := (p : Int) + (k : Int)) (by omega)
    have h3 := A.sy.per (p : Int)
    have h4 : (y (q : Int) - y (p : Int)) % (n : Int) = 0 := by rw [Int.sub_emod, e, Int.sub_self, Int.zero_emod]
    rw [Int.emod_eq_of_lt (by omega) (by omega)] at h4
    omega
  intro p q hp hq e
  rcases Nat.lt_trichotomy p q with h | h | h
  · exact (key p q h hq e).elim
  · exact h
  · exact (key q p h hp e.symm).elim
theorem mix_calls {n : Nat} {a b : List Int} {s : Nat} (ta : Tbl n a) (tb : Tbl n b) (h : a.length = b.length) (ha : a ≠ []) (n0 : 0 < n) (hl : a.length ≤ 90) (L : Lst n a b s) {w : List Int} (hw : Mix (CAs n b s (CPs n a b s)) w) : ∃ P : List Nat, w = P.map (aimF n b s) ∧ P.Perm ((List.range a.length).filter (goF n a b s)) ∧ fCalls n w (xOf n a) = yOf n b s := by
  have A := aim_ok ta tb h ha n0 L
  have k0 : 0 < a.length := List.length_pos_iff.mpr ha
  obtain ⟨P, h1, h2, h3⟩ := mix_good A k0 (aimF n b s) (aim_inj A n0) w _ _ (jn_first A) hw
  have mem : ∀ q, q ∈ P ↔ q < a.length ∧ goF n a b s q = true := fun q => by rw [h2.mem_iff, mem_flat ta tb h ha hl L A]
  refine ⟨P, h1, ?_, ?_⟩
  · refine (List.perm_ext_iff_of_nodup (h2.nodup_iff.mpr (jn_first A).nd) (List.nodup_range.filter _)).mpr fun q => ?_
    rw [mem q, List.mem_filter, List.mem_range]
  · have e := good_calls A (by omega) (by omega) _ (by rw [zOf_none]; exact A.sx) h3
    have e0 : w = (P.map fun (p : Nat) => (p : Int)).map fun i => yOf n b s i % (n : Int) := by
      rw [h1, List.map_map]
      rfl
    rw [zOf_none, ← e0] at e
    rw [e]
    funext i
    unfold zOf
    by_cases hg : goneM (a.length : Int) (fun _ => false) (P.map fun (p : Nat) => (p : Int)) (i % (a.length : Int)) = true
    · rw [if_pos hg]
    · rw [if_neg hg]
      have i0 := Int.emod_nonneg i (show (a.length : Int) ≠ 0 by omega)
      have i1 := Int.emod_lt_of_pos i (show (0 : Int) < (a.length : Int) by omega)
      have i2 := Int.emod_add_mul_ediv i (a.length : Int)
      have hng : ¬ goF n a b s (i % (a.length : Int)).toNat = true := fun hgo => hg ((gone_iff _ _ _ _).mpr (.inr ⟨(((i % (a.length : Int)).toNat : Nat) : Int), List.mem_map.mpr ⟨_, (mem _).mpr ⟨by omega, hgo⟩, rfl⟩, by rw [Int.toNat_of_nonneg i0]; exact Int.emod_eq_of_lt i0 i1⟩))
      have hng2 : ¬ 0 < xOf n a (((i % (a.length : Int)).toNat : Nat) : Int) - yOf n b s (((i % (a.length : Int)).toNat : Nat) : Int) := fun z => hng (decide_eq_true z)
      rw [Int.toNat_of_nonneg i0] at hng2
      have p1 := A.sx.pm (i % (a.length : Int)) (i / (a.length : Int))
      have p2 := A.sy.pm (i % (a.length : Int)) (i / (a.length : Int))
      rw [i2] at p1 p2
      have := A.le (i % (a.length : Int))
      omega
theorem min_of : ∀ l : List Int, l ≠ [] → ∃ o ∈ l, ∀ u ∈ l, o ≤ u
  | [], h => absurd rfl h
  | x :: l, _ => by
    by_cases hl : l = []
    · subst hl
      exact ⟨x, List.mem_cons_self .., fun u hu => by
        rcases List.mem_cons.mp hu with rfl | hu
        · exact Int.le_refl _
        · cases hu⟩
    · obtain ⟨o, h1, h2⟩ := min_of l hl
      by_cases hx : x ≤ o
      · exact ⟨x, List.mem_cons_self .., fun u hu => by
          rcases List.mem_cons.mp hu with rfl | hu
          · exact Int.le_refl _
          · exact Int.le_trans hx (h2 u hu)⟩
      · exact ⟨o, List.mem_cons_of_mem _ h1, fun u hu => by
          rcases List.mem_cons.mp hu with rfl | hu
          · omega
          · exact h2 u hu⟩
theorem les_zero {CA : List (List Int)} (h : CA ≠ []) : ∃ o ∈ CA.map (fun ch => ch.headD 0), lesN CA o = 0 := by
  obtain ⟨o, h1, h2⟩ := min_of (CA.map fun ch => ch.headD 0) (fun e => h (List.map_eq_nil_iff.mp e))
  refine ⟨o, h1, ?_⟩
  unfold lesN
  rw [show ((CA.map fun ch => ch.headD 0).filter fun u => decide (u < o)) = [] from List.filter_eq_nil_iff.mpr fun u hu hd => by
    have := h2 u hu
    have := of_decide_eq_true hd
    omega]
  rfl
theorem aft_ne (CA : List (List Int)) (c : Int) : ∀ ch ∈ aft CA c, ch ≠ [] := fun ch hc => by
  have := (List.mem_filter.mp hc).2
  cases ch with
  | nil => cases this
  | cons x ch => simp
theorem sumN_lt {CA : List (List Int)} {c : Int} (hne : ∀ ch ∈ CA, ch ≠ []) (hc : c ∈ CA.map fun ch => ch.headD 0) : sumN (aft CA c) < sumN CA := by
  induction CA with
  | nil => cases hc
  | cons ch l ih =>
    have e1 : aft (ch :: l) c = aft [ch] c ++ aft l c := aft_append [ch] l c
    have sa : ∀ u v : List (List Int), sumN (u ++ v) = sumN u + sumN v := fun u v => by
      induction u with
      | nil => simp [sumN]
      | cons d u ih => rw [List.cons_append, sumN, sumN, ih]; omega
    rw [e1, sa]
    have h1 := sumN_aft [ch] c
    have h2 := sumN_aft l c
    have e2 : sumN [ch] = ch.length := by simp [sumN]
    have e3 : sumN (ch :: l) = ch.length + sumN l := rfl
    by_cases hh : ch.headD 0 = c
    · cases ch with
      | nil => exact absurd rfl (hne _ (List.mem_cons_self ..))
      | cons x r =>
        have hh : x = c := hh
        subst hh
        rw [aft_one]
        have e4 : sumN (restL r) = r.length := by
          cases r with
          | nil => rfl
          | cons y r => simp [restL, sumN]
        rw [e4, e3, List.length_cons]
        omega
    · have hc2 : c ∈ l.map fun ch => ch.headD 0 := by
        rcases List.mem_cons.mp hc with h | h
        · exact absurd h.symm hh
        · exact h
      have := ih (fun d hd => hne d (List.mem_cons_of_mem _ hd)) hc2
      omega
theorem len_sumN : ∀ CA : List (List Int), (∀ ch ∈ CA, ch ≠ []) → CA.length ≤ sumN CA
  | [], _ => Nat.le_refl _
  | ch :: l, h => by
    have := len_sumN l fun d hd => h d (List.mem_cons_of_mem _ hd)
    have h1 := List.length_pos_iff.mpr (h ch (List.mem_cons_self ..))
    show l.length + 1 ≤ ch.length + sumN l
    omega
theorem ev_ways_many {n : Nat} {d e : PyData} {CA : List (List Int)} (hCB : m_chains_between [.d (.int (n : Int)), .d d, .d e] = .ret (.list (dLs CA))) (hne : ∀ ch ∈ CA, ch ≠ []) (hs : sumN CA ≤ 10) : m_ways_many [.d (.int (n : Int)), .d d, .d e] = .ret (.int ((mixN CA : Nat) : Int)) := by
  have hl := len_sumN CA hne
  have e1 := ev_mixed_many hs (show CA.length ≤ 1000 by omega)
  unfold m_ways_many b_ways_many
  generalize m_mixed_many = MM at e1 ⊢
  generalize m_chains_between = CB at hCB ⊢
  simp only [Nat.reduceSub, Nat.reduceAdd, reduceIte, Tree.bind, liftO, dIdx, sAsgL, sPar4, dV, dC, d1, d2, t1, t2, l0, lC, dL, dT, aV, aE, a0, aC, dCall, dCallK, dIf, tTr, tV, truth, asB, tNot, tAnd, tOr, dAnd, dOr, sSet, sAsg, sPar, sRet, s0, sC, sIf, sX, sOwn, sApp, sFrz, frzE, sFor, outV, fnF, lenIs, ent, small, few, putE, putsE, wipeE, it_l, it_t, iS, iR1, iR2, wEn, wZ2, wZ3, dLc, dLf, dSl, oN, oS, pCut, pSub, cI, bD, pIx, pList, pTup, pLen, pNot, qIsN, qNotN, pIsN, pNotN, List.getElem?_cons_succ, List.getElem?_cons_zero, List.set_cons_succ, List.set_cons_zero, List.length_cons, List.length_nil, List.map_cons, List.map_nil, List.foldr_cons, List.foldr_nil, List.replicate_succ, List.replicate_zero, List.cons_append, List.nil_append, sOPar, sOOPar, dOIx, sNest, sCallP, dOLen, fnP, pC, pFrz, dPr, nApp, nIf, nEnd, sN0, sN1, lendE, frzW, sSetK, dGet, dZipD, dPairD, pMax2, sDD, sND, tNeN, sLock, lockE, odcE, tdE, dttE, tC, tLock, tRet, dGetO, dIdxO, tNinD, sPutO, tDen, sUpd, sCpT, iDtt, dSrtD, sParDt, sParDt3, tCall2, fnT, sNewD, isNd, hCB, e1]
theorem sumN_CAs (n : Nat) (b : List Int) (s : Nat) : ∀ CP : List (List Nat), sumN (CAs n b s CP) = CP.flatten.length
  | [] => rfl
  | ch :: l => by
    have ih := sumN_CAs n b s l
    show (ch.map (aimF n b s)).length + sumN (CAs n b s l) = (ch ++ l.flatten).length
    rw [ih, List.length_map, List.length_append]
theorem go_len {n : Nat} {a b : List Int} {s : Nat} : ((List.range a.length).filter (goF n a b s)).length = ((stW n a b s).filter fun x => decide (0 < x)).length := by
  unfold stW rowOf
  rw [List.filter_map, List.length_map]
  rfl
theorem tab_way {n : Nat} {a b w : List Int} {s : Nat} (ta : Tbl n a) (tb : Tbl n b) (h : a.length = b.length) (ha : a ≠ []) (n0 : 0 < n) (hc : ∀ c ∈ w, 0 ≤ c ∧ c < (n : Int)) (hw : fCalls n w (xOf n a) = yOf n b s) : stepsL n a w = stW n a b s ∧ tabA n a w = b := by
  have hb : b ≠ [] := List.length_pos_iff.mp (by rw [← h]; exact List.length_pos_iff.mpr ha)
  have k0 : 1 ≤ b.length := List.length_pos_iff.mpr hb
  refine ⟨?_, ?_⟩
  · rw [steps_tbl ta ha n0 hc, hw]
    rfl
  · unfold tabA
    rw [runS_tbl ta ha n0 hc, hw, h]
    have e : yOf n b s = fun i => xOf n b (i + (-(s : Int))) := by
      funext i
      unfold yOf
      congr 1
    rw [e, srt_rot (sqn_xOf tb hb) k0, row_xOf hb, modL_self tb, tb.srt]
def difC (k : Nat) (l r : List Int) : Nat := ((List.range k).filter fun i => decide (l[i]? ≠ r[i]?)).length
theorem filt_le {α : Type} {p q : α → Bool} : ∀ l : List α, (∀ x ∈ l, p x = true → q x = true) → (l.filter p).length ≤ (l.filter q).length
  | [], _ => Nat.le_refl _
  | x :: l, h => by
    have ih := filt_le l fun y hy => h y (List.mem_cons_of_mem _ hy)
    rw [List.filter_cons, List.filter_cons]
    by_cases hp : p x = true
    · rw [if_pos hp, if_pos (h x (List.mem_cons_self ..) hp)]
      exact Nat.succ_le_succ ih
    · rw [if_neg hp]
      split
      · exact Nat.le_succ_of_le ih
      · exact ih
theorem filt_or {α : Type} (p q : α → Bool) : ∀ l : List α, (l.filter fun x => p x || q x).length ≤ (l.filter p).length + (l.filter q).length
  | [] => Nat.le_refl _
  | x :: l => by
    have ih := filt_or p q l
    rw [List.filter_cons, List.filter_cons, List.filter_cons]
    cases p x <;> cases q x <;> simp only [Bool.or_true, Bool.or_false, Bool.true_or, Bool.false_or, if_true, Bool.false_eq_true, if_false, List.length_cons] <;> omega
theorem difC_tri (k : Nat) (l m r : List Int) : difC k l r ≤ difC k l m + difC k m r := by
  refine Nat.le_trans (filt_le _ fun i _ h => ?_) (filt_or (fun i => decide (l[i]? ≠ m[i]?)) (fun i => decide (m[i]? ≠ r[i]?)) _)
  by_cases h1 : l[i]? = m[i]?
  · have h := of_decide_eq_true h
    rw [h1] at h
    rw [Bool.or_eq_true]
    exact .inr (decide_eq_true h)
  · rw [Bool.or_eq_true]
    exact .inl (decide_eq_true h1)
theorem filt_one {k j : Nat} {p : Nat → Bool} (h : ∀ i, p i = true → i = j) : ((List.range k).filter p).length ≤ 1 := by
  have nd : ((List.range k).filter p).Nodup := List.nodup_range.filter _
  generalize hl : (List.range k).filter p = l at nd
  have hm : ∀ i ∈ l, i = j := fun i hi => h i (List.mem_filter.mp (hl ▸ hi)).2
  match l, nd, hm with
  | [], _, _ => exact Nat.zero_le _
  | [_], _, _ => exact Nat.le_refl _
  | u :: v :: l, nd, hm =>
    exfalso
    have e1 := hm u (List.mem_cons_self ..)
    have e2 := hm v (List.mem_cons_of_mem _ (List.mem_cons_self ..))
    exact (List.nodup_cons.mp nd).1 (by rw [e1, ← e2]; exact List.mem_cons_self ..)
theorem difC_self (k : Nat) (l : List Int) : difC k l l = 0 := by
  unfold difC
  rw [show ((List.range k).filter fun i => decide (l[i]? ≠ l[i]?)) = [] from List.filter_eq_nil_iff.mpr fun i _ h => (of_decide_eq_true h) rfl]
  rfl
theorem difC_set (k : Nat) (l : List Int) (j : Nat) (v : Int) : difC k l (l.set j v) ≤ 1 := by
  refine filt_one (j := j) fun i hi => ?_
  have hi := of_decide_eq_true hi
  by_cases e : j = i
  · exact e.symm
  · rw [List.getElem?_set_ne e] at hi
    exact absurd rfl hi
theorem difC_go (k : Nat) (n : Int) (ss : List Int) (c : Int) : ∀ f far, difC k ss (pushGo n ss c f far) ≤ 1
  | 0, _ => by rw [pushGo, difC_self]; omega
  | f + 1, far => by
    rw [pushGo]
    split
    · exact difC_set ..
    · exact difC_go k n ss c f (far + 1)
theorem difC_S (k n : Nat) : ∀ (cs ss : List Int), difC k ss (pushS n ss cs) ≤ cs.length
  | [], ss => by
    show difC k ss ss ≤ 0
    rw [difC_self]
    exact Nat.le_refl _
  | c :: cs, ss => by
    have h1 : difC k ss (pushL n ss c) ≤ 1 := difC_go k n ss c n 0
    have h2 := difC_S k n cs (pushL n ss c)
    have h3 := difC_tri k ss (pushL n ss c) (pushS n (pushL n ss c) cs)
    show difC k ss (pushS n (pushL n ss c) cs) ≤ cs.length + 1
    omega
structure More (n : Nat) (a b cs : List Int) (s : Nat) : Prop where
  ge : ∀ i : Int, yOf n b s i ≥ fCalls n cs (xOf n a) i
  sum : ((stepsL n a cs).sum - (stW n a b s).sum) % (n : Int) = 0
  cnt : ((stW n a b s).filter fun x => decide (0 < x)).length ≤ cs.length
theorem more_of {n : Nat} {a cs : List Int} {s : Nat} (ta : Tbl n a) (ha : a ≠ []) (n0 : 0 < n) (hc : ∀ c ∈ cs, 0 ≤ c ∧ c < (n : Int)) (L : Lst n a (tabA n a cs) s) : More n a (tabA n a cs) cs s := by
  have k0 : 0 < a.length := List.length_pos_iff.mpr ha
  obtain ⟨al, h1, tb, h3⟩ := tabA_x ta ha n0 hc
  generalize hb : tabA n a cs = b at h1 tb h3 L
  have hbl : b.length = a.length := by rw [← hb, tabA_len]
  have hbn : b ≠ [] := by rw [← hb]; exact tabA_ne ha
  have sx := sqn_xOf ta ha
  have sz := sx.calls (show (0 : Int) < n by omega) cs
  have sb := sqn_xOf tb hbn
  rw [hbl] at sb
  have zb : ∀ i, fCalls n cs (xOf n a) i = xOf n b (i - al) := fun i => by
    rw [h3]
    show _ = fCalls n cs (xOf n a) (i - al + al)
    congr 1
    omega
  have zx : ∀ i, fCalls n cs (xOf n a) i ≤ xOf n a i := fun i => calls_le (by omega) cs _ i
  -- the places of the second table begin at or after nobody before the first
  have al0 : 0 ≤ al := by
    by_cases hal : 0 ≤ al
    · exact hal
    exfalso
    have m0 := tb.mem _ (List.getElem_mem (show 0 < b.length by omega))
    have e0 := xOf_at (n := n) hbn (List.getElem?_eq_getElem (show 0 < b.length by omega))
    have e1 : xOf n b ((0 : Nat) : Int) = fCalls n cs (xOf n a) al := by rw [zb al]; congr 1; omega
    have e2 := sz.le (i := al) (j := -1) (by omega)
    have e3 := zx (-1)
    have e4 := sx.per (-1)
    have hl : a.length - 1 < a.length := by omega
    have e5 := xOf_at (n := n) ha (List.getElem?_eq_getElem hl)
    have m1 := ta.mem _ (List.getElem_mem hl)
    rw [show (-1 : Int) + (a.length : Int) = ((a.length - 1 : Nat) : Int) by omega] at e4
    omega
  obtain ⟨q, rfl⟩ : ∃ q : Nat, al = (q : Int) := ⟨al.toNat, by omega⟩
  have sq : s ≤ q := by
    by_cases hsq : s ≤ q
    · exact hsq
    · refine absurd (fun v hv => ?_) (L.no q (by omega))
      obtain ⟨i, hi⟩ := List.getElem?_of_mem hv
      have hil : i < a.length := by rw [← stW_len (n := n) (a := a) (b := b) (s := (q : Int))]; exact (List.getElem?_eq_some_iff.mp hi).1
      rw [stW_get hil] at hi
      cases hi
      have := zx (i : Int)
      rw [zb] at this
      omega
  have st := steps_tbl ta ha n0 hc
  refine ⟨fun i => ?_, ?_, ?_⟩
  · rw [zb]
    exact sb.le (by omega)
  · rw [st]
    unfold stW
    have sy : Sqn n a.length (yOf n b s) := (aim_ok ta tb hbl.symm ha n0 L).sy
    have e := sum_shift sy (q - s)
    have e2 : (fun i => xOf n a i - fCalls n cs (xOf n a) i) = fun i => (xOf n a i - xOf n b (i - (s : Int))) + (yOf n b s i - yOf n b s (i + -((q - s : Nat) : Int))) := by
      funext i
      rw [zb]
      unfold yOf
      rw [show i + -((q - s : Nat) : Int) - (s : Int) = i - (q : Int) by omega]
      omega
    rw [e2, sum_row_add, e]
    rw [show ∀ u v : Int, u + v - u = v from fun u v => by omega]
    exact Int.mul_emod_right _ _
  · rw [← go_len]
    refine Nat.le_trans (filt_le _ fun i hi hg => ?_) (difC_S a.length n cs a)
    have hi := List.mem_range.mp hi
    have hg := of_decide_eq_true hg
    refine decide_eq_true fun e => ?_
    have ep := pushS_row n0 k0 (nbr_up k0) cs sx
    rw [row_xOf ha] at ep
    rw [ep, rowOf_get hi, List.getElem?_eq_getElem hi] at e
    have e := Option.some.inj e
    have ex := xOf_at (n := n) ha (List.getElem?_eq_getElem hi)
    have hz : fCalls n cs (xOf n a) (i : Int) ≤ yOf n b s (i : Int) := by
      rw [zb]
      exact sb.le (by omega)
    omega
def prF : List (List Int) → Nat
  | [] => 1
  | c :: l => fct c.length * prF l
theorem prF_pos : ∀ l, 0 < prF l
  | [] => Nat.one_pos
  | c :: l => Nat.mul_pos (fct_pos _) (prF_pos l)
theorem divN_pr : ∀ (l : List (List Int)) (r : Nat), divN r l = r / prF l
  | [], r => (Nat.div_one r).symm
  | c :: l, r => by
    show divN (r / fct c.length) l = r / (fct c.length * prF l)
    rw [divN_pr l, Nat.div_div_eq_div_mul]
theorem fct_dvd : ∀ m a b, a + b = m → fct a * fct b ∣ fct (a + b)
  | 0, a, b, h => by
    have ea : a = 0 := by omega
    have eb : b = 0 := by omega
    subst ea eb
    exact Nat.dvd_refl _
  | m + 1, 0, b, _ => by
    rw [Nat.zero_add, show fct 0 = 1 from rfl, Nat.one_mul]
    exact Nat.dvd_refl _
  | m + 1, a + 1, 0, _ => by
    rw [Nat.add_zero, show fct 0 = 1 from rfl, Nat.mul_one]
    exact Nat.dvd_refl _
  | m + 1, a + 1, b + 1, h => by
    have h1 := fct_dvd m a (b + 1) (by omega)
    have h2 := fct_dvd m (a + 1) b (by omega)
    have e : fct (a + 1 + (b + 1)) = (a + 1) * fct (a + (b + 1)) + (b + 1) * fct (a + 1 + b) := by
      rw [show a + 1 + (b + 1) = (a + 1 + b) + 1 by omega]
      show (a + 1 + b + 1) * fct (a + 1 + b) = _
      rw [show a + (b + 1) = a + 1 + b by omega, ← Nat.add_mul]
      congr 1
    rw [e]
    refine Nat.dvd_add ?_ ?_
    · show (a + 1) * fct a * fct (b + 1) ∣ _
      rw [Nat.mul_assoc]
      exact Nat.mul_dvd_mul_left _ h1
    · show fct (a + 1) * ((b + 1) * fct b) ∣ _
      rw [Nat.mul_left_comm]
      exact Nat.mul_dvd_mul_left _ h2
theorem prF_dvd : ∀ l : List (List Int), prF l ∣ fct (sumN l)
  | [] => Nat.dvd_refl _
  | c :: l => by
    show fct c.length * prF l ∣ fct (c.length + sumN l)
    exact Nat.dvd_trans (Nat.mul_dvd_mul_left _ (prF_dvd l)) (fct_dvd _ c.length (sumN l) rfl)
theorem mixN_mul (l : List (List Int)) : mixN l * prF l = fct (sumN l) := by
  unfold mixN
  rw [divN_pr]
  exact Nat.div_mul_cancel (prF_dvd l)
theorem sumN_app : ∀ u v : List (List Int), sumN (u ++ v) = sumN u + sumN v
  | [], v => (Nat.zero_add _).symm
  | c :: u, v => by
    show c.length + sumN (u ++ v) = c.length + sumN u + sumN v
    rw [sumN_app u v]
    omega
theorem prF_app : ∀ u v : List (List Int), prF (u ++ v) = prF u * prF v
  | [], v => (Nat.one_mul _).symm
  | c :: u, v => by
    show fct c.length * prF (u ++ v) = fct c.length * prF u * prF v
    rw [prF_app u v, Nat.mul_assoc]
theorem sumN_rest (r : List Int) : sumN (restL r) = r.length := by
  cases r with
  | nil => rfl
  | cons y r => rfl
theorem prF_rest (r : List Int) : prF (restL r) = fct r.length := by
  cases r with
  | nil => rfl
  | cons y r => exact Nat.mul_one _
structure Bgn (CA : List (List Int)) : Prop where
  ne : ∀ ch ∈ CA, ch ≠ []
  nd : (CA.map fun ch => ch.headD 0).Nodup
theorem Bgn.aft {l r' : List (List Int)} {c : Int} {r : List Int} (B : Bgn (l ++ (c :: r) :: r')) : Nx.aft (l ++ (c :: r) :: r') c = l ++ (restL r ++ r') := by
  have nd := B.nd
  rw [List.map_append, List.map_cons] at nd
  have nd2 := (List.perm_middle.nodup_iff.mp nd)
  have np := (List.nodup_cons.mp nd2).1
  refine aft_split (fun ch hc => ⟨B.ne ch (List.mem_append.mpr (.inl hc)), fun e => np ?_⟩) fun ch hc => ⟨B.ne ch (List.mem_append.mpr (.inr (List.mem_cons_of_mem _ hc))), fun e => np ?_⟩
  · show c ∈ _
    rw [← e]
    exact List.mem_append.mpr (.inl (List.mem_map.mpr ⟨ch, hc, rfl⟩))
  · show c ∈ _
    rw [← e]
    exact List.mem_append.mpr (.inr (List.mem_map.mpr ⟨ch, hc, rfl⟩))
theorem mix_one {CA : List (List Int)} (B : Bgn CA) {ch : List Int} (h : ch ∈ CA) : mixN (aft CA (ch.headD 0)) * prF CA = fct (sumN CA - 1) * ch.length := by
  obtain ⟨l, r', rfl⟩ := List.append_of_mem h
  cases ch with
  | nil => exact absurd rfl (B.ne _ h)
  | cons c r =>
    show mixN (aft _ c) * _ = _
    have e := B.aft
    have m := mixN_mul (l ++ (restL r ++ r'))
    rw [prF_app, prF_app, prF_rest, sumN_app, sumN_app, sumN_rest] at m
    rw [e, prF_app, sumN_app]
    show mixN _ * (prF l * (((r.length + 1) * fct r.length) * prF r')) = fct (sumN l + ((r.length + 1) + sumN r') - 1) * (r.length + 1)
    rw [show sumN l + ((r.length + 1) + sumN r') - 1 = sumN l + (r.length + sumN r') by omega, ← m]
    simp only [Nat.mul_assoc, Nat.mul_left_comm, Nat.mul_comm]
theorem sum_mul {α : Type} (f g : α → Nat) (p q : Nat) : ∀ l : List α, (∀ x ∈ l, f x * p = q * g x) → (l.map f).sum * p = q * (l.map g).sum
  | [], _ => by simp
  | x :: l, h => by
    rw [List.map_cons, List.map_cons, List.sum_cons, List.sum_cons, Nat.add_mul, Nat.mul_add, h x (List.mem_cons_self ..), sum_mul f g p q l fun y hy => h y (List.mem_cons_of_mem _ hy)]
theorem sumN_sum : ∀ l : List (List Int), (l.map List.length).sum = sumN l
  | [] => rfl
  | c :: l => by
    rw [List.map_cons, List.sum_cons, sumN_sum l]
    rfl
theorem mix_sum {CA : List (List Int)} (B : Bgn CA) (hne : CA ≠ []) : (CA.map fun ch => mixN (aft CA (ch.headD 0))).sum = mixN CA := by
  have e := sum_mul (fun ch => mixN (aft CA (ch.headD 0))) List.length (prF CA) (fct (sumN CA - 1)) CA fun ch hc => mix_one B hc
  rw [sumN_sum] at e
  have h0 : 0 < sumN CA := by
    have := len_sumN CA B.ne
    have := List.length_pos_iff.mpr hne
    omega
  have e2 : fct (sumN CA - 1) * sumN CA = fct (sumN CA) := by
    obtain ⟨m, hm⟩ : ∃ m, sumN CA = m + 1 := ⟨sumN CA - 1, by omega⟩
    rw [hm, Nat.add_sub_cancel, Nat.mul_comm]
    rfl
  rw [e2, ← mixN_mul CA] at e
  exact Nat.eq_of_mul_eq_mul_right (prF_pos CA) e
def numW : List (List Int) → List Int → Nat
  | _, [] => 0
  | CA, c :: w => lesN CA c + numW (aft CA c) w
structure Dst (CA : List (List Int)) : Prop where
  ne : ∀ ch ∈ CA, ch ≠ []
  nd : CA.flatten.Nodup
theorem head_mem {ch : List Int} (h : ch ≠ []) : ch.headD 0 ∈ ch := by
  cases ch with
  | nil => exact absurd rfl h
  | cons c r => exact List.mem_cons_self ..
theorem Dst.bgn : ∀ {CA : List (List Int)}, Dst CA → Bgn CA
  | [], _ => .mk (fun _ h => absurd h List.not_mem_nil) List.nodup_nil
  | ch :: l, D => by
    have nd := D.nd
    rw [List.flatten_cons] at nd
    obtain ⟨h1, h2, h3⟩ := List.nodup_append.mp nd
    have ih := Dst.bgn (CA := l) ⟨fun d hd => D.ne d (List.mem_cons_of_mem _ hd), h2⟩
    refine ⟨D.ne, ?_⟩
    rw [List.map_cons]
    refine List.nodup_cons.mpr ⟨fun hm => ?_, ih.nd⟩
    obtain ⟨d, hd, e⟩ := List.mem_map.mp hm
    exact h3 (ch.headD 0) (head_mem (D.ne ch (List.mem_cons_self ..))) (d.headD 0) (List.mem_flatten.mpr ⟨d, hd, head_mem (D.ne d (List.mem_cons_of_mem _ hd))⟩) e.symm
theorem Dst.aft {CA : List (List Int)} (D : Dst CA) {c : Int} (h : c ∈ CA.map fun ch => ch.headD 0) : Dst (Nx.aft CA c) := by
  refine ⟨aft_ne CA c, ?_⟩
  obtain ⟨ch, hch, e⟩ := List.mem_map.mp h
  obtain ⟨l, r', rfl⟩ := List.append_of_mem hch
  cases ch with
  | nil => exact absurd rfl (D.ne _ hch)
  | cons p r =>
    have e : p = c := e
    subst e
    rw [D.bgn.aft, List.flatten_append, List.flatten_append, restL_flat]
    have nd := D.nd
    rw [show (l ++ (p :: r) :: r').flatten = l.flatten ++ (p :: (r ++ r'.flatten)) by simp] at nd
    exact (List.nodup_cons.mp (List.perm_middle.nodup_iff.mp nd)).2
theorem fsum_split (g : Int → Nat) {c : Int} : ∀ l : List Int, l.Nodup → c ∈ l → ((l.filter fun o => decide (o ≤ c)).map g).sum = ((l.filter fun o => decide (o < c)).map g).sum + g c
  | [], _, h => nomatch h
  | x :: l, nd, h => by
    obtain ⟨n1, n2⟩ := List.nodup_cons.mp nd
    rw [List.filter_cons, List.filter_cons]
    by_cases hx : x = c
    · subst hx
      have e : (l.filter fun o => decide (o ≤ x)) = l.filter fun o => decide (o < x) := List.filter_congr fun o ho => by
        have : o ≠ x := fun e => n1 (e ▸ ho)
        exact decide_eq_decide.mpr ⟨fun z => by omega, fun z => by omega⟩
      rw [if_pos (decide_eq_true (Int.le_refl x)), if_neg (by simp), e, List.map_cons, List.sum_cons]
      omega
    · have hm : c ∈ l := by
        rcases List.mem_cons.mp h with h | h
        · exact absurd h.symm hx
        · exact h
      have ih := fsum_split g l n2 hm
      by_cases hl : x < c
      · rw [if_pos (decide_eq_true (by omega)), if_pos (decide_eq_true hl), List.map_cons, List.map_cons, List.sum_cons, List.sum_cons, ih]
        omega
      · rw [if_neg (by simp; omega), if_neg (by simp; omega)]
        exact ih
theorem les_le {CA : List (List Int)} (B : Bgn CA) {c : Int} (h : c ∈ CA.map fun ch => ch.headD 0) : lesN CA c + mixN (aft CA c) = ((((CA.map fun ch => ch.headD 0).filter fun o => decide (o ≤ c))).map fun o => mixN (aft CA o)).sum := by
  rw [fsum_split (fun o => mixN (aft CA o)) _ B.nd h]
  rfl
theorem les_pick {CA : List (List Int)} (B : Bgn CA) {u : Nat} (hu : u < mixN CA) {c : Int} (h : c ∈ CA.map fun ch => ch.headD 0) (hmx : ∀ o ∈ CA.map (fun ch => ch.headD 0), lesN CA o ≤ u → o ≤ c) : u < lesN CA c + mixN (aft CA c) := by
  by_cases hc : u < lesN CA c + mixN (aft CA c)
  · exact hc
  exfalso
  have hne : CA ≠ [] := fun e => by rw [e] at h; cases h
  by_cases hg : ((CA.map fun ch => ch.headD 0).filter fun o => decide (c < o)) = []
  · have e : lesN CA c + mixN (aft CA c) = mixN CA := by
      rw [les_le B h, ← mix_sum B hne]
      rw [show ((CA.map fun ch => ch.headD 0).filter fun o => decide (o ≤ c)) = CA.map fun ch => ch.headD 0 from List.filter_eq_self.mpr fun o ho => by
        have := List.filter_eq_nil_iff.mp hg o ho
        refine decide_eq_true ?_
        by_cases z : o ≤ c
        · exact z
        · exact absurd (decide_eq_true (by omega)) this, List.map_map]
      rfl
    omega
  · obtain ⟨o, h1, h2⟩ := min_of _ hg
    obtain ⟨h3, h4⟩ := List.mem_filter.mp h1
    have h4 := of_decide_eq_true h4
    have e : lesN CA o = lesN CA c + mixN (aft CA c) := by
      rw [les_le B h]
      unfold lesN
      congr 2
      refine List.filter_congr fun x hx => decide_eq_decide.mpr ⟨fun z => ?_, fun z => by omega⟩
      by_cases zc : x ≤ c
      · exact zc
      · have := h2 x (List.mem_filter.mpr ⟨hx, decide_eq_true (by omega)⟩)
        omega
    have := hmx o h3 (by omega)
    omega
theorem memI_of2 (x : Int) (t : List Int) (h : x ∈ t) : memI x t = true := by
  induction t with
  | nil => cases h
  | cons a t ih =>
    simp only [memI]
    rcases List.mem_cons.mp h with h | h
    · subst h
      simp
    · rw [ih h]
      simp
theorem pNin_mem {x : Int} {t : List Int} (h : x ∈ t) : pNin (.int x) (.list (iL t)) = some false := by
  unfold pNin pIn
  simp only [asI_iL, memI_of2 x t h]
  rfl
theorem way_loop2 {x0 x1 x2 x3 : Option W} (NC LM CF : List W → Tree PyData) (hNC : ∀ CA : List (List Int), (∀ ch ∈ CA, ch ≠ []) → sumN CA ≤ 10 → NC [.d (.list (dLs CA))] = .ret (.list (iL (CA.map fun ch => ch.headD 0)))) (hLM : ∀ (CA : List (List Int)) (c : Int), (∀ ch ∈ CA, ch ≠ []) → sumN CA ≤ 10 → LM [.d (.list (dLs CA)), .d (.int c)] = .ret (.int ((lesN CA c : Nat) : Int))) (hCF : ∀ (CA : List (List Int)) (c : Int), (∀ ch ∈ CA, ch ≠ []) → sumN CA ≤ 10 → CF [.d (.list (dLs CA)), .d (.int c)] = .ret (.list (dLs (aft CA c)))) : ∀ (f : Nat) (CA : List (List Int)) (acc : List Int) (u : Nat) (x7 : Option W), (∀ ch ∈ CA, ch ≠ []) → sumN CA ≤ 10 → sumN CA < f → acc.length + sumN CA ≤ 1000 → ∃ w y6 y7, Mix CA w ∧ (Dst CA → u < mixN CA → numW CA w = u) ∧ whT (tTr (dV 4)) (sC (sSet 7 (d1 pMax (dLf (.nm 8) [8] (iS (dCall NC (aC (aV 4) a0))) (t2 cLe (dCall LM (aC (aV 4) (aC (aV 8) a0))) (dV 6)) (dV 8)))) (sC (sApp 5 (dV 7)) (sC (sAug 6 gSb (dCall LM (aC (aV 4) (aC (aV 7) a0)))) (sSet 4 (dCall CF (aC (aV 4) (aC (aV 7) a0))))))) f [x0, x1, x2, x3, some (.d (.list (dLs CA))), some (.own (iL acc)), some (.d (.int (u : Int))), x7, none] = .ret (.nx [x0, x1, x2, x3, some (.d (.list (dLs []))), some (.own (iL (acc ++ w))), y6, y7, none])
  | 0, _, _, _, _, _, _, h, _ => absurd h (Nat.not_lt_zero _)
  | f + 1, CA, acc, u, x7, hne, hs, hf, hl => by
    by_cases hCA : CA = []
    · subst hCA
      refine ⟨[], some (.d (.int (u : Int))), x7, rfl, fun _ hu => by have hu : u < 1 := hu; show 0 = u; omega, ?_⟩
      rw [List.append_nil]
      rfl
    · have ev : (tTr (dV 4)) [x0, x1, x2, x3, some (.d (.list (dLs CA))), some (.own (iL acc)), some (.d (.int (u : Int))), x7, none] = .ret true := by
        cases CA with
        | nil => exact absurd rfl hCA
        | cons ch l => rfl
      rw [whT, ev]
      have hcl := len_sumN CA hne
      have pk : ∀ (g : PyData → Tree (Option PyData)), (∀ o : Int, g (.int o) = .ret (if decide ((lesN CA o : Int) ≤ u) = true then some (.int o) else none)) → pickT g (iL (CA.map fun ch => ch.headD 0)) = .ret (iL ((CA.map fun ch => ch.headD 0).filter fun o => decide ((lesN CA o : Int) ≤ u))) := fun g hg => pickT_f2 fun o _ => hg o
      have hne2 : ((CA.map fun ch => ch.headD 0).filter fun o => decide ((lesN CA o : Int) ≤ u)) ≠ [] := fun e => by
        obtain ⟨o, h1, h2⟩ := les_zero hCA
        have := List.filter_eq_nil_iff.mp e o h1
        rw [h2] at this
        exact this (decide_eq_true (by omega))
      obtain ⟨hm1, hm2⟩ := List.mem_filter.mp (mx_mem hne2)
      have hgr : ∀ o ∈ CA.map (fun ch => ch.headD 0), lesN CA o ≤ u → o ≤ mx ((CA.map fun ch => ch.headD 0).filter fun o => decide ((lesN CA o : Int) ≤ u)) := fun o ho hle => mx_ge (List.mem_filter.mpr ⟨ho, decide_eq_true (by omega)⟩)
      generalize hmx : mx ((CA.map fun ch => ch.headD 0).filter fun o => decide ((lesN CA o : Int) ≤ u)) = c at hm1 hm2 hgr
      have hm2 := of_decide_eq_true hm2
      have e5 : iL acc ++ [PyData.int c] = iL (acc ++ [c]) := by
        unfold iL
        rw [List.map_append]
        rfl
      have e6 : (u : Int) - ((lesN CA c : Nat) : Int) = ((u - lesN CA c : Nat) : Int) := by omega
      have hlt := sumN_lt hne hm1
      have st : (sC (sSet 7 (d1 pMax (dLf (.nm 8) [8] (iS (dCall NC (aC (aV 4) a0))) (t2 cLe (dCall LM (aC (aV 4) (aC (aV 8) a0))) (dV 6)) (dV 8)))) (sC (sApp 5 (dV 7)) (sC (sAug 6 gSb (dCall LM (aC (aV 4) (aC (aV 7) a0)))) (sSet 4 (dCall CF (aC (aV 4) (aC (aV 7) a0))))))) [x0, x1, x2, x3, some (.d (.list (dLs CA))), some (.own (iL acc)), some (.d (.int (u : Int))), x7, none] = .ret (.nx [x0, x1, x2, x3, some (.d (.list (dLs (aft CA c)))), some (.own (iL (acc ++ [c]))), some (.d (.int ((u - lesN CA c : Nat) : Int))), some (.d (.int c)), none]) := by
        simp only [Nat.reduceSub, Nat.reduceAdd, reduceIte, Tree.bind, liftO, dIdx, sAsgL, sPar4, dV, dC, d1, d2, t1, t2, l0, lC, dL, dT, aV, aE, a0, aC, dCall, dCallK, dIf, tTr, tV, truth, asB, tNot, tAnd, tOr, dAnd, dOr, sSet, sAsg, sPar, sRet, s0, sC, sIf, sX, sOwn, sApp, sFrz, frzE, sFor, outV, fnF, lenIs, ent, small, few, putE, putsE, wipeE, it_l, it_t, iS, iR1, iR2, wEn, wZ2, wZ3, dLc, dLf, dSl, oN, oS, pCut, pSub, cI, bD, pIx, pList, pTup, pLen, pNot, qIsN, qNotN, pIsN, pNotN, List.getElem?_cons_succ, List.getElem?_cons_zero, List.set_cons_succ, List.set_cons_zero, List.length_cons, List.length_nil, List.map_cons, List.map_nil, List.foldr_cons, List.foldr_nil, List.replicate_succ, List.replicate_zero, List.cons_append, List.nil_append, sOPar, sOOPar, dOIx, sNest, sCallP, dOLen, fnP, pC, pFrz, dPr, nApp, nIf, nEnd, sN0, sN1, lendE, frzW, sSetK, dGet, dZipD, dPairD, pMax2, sDD, sND, tNeN, sLock, lockE, odcE, tdE, dttE, tC, tLock, tRet, dGetO, dIdxO, tNinD, sPutO, tDen, sUpd, sCpT, iDtt, dSrtD, sParDt, sParDt3, tCall2, fnT, sNewD, isNd, hNC CA hne hs, iL_len, List.length_map, if_pos (show CA.length ≤ 50000 by omega)]
        rw [pk _ fun o => by
          simp only [Nat.reduceSub, Nat.reduceAdd, reduceIte, Tree.bind, liftO, dIdx, sAsgL, sPar4, dV, dC, d1, d2, t1, t2, l0, lC, dL, dT, aV, aE, a0, aC, dCall, dCallK, dIf, tTr, tV, truth, asB, tNot, tAnd, tOr, dAnd, dOr, sSet, sAsg, sPar, sRet, s0, sC, sIf, sX, sOwn, sApp, sFrz, frzE, sFor, outV, fnF, lenIs, ent, small, few, putE, putsE, wipeE, it_l, it_t, iS, iR1, iR2, wEn, wZ2, wZ3, dLc, dLf, dSl, oN, oS, pCut, pSub, cI, bD, pIx, pList, pTup, pLen, pNot, qIsN, qNotN, pIsN, pNotN, List.getElem?_cons_succ, List.getElem?_cons_zero, List.set_cons_succ, List.set_cons_zero, List.length_cons, List.length_nil, List.map_cons, List.map_nil, List.foldr_cons, List.foldr_nil, List.replicate_succ, List.replicate_zero, List.cons_append, List.nil_append, sOPar, sOOPar, dOIx, sNest, sCallP, dOLen, fnP, pC, pFrz, dPr, nApp, nIf, nEnd, sN0, sN1, lendE, frzW, sSetK, dGet, dZipD, dPairD, pMax2, sDD, sND, tNeN, sLock, lockE, odcE, tdE, dttE, tC, tLock, tRet, dGetO, dIdxO, tNinD, sPutO, tDen, sUpd, sCpT, iDtt, dSrtD, sParDt, sParDt3, tCall2, fnT, sNewD, isNd, hLM CA o hne hs, cLe]
          cases decide ((lesN CA o : Int) ≤ u) <;> rfl]
        simp only [Nat.reduceSub, Nat.reduceAdd, reduceIte, Tree.bind, liftO, dIdx, sAsgL, sPar4, dV, dC, d1, d2, t1, t2, l0, lC, dL, dT, aV, aE, a0, aC, dCall, dCallK, dIf, tTr, tV, truth, asB, tNot, tAnd, tOr, dAnd, dOr, sSet, sAsg, sPar, sRet, s0, sC, sIf, sX, sOwn, sApp, sFrz, frzE, sFor, outV, fnF, lenIs, ent, small, few, putE, putsE, wipeE, it_l, it_t, iS, iR1, iR2, wEn, wZ2, wZ3, dLc, dLf, dSl, oN, oS, pCut, pSub, cI, bD, pIx, pList, pTup, pLen, pNot, qIsN, qNotN, pIsN, pNotN, List.getElem?_cons_succ, List.getElem?_cons_zero, List.set_cons_succ, List.set_cons_zero, List.length_cons, List.length_nil, List.map_cons, List.map_nil, List.foldr_cons, List.foldr_nil, List.replicate_succ, List.replicate_zero, List.cons_append, List.nil_append, sOPar, sOOPar, dOIx, sNest, sCallP, dOLen, fnP, pC, pFrz, dPr, nApp, nIf, nEnd, sN0, sN1, lendE, frzW, sSetK, dGet, dZipD, dPairD, pMax2, sDD, sND, tNeN, sLock, lockE, odcE, tdE, dttE, tC, tLock, tRet, dGetO, dIdxO, tNinD, sPutO, tDen, sUpd, sCpT, iDtt, dSrtD, sParDt, sParDt3, tCall2, fnT, sNewD, isNd, pMax_of hne2, hmx, hLM CA c hne hs, hCF CA c hne hs, sAug, gSb, e5, e6, iL_len, if_pos (show acc.length + 1 ≤ 100000 by omega)]
      obtain ⟨w, y6, y7, h1, hnum, h2⟩ := way_loop2 (x0 := x0) (x1 := x1) (x2 := x2) (x3 := x3) NC LM CF hNC hLM hCF f (aft CA c) (acc ++ [c]) (u - lesN CA c) (some (.d (.int c))) (aft_ne CA c) (by omega) (by omega) (by rw [List.length_append, List.length_singleton]; omega)
      refine ⟨c :: w, y6, y7, ⟨hm1, h1⟩, fun D hu => ?_, ?_⟩
      · have hp := les_pick D.bgn hu hm1 hgr
        have := hnum (D.aft hm1) (by omega)
        show lesN CA c + numW (aft CA c) w = u
        omega
      simp only [Tree.bind, st]
      rw [h2, List.append_assoc]
      rfl
theorem ev_way_at2 {n : Nat} {d e : PyData} {CA : List (List Int)} {u : Nat} (hCB : m_chains_between [.d (.int (n : Int)), .d d, .d e] = .ret (.list (dLs CA))) (hne : ∀ ch ∈ CA, ch ≠ []) (hs : sumN CA ≤ 10) (hu : u < mixN CA) (D : Dst CA) : ∃ w, Mix CA w ∧ numW CA w = u ∧ m_way_at [.d (.int (n : Int)), .d d, .d e, .d (.int (u : Int))] = .ret (.list (iL w)) := by
  have hl := len_sumN CA hne
  have e1 := ev_mixed_many hs (show CA.length ≤ 1000 by omega)
  obtain ⟨w, y6, y7, hM, hnum, run⟩ := way_loop2 (x0 := some (.d (.int (n : Int)))) (x1 := some (.d d)) (x2 := some (.d e)) (x3 := some (.d (.int (u : Int)))) m_next_chairs m_lesser_many m_chains_after (fun CA h1 h2 => ev_next_chairs h1 (Nat.le_trans (len_sumN CA h1) (by omega))) (fun CA c h1 h2 => ev_lesser_many h1 h2 (Nat.le_trans (len_sumN CA h1) (by omega))) (fun CA c h1 h2 => ev_chains_after h1 (Nat.le_trans (len_sumN CA h1) (by omega))) 100 CA [] u none hne hs (by omega) (by simp only [List.length_nil]; omega)
  refine ⟨w, hM, hnum D hu, ?_⟩
  have run : whT (tTr (dV 4)) (sC (sSet 7 (d1 pMax (dLf (.nm 8) [8] (iS (dCall m_next_chairs (aC (aV 4) a0))) (t2 cLe (dCall m_lesser_many (aC (aV 4) (aC (aV 8) a0))) (dV 6)) (dV 8)))) (sC (sApp 5 (dV 7)) (sC (sAug 6 gSb (dCall m_lesser_many (aC (aV 4) (aC (aV 7) a0)))) (sSet 4 (dCall m_chains_after (aC (aV 4) (aC (aV 7) a0))))))) 100 [some (.d (.int (n : Int))), some (.d d), some (.d e), some (.d (.int (u : Int))), some (.d (.list (dLs CA))), some (.own []), some (.d (.int (u : Int))), none, none] = .ret (.nx [some (.d (.int (n : Int))), some (.d d), some (.d e), some (.d (.int (u : Int))), some (.d (.list (dLs []))), some (.own (iL w)), y6, y7, none]) := run
  unfold m_way_at b_way_at
  generalize hW : (tTr (dV 4) : DenB) = Wc at run ⊢
  generalize hB : (sC (sSet 7 (d1 pMax (dLf (.nm 8) [8] (iS (dCall m_next_chairs (aC (aV 4) a0))) (t2 cLe (dCall m_lesser_many (aC (aV 4) (aC (aV 8) a0))) (dV 6)) (dV 8)))) (sC (sApp 5 (dV 7)) (sC (sAug 6 gSb (dCall m_lesser_many (aC (aV 4) (aC (aV 7) a0)))) (sSet 4 (dCall m_chains_after (aC (aV 4) (aC (aV 7) a0)))))) : DenS) = Wb at run ⊢
  generalize m_mixed_many = MM at e1 ⊢
  generalize m_chains_between = CB at hCB ⊢
  simp only [Nat.reduceSub, Nat.reduceAdd, reduceIte, Tree.bind, liftO, dIdx, sAsgL, sPar4, dV, dC, d1, d2, t1, t2, l0, lC, dL, dT, aV, aE, a0, aC, dCall, dCallK, dIf, tTr, tV, truth, asB, tNot, tAnd, tOr, dAnd, dOr, sSet, sAsg, sPar, sRet, s0, sC, sIf, sX, sOwn, sApp, sFrz, frzE, sFor, outV, fnF, lenIs, ent, small, few, putE, putsE, wipeE, it_l, it_t, iS, iR1, iR2, wEn, wZ2, wZ3, dLc, dLf, dSl, oN, oS, pCut, pSub, cI, bD, pIx, pList, pTup, pLen, pNot, qIsN, qNotN, pIsN, pNotN, List.getElem?_cons_succ, List.getElem?_cons_zero, List.set_cons_succ, List.set_cons_zero, List.length_cons, List.length_nil, List.map_cons, List.map_nil, List.foldr_cons, List.foldr_nil, List.replicate_succ, List.replicate_zero, List.cons_append, List.nil_append, sOPar, sOOPar, dOIx, sNest, sCallP, dOLen, fnP, pC, pFrz, dPr, nApp, nIf, nEnd, sN0, sN1, lendE, frzW, sSetK, dGet, dZipD, dPairD, pMax2, sDD, sND, tNeN, sLock, lockE, odcE, tdE, dttE, tC, tLock, tRet, dGetO, dIdxO, tNinD, sPutO, tDen, sUpd, sCpT, iDtt, dSrtD, sParDt, sParDt3, tCall2, fnT, sNewD, isNd, hCB, e1, decide_eq_true (show (0 : Int) ≤ (u : Int) by omega), decide_eq_true (show (u : Int) < ((mixN CA : Nat) : Int) by omega), tCh, Bool.not_true, sWh, Nat.zero_le, if_true]
  rw [run]
  simp only [Nat.reduceSub, Nat.reduceAdd, reduceIte, Tree.bind, liftO, dIdx, sAsgL, sPar4, dV, dC, d1, d2, t1, t2, l0, lC, dL, dT, aV, aE, a0, aC, dCall, dCallK, dIf, tTr, tV, truth, asB, tNot, tAnd, tOr, dAnd, dOr, sSet, sAsg, sPar, sRet, s0, sC, sIf, sX, sOwn, sApp, sFrz, frzE, sFor, outV, fnF, lenIs, ent, small, few, putE, putsE, wipeE, it_l, it_t, iS, iR1, iR2, wEn, wZ2, wZ3, dLc, dLf, dSl, oN, oS, pCut, pSub, cI, bD, pIx, pList, pTup, pLen, pNot, qIsN, qNotN, pIsN, pNotN, List.getElem?_cons_succ, List.getElem?_cons_zero, List.set_cons_succ, List.set_cons_zero, List.length_cons, List.length_nil, List.map_cons, List.map_nil, List.foldr_cons, List.foldr_nil, List.replicate_succ, List.replicate_zero, List.cons_append, List.nil_append, sOPar, sOOPar, dOIx, sNest, sCallP, dOLen, fnP, pC, pFrz, dPr, nApp, nIf, nEnd, sN0, sN1, lendE, frzW, sSetK, dGet, dZipD, dPairD, pMax2, sDD, sND, tNeN, sLock, lockE, odcE, tdE, dttE, tC, tLock, tRet, dGetO, dIdxO, tNinD, sPutO, tDen, sUpd, sCpT, iDtt, dSrtD, sParDt, sParDt3, tCall2, fnT, sNewD, isNd]
theorem num_loop {x0 x1 x2 x3 : Option W} (NC LM CF : List W → Tree PyData) (hNC : ∀ CA : List (List Int), (∀ ch ∈ CA, ch ≠ []) → sumN CA ≤ 10 → NC [.d (.list (dLs CA))] = .ret (.list (iL (CA.map fun ch => ch.headD 0)))) (hLM : ∀ (CA : List (List Int)) (c : Int), (∀ ch ∈ CA, ch ≠ []) → sumN CA ≤ 10 → LM [.d (.list (dLs CA)), .d (.int c)] = .ret (.int ((lesN CA c : Nat) : Int))) (hCF : ∀ (CA : List (List Int)) (c : Int), (∀ ch ∈ CA, ch ≠ []) → sumN CA ≤ 10 → CF [.d (.list (dLs CA)), .d (.int c)] = .ret (.list (dLs (aft CA c)))) : ∀ (w : List Int) (CA : List (List Int)) (acc : Nat) (x6 : Option W), (∀ ch ∈ CA, ch ≠ []) → sumN CA ≤ 10 → Mix CA w → ∃ y6, forT (.nm 6) (sC (sIf (t2 pNin (dV 6) (dCall NC (aC (aV 4) a0))) sNo s0) (sC (sAug 5 gAdd (dCall LM (aC (aV 4) (aC (aV 6) a0)))) (sSet 4 (dCall CF (aC (aV 4) (aC (aV 6) a0)))))) (iL w) [x0, x1, x2, x3, some (.d (.list (dLs CA))), some (.d (.int (acc : Int))), x6] = .ret (.nx [x0, x1, x2, x3, some (.d (.list (dLs []))), some (.d (.int ((acc + numW CA w : Nat) : Int))), y6])
  | [], CA, acc, x6, _, _, h => by
    have h : CA = [] := h
    subst h
    exact ⟨x6, rfl⟩
  | c :: w, CA, acc, x6, hne, hs, h => by
    have hin : pNin (.int c) (.list (iL (CA.map fun ch => ch.headD 0))) = some false := pNin_mem h.1
    have st : (sC (sIf (t2 pNin (dV 6) (dCall NC (aC (aV 4) a0))) sNo s0) (sC (sAug 5 gAdd (dCall LM (aC (aV 4) (aC (aV 6) a0)))) (sSet 4 (dCall CF (aC (aV 4) (aC (aV 6) a0)))))) [x0, x1, x2, x3, some (.d (.list (dLs CA))), some (.d (.int (acc : Int))), some (.d (.int c))] = .ret (.nx [x0, x1, x2, x3, some (.d (.list (dLs (aft CA c)))), some (.d (.int ((acc + lesN CA c : Nat) : Int))), some (.d (.int c))]) := by
      simp only [Nat.reduceSub, Nat.reduceAdd, reduceIte, Tree.bind, liftO, dIdx, sAsgL, sPar4, dV, dC, d1, d2, t1, t2, l0, lC, dL, dT, aV, aE, a0, aC, dCall, dCallK, dIf, tTr, tV, truth, asB, tNot, tAnd, tOr, dAnd, dOr, sSet, sAsg, sPar, sRet, s0, sC, sIf, sX, sOwn, sApp, sFrz, frzE, sFor, outV, fnF, lenIs, ent, small, few, putE, putsE, wipeE, it_l, it_t, iS, iR1, iR2, wEn, wZ2, wZ3, dLc, dLf, dSl, oN, oS, pCut, pSub, cI, bD, pIx, pList, pTup, pLen, pNot, qIsN, qNotN, pIsN, pNotN, List.getElem?_cons_succ, List.getElem?_cons_zero, List.set_cons_succ, List.set_cons_zero, List.length_cons, List.length_nil, List.map_cons, List.map_nil, List.foldr_cons, List.foldr_nil, List.replicate_succ, List.replicate_zero, List.cons_append, List.nil_append, sOPar, sOOPar, dOIx, sNest, sCallP, dOLen, fnP, pC, pFrz, dPr, nApp, nIf, nEnd, sN0, sN1, lendE, frzW, sSetK, dGet, dZipD, dPairD, pMax2, sDD, sND, tNeN, sLock, lockE, odcE, tdE, dttE, tC, tLock, tRet, dGetO, dIdxO, tNinD, sPutO, tDen, sUpd, sCpT, iDtt, dSrtD, sParDt, sParDt3, tCall2, fnT, sNewD, isNd, hNC CA hne hs, hin, hLM CA c hne hs, hCF CA c hne hs, sAug, gAdd]
      congr 4
    obtain ⟨y6, ih⟩ := num_loop (x0 := x0) (x1 := x1) (x2 := x2) (x3 := x3) NC LM CF hNC hLM hCF w (aft CA c) (acc + lesN CA c) (some (.d (.int c))) (aft_ne CA c) (Nat.le_trans (sumN_aft CA c) hs) h.2
    refine ⟨y6, ?_⟩
    show forT (.nm 6) _ (.int c :: iL w) _ = _
    rw [forT]
    simp only [putE, List.set_cons_succ, List.set_cons_zero, liftO, Tree.bind, st]
    rw [ih, show acc + numW CA (c :: w) = acc + lesN CA c + numW (aft CA c) w by show acc + (lesN CA c + numW (aft CA c) w) = _; omega]
theorem ev_way_number {n : Nat} {d e f : PyData} {CA : List (List Int)} {w : List Int} (hCB : m_chains_between [.d (.int (n : Int)), .d d, .d e] = .ret (.list (dLs CA))) (hf : items f = some (iL w)) (hne : ∀ ch ∈ CA, ch ≠ []) (hs : sumN CA ≤ 10) (hM : Mix CA w) : m_way_number [.d (.int (n : Int)), .d d, .d e, .d f] = .ret (.int ((numW CA w : Nat) : Int)) := by
  obtain ⟨y6, run⟩ := num_loop (x0 := some (.d (.int (n : Int)))) (x1 := some (.d d)) (x2 := some (.d e)) (x3 := some (.d f)) m_next_chairs m_lesser_many m_chains_after (fun CA h1 h2 => ev_next_chairs h1 (Nat.le_trans (len_sumN CA h1) (by omega))) (fun CA c h1 h2 => ev_lesser_many h1 h2 (Nat.le_trans (len_sumN CA h1) (by omega))) (fun CA c h1 h2 => ev_chains_after h1 (Nat.le_trans (len_sumN CA h1) (by omega))) w CA 0 none hne hs hM
  rw [Nat.zero_add] at run
  have run : forT (.nm 6) _ (iL w) [some (.d (.int (n : Int))), some (.d d), some (.d e), some (.d f), some (.d (.list (dLs CA))), some (.d (.int 0)), none] = _ := run
  unfold m_way_number b_way_number
  generalize hB : (sC (sIf (t2 pNin (dV 6) (dCall m_next_chairs (aC (aV 4) a0))) sNo s0) (sC (sAug 5 gAdd (dCall m_lesser_many (aC (aV 4) (aC (aV 6) a0)))) (sSet 4 (dCall m_chains_after (aC (aV 4) (aC (aV 6) a0))))) : DenS) = Wb at run ⊢
  generalize m_chains_between = CB at hCB ⊢
  simp only [Nat.reduceSub, Nat.reduceAdd, reduceIte, Tree.bind, liftO, dIdx, sAsgL, sPar4, dV, dC, d1, d2, t1, t2, l0, lC, dL, dT, aV, aE, a0, aC, dCall, dCallK, dIf, tTr, tV, truth, asB, tNot, tAnd, tOr, dAnd, dOr, sSet, sAsg, sPar, sRet, s0, sC, sIf, sX, sOwn, sApp, sFrz, frzE, sFor, outV, fnF, lenIs, ent, small, few, putE, putsE, wipeE, it_l, it_t, iS, iR1, iR2, wEn, wZ2, wZ3, dLc, dLf, dSl, oN, oS, pCut, pSub, cI, bD, pIx, pList, pTup, pLen, pNot, qIsN, qNotN, pIsN, pNotN, List.getElem?_cons_succ, List.getElem?_cons_zero, List.set_cons_succ, List.set_cons_zero, List.length_cons, List.length_nil, List.map_cons, List.map_nil, List.foldr_cons, List.foldr_nil, List.replicate_succ, List.replicate_zero, List.cons_append, List.nil_append, sOPar, sOOPar, dOIx, sNest, sCallP, dOLen, fnP, pC, pFrz, dPr, nApp, nIf, nEnd, sN0, sN1, lendE, frzW, sSetK, dGet, dZipD, dPairD, pMax2, sDD, sND, tNeN, sLock, lockE, odcE, tdE, dttE, tC, tLock, tRet, dGetO, dIdxO, tNinD, sPutO, tDen, sUpd, sCpT, iDtt, dSrtD, sParDt, sParDt3, tCall2, fnT, sNewD, isNd, hCB, hf]
  rw [run]
  simp only [Nat.reduceSub, Nat.reduceAdd, reduceIte, Tree.bind, liftO, dIdx, sAsgL, sPar4, dV, dC, d1, d2, t1, t2, l0, lC, dL, dT, aV, aE, a0, aC, dCall, dCallK, dIf, tTr, tV, truth, asB, tNot, tAnd, tOr, dAnd, dOr, sSet, sAsg, sPar, sRet, s0, sC, sIf, sX, sOwn, sApp, sFrz, frzE, sFor, outV, fnF, lenIs, ent, small, few, putE, putsE, wipeE, it_l, it_t, iS, iR1, iR2, wEn, wZ2, wZ3, dLc, dLf, dSl, oN, oS, pCut, pSub, cI, bD, pIx, pList, pTup, pLen, pNot, qIsN, qNotN, pIsN, pNotN, List.getElem?_cons_succ, List.getElem?_cons_zero, List.set_cons_succ, List.set_cons_zero, List.length_cons, List.length_nil, List.map_cons, List.map_nil, List.foldr_cons, List.foldr_nil, List.replicate_succ, List.replicate_zero, List.cons_append, List.nil_append, sOPar, sOOPar, dOIx, sNest, sCallP, dOLen, fnP, pC, pFrz, dPr, nApp, nIf, nEnd, sN0, sN1, lendE, frzW, sSetK, dGet, dZipD, dPairD, pMax2, sDD, sND, tNeN, sLock, lockE, odcE, tdE, dttE, tC, tLock, tRet, dGetO, dIdxO, tNinD, sPutO, tDen, sUpd, sCpT, iDtt, dSrtD, sParDt, sParDt3, tCall2, fnT, sNewD, isNd, dLs, List.map_nil, List.isEmpty, Bool.not_true]
def WtC (x y : Int → Int) : List Nat → Prop
  | _ :: q :: r => y (q : Int) ≤ x ((q : Int) - 1) ∧ WtC x y (q :: r)
  | _ => True
theorem wtc_tail {x y : Int → Int} {p : Nat} {r : List Nat} (h : WtC x y (p :: r)) : WtC x y r := by
  cases r with
  | nil => trivial
  | cons q r => exact h.2
theorem chain_in {k : Nat} {x y : Int → Int} : ∀ {ch : List Nat} {p : Nat}, Cs k ch → WtC x y ch → p ∈ ch → p = ch.headD 0 ∨ ∃ p0 ∈ ch, p = (p0 + 1) % k ∧ y (p : Int) ≤ x ((p : Int) - 1)
  | [], _, _, _, h => nomatch h
  | q :: r, p, hc, hw, h => by
    rcases List.mem_cons.mp h with rfl | h
    · exact .inl rfl
    · right
      cases r with
      | nil => cases h
      | cons q' r' =>
        rcases chain_in (ch := q' :: r') hc.2 hw.2 h with e | ⟨p0, h1, h2, h3⟩
        · have e : p = q' := e
          subst e
          exact ⟨q, List.mem_cons_self .., hc.1, hw.1⟩
        · exact ⟨p0, List.mem_cons_of_mem _ h1, h2, h3⟩
theorem prev_mod {p k : Nat} (hp : p < k) : ((((p + 1) % k : Nat) : Int) - 1) % (k : Int) = (p : Int) := by
  by_cases hpk : p + 1 < k
  · rw [Nat.mod_eq_of_lt hpk, show ((p + 1 : Nat) : Int) - 1 = (p : Int) by omega]
    exact Int.emod_eq_of_lt (by omega) (by omega)
  · have : p + 1 = k := by omega
    rw [this, Nat.mod_self, show ((0 : Nat) : Int) - 1 = (p : Int) + (k : Int) * (-1) by omega, Int.add_mul_emod_self_left]
    exact Int.emod_eq_of_lt (by omega) (by omega)
theorem good_mix {n k : Nat} {x y : Int → Int} (A : Aim n k x y) (f : Nat → Int) (hf : ∀ p q, p < k → q < k → f p = f q → p = q) : ∀ (P : List Nat) (CP : List (List Nat)) (m : Int → Bool), Jn n k x y CP m → (∀ ch ∈ CP, WtC x y ch) → P.Perm CP.flatten → Good k x y m (P.map fun (p : Nat) => (p : Int)) → Mix (CP.map (List.map f)) (P.map f)
  | [], CP, m, J, _, hP, _ => by
    have hfl : CP.flatten = [] := hP.symm.eq_nil
    cases CP with
    | nil => rfl
    | cons ch l =>
      have := J.ne ch (List.mem_cons_self ..)
      cases ch with
      | nil => exact absurd rfl this
      | cons p r => simp at hfl
  | p :: P, CP, m, J, hw, hP, hG => by
    obtain ⟨g1, g2, g3⟩ := hG
    have hin : p ∈ CP.flatten := hP.mem_iff.mp (List.mem_cons_self ..)
    have hp : p < k := J.lt p hin
    have ep : (p : Int) % (k : Int) = (p : Int) := Int.emod_eq_of_lt (by omega) (by omega)
    obtain ⟨ch, hch, hpc⟩ := List.mem_flatten.mp hin
    have hhd : p = ch.headD 0 := by
      rcases chain_in (J.cs ch hch) (hw ch hch) hpc with e | ⟨p0, h1, h2, h3⟩
      · exact e
      · exfalso
        have hp0 : p0 ∈ CP.flatten := List.mem_flatten.mpr ⟨ch, hch, h1⟩
        have hm := J.fr p0 hp0
        have e := prev_mod (J.lt p0 hp0)
        rw [← h2] at e
        unfold zOf at g2
        rw [e, hm] at g2
        simp only [Bool.false_eq_true, if_false] at g2
        omega
    obtain ⟨l, r', rfl⟩ := List.append_of_mem hch
    cases ch with
    | nil => cases hpc
    | cons q r =>
      have hhd : p = q := hhd
      subst hhd
      have fl : (l ++ (p :: r) :: r').flatten = l.flatten ++ (p :: (r ++ r'.flatten)) := by simp
      have pm : (l.flatten ++ (p :: (r ++ r'.flatten))).Perm (p :: (l.flatten ++ (r ++ r'.flatten))) := List.perm_middle
      have nd := J.nd
      rw [fl] at nd
      obtain ⟨np, _⟩ := List.nodup_cons.mp (pm.nodup_iff.mp nd)
      have oth : ∀ l0 : List (List Nat), (∀ ch ∈ l0, ch ∈ l ++ (p :: r) :: r') → (∀ q ∈ l0.flatten, q ∈ l.flatten ++ (r ++ r'.flatten)) → ∀ ca ∈ l0.map (List.map f), ca ≠ [] ∧ ca.headD 0 ≠ f p := fun l0 i1 i2 ca hca => by
        obtain ⟨ch, hc, rfl⟩ := List.mem_map.mp hca
        have hne := J.ne ch (i1 ch hc)
        cases ch with
        | nil => exact absurd rfl hne
        | cons q t =>
          refine ⟨by simp, fun e => ?_⟩
          have e : f q = f p := e
          have hin0 : q ∈ l0.flatten := List.mem_flatten.mpr ⟨_, hc, List.mem_cons_self ..⟩
          have hq : q < k := J.lt q (List.mem_flatten.mpr ⟨_, i1 _ hc, List.mem_cons_self ..⟩)
          have := hf q p hq hp e
          subst this
          exact np (i2 q hin0)
      have ha : aft ((l ++ (p :: r) :: r').map (List.map f)) (f p) = (l ++ (restL r ++ r')).map (List.map f) := by
        rw [List.map_append, List.map_cons, List.map_cons, aft_split (oth l (fun ch hc => List.mem_append.mpr (.inl hc)) fun q hq => List.mem_append.mpr (.inl hq)) (oth r' (fun ch hc => List.mem_append.mpr (.inr (List.mem_cons_of_mem _ hc))) fun q hq => List.mem_append.mpr (.inr (List.mem_append.mpr (.inr hq)))), List.map_append, List.map_append, restL_map]
      have hP2 : P.Perm (l ++ (restL r ++ r')).flatten := by
        rw [List.flatten_append, List.flatten_append, restL_flat]
        rw [fl] at hP
        exact (List.perm_cons p).mp (hP.trans pm)
      have hw2 : ∀ ch ∈ l ++ (restL r ++ r'), WtC x y ch := fun ch hc => by
        rcases List.mem_append.mp hc with h | h
        · exact hw ch (List.mem_append.mpr (.inl h))
        · rcases List.mem_append.mp h with h | h
          · cases r with
            | nil => cases h
            | cons q t =>
              rcases List.mem_cons.mp h with rfl | h
              · exact wtc_tail (hw _ (List.mem_append.mpr (.inr (List.mem_cons_self ..))))
              · cases h
          · exact hw ch (List.mem_append.mpr (.inr (List.mem_cons_of_mem _ h)))
      rw [ep] at g3
      refine ⟨?_, ?_⟩
      · exact List.mem_map.mpr ⟨(p :: r).map f, List.mem_map.mpr ⟨_, hch, rfl⟩, rfl⟩
      · have := good_mix A f hf P _ _ (jn_step A J) hw2 hP2 g3
        rw [← ha] at this
        exact this
theorem wtc_chN {n : Nat} {a b : List Int} {s : Nat} : ∀ (f p : Nat), WtC (xOf n a) (yOf n b s) (p :: chN (wtF n a b s) a.length f ((p + 1) % a.length))
  | 0, _ => trivial
  | f + 1, p => by
    by_cases hw : wtF n a b s ((p + 1) % a.length) = true
    · rw [show chN (wtF n a b s) a.length (f + 1) ((p + 1) % a.length) = (p + 1) % a.length :: chN (wtF n a b s) a.length f (((p + 1) % a.length + 1) % a.length) by rw [chN, if_pos hw]]
      have h := of_decide_eq_true hw
      exact ⟨by omega, wtc_chN f ((p + 1) % a.length)⟩
    · rw [show chN (wtF n a b s) a.length (f + 1) ((p + 1) % a.length) = [] by rw [chN, if_neg hw]]
      trivial
theorem wtc_first {n : Nat} {a b : List Int} {s : Nat} : ∀ ch ∈ CPs n a b s, WtC (xOf n a) (yOf n b s) ch := fun ch hc => by
  obtain ⟨p, _, rfl⟩ := List.mem_map.mp hc
  exact wtc_chN 100 p
theorem one_moves {n k : Nat} (n0 : 0 < n) (k0 : 0 < k) {z : Int → Int} (sz : Sqn n k z) (c : Int) : fCall n c z = z ∨ ∃ p : Nat, p < k ∧ z ((p : Int) - 1) < fCall n c z (p : Int) ∧ fCall n c z (p : Int) < z (p : Int) ∧ fCall n c z (p : Int) % (n : Int) = c % (n : Int) ∧ ∀ j : Int, j % (k : Int) ≠ (p : Int) → fCall n c z j = z j := by
  by_cases hall : ∀ i, fCall n c z i = z i
  · exact .inl (funext hall)
  obtain ⟨i, hi⟩ := Classical.not_forall.mp hall
  have sc : Sqn n k (fCall n c z) := sz.call (by omega) c
  have i0 := Int.emod_nonneg i (show (k : Int) ≠ 0 by omega)
  have i1 := Int.emod_lt_of_pos i (show (0 : Int) < (k : Int) by omega)
  have i2 := Int.emod_add_mul_ediv i (k : Int)
  obtain ⟨p, hp⟩ : ∃ p : Nat, (p : Int) = i % (k : Int) := ⟨(i % (k : Int)).toNat, by omega⟩
  have e1 := sc.pm (p : Int) (i / (k : Int))
  have e2 := sz.pm (p : Int) (i / (k : Int))
  rw [hp, i2] at e1 e2
  rw [← hp] at e1 e2
  have hne : fCall n c z (p : Int) ≠ z (p : Int) := by omega
  have key : ∀ j, fCall n c z j ≠ z j → z (j - 1) < cal n c (z j) ∧ fCall n c z j = cal n c (z j) ∧ cal n c (z j) < z j := fun j hj => by
    have hle := (cal_le (n := (n : Int)) (c := c) (y := z j) (by omega)).1
    unfold fCall at hj ⊢
    by_cases hlt : z (j - 1) < cal n c (z j)
    · rw [if_pos hlt] at hj ⊢
      exact ⟨hlt, rfl, by omega⟩
    · rw [if_neg hlt] at hj
      exact absurd rfl hj
  obtain ⟨p1, p2, p3⟩ := key _ hne
  right
  refine ⟨p, by omega, by omega, by omega, ?_, fun j hj => ?_⟩
  · obtain ⟨u, hu⟩ := cal_mod (n := (n : Int)) (c := c) (y := z (p : Int))
    rw [p2, hu, Int.add_mul_emod_self_left]
  · by_cases hz : fCall n c z j = z j
    · exact hz
    exfalso
    obtain ⟨q1, q2, q3⟩ := key j hz
    obtain ⟨u, hu⟩ := cal_mod (n := (n : Int)) (c := c) (y := z (p : Int))
    obtain ⟨v, hv⟩ := cal_mod (n := (n : Int)) (c := c) (y := z j)
    have f1 := sz.pm (p : Int) (v - u)
    have f2 := sz.pm ((p : Int) - 1) (v - u)
    rw [Int.mul_sub (n : Int)] at f1 f2
    have hj2 : j ≠ (p : Int) + (k : Int) * (v - u) := fun e => hj (by
      rw [e, Int.add_mul_emod_self_left]
      exact Int.emod_eq_of_lt (by omega) (by omega))
    rcases Int.lt_or_gt_of_ne hj2 with hl | hl
    · have := sz.le (i := j) (j := (p : Int) - 1 + (k : Int) * (v - u)) (by omega)
      omega
    · have := sz.le (i := (p : Int) + (k : Int) * (v - u)) (j := j - 1) (by omega)
      omega
def dfn (k : Nat) (f g : Int → Int) : Nat := ((List.range k).filter fun (i : Nat) => decide (f (i : Int) ≠ g (i : Int))).length
theorem dfn_tri (k : Nat) (f g h : Int → Int) : dfn k f h ≤ dfn k f g + dfn k g h := by
  refine Nat.le_trans (filt_le _ fun i _ hi => ?_) (filt_or (fun (i : Nat) => decide (f (i : Int) ≠ g (i : Int))) (fun (i : Nat) => decide (g (i : Int) ≠ h (i : Int))) _)
  have hi := of_decide_eq_true hi
  rw [Bool.or_eq_true]
  by_cases h1 : f (i : Int) = g (i : Int)
  · rw [h1] at hi
    exact .inr (decide_eq_true hi)
  · exact .inl (decide_eq_true h1)
theorem dfn_one {n k : Nat} (n0 : 0 < n) (k0 : 0 < k) {z : Int → Int} (sz : Sqn n k z) (c : Int) : dfn k z (fCall n c z) ≤ 1 := by
  rcases one_moves n0 k0 sz c with e | ⟨p, _, _, _, _, h⟩
  · rw [e]
    unfold dfn
    rw [show ((List.range k).filter fun (i : Nat) => decide (z (i : Int) ≠ z (i : Int))) = [] from List.filter_eq_nil_iff.mpr fun i _ hi => (of_decide_eq_true hi) rfl]
    exact Nat.zero_le _
  · unfold dfn
    have hle := filt_le (p := fun (i : Nat) => decide (z (i : Int) ≠ fCall n c z (i : Int))) (q := fun (i : Nat) => decide (i = p)) (List.range k) fun i hi hd => by
      have hd := of_decide_eq_true hd
      have hi := List.mem_range.mp hi
      by_cases e : i = p
      · exact decide_eq_true e
      · exact absurd (h (i : Int) (by rw [Int.emod_eq_of_lt (by omega) (by omega)]; omega)).symm hd
    exact Nat.le_trans hle (filt_one (j := p) fun i hi => of_decide_eq_true hi)
theorem dfn_calls {n k : Nat} (n0 : 0 < n) (k0 : 0 < k) : ∀ (cs : List Int) {z : Int → Int}, Sqn n k z → dfn k z (fCalls n cs z) ≤ cs.length
  | [], z, _ => by
    show dfn k z z ≤ 0
    unfold dfn
    rw [show ((List.range k).filter fun (i : Nat) => decide (z (i : Int) ≠ z (i : Int))) = [] from List.filter_eq_nil_iff.mpr fun i _ hi => (of_decide_eq_true hi) rfl]
    exact Nat.le_refl _
  | c :: cs, z, sz => by
    have h1 := dfn_one n0 k0 sz c
    have h2 := dfn_calls n0 k0 cs (sz.call (show (0 : Int) < n by omega) c)
    have h3 := dfn_tri k z (fCall n c z) (fCalls n cs (fCall n c z))
    show dfn k z (fCalls n cs (fCall n c z)) ≤ cs.length + 1
    omega
theorem calls_good {n k : Nat} {x y : Int → Int} (A : Aim n k x y) (n0 : 0 < n) (k0 : 0 < k) : ∀ (w : List Int) (m : Int → Bool), Sqn n k (zOf k x y m) → (∀ c ∈ w, 0 ≤ c ∧ c < (n : Int)) → fCalls n w (zOf k x y m) = y → w.length ≤ dfn k (zOf k x y m) y → ∃ P : List Nat, (∀ p ∈ P, p < k) ∧ w = P.map (fun (p : Nat) => y (p : Int) % (n : Int)) ∧ Good k x y m (P.map fun (p : Nat) => (p : Int))
  | [], m, _, _, _, _ => ⟨[], fun _ h => absurd h List.not_mem_nil, rfl, trivial⟩
  | c :: w, m, sz, hc, hy, hl => by
    have hy : fCalls n w (fCall n c (zOf k x y m)) = y := hy
    have sc := sz.call (show (0 : Int) < n by omega) c
    have hb := dfn_calls n0 k0 w sc
    rw [hy] at hb
    have hl : w.length + 1 ≤ dfn k (zOf k x y m) y := hl
    rcases one_moves n0 k0 sz c with e | ⟨p, hp, h1, h2, h3, h4⟩
    · rw [e] at hb
      omega
    have zp : fCall n c (zOf k x y m) (p : Int) = y (p : Int) := by
      by_cases hq : fCall n c (zOf k x y m) (p : Int) = y (p : Int)
      · exact hq
      exfalso
      have : dfn k (zOf k x y m) y ≤ dfn k (fCall n c (zOf k x y m)) y := filt_le _ fun i hi hd => by
        have hd := of_decide_eq_true hd
        have hi := List.mem_range.mp hi
        by_cases e : i = p
        · subst e
          exact decide_eq_true hq
        · rw [h4 (i : Int) (by rw [Int.emod_eq_of_lt (by omega) (by omega)]; omega)]
          exact decide_eq_true hd
      omega
    have ep : (p : Int) % (k : Int) = (p : Int) := Int.emod_eq_of_lt (by omega) (by omega)
    have hm : m (p : Int) = false := by
      cases hmp : m (p : Int) with
      | false => rfl
      | true =>
        exfalso
        rw [zp] at h2
        have : zOf k x y m (p : Int) = y (p : Int) := by
          unfold zOf
          rw [ep, hmp]
          rfl
        omega
    have e1 : fCall n c (zOf k x y m) = zOf k x y (addM m (p : Int)) := by
      funext j
      by_cases hj : j % (k : Int) = (p : Int)
      · have j2 := Int.emod_add_mul_ediv j (k : Int)
        have f1 := sc.pm (p : Int) (j / (k : Int))
        have f2 := A.sy.pm (p : Int) (j / (k : Int))
        rw [← hj, j2] at f1 f2
        rw [hj] at f1 f2
        rw [f1, zp]
        unfold zOf addM
        rw [if_pos hj]
        simp only [if_true]
        exact f2.symm
      · rw [h4 j hj]
        unfold zOf addM
        rw [if_neg hj]
    rw [e1] at hy sc
    have hl2 : w.length ≤ dfn k (zOf k x y (addM m (p : Int))) y := by
      have : dfn k (zOf k x y m) y ≤ dfn k (zOf k x y m) (fCall n c (zOf k x y m)) + dfn k (fCall n c (zOf k x y m)) y := dfn_tri ..
      have h5 := dfn_one n0 k0 sz c
      rw [e1] at this h5
      omega
    obtain ⟨P, g1, g2, g3⟩ := calls_good A n0 k0 w (addM m (p : Int)) sc (fun d hd => hc d (List.mem_cons_of_mem _ hd)) hy hl2
    have hcc := hc c (List.mem_cons_self ..)
    have ec : c = y (p : Int) % (n : Int) := by
      rw [← zp, h3]
      exact (Int.emod_eq_of_lt hcc.1 hcc.2).symm
    refine ⟨p :: P, fun q hq => ?_, ?_, ?_⟩
    · rcases List.mem_cons.mp hq with rfl | hq
      · exact hp
      · exact g1 q hq
    · rw [List.map_cons, ← g2, ← ec]
    · have hG : m ((p : Int) % (k : Int)) = false ∧ zOf k x y m ((p : Int) - 1) < y (p : Int) ∧ Good k x y (addM m ((p : Int) % (k : Int))) (P.map fun (p : Nat) => (p : Int)) := by
        rw [ep]
        exact ⟨hm, by omega, g3⟩
      exact hG
theorem good_nd {k : Nat} {x y : Int → Int} : ∀ (P : List Nat) (m : Int → Bool), (∀ p ∈ P, p < k) → Good k x y m (P.map fun (p : Nat) => (p : Int)) → P.Nodup ∧ ∀ p ∈ P, m (p : Int) = false
  | [], m, _, _ => ⟨List.nodup_nil, fun _ h => absurd h List.not_mem_nil⟩
  | p :: P, m, hp, hG => by
    obtain ⟨g1, g2, g3⟩ := hG
    have hpk := hp p (List.mem_cons_self ..)
    have ep : (p : Int) % (k : Int) = (p : Int) := Int.emod_eq_of_lt (by omega) (by omega)
    rw [ep] at g1 g3
    obtain ⟨h1, h2⟩ := good_nd P _ (fun q hq => hp q (List.mem_cons_of_mem _ hq)) g3
    refine ⟨List.nodup_cons.mpr ⟨fun hin => ?_, h1⟩, fun q hq => ?_⟩
    · have := h2 p hin
      unfold addM at this
      rw [if_pos rfl] at this
      cases this
    · rcases List.mem_cons.mp hq with rfl | hq
      · exact g1
      · have := h2 q hq
        unfold addM at this
        by_cases e : (q : Int) = (p : Int)
        · rw [if_pos e] at this
          cases this
        · rw [if_neg e] at this
          exact this
theorem calls_back {n : Nat} {a cs : List Int} {s : Nat} (ta : Tbl n a) (ha : a ≠ []) (n0 : 0 < n) (hc : ∀ c ∈ cs, 0 ≤ c ∧ c < (n : Int)) (L : Lst n a (tabA n a cs) s) : ∃ q : Nat, s ≤ q ∧ ∀ i, fCalls n cs (xOf n a) i = xOf n (tabA n a cs) (i - (q : Int)) := by
  have k0 : 0 < a.length := List.length_pos_iff.mpr ha
  obtain ⟨al, h1, tb, h3⟩ := tabA_x ta ha n0 hc
  generalize hb : tabA n a cs = b at h1 tb h3 L
  have hbl : b.length = a.length := by rw [← hb, tabA_len]
  have hbn : b ≠ [] := by rw [← hb]; exact tabA_ne ha
  have sx := sqn_xOf ta ha
  have sz := sx.calls (show (0 : Int) < n by omega) cs
  have zb : ∀ i, fCalls n cs (xOf n a) i = xOf n b (i - al) := fun i => by
    rw [h3]
    show _ = fCalls n cs (xOf n a) (i - al + al)
    congr 1
    omega
  have zx : ∀ i, fCalls n cs (xOf n a) i ≤ xOf n a i := fun i => calls_le (by omega) cs _ i
  have al0 : 0 ≤ al := by
    by_cases hal : 0 ≤ al
    · exact hal
    exfalso
    have m0 := tb.mem _ (List.getElem_mem (show 0 < b.length by omega))
    have e0 := xOf_at (n := n) hbn (List.getElem?_eq_getElem (show 0 < b.length by omega))
    have e1 : xOf n b ((0 : Nat) : Int) = fCalls n cs (xOf n a) al := by rw [zb al]; congr 1; omega
    have e2 := sz.le (i := al) (j := -1) (by omega)
    have e3 := zx (-1)
    have e4 := sx.per (-1)
    have hl : a.length - 1 < a.length := by omega
    have e5 := xOf_at (n := n) ha (List.getElem?_eq_getElem hl)
    have m1 := ta.mem _ (List.getElem_mem hl)
    rw [show (-1 : Int) + (a.length : Int) = ((a.length - 1 : Nat) : Int) by omega] at e4
    omega
  obtain ⟨q, rfl⟩ : ∃ q : Nat, al = (q : Int) := ⟨al.toNat, by omega⟩
  refine ⟨q, ?_, zb⟩
  by_cases hsq : s ≤ q
  · exact hsq
  · refine absurd (fun v hv => ?_) (L.no q (by omega))
    obtain ⟨i, hi⟩ := List.getElem?_of_mem hv
    have hil : i < a.length := by rw [← stW_len (n := n) (a := a) (b := b) (s := (q : Int))]; exact (List.getElem?_eq_some_iff.mp hi).1
    rw [stW_get hil] at hi
    cases hi
    have := zx (i : Int)
    rw [zb] at this
    omega
theorem go_dfn {n : Nat} {a b : List Int} {s : Nat} (A : Aim n a.length (xOf n a) (yOf n b s)) : ((List.range a.length).filter (goF n a b s)).length = dfn a.length (xOf n a) (yOf n b s) := by
  unfold dfn
  congr 1
  refine List.filter_congr fun i _ => decide_eq_decide.mpr ⟨fun h e => by omega, fun h => ?_⟩
  have := A.le (i : Int)
  omega
theorem dfn_all {k : Nat} {f g : Int → Int} (h : ∀ i : Int, f i ≠ g i) : dfn k f g = k := by
  unfold dfn
  have e : ((List.range k).filter fun (i : Nat) => decide (f (i : Int) ≠ g (i : Int))) = List.range k := List.filter_eq_self.mpr fun i _ => decide_eq_true (h (i : Int))
  rw [e, List.length_range]
theorem dfn_le (k : Nat) (f g : Int → Int) : dfn k f g ≤ k := by
  unfold dfn
  have := List.length_filter_le (fun (i : Nat) => decide (f (i : Int) ≠ g (i : Int))) (List.range k)
  rw [List.length_range] at this
  exact this
theorem short_aim {n : Nat} {a w : List Int} {s : Nat} (ta : Tbl n a) (ha : a ≠ []) (n0 : 0 < n) (hc : ∀ c ∈ w, 0 ≤ c ∧ c < (n : Int)) (L : Lst n a (tabA n a w) s) (hlen : w.length ≤ dfn a.length (xOf n a) (yOf n (tabA n a w) s)) : fCalls n w (xOf n a) = yOf n (tabA n a w) s := by
  have k0 : 0 < a.length := List.length_pos_iff.mpr ha
  have tb := tabA_tbl ta ha n0 hc
  have hbl : (tabA n a w).length = a.length := tabA_len
  have hbn : tabA n a w ≠ [] := tabA_ne ha
  have A := aim_ok ta tb hbl.symm ha n0 L
  obtain ⟨q, hq, zb⟩ := calls_back ta ha n0 hc L
  generalize tabA n a w = b at *
  by_cases e : q = s
  · subst e
    funext i
    exact zb i
  exfalso
  have sb := sqn_xOf tb hbn
  rw [hbl] at sb
  have sx := sqn_xOf ta ha
  have zy : ∀ i, fCalls n w (xOf n a) i ≤ yOf n b s (i - 1) := fun i => by
    rw [zb]
    exact sb.le (by omega)
  have zx : ∀ i, fCalls n w (xOf n a) i < xOf n a i := fun i => by
    have h1 := zy i
    have h2 := A.sy.up i
    have h3 := A.le i
    omega
  have d1' := dfn_le a.length (xOf n a) (yOf n b s)
  have d2' : dfn a.length (xOf n a) (fCalls n w (xOf n a)) = a.length := dfn_all fun i z => by have := zx i; omega
  have d3' := dfn_calls n0 k0 w sx
  cases w with
  | nil =>
    rw [d2'] at d3'
    simp only [List.length_nil] at d3'
    omega
  | cons c w =>
    rw [List.length_cons] at hlen d3'
    have e9 : fCalls n (c :: w) (xOf n a) = fCalls n w (fCall n c (xOf n a)) := rfl
    rw [e9] at d2' d3'
    have hb := dfn_calls n0 k0 w (sx.call (show (0 : Int) < n by omega) c)
    rcases one_moves n0 k0 sx c with e1 | ⟨p, hp, h1, h2, h3, h4⟩
    · rw [e1] at hb d2'
      omega
    · have hz : fCalls n w (fCall n c (xOf n a)) (p : Int) = fCall n c (xOf n a) (p : Int) := by
        by_cases hz : fCalls n w (fCall n c (xOf n a)) (p : Int) = fCall n c (xOf n a) (p : Int)
        · exact hz
        exfalso
        have : dfn a.length (fCall n c (xOf n a)) (fCalls n w (fCall n c (xOf n a))) = a.length := by
          unfold dfn
          rw [List.filter_eq_self.mpr fun i hi => decide_eq_true ?_, List.length_range]
          have hi := List.mem_range.mp hi
          by_cases ei : i = p
          · subst ei
            exact fun z => hz z.symm
          · rw [h4 (i : Int) (by rw [Int.emod_eq_of_lt (by omega) (by omega)]; omega)]
            have := zx (i : Int)
            rw [e9] at this
            omega
        omega
      have g1 := zy (p : Int)
      rw [e9, hz] at g1
      have g2 := A.le ((p : Int) - 1)
      omega
theorem short_mix {n : Nat} {a b w : List Int} {s : Nat} (ta : Tbl n a) (tb : Tbl n b) (h : a.length = b.length) (ha : a ≠ []) (n0 : 0 < n) (hl : a.length ≤ 90) (L : Lst n a b s) (hc : ∀ c ∈ w, 0 ≤ c ∧ c < (n : Int)) (hb : tabA n a w = b) (hlen : w.length ≤ ((stW n a b s).filter fun x => decide (0 < x)).length) : Mix (CAs n b s (CPs n a b s)) w := by
  have k0 : 0 < a.length := List.length_pos_iff.mpr ha
  have A := aim_ok ta tb h ha n0 L
  have J := jn_first A
  rw [← go_len, go_dfn A] at hlen
  have hy : fCalls n w (xOf n a) = yOf n b s := by
    subst hb
    exact short_aim ta ha n0 hc L hlen
  obtain ⟨P, g1, g2, g3⟩ := calls_good A n0 k0 w (fun _ => false) (by rw [zOf_none]; exact A.sx) hc (by rw [zOf_none]; exact hy) (by rw [zOf_none]; exact hlen)
  obtain ⟨nd, _⟩ := good_nd P _ g1 g3
  have gc := good_calls A (show (0 : Int) < n by omega) (by omega) _ (by rw [zOf_none]; exact A.sx) g3
  have e0 : w = (P.map fun (p : Nat) => (p : Int)).map fun i => yOf n b s i % (n : Int) := by
    rw [g2, List.map_map]
    rfl
  rw [zOf_none, ← e0, hy] at gc
  have sub : ∀ q ∈ (List.range a.length).filter (goF n a b s), q ∈ P := fun q hq => by
    obtain ⟨q1, q2⟩ := List.mem_filter.mp hq
    have q1 := List.mem_range.mp q1
    have q2 := of_decide_eq_true q2
    have eq : (q : Int) % (a.length : Int) = (q : Int) := Int.emod_eq_of_lt (by omega) (by omega)
    have gq := congrFun gc (q : Int)
    unfold zOf at gq
    rw [eq] at gq
    by_cases hg : goneM (a.length : Int) (fun _ => false) (P.map fun (p : Nat) => (p : Int)) (q : Int) = true
    · rcases (gone_iff _ _ _ _).mp hg with hf | ⟨j, hj, ej⟩
      · cases hf
      · obtain ⟨p, hp, rfl⟩ := List.mem_map.mp hj
        rw [Int.emod_eq_of_lt (by omega) (by have := g1 p hp; omega)] at ej
        have : p = q := by omega
        rw [← this]
        exact hp
    · rw [if_neg hg] at gq
      omega
  have hPl : P.length ≤ ((List.range a.length).filter (goF n a b s)).length := by
    rw [go_dfn A]
    rw [g2, List.length_map] at hlen
    exact hlen
  have ndM : ((List.range a.length).filter (goF n a b s)).Nodup := List.nodup_range.filter _
  have sub2 : ∀ p ∈ P, p ∈ (List.range a.length).filter (goF n a b s) := fun p hp => by
    by_cases hin : p ∈ (List.range a.length).filter (goF n a b s)
    · exact hin
    exfalso
    have := nodup_le (m := P.erase p) ndM fun q hq => (List.mem_erase_of_ne (fun (e : q = p) => hin (by rw [← e]; exact hq))).mpr (sub q hq)
    rw [List.length_erase_of_mem hp] at this
    have := List.length_pos_of_mem hp
    omega
  have perm : P.Perm (CPs n a b s).flatten := (List.perm_ext_iff_of_nodup nd J.nd).mpr fun q => by
    rw [mem_flat ta tb h ha hl L A]
    refine ⟨fun hq => ?_, fun hq => sub q (List.mem_filter.mpr ⟨List.mem_range.mpr hq.1, hq.2⟩)⟩
    obtain ⟨q1, q2⟩ := List.mem_filter.mp (sub2 q hq)
    exact ⟨List.mem_range.mp q1, q2⟩
  have := good_mix A (aimF n b s) (aim_inj A n0) P _ _ J wtc_first perm g3
  have e1 : P.map (aimF n b s) = w := by
    rw [g2]
    rfl
  rw [e1] at this
  exact this
theorem mix_ex : ∀ (m : Nat) (CA : List (List Int)), sumN CA ≤ m → (∀ ch ∈ CA, ch ≠ []) → ∃ w, Mix CA w
  | m, [], _, _ => ⟨[], rfl⟩
  | 0, ch :: l, h, hne => by
    have := len_sumN (ch :: l) hne
    rw [List.length_cons] at this
    omega
  | m + 1, ch :: l, h, hne => by
    have hc : ch.headD 0 ∈ (ch :: l).map fun ch => ch.headD 0 := List.mem_cons_self ..
    have := sumN_lt hne hc
    obtain ⟨w, hw⟩ := mix_ex m (aft (ch :: l) (ch.headD 0)) (by omega) (aft_ne _ _)
    exact ⟨ch.headD 0 :: w, hc, hw⟩
theorem cat_nodup {F : Int → List (List Int)} : ∀ hs : List Int, hs.Nodup → (∀ c ∈ hs, (F c).Nodup) → (hs.flatMap fun c => (F c).map (c :: ·)).Nodup
  | [], _, _ => List.nodup_nil
  | c :: hs, nd, h => by
    rw [List.flatMap_cons]
    obtain ⟨n1, n2⟩ := List.nodup_cons.mp nd
    refine List.nodup_append.mpr ⟨List.pairwise_map.mpr ((h c (List.mem_cons_self ..)).imp fun ne e => ne (List.cons.inj e).2), cat_nodup hs n2 fun d hd => h d (List.mem_cons_of_mem _ hd), fun u hu v hv e => ?_⟩
    obtain ⟨u', _, rfl⟩ := List.mem_map.mp hu
    obtain ⟨d, hd, hv⟩ := List.mem_flatMap.mp hv
    obtain ⟨v', _, rfl⟩ := List.mem_map.mp hv
    exact n1 ((List.cons.inj e).1 ▸ hd)
theorem mix_list : ∀ (m : Nat) (CA : List (List Int)), sumN CA ≤ m → Dst CA → ∃ l : List (List Int), l.Nodup ∧ (∀ w, w ∈ l ↔ Mix CA w) ∧ l.length = mixN CA
  | m, [], _, _ => ⟨[[]], by simp, fun w => by
      cases w with
      | nil => exact ⟨fun _ => rfl, fun _ => List.mem_cons_self ..⟩
      | cons c w => exact ⟨fun h => (by cases List.mem_singleton.mp h), fun h => nomatch h.1⟩, rfl⟩
  | 0, ch :: l, h, D => by
    have := len_sumN (ch :: l) D.ne
    rw [List.length_cons] at this
    omega
  | m + 1, ch :: l, h, D => by
    have ih : ∀ c ∈ (ch :: l).map (fun ch => ch.headD 0), ∃ r : List (List Int), r.Nodup ∧ (∀ w, w ∈ r ↔ Mix (aft (ch :: l) c) w) ∧ r.length = mixN (aft (ch :: l) c) := fun c hc => by
      have := sumN_lt D.ne hc
      exact mix_list m (aft (ch :: l) c) (by omega) (D.aft hc)
    have B := D.bgn
    have hne : ch :: l ≠ [] := by simp
    generalize hCA : ch :: l = CA at *
    obtain ⟨F, hF⟩ : ∃ F : Int → List (List Int), ∀ c ∈ CA.map (fun ch => ch.headD 0), (F c).Nodup ∧ (∀ w, w ∈ F c ↔ Mix (aft CA c) w) ∧ (F c).length = mixN (aft CA c) := by
      refine ⟨fun c => if hc : c ∈ CA.map (fun ch => ch.headD 0) then Classical.choose (ih c hc) else [], fun c hc => ?_⟩
      simp only [dif_pos hc]
      exact Classical.choose_spec (ih c hc)
    refine ⟨(CA.map fun ch => ch.headD 0).flatMap fun c => (F c).map (c :: ·), cat_nodup _ B.nd fun c hc => (hF c hc).1, fun w => ?_, ?_⟩
    · cases w with
      | nil =>
        refine ⟨fun h => ?_, fun h => absurd h hne⟩
        obtain ⟨c, _, h⟩ := List.mem_flatMap.mp h
        obtain ⟨v, _, e⟩ := List.mem_map.mp h
        cases e
      | cons c w =>
        refine ⟨fun h => ?_, fun h => ?_⟩
        · obtain ⟨d, hd, h⟩ := List.mem_flatMap.mp h
          obtain ⟨v, hv, e⟩ := List.mem_map.mp h
          cases e
          exact ⟨hd, ((hF _ hd).2.1 _).mp hv⟩
        · exact List.mem_flatMap.mpr ⟨c, h.1, List.mem_map.mpr ⟨w, ((hF c h.1).2.1 w).mpr h.2, rfl⟩⟩
    · rw [List.length_flatMap, List.map_map, ← mix_sum B hne]
      congr 1
      refine List.map_congr_left fun ch hc => ?_
      show ((F (ch.headD 0)).map _).length = _
      rw [List.length_map]
      exact (hF _ (List.mem_map.mpr ⟨ch, hc, rfl⟩)).2.2
structure Pr (n : Nat) (a b : List Int) : Prop where
  ta : Tbl n a
  tb : Tbl n b
  h : a.length = b.length
  ha : a ≠ []
  n0 : 0 < n
  hl : a.length ≤ 10
theorem Pr.hb {n : Nat} {a b : List Int} (P : Pr n a b) : b ≠ [] := ne_of_len P.h.symm P.ha
def Vc (n : Nat) (w : List Int) : Prop := ∀ c ∈ w, 0 ≤ c ∧ c < (n : Int)
open Classical in
noncomputable def shf (n : Nat) (a b : List Int) : Nat := if h : ∃ s, Lst n a b s then Classical.choose h else 0
theorem shf_ok {n : Nat} {a b : List Int} (P : Pr n a b) : Lst n a b (shf n a b) := by
  have h : ∃ s, Lst n a b s := lst_ex P.ta P.tb P.h P.ha
  unfold shf
  rw [dif_pos h]
  exact Classical.choose_spec h
noncomputable def far (n : Nat) (a b : List Int) : Nat := ((stW n a b (shf n a b)).filter fun x => decide (0 < x)).length
noncomputable def chs (n : Nat) (a b : List Int) : List (List Int) := CAs n b (shf n a b) (CPs n a b (shf n a b))
noncomputable def wys (n : Nat) (a b : List Int) : Nat := mixN (chs n a b)
section
variable {n : Nat} {a b c w u v : List Int}
theorem way_len (P : Pr n a b) (h : Mix (chs n a b) w) : Vc n w ∧ tabA n a w = b ∧ w.length = far n a b ∧ fCalls n w (xOf n a) = yOf n b (shf n a b) := by
  obtain ⟨Q, e1, e2, e3⟩ := mix_calls P.ta P.tb P.h P.ha P.n0 (by have := P.hl; omega) (shf_ok P) h
  have hv : Vc n w := fun c hc => by
    rw [e1] at hc
    obtain ⟨p, _, rfl⟩ := List.mem_map.mp hc
    have := P.n0
    exact ⟨Int.emod_nonneg _ (by omega), Int.emod_lt_of_pos _ (by omega)⟩
  exact ⟨hv, (tab_way P.ta P.tb P.h P.ha P.n0 hv e3).2, by rw [e1, List.length_map, e2.length_eq, go_len]; rfl, e3⟩
theorem way_of (P : Pr n a b) (hv : Vc n w) (h : tabA n a w = b) (hl : w.length ≤ far n a b) : Mix (chs n a b) w := short_mix P.ta P.tb P.h P.ha P.n0 (by have := P.hl; omega) (shf_ok P) hv h hl
theorem way_iff (P : Pr n a b) : Mix (chs n a b) w ↔ Vc n w ∧ tabA n a w = b ∧ w.length ≤ far n a b := ⟨fun h => let ⟨h1, h2, h3, _⟩ := way_len P h; ⟨h1, h2, by omega⟩, fun ⟨h1, h2, h3⟩ => way_of P h1 h2 h3⟩
theorem far_le (P : Pr n a b) (hv : Vc n w) (h : tabA n a w = b) : far n a b ≤ w.length := by
  subst h
  exact (more_of P.ta P.ha P.n0 hv (shf_ok P)).cnt
theorem chs_ok (P : Pr n a b) : (∀ ch ∈ chs n a b, ch ≠ []) ∧ sumN (chs n a b) ≤ 10 ∧ Dst (chs n a b) := by
  have A := aim_ok P.ta P.tb P.h P.ha P.n0 (shf_ok P)
  have J := jn_first A
  have h1 : ∀ ch ∈ chs n a b, ch ≠ [] := fun ch hc => by
    obtain ⟨c, hcm, rfl⟩ := List.mem_map.mp hc
    have := J.ne c hcm
    cases c with
    | nil => exact absurd rfl this
    | cons p c => simp
  refine ⟨h1, ?_, h1, ?_⟩
  · unfold chs
    rw [sumN_CAs]
    have := nodup_le (m := List.range a.length) J.nd fun q hq => List.mem_range.mpr (J.lt q hq)
    rw [List.length_range] at this
    have := P.hl
    omega
  · have e : (chs n a b).flatten = (CPs n a b (shf n a b)).flatten.map (aimF n b (shf n a b)) := by
      unfold chs CAs
      rw [List.map_flatten]
    rw [e]
    exact List.pairwise_map.mpr (List.Pairwise.imp_of_mem (fun {p q} hp hq ne e => ne (aim_inj A P.n0 p q (J.lt p hp) (J.lt q hq) e)) J.nd)
theorem way_ex (P : Pr n a b) : ∃ w, Mix (chs n a b) w := mix_ex _ _ (Nat.le_refl _) (chs_ok P).1
end
section
variable {n : Nat} {a b t u v w : List Int}
theorem far_self (P : Pr n a a) : far n a a = 0 := by
  have := far_le P (w := []) (fun _ h => nomatch h) (by
    have e := mod_self_of P.ta.mem
    unfold tabA
    show srt (runS n a []) = a
    exact P.ta.srt)
  simpa using this
end
section
variable {n : Nat} {a : List Int}
theorem wys_self (P : Pr n a a) : wys n a a = 1 := by
  obtain ⟨l, l1, l2, l3⟩ := mix_list _ (chs n a a) (Nat.le_refl _) (chs_ok P).2.2
  have pm : l.Perm [[]] := (List.perm_ext_iff_of_nodup l1 (by simp)).mpr fun w => by
    rw [l2, way_iff P, far_self P, List.mem_singleton]
    constructor
    · rintro ⟨_, _, h⟩
      exact List.length_eq_zero_iff.mp (by omega)
    · rintro rfl
      exact ⟨(fun _ h => nomatch h), P.ta.srt, Nat.le_refl _⟩
  have := pm.length_eq
  rw [l3] at this
  exact this
end
theorem pNin_lq (x : Int) (t : List Int) : pNin (.int x) (.list (iL t)) = some (!decide (x ∈ t)) := by
  unfold pNin pIn
  simp only [asI_iL]
  by_cases h : x ∈ t
  · rw [memI_of2 x t h, decide_eq_true h]
  · have : memI x t = false := by
      induction t with
      | nil => rfl
      | cons a t ih =>
        simp only [memI]
        rw [ih fun m => h (List.mem_cons_of_mem _ m)]
        simp
        intro e
        exact h (e ▸ List.mem_cons_self ..)
    rw [this, decide_eq_false h]
theorem nw_loop {x0 x1 x2 : Option W} {f : PyData} {CW : Addr} (NC LM CF : List W → Tree PyData) (hNC : ∀ CA : List (List Int), (∀ ch ∈ CA, ch ≠ []) → sumN CA ≤ 10 → NC [.d (.list (dLs CA))] = .ret (.list (iL (CA.map fun ch => ch.headD 0)))) (hLM : ∀ (CA : List (List Int)) (c : Int), (∀ ch ∈ CA, ch ≠ []) → sumN CA ≤ 10 → LM [.d (.list (dLs CA)), .d (.int c)] = .ret (.int ((lesN CA c : Nat) : Int))) (hCF : ∀ (CA : List (List Int)) (c : Int), (∀ ch ∈ CA, ch ≠ []) → sumN CA ≤ 10 → CF [.d (.list (dLs CA)), .d (.int c)] = .ret (.list (dLs (aft CA c)))) : ∀ (w : List Int) (CA : List (List Int)) (acc : Nat) (x6 : Option W), (∀ ch ∈ CA, ch ≠ []) → sumN CA ≤ 10 → sumN CA < w.length → zForT (.nm 6) (sC (sIf (t2 pNin (dV 6) (dCall NC (aC (aV 4) a0))) sNo s0) (sC (sAug 5 gAdd (dCall LM (aC (aV 4) (aC (aV 6) a0)))) (sSet 4 (dCall CF (aC (aV 4) (aC (aV 6) a0)))))) (fun E => match t2 pNin (dV 6) (dCall NC (aC (aV 4) a0)) E with | .ret k => k | _ => false) (zIf (t2 pNin (dV 6) (dCall NC (aC (aV 4) a0))) (zRaise CW "way" (dV 3)) zNo) (iL w) [x0, x1, x2, some (.d f), some (.d (.list (dLs CA))), some (.d (.int (acc : Int))), x6] = .ret ⟨CW, "way", f⟩
  | [], CA, acc, x6, _, _, h => by simp at h
  | c :: w, CA, acc, x6, hne, hs, h => by
    show zForT (.nm 6) _ _ _ (.int c :: iL w) _ = _
    rw [zForT]
    by_cases hin : c ∈ CA.map (fun ch => ch.headD 0)
    · have hin2 : pNin (.int c) (.list (iL (CA.map fun ch => ch.headD 0))) = some false := pNin_mem hin
      have tst : t2 pNin (dV 6) (dCall NC (aC (aV 4) a0)) [x0, x1, x2, some (.d f), some (.d (.list (dLs CA))), some (.d (.int (acc : Int))), some (.d (.int c))] = .ret false := by
        simp only [Nat.reduceSub, Nat.reduceAdd, reduceIte, Tree.bind, liftO, dIdx, sAsgL, sPar4, dV, dC, d1, d2, t1, t2, l0, lC, dL, dT, aV, aE, a0, aC, dCall, dCallK, dIf, tTr, tV, truth, asB, tNot, tAnd, tOr, dAnd, dOr, sSet, sAsg, sPar, sRet, s0, sC, sIf, sX, sOwn, sApp, sFrz, frzE, sFor, outV, fnF, lenIs, ent, small, few, putE, putsE, wipeE, it_l, it_t, iS, iR1, iR2, wEn, wZ2, wZ3, dLc, dLf, dSl, oN, oS, pCut, pSub, cI, bD, pIx, pList, pTup, pLen, pNot, qIsN, qNotN, pIsN, pNotN, List.getElem?_cons_succ, List.getElem?_cons_zero, List.set_cons_succ, List.set_cons_zero, List.length_cons, List.length_nil, List.map_cons, List.map_nil, List.foldr_cons, List.foldr_nil, List.replicate_succ, List.replicate_zero, List.cons_append, List.nil_append, sOPar, sOOPar, dOIx, sNest, sCallP, dOLen, fnP, pC, pFrz, dPr, nApp, nIf, nEnd, sN0, sN1, lendE, frzW, sSetK, dGet, dZipD, dPairD, pMax2, sDD, sND, tNeN, sLock, lockE, odcE, tdE, dttE, tC, tLock, tRet, dGetO, dIdxO, tNinD, sPutO, tDen, sUpd, sCpT, iDtt, dSrtD, sParDt, sParDt3, tCall2, fnT, sNewD, isNd, hNC CA hne hs, hin2]
      have st : (sC (sIf (t2 pNin (dV 6) (dCall NC (aC (aV 4) a0))) sNo s0) (sC (sAug 5 gAdd (dCall LM (aC (aV 4) (aC (aV 6) a0)))) (sSet 4 (dCall CF (aC (aV 4) (aC (aV 6) a0)))))) [x0, x1, x2, some (.d f), some (.d (.list (dLs CA))), some (.d (.int (acc : Int))), some (.d (.int c))] = .ret (.nx [x0, x1, x2, some (.d f), some (.d (.list (dLs (aft CA c)))), some (.d (.int ((acc + lesN CA c : Nat) : Int))), some (.d (.int c))]) := by
        simp only [Nat.reduceSub, Nat.reduceAdd, reduceIte, Tree.bind, liftO, dIdx, sAsgL, sPar4, dV, dC, d1, d2, t1, t2, l0, lC, dL, dT, aV, aE, a0, aC, dCall, dCallK, dIf, tTr, tV, truth, asB, tNot, tAnd, tOr, dAnd, dOr, sSet, sAsg, sPar, sRet, s0, sC, sIf, sX, sOwn, sApp, sFrz, frzE, sFor, outV, fnF, lenIs, ent, small, few, putE, putsE, wipeE, it_l, it_t, iS, iR1, iR2, wEn, wZ2, wZ3, dLc, dLf, dSl, oN, oS, pCut, pSub, cI, bD, pIx, pList, pTup, pLen, pNot, qIsN, qNotN, pIsN, pNotN, List.getElem?_cons_succ, List.getElem?_cons_zero, List.set_cons_succ, List.set_cons_zero, List.length_cons, List.length_nil, List.map_cons, List.map_nil, List.foldr_cons, List.foldr_nil, List.replicate_succ, List.replicate_zero, List.cons_append, List.nil_append, sOPar, sOOPar, dOIx, sNest, sCallP, dOLen, fnP, pC, pFrz, dPr, nApp, nIf, nEnd, sN0, sN1, lendE, frzW, sSetK, dGet, dZipD, dPairD, pMax2, sDD, sND, tNeN, sLock, lockE, odcE, tdE, dttE, tC, tLock, tRet, dGetO, dIdxO, tNinD, sPutO, tDen, sUpd, sCpT, iDtt, dSrtD, sParDt, sParDt3, tCall2, fnT, sNewD, isNd, hNC CA hne hs, hin2, hLM CA c hne hs, hCF CA c hne hs, sAug, gAdd]
        congr 4
      have ih := nw_loop (x0 := x0) (x1 := x1) (x2 := x2) (f := f) (CW := CW) NC LM CF hNC hLM hCF w (aft CA c) (acc + lesN CA c) (some (.d (.int c))) (aft_ne CA c) (Nat.le_trans (sumN_aft CA c) hs) (by
        have := sumN_lt hne hin
        rw [List.length_cons] at h
        omega)
      simp only [putE, List.set_cons_succ, List.set_cons_zero, liftO, Tree.bind, tst, st]
      exact ih
    · have hin2 : pNin (.int c) (.list (iL (CA.map fun ch => ch.headD 0))) = some true := by
        rw [pNin_lq, decide_eq_false hin]
        rfl
      have tst : t2 pNin (dV 6) (dCall NC (aC (aV 4) a0)) [x0, x1, x2, some (.d f), some (.d (.list (dLs CA))), some (.d (.int (acc : Int))), some (.d (.int c))] = .ret true := by
        simp only [Nat.reduceSub, Nat.reduceAdd, reduceIte, Tree.bind, liftO, dIdx, sAsgL, sPar4, dV, dC, d1, d2, t1, t2, l0, lC, dL, dT, aV, aE, a0, aC, dCall, dCallK, dIf, tTr, tV, truth, asB, tNot, tAnd, tOr, dAnd, dOr, sSet, sAsg, sPar, sRet, s0, sC, sIf, sX, sOwn, sApp, sFrz, frzE, sFor, outV, fnF, lenIs, ent, small, few, putE, putsE, wipeE, it_l, it_t, iS, iR1, iR2, wEn, wZ2, wZ3, dLc, dLf, dSl, oN, oS, pCut, pSub, cI, bD, pIx, pList, pTup, pLen, pNot, qIsN, qNotN, pIsN, pNotN, List.getElem?_cons_succ, List.getElem?_cons_zero, List.set_cons_succ, List.set_cons_zero, List.length_cons, List.length_nil, List.map_cons, List.map_nil, List.foldr_cons, List.foldr_nil, List.replicate_succ, List.replicate_zero, List.cons_append, List.nil_append, sOPar, sOOPar, dOIx, sNest, sCallP, dOLen, fnP, pC, pFrz, dPr, nApp, nIf, nEnd, sN0, sN1, lendE, frzW, sSetK, dGet, dZipD, dPairD, pMax2, sDD, sND, tNeN, sLock, lockE, odcE, tdE, dttE, tC, tLock, tRet, dGetO, dIdxO, tNinD, sPutO, tDen, sUpd, sCpT, iDtt, dSrtD, sParDt, sParDt3, tCall2, fnT, sNewD, isNd, hNC CA hne hs, hin2]
      simp only [putE, List.set_cons_succ, List.set_cons_zero, liftO, Tree.bind, tst, zIf, zRaise, dV, List.getElem?_cons_succ, List.getElem?_cons_zero]
section
variable {n : Nat} {d e f m : PyData} {a b w : List Int} {CA : List (List Int)}
theorem pL_len {d : PyData} {a : List Int} (hd : items d = some (iL a)) : pLen d = some (.int (a.length : Int)) := by
  unfold pLen
  rw [hd]
  show some (PyData.int ((iL a).length : Int)) = _
  rw [iL_len]
theorem xs_o (hd : items d = some (iL a)) (he : items e = some (iL b)) (h : a.length ≠ b.length) : x_fewest_steps 0 [.d (.int (n : Int)), .d d, .d e] = .ret ⟨0, "many", .int (b.length : Int)⟩ := by
  have h1 := pL_len hd
  have h2 := pL_len he
  have hne : pNe (.int (a.length : Int)) (.int (b.length : Int)) = some true := by
    show some (!decide ((a.length : Int) = (b.length : Int))) = _
    rw [decide_eq_false (by omega)]
    rfl
  unfold x_fewest_steps z_fewest_steps fnZ zIf zRaise
  generalize pLen = PL at h1 h2 ⊢
  simp only [Nat.reduceSub, Nat.reduceAdd, reduceIte, lenIs, ent, List.map_cons, List.map_nil, List.replicate_succ, List.replicate_zero, List.cons_append, List.nil_append, List.length_cons, List.length_nil, liftO, Tree.bind, t2, d1, dV, List.getElem?_cons_succ, List.getElem?_cons_zero, h1, h2, hne]
theorem xs_n (hd : items d = some (iL a)) (he : items e = some (iL b)) (h : a.length = b.length) : x_fewest_steps 0 [.d (.int (n : Int)), .d d, .d e] = .fail := by
  have h1 := pL_len hd
  have h2 := pL_len he
  have hne : pNe (.int (a.length : Int)) (.int (b.length : Int)) = some false := by
    show some (!decide ((a.length : Int) = (b.length : Int))) = _
    rw [decide_eq_true (by omega)]
    rfl
  unfold x_fewest_steps z_fewest_steps fnZ zIf zRaise
  generalize pLen = PL at h1 h2 ⊢
  simp only [Nat.reduceSub, Nat.reduceAdd, reduceIte, lenIs, ent, List.map_cons, List.map_nil, List.replicate_succ, List.replicate_zero, List.cons_append, List.nil_append, List.length_cons, List.length_nil, liftO, Tree.bind, t2, d1, dV, List.getElem?_cons_succ, List.getElem?_cons_zero, h1, h2, hne, zNo]
theorem x_fc (w1 w2 w3 : PyData) : x_fewest_calls 0 [.d w1, .d w2, .d w3] = x_fewest_steps 0 [.d w1, .d w2, .d w3] := by
  unfold x_fewest_calls
  generalize x_fewest_steps 0 = XF
  rfl
theorem x_cb (w1 w2 w3 : PyData) : x_chains_between 0 [.d w1, .d w2, .d w3] = x_fewest_steps 0 [.d w1, .d w2, .d w3] := by
  unfold x_chains_between
  generalize x_fewest_steps 0 = XF
  rfl
theorem x_wm (w1 w2 w3 : PyData) : x_ways_many 0 [.d w1, .d w2, .d w3] = x_fewest_steps 0 [.d w1, .d w2, .d w3] := by
  rw [← x_cb]
  unfold x_ways_many
  generalize x_chains_between 0 = XF
  rfl
theorem x_wa (w1 w2 w3 w4 : PyData) : x_way_at 0 [.d w1, .d w2, .d w3, .d w4] = x_fewest_steps 0 [.d w1, .d w2, .d w3] := by
  rw [← x_cb]
  unfold x_way_at
  generalize x_chains_between 0 = XF
  rfl
theorem x_wn (w1 w2 w3 w4 : PyData) : x_way_number 0 [.d w1, .d w2, .d w3, .d w4] = x_fewest_steps 0 [.d w1, .d w2, .d w3] := by
  rw [← x_cb]
  unfold x_way_number
  generalize x_chains_between 0 = XF
  rfl
theorem hv_o {k : Nat} (hk : k < 5) (hd : items d = some (iL a)) (he : items e = some (iL b)) (h : a.length ≠ b.length) : m_law_heard [.d (.int (k : Int)), .d (.int (n : Int)), .d d, .d e, .d m] = .ret (.tuple [.str "other people", .int (b.length : Int)]) := by
  have x := xs_o (n := n) hd he h
  have g : ∀ {z : Tree Thr} {G : Tree PyData}, z = .ret ⟨0, "many", .int (b.length : Int)⟩ → mH z "other people" G = .ret (.tuple [.str "other people", .int (b.length : Int)]) := fun {z G} hz => by
    rw [hz]
    rfl
  unfold m_law_heard
  match k, hk with
  | 0, _ => exact g ((x_fc _ _ _).trans x)
  | 1, _ => exact g x
  | 2, _ => exact g ((x_wm _ _ _).trans x)
  | 3, _ => exact g ((x_wa _ _ _ _).trans x)
  | 4, _ => exact g ((x_wn _ _ _ _).trans x)
theorem mH_f {s : Str} {G : Tree PyData} : mH .fail s G = G := rfl
theorem hv_0 (hd : items d = some (iL a)) (he : items e = some (iL b)) (h : a.length = b.length) : m_law_heard [.d (.int 0), .d (.int (n : Int)), .d d, .d e, .d m] = m_fewest_calls [.d (.int (n : Int)), .d d, .d e] := by
  show mH (x_fewest_calls 0 _) _ _ = _
  rw [x_fc, xs_n hd he h, mH_f]
theorem hv_1 (hd : items d = some (iL a)) (he : items e = some (iL b)) (h : a.length = b.length) : m_law_heard [.d (.int 1), .d (.int (n : Int)), .d d, .d e, .d m] = m_fewest_steps [.d (.int (n : Int)), .d d, .d e] := by
  show mH (x_fewest_steps 0 _) _ _ = _
  rw [xs_n hd he h, mH_f]
theorem hv_2 (hd : items d = some (iL a)) (he : items e = some (iL b)) (h : a.length = b.length) : m_law_heard [.d (.int 2), .d (.int (n : Int)), .d d, .d e, .d m] = m_ways_many [.d (.int (n : Int)), .d d, .d e] := by
  show mH (x_ways_many 0 _) _ _ = _
  rw [x_wm, xs_n hd he h, mH_f]
theorem hv_3 (hd : items d = some (iL a)) (he : items e = some (iL b)) (h : a.length = b.length) : m_law_heard [.d (.int 3), .d (.int (n : Int)), .d d, .d e, .d m] = mH (y_way_at 0 [.d (.int (n : Int)), .d d, .d e, .d m]) "no number" (m_way_at [.d (.int (n : Int)), .d d, .d e, .d m]) := by
  show mH (x_way_at 0 _) _ _ = _
  rw [x_wa, xs_n hd he h, mH_f]
theorem hv_4 (hd : items d = some (iL a)) (he : items e = some (iL b)) (h : a.length = b.length) : m_law_heard [.d (.int 4), .d (.int (n : Int)), .d d, .d e, .d m] = mH (y_way_number 0 [.d (.int (n : Int)), .d d, .d e, .d m]) "not a way" (m_way_number [.d (.int (n : Int)), .d d, .d e, .d m]) := by
  show mH (x_way_number 0 _) _ _ = _
  rw [x_wn, xs_n hd he h, mH_f]
theorem yw_at {z : Int} (hCB : m_chains_between [.d (.int (n : Int)), .d d, .d e] = .ret (.list (dLs CA))) (hne : ∀ ch ∈ CA, ch ≠ []) (hs : sumN CA ≤ 10) : y_way_at 0 [.d (.int (n : Int)), .d d, .d e, .d (.int z)] = if 0 ≤ z ∧ z < ((mixN CA : Nat) : Int) then .fail else .ret ⟨0, "number", .int z⟩ := by
  have hl := len_sumN CA hne
  have e1 := ev_mixed_many hs (show CA.length ≤ 1000 by omega)
  unfold y_way_at fnZ zNext zIf zRaise
  generalize m_mixed_many = MM at e1 ⊢
  generalize m_chains_between = CB at hCB ⊢
  by_cases h1 : 0 ≤ z
  · by_cases h2 : z < ((mixN CA : Nat) : Int)
    · rw [if_pos ⟨h1, h2⟩]
      simp only [Nat.reduceSub, Nat.reduceAdd, reduceIte, Tree.bind, liftO, dIdx, sAsgL, sPar4, dV, dC, d1, d2, t1, t2, l0, lC, dL, dT, aV, aE, a0, aC, dCall, dCallK, dIf, tTr, tV, truth, asB, tNot, tAnd, tOr, dAnd, dOr, sSet, sAsg, sPar, sRet, s0, sC, sIf, sX, sOwn, sApp, sFrz, frzE, sFor, outV, fnF, lenIs, ent, small, few, putE, putsE, wipeE, it_l, it_t, iS, iR1, iR2, wEn, wZ2, wZ3, dLc, dLf, dSl, oN, oS, pCut, pSub, cI, bD, pIx, pList, pTup, pLen, pNot, qIsN, qNotN, pIsN, pNotN, List.getElem?_cons_succ, List.getElem?_cons_zero, List.set_cons_succ, List.set_cons_zero, List.length_cons, List.length_nil, List.map_cons, List.map_nil, List.foldr_cons, List.foldr_nil, List.replicate_succ, List.replicate_zero, List.cons_append, List.nil_append, sOPar, sOOPar, dOIx, sNest, sCallP, dOLen, fnP, pC, pFrz, dPr, nApp, nIf, nEnd, sN0, sN1, lendE, frzW, sSetK, dGet, dZipD, dPairD, pMax2, sDD, sND, tNeN, sLock, lockE, odcE, tdE, dttE, tC, tLock, tRet, dGetO, dIdxO, tNinD, sPutO, tDen, sUpd, sCpT, iDtt, dSrtD, sParDt, sParDt3, tCall2, fnT, sNewD, isNd, hCB, e1, tCh, decide_eq_true h1, decide_eq_true h2, Bool.not_true, zNo]
    · rw [if_neg fun h => h2 h.2]
      simp only [Nat.reduceSub, Nat.reduceAdd, reduceIte, Tree.bind, liftO, dIdx, sAsgL, sPar4, dV, dC, d1, d2, t1, t2, l0, lC, dL, dT, aV, aE, a0, aC, dCall, dCallK, dIf, tTr, tV, truth, asB, tNot, tAnd, tOr, dAnd, dOr, sSet, sAsg, sPar, sRet, s0, sC, sIf, sX, sOwn, sApp, sFrz, frzE, sFor, outV, fnF, lenIs, ent, small, few, putE, putsE, wipeE, it_l, it_t, iS, iR1, iR2, wEn, wZ2, wZ3, dLc, dLf, dSl, oN, oS, pCut, pSub, cI, bD, pIx, pList, pTup, pLen, pNot, qIsN, qNotN, pIsN, pNotN, List.getElem?_cons_succ, List.getElem?_cons_zero, List.set_cons_succ, List.set_cons_zero, List.length_cons, List.length_nil, List.map_cons, List.map_nil, List.foldr_cons, List.foldr_nil, List.replicate_succ, List.replicate_zero, List.cons_append, List.nil_append, sOPar, sOOPar, dOIx, sNest, sCallP, dOLen, fnP, pC, pFrz, dPr, nApp, nIf, nEnd, sN0, sN1, lendE, frzW, sSetK, dGet, dZipD, dPairD, pMax2, sDD, sND, tNeN, sLock, lockE, odcE, tdE, dttE, tC, tLock, tRet, dGetO, dIdxO, tNinD, sPutO, tDen, sUpd, sCpT, iDtt, dSrtD, sParDt, sParDt3, tCall2, fnT, sNewD, isNd, hCB, e1, tCh, decide_eq_true h1, decide_eq_false h2, Bool.not_false]
  · rw [if_neg fun h => h1 h.1]
    simp only [Nat.reduceSub, Nat.reduceAdd, reduceIte, Tree.bind, liftO, dIdx, sAsgL, sPar4, dV, dC, d1, d2, t1, t2, l0, lC, dL, dT, aV, aE, a0, aC, dCall, dCallK, dIf, tTr, tV, truth, asB, tNot, tAnd, tOr, dAnd, dOr, sSet, sAsg, sPar, sRet, s0, sC, sIf, sX, sOwn, sApp, sFrz, frzE, sFor, outV, fnF, lenIs, ent, small, few, putE, putsE, wipeE, it_l, it_t, iS, iR1, iR2, wEn, wZ2, wZ3, dLc, dLf, dSl, oN, oS, pCut, pSub, cI, bD, pIx, pList, pTup, pLen, pNot, qIsN, qNotN, pIsN, pNotN, List.getElem?_cons_succ, List.getElem?_cons_zero, List.set_cons_succ, List.set_cons_zero, List.length_cons, List.length_nil, List.map_cons, List.map_nil, List.foldr_cons, List.foldr_nil, List.replicate_succ, List.replicate_zero, List.cons_append, List.nil_append, sOPar, sOOPar, dOIx, sNest, sCallP, dOLen, fnP, pC, pFrz, dPr, nApp, nIf, nEnd, sN0, sN1, lendE, frzW, sSetK, dGet, dZipD, dPairD, pMax2, sDD, sND, tNeN, sLock, lockE, odcE, tdE, dttE, tC, tLock, tRet, dGetO, dIdxO, tNinD, sPutO, tDen, sUpd, sCpT, iDtt, dSrtD, sParDt, sParDt3, tCall2, fnT, sNewD, isNd, hCB, e1, tCh, decide_eq_false h1, Bool.not_false]
theorem yw_num (hCB : m_chains_between [.d (.int (n : Int)), .d d, .d e] = .ret (.list (dLs CA))) (hf : items f = some (iL w)) (hne : ∀ ch ∈ CA, ch ≠ []) (hs : sumN CA ≤ 10) (hw : sumN CA < w.length) : y_way_number 0 [.d (.int (n : Int)), .d d, .d e, .d f] = .ret ⟨0, "way", f⟩ := by
  have run := nw_loop (x0 := some (.d (.int (n : Int)))) (x1 := some (.d d)) (x2 := some (.d e)) (f := f) (CW := 0) m_next_chairs m_lesser_many m_chains_after (fun CA h1 h2 => ev_next_chairs h1 (Nat.le_trans (len_sumN CA h1) (by omega))) (fun CA c h1 h2 => ev_lesser_many h1 h2 (Nat.le_trans (len_sumN CA h1) (by omega))) (fun CA c h1 h2 => ev_chains_after h1 (Nat.le_trans (len_sumN CA h1) (by omega))) w CA 0 none hne hs hw
  have hy : y_way_number 0 = fnZ 4 7 (zNext (sSet 4 (dCall m_chains_between az3)) (zNext (sSet 5 (dC (.int 0))) (fun E => (iS (dV 3) E).bind fun xs => zForT (.nm 6) gWN rWN (zIf (t2 pNin (dV 6) (dCall m_next_chairs (aC (aV 4) a0))) (zRaise 0 "way" (dV 3)) zNo) xs E))) := rfl
  rw [hy]
  have run : zForT (.nm 6) gWN rWN (zIf (t2 pNin (dV 6) (dCall m_next_chairs (aC (aV 4) a0))) (zRaise 0 "way" (dV 3)) zNo) (iL w) [some (.d (.int (n : Int))), some (.d d), some (.d e), some (.d f), some (.d (.list (dLs CA))), some (.d (.int 0)), none] = _ := run
  generalize zForT (.nm 6) gWN rWN (zIf (t2 pNin (dV 6) (dCall m_next_chairs (aC (aV 4) a0))) (zRaise 0 "way" (dV 3)) zNo) = ZF at run ⊢
  generalize m_chains_between = CB at hCB ⊢
  unfold fnZ zNext
  simp only [Nat.reduceSub, Nat.reduceAdd, reduceIte, Tree.bind, liftO, dIdx, sAsgL, sPar4, dV, dC, d1, d2, t1, t2, l0, lC, dL, dT, aV, aE, a0, aC, dCall, dCallK, dIf, tTr, tV, truth, asB, tNot, tAnd, tOr, dAnd, dOr, sSet, sAsg, sPar, sRet, s0, sC, sIf, sX, sOwn, sApp, sFrz, frzE, sFor, outV, fnF, lenIs, ent, small, few, putE, putsE, wipeE, it_l, it_t, iS, iR1, iR2, wEn, wZ2, wZ3, dLc, dLf, dSl, oN, oS, pCut, pSub, cI, bD, pIx, pList, pTup, pLen, pNot, qIsN, qNotN, pIsN, pNotN, List.getElem?_cons_succ, List.getElem?_cons_zero, List.set_cons_succ, List.set_cons_zero, List.length_cons, List.length_nil, List.map_cons, List.map_nil, List.foldr_cons, List.foldr_nil, List.replicate_succ, List.replicate_zero, List.cons_append, List.nil_append, sOPar, sOOPar, dOIx, sNest, sCallP, dOLen, fnP, pC, pFrz, dPr, nApp, nIf, nEnd, sN0, sN1, lendE, frzW, sSetK, dGet, dZipD, dPairD, pMax2, sDD, sND, tNeN, sLock, lockE, odcE, tdE, dttE, tC, tLock, tRet, dGetO, dIdxO, tNinD, sPutO, tDen, sUpd, sCpT, iDtt, dSrtD, sParDt, sParDt3, tCall2, fnT, sNewD, isNd, hCB, hf, run]
end
theorem wys_lt {n : Nat} {a b : List Int} (P : Pr n a b) : wys n a b < 1000000000 := by
  have h := divN_le (chs n a b) (fct (sumN (chs n a b)))
  have h2 : fct (sumN (chs n a b)) ≤ 3628800 := by
    have := (chs_ok P).2.1
    match sumN (chs n a b), this with
    | 0, _ => decide
    | 1, _ => decide
    | 2, _ => decide
    | 3, _ => decide
    | 4, _ => decide
    | 5, _ => decide
    | 6, _ => decide
    | 7, _ => decide
    | 8, _ => decide
    | 9, _ => decide
    | 10, _ => decide
    | m + 11, h => exact absurd h (by omega)
  unfold wys mixN
  omega
theorem chs_few {n : Nat} {a b : List Int} (P : Pr n a b) : sumN (chs n a b) ≤ a.length := by
  have A := aim_ok P.ta P.tb P.h P.ha P.n0 (shf_ok P)
  have J := jn_first A
  unfold chs
  rw [sumN_CAs]
  have := nodup_le (m := List.range a.length) J.nd fun q hq => List.mem_range.mpr (J.lt q hq)
  rw [List.length_range] at this
  exact this
theorem iL_of {ys : List PyData} {n : Nat} (h : ∀ y ∈ ys, ∃ c : Int, y = .int c ∧ 0 ≤ c ∧ c < (n : Int)) : ∃ cs : List Int, ys = iL cs ∧ ∀ c ∈ cs, 0 ≤ c ∧ c < (n : Int) := by
  induction ys with
  | nil => exact ⟨[], rfl, fun _ h => nomatch h⟩
  | cons y ys ih =>
    obtain ⟨c, rfl, hc⟩ := h y (List.mem_cons_self ..)
    obtain ⟨cs, rfl, hcs⟩ := ih fun z hz => h z (List.mem_cons_of_mem _ hz)
    exact ⟨c :: cs, rfl, fun x hx => (List.mem_cons.mp hx).elim (fun e => by rw [e]; exact hc) (hcs x)⟩
theorem ok_op : okR (.str "other people") = true := by decide +kernel
theorem ok_nn : okR (.str "no number") = true := by decide +kernel
theorem ok_nw : okR (.str "not a way") = true := by decide +kernel
section
variable {n : Nat} {d e : PyData} {a b : List Int}
theorem all_pair_right {Q : PyData → Prop} (hd : items d = some (iL a)) (he : items e = some (iL b)) (ta : Tbl n a) (tb : Tbl n b) (ha : a ≠ []) (hb : b ≠ []) (n1 : n ≤ 10) (la : a.length < n) (lb : b.length < n) (hQ : Q (.bool true)) {T : Tree PyData} (hT : T = m_law_pair_right [.bx, .d (.int (n : Int)), .d d, .d e]) : T.All Q := by
  have n0 : 0 < n := by omega
  have HO : ∀ (k : Nat), k < 5 → ∀ m : PyData, a.length ≠ b.length → m_law_heard [.d (.int (k : Int)), .d (.int (n : Int)), .d d, .d e, .d m] = .ret (.tuple [.str "other people", .int (b.length : Int)]) := fun k hk m h => hv_o hk hd he h
  have HP : a.length = b.length → Pr n a b := fun h => ⟨ta, tb, h, ha, n0, by omega⟩
  have HC : ∀ h : a.length = b.length, m_chains_between [.d (.int (n : Int)), .d d, .d e] = .ret (.list (dLs (chs n a b))) := fun h => ev_chains_between hd he ta h ha n0 (by omega) (by omega) (shf_ok (HP h))
  have H0 : a.length = b.length → ∀ m : PyData, m_law_heard [.d (.int 0), .d (.int (n : Int)), .d d, .d e, .d m] = .ret (.int ((far n a b : Nat) : Int)) := fun h m => (hv_0 hd he h).trans (ev_fewest_calls hd he h ha (by omega) (by omega) (shf_ok (HP h)))
  have H1 : a.length = b.length → ∀ m : PyData, m_law_heard [.d (.int 1), .d (.int (n : Int)), .d d, .d e, .d m] = .ret (.list (iL (stW n a b (shf n a b)))) := fun h m => (hv_1 hd he h).trans (ev_fewest_steps hd he h ha (by omega) (by omega) (shf_ok (HP h)))
  have H2 : a.length = b.length → ∀ m : PyData, m_law_heard [.d (.int 2), .d (.int (n : Int)), .d d, .d e, .d m] = .ret (.int ((wys n a b : Nat) : Int)) := fun h m => (hv_2 hd he h).trans (ev_ways_many (HC h) (chs_ok (HP h)).1 (chs_ok (HP h)).2.1)
  have H3 : a.length = b.length → ∀ z : Int, ¬ (0 ≤ z ∧ z < 1000000000) → m_law_heard [.d (.int 3), .d (.int (n : Int)), .d d, .d e, .d (.int z)] = .ret (.tuple [.str "no number", .int z]) := fun h z hz => by
    have hw := wys_lt (HP h)
    rw [hv_3 hd he h, yw_at (HC h) (chs_ok (HP h)).1 (chs_ok (HP h)).2.1, if_neg (fun q => hz ⟨q.1, by have := q.2; unfold wys at hw; omega⟩)]
    rfl
  have H4 : a.length = b.length → ∀ (f : PyData) (cs : List Int), items f = some (iL cs) → cs.length = n → m_law_heard [.d (.int 4), .d (.int (n : Int)), .d d, .d e, .d f] = .ret (.tuple [.str "not a way", f]) := fun h f cs hf hc => by
    have := chs_few (HP h)
    rw [hv_4 hd he h, yw_num (HC h) hf (chs_ok (HP h)).1 (chs_ok (HP h)).2.1 (by omega)]
    rfl
  have LS : ∀ {x y : PyData}, shwB x = true → x = y → m_law_same [.d x, .d y] = .ret (.bool true) := fun h e => ev_law_same h e
  have pa := pL_len hd
  have pb := pL_len he
  have ls := stW_len (n := n) (a := a) (b := b) (s := ((shf n a b : Nat) : Int))
  have pl1 := pL_len (d := .list (iL (stW n a b (shf n a b)))) rfl
  rw [ls] at pl1
  rw [hT]
  clear hT
  unfold m_law_pair_right b_law_pair_right
  generalize m_law_heard = HF at HO H0 H1 H2 H3 H4 ⊢
  generalize m_law_same = SM at LS ⊢
  generalize pLen = PL at pa pb pl1 ⊢
  simp only [Nat.reduceSub, Nat.reduceAdd, reduceIte, Tree.bind, liftO, dIdx, sAsgL, sPar4, dV, dC, d1, d2, t1, t2, l0, lC, dL, dT, aV, aE, a0, aC, dCall, dCallK, dIf, tTr, tV, truth, asB, tNot, tAnd, tOr, dAnd, dOr, sSet, sAsg, sPar, sRet, s0, sC, sIf, sX, sOwn, sApp, sFrz, frzE, sFor, outV, fnF, lenIs, ent, small, few, putE, putsE, wipeE, it_l, it_t, iS, iR1, iR2, wEn, wZ2, wZ3, dLc, dLf, dSl, oN, oS, pCut, pSub, cI, bD, pIx, pList, pTup, pLen, pNot, qIsN, qNotN, pIsN, pNotN, List.getElem?_cons_succ, List.getElem?_cons_zero, List.set_cons_succ, List.set_cons_zero, List.length_cons, List.length_nil, List.map_cons, List.map_nil, List.foldr_cons, List.foldr_nil, List.replicate_succ, List.replicate_zero, List.cons_append, List.nil_append, sOPar, sOOPar, dOIx, sNest, sCallP, dOLen, fnP, pC, pFrz, dPr, nApp, nIf, nEnd, sN0, sN1, lendE, frzW, sSetK, dGet, dZipD, dPairD, pMax2, sDD, sND, tNeN, sLock, lockE, odcE, tdE, dttE, tC, tLock, tRet, dGetO, dIdxO, tNinD, sPutO, tDen, sUpd, sCpT, iDtt, dSrtD, sParDt, sParDt3, tCall2, fnT, sNewD, isNd, all_bindE, all_retE, Nat.reduceLeDiff, show pPow (.int 10) (.int 9) = some (.int 1000000000) from rfl]
  refine all_take (by omega) (by omega) fun r r0 r1 => ?_
  simp only [Nat.reduceSub, Nat.reduceAdd, reduceIte, Tree.bind, liftO, dIdx, sAsgL, sPar4, dV, dC, d1, d2, t1, t2, l0, lC, dL, dT, aV, aE, a0, aC, dCall, dCallK, dIf, tTr, tV, truth, asB, tNot, tAnd, tOr, dAnd, dOr, sSet, sAsg, sPar, sRet, s0, sC, sIf, sX, sOwn, sApp, sFrz, frzE, sFor, outV, fnF, lenIs, ent, small, few, putE, putsE, wipeE, it_l, it_t, iS, iR1, iR2, wEn, wZ2, wZ3, dLc, dLf, dSl, oN, oS, pCut, pSub, cI, bD, pIx, pList, pTup, pLen, pNot, qIsN, qNotN, pIsN, pNotN, List.getElem?_cons_succ, List.getElem?_cons_zero, List.set_cons_succ, List.set_cons_zero, List.length_cons, List.length_nil, List.map_cons, List.map_nil, List.foldr_cons, List.foldr_nil, List.replicate_succ, List.replicate_zero, List.cons_append, List.nil_append, sOPar, sOOPar, dOIx, sNest, sCallP, dOLen, fnP, pC, pFrz, dPr, nApp, nIf, nEnd, sN0, sN1, lendE, frzW, sSetK, dGet, dZipD, dPairD, pMax2, sDD, sND, tNeN, sLock, lockE, odcE, tdE, dttE, tC, tLock, tRet, dGetO, dIdxO, tNinD, sPutO, tDen, sUpd, sCpT, iDtt, dSrtD, sParDt, sParDt3, tCall2, fnT, sNewD, isNd, all_bindE, all_retE, Nat.reduceLeDiff, pAdd_ii, rg1_nat (show n ≤ 100000 by omega), nums_len, if_pos (show n ≤ 50000 by omega)]
  refine all_mapT (P := fun y => ∃ c : Int, y = .int c ∧ 0 ≤ c ∧ c < (n : Int)) (fun x hx => ?_) fun ys hy hP => ?_
  · try simp only [Nat.reduceSub, Nat.reduceAdd, reduceIte, Tree.bind, liftO, dIdx, sAsgL, sPar4, dV, dC, d1, d2, t1, t2, l0, lC, dL, dT, aV, aE, a0, aC, dCall, dCallK, dIf, tTr, tV, truth, asB, tNot, tAnd, tOr, dAnd, dOr, sSet, sAsg, sPar, sRet, s0, sC, sIf, sX, sOwn, sApp, sFrz, frzE, sFor, outV, fnF, lenIs, ent, small, few, putE, putsE, wipeE, it_l, it_t, iS, iR1, iR2, wEn, wZ2, wZ3, dLc, dLf, dSl, oN, oS, pCut, pSub, cI, bD, pIx, pList, pTup, pLen, pNot, qIsN, qNotN, pIsN, pNotN, List.getElem?_cons_succ, List.getElem?_cons_zero, List.set_cons_succ, List.set_cons_zero, List.length_cons, List.length_nil, List.map_cons, List.map_nil, List.foldr_cons, List.foldr_nil, List.replicate_succ, List.replicate_zero, List.cons_append, List.nil_append, sOPar, sOOPar, dOIx, sNest, sCallP, dOLen, fnP, pC, pFrz, dPr, nApp, nIf, nEnd, sN0, sN1, lendE, frzW, sSetK, dGet, dZipD, dPairD, pMax2, sDD, sND, tNeN, sLock, lockE, odcE, tdE, dttE, tC, tLock, tRet, dGetO, dIdxO, tNinD, sPutO, tDen, sUpd, sCpT, iDtt, dSrtD, sParDt, sParDt3, tCall2, fnT, sNewD, isNd, all_bindE, all_retE, Nat.reduceLeDiff]
    exact all_take (by omega) (by omega) fun c c0 c1 => ⟨c, rfl, c0, c1⟩
  obtain ⟨cs, rfl, hcs⟩ := iL_of hP
  rw [nums_len, iL_len] at hy
  have n3 : rg1 (.int 3) = some [.int 0, .int 1, .int 2] := rfl
  by_cases h : a.length = b.length
  · have h0 := H0 h .none
    have h1 := H1 h .none
    have h2 := H2 h .none
    have h3 := H3 h (0 - (1000000000 + r)) (by omega)
    have h4 := H3 h (1000000000 + r) (by omega)
    have h5 := H4 h (.list (iL cs)) cs rfl hy
    have h6 := H4 h (.tuple (iL cs)) cs rfl hy
    have hne : pNe (.int (a.length : Int)) (.int (b.length : Int)) = some false := by
      rw [h]
      exact pNe_I _
    have heq : pEq (.int (a.length : Int)) (.int (a.length : Int)) = some true := by
      rw [pEq_ii, decide_eq_true rfl]
    have bcs : ∀ x ∈ cs, x.natAbs < 10 ^ 60 := fun x hx => by
      have := hcs x hx
      omega
    have i1 : decide ((0 - (1000000000 + r)).natAbs < 10 ^ 60) = true := decide_eq_true (by omega)
    have i2 : decide ((1000000000 + r).natAbs < 10 ^ 60) = true := decide_eq_true (by omega)
    have sh : shwB (.list [.tuple [.str "no number", .int (0 - (1000000000 + r))], .tuple [.str "no number", .int (1000000000 + r)], .tuple [.str "not a way", .list (iL cs)], .tuple [.str "not a way", .tuple (iL cs)]]) = true := shwB_mk rfl (by
      have q1 := ok_nn
      have q2 := ok_nw
      simp only [okR] at q1 q2
      simp only [okR, okRs, q1, q2, i1, i2, ok_iL bcs, Bool.and_self]) (by simp only [dpR, dpRs, dp_iL]; omega) (by simp only [wdR, wdRs, wd_iL]; omega)
    have ls2 := LS sh rfl
    have hcut : ∀ v0 v1 v2 v3 v4 v5 v6 : PyData, cutD [v0, v1, v2, v3, v4, v5, v6] (some 3) none = [v3, v4, v5, v6] := fun _ _ _ _ _ _ _ => rfl
    have hix : ∀ v0 v1 v2 v3 v4 v5 v6 : PyData, atI [v0, v1, v2, v3, v4, v5, v6] 1 = some v1 := fun _ _ _ _ _ _ _ => rfl
    simp only [Nat.reduceSub, Nat.reduceAdd, reduceIte, Tree.bind, liftO, dIdx, sAsgL, sPar4, dV, dC, d1, d2, t1, t2, l0, lC, dL, dT, aV, aE, a0, aC, dCall, dCallK, dIf, tTr, tV, truth, asB, tNot, tAnd, tOr, dAnd, dOr, sSet, sAsg, sPar, sRet, s0, sC, sIf, sX, sOwn, sApp, sFrz, frzE, sFor, outV, fnF, lenIs, ent, small, few, putE, putsE, wipeE, it_l, it_t, iS, iR1, iR2, wEn, wZ2, wZ3, dLc, dLf, dSl, oN, oS, pCut, pSub, cI, bD, pIx, pList, pTup, pLen, pNot, qIsN, qNotN, pIsN, pNotN, List.getElem?_cons_succ, List.getElem?_cons_zero, List.set_cons_succ, List.set_cons_zero, List.length_cons, List.length_nil, List.map_cons, List.map_nil, List.foldr_cons, List.foldr_nil, List.replicate_succ, List.replicate_zero, List.cons_append, List.nil_append, sOPar, sOOPar, dOIx, sNest, sCallP, dOLen, fnP, pC, pFrz, dPr, nApp, nIf, nEnd, sN0, sN1, lendE, frzW, sSetK, dGet, dZipD, dPairD, pMax2, sDD, sND, tNeN, sLock, lockE, odcE, tdE, dttE, tC, tLock, tRet, dGetO, dIdxO, tNinD, sPutO, tDen, sUpd, sCpT, iDtt, dSrtD, sParDt, sParDt3, tCall2, fnT, sNewD, isNd, all_bindE, all_retE, Nat.reduceLeDiff, n3, mapT, h0, h1, h2, h3, h4, h5, h6, pAdd, pa, pb, hne, hcut, hix, ls2, pl1, heq]
    exact hQ
  · have o0 := HO 0 (by omega) .none h
    have o1 := HO 1 (by omega) .none h
    have o2 := HO 2 (by omega) .none h
    have o3 := HO 3 (by omega) (.int (0 - (1000000000 + r))) h
    have o4 := HO 3 (by omega) (.int (1000000000 + r)) h
    have o5 := HO 4 (by omega) (.list (iL cs)) h
    have o6 := HO 4 (by omega) (.tuple (iL cs)) h
    have hne : pNe (.int (a.length : Int)) (.int (b.length : Int)) = some true := by
      show some (!decide ((a.length : Int) = (b.length : Int))) = _
      rw [decide_eq_false (by omega)]
      rfl
    have hm : ∀ O : PyData, pMul (.list [O]) (.int 7) = some (.list [O, O, O, O, O, O, O]) := fun O => rfl
    have i1 : decide (((b.length : Int)).natAbs < 10 ^ 60) = true := decide_eq_true (by omega)
    have sh : ∀ O : PyData, O = .tuple [.str "other people", .int (b.length : Int)] → shwB (.list [O, O, O, O, O, O, O]) = true := fun O hO => by
      subst hO
      exact shwB_mk rfl (by
        have q1 := ok_op
        simp only [okR] at q1
        simp only [okR, okRs, q1, i1, Bool.and_self]) (by simp only [dpR, dpRs]; omega) (by simp only [wdR, wdRs]; omega)
    have ls2 := LS (sh _ rfl) rfl
    simp only [show ((0 : Nat) : Int) = 0 from rfl, show ((1 : Nat) : Int) = 1 from rfl, show ((2 : Nat) : Int) = 2 from rfl, show ((3 : Nat) : Int) = 3 from rfl, show ((4 : Nat) : Int) = 4 from rfl] at o0 o1 o2 o3 o4 o5 o6
    simp only [Nat.reduceSub, Nat.reduceAdd, reduceIte, Tree.bind, liftO, dIdx, sAsgL, sPar4, dV, dC, d1, d2, t1, t2, l0, lC, dL, dT, aV, aE, a0, aC, dCall, dCallK, dIf, tTr, tV, truth, asB, tNot, tAnd, tOr, dAnd, dOr, sSet, sAsg, sPar, sRet, s0, sC, sIf, sX, sOwn, sApp, sFrz, frzE, sFor, outV, fnF, lenIs, ent, small, few, putE, putsE, wipeE, it_l, it_t, iS, iR1, iR2, wEn, wZ2, wZ3, dLc, dLf, dSl, oN, oS, pCut, pSub, cI, bD, pIx, pList, pTup, pLen, pNot, qIsN, qNotN, pIsN, pNotN, List.getElem?_cons_succ, List.getElem?_cons_zero, List.set_cons_succ, List.set_cons_zero, List.length_cons, List.length_nil, List.map_cons, List.map_nil, List.foldr_cons, List.foldr_nil, List.replicate_succ, List.replicate_zero, List.cons_append, List.nil_append, sOPar, sOOPar, dOIx, sNest, sCallP, dOLen, fnP, pC, pFrz, dPr, nApp, nIf, nEnd, sN0, sN1, lendE, frzW, sSetK, dGet, dZipD, dPairD, pMax2, sDD, sND, tNeN, sLock, lockE, odcE, tdE, dttE, tC, tLock, tRet, dGetO, dIdxO, tNinD, sPutO, tDen, sUpd, sCpT, iDtt, dSrtD, sParDt, sParDt3, tCall2, fnT, sNewD, isNd, all_bindE, all_retE, Nat.reduceLeDiff, n3, mapT, o0, o1, o2, o3, o4, o5, o6, pAdd, pa, pb, hne, hm, ls2]
    exact hQ
end
section
variable {n : Nat} {a : List Int}
theorem stW_self (P : Pr n a a) : stW n a a (shf n a a) = List.replicate a.length 0 := by
  have h := far_self P
  unfold far at h
  have h2 : (stW n a a (shf n a a)).filter (fun x => decide (0 < x)) = [] := List.length_eq_zero_iff.mp h
  refine List.eq_replicate_iff.mpr ⟨stW_len, fun x hx => ?_⟩
  have h3 := List.filter_eq_nil_iff.mp h2 x hx
  have h4 := (shf_ok P).ok x hx
  simp only [decide_eq_true_eq] at h3
  omega
theorem pMul_z (m : Nat) (h : m ≤ 1000) : pMul (.list [.int 0]) (.int (m : Int)) = some (.list (iL (List.replicate m 0))) := by
  have e : (List.replicate m [PyData.int 0]).flatten = iL (List.replicate m 0) := by
    induction m with
    | zero => rfl
    | succ m ih =>
      rw [List.replicate_succ, List.replicate_succ, List.flatten_cons, ih (by omega)]
      rfl
  show (if -100000 ≤ (m : Int) ∧ (m : Int) ≤ 100000 ∧ [PyData.int 0].length * (m : Int).toNat ≤ 100000 then some (PyData.list (List.replicate (m : Int).toNat [PyData.int 0]).flatten) else none) = _
  rw [Int.toNat_natCast, if_pos ⟨by omega, by omega, by simp; omega⟩, e]
end
section
variable {n : Nat} {a : List Int}
theorem self_way (P : Pr n a a) : Mix (chs n a a) [] := by
  obtain ⟨w, hw⟩ := way_ex P
  have h := (way_len P hw).2.2.1
  rw [far_self P] at h
  have : w = [] := List.length_eq_zero_iff.mp h
  rw [this] at hw
  exact hw
theorem self_cb (P : Pr n a a) (n1 : n ≤ 1000) : m_chains_between [.d (.int (n : Int)), .d (.tuple (iL a)), .d (.tuple (iL a))] = .ret (.list (dLs (chs n a a))) := ev_chains_between (it_t _) (it_t _) P.ta P.h P.ha P.n0 n1 (by have := P.hl; omega) (shf_ok P)
theorem self_0 (P : Pr n a a) (n1 : n ≤ 1000) (m : PyData) : m_law_heard [.d (.int 0), .d (.int (n : Int)), .d (.tuple (iL a)), .d (.tuple (iL a)), .d m] = .ret (.int 0) := by
  rw [hv_0 (it_t _) (it_t _) rfl, ev_fewest_calls (it_t _) (it_t _) P.h P.ha n1 (by have := P.hl; omega) (shf_ok P)]
  have h := far_self P
  unfold far at h
  rw [h]
  rfl
theorem self_1 (P : Pr n a a) (n1 : n ≤ 1000) (m : PyData) : m_law_heard [.d (.int 1), .d (.int (n : Int)), .d (.tuple (iL a)), .d (.tuple (iL a)), .d m] = .ret (.list (iL (List.replicate a.length 0))) := by
  rw [hv_1 (it_t _) (it_t _) rfl, ev_fewest_steps (it_t _) (it_t _) P.h P.ha n1 (by have := P.hl; omega) (shf_ok P), stW_self P]
theorem self_2 (P : Pr n a a) (n1 : n ≤ 1000) (m : PyData) : m_law_heard [.d (.int 2), .d (.int (n : Int)), .d (.tuple (iL a)), .d (.tuple (iL a)), .d m] = .ret (.int 1) := by
  rw [hv_2 (it_t _) (it_t _) rfl, ev_ways_many (self_cb P n1) (chs_ok P).1 (chs_ok P).2.1]
  have h := wys_self P
  unfold wys at h
  rw [h]
  rfl
theorem self_3 (P : Pr n a a) (n1 : n ≤ 1000) : m_law_heard [.d (.int 3), .d (.int (n : Int)), .d (.tuple (iL a)), .d (.tuple (iL a)), .d (.int 0)] = .ret (.list []) := by
  have h := wys_self P
  unfold wys at h
  obtain ⟨w, hw, _, e⟩ := ev_way_at2 (u := 0) (self_cb P n1) (chs_ok P).1 (chs_ok P).2.1 (by omega) (chs_ok P).2.2
  have hl := (way_len P hw).2.2.1
  rw [far_self P] at hl
  have hw0 : w = [] := List.length_eq_zero_iff.mp hl
  subst hw0
  rw [hv_3 (it_t _) (it_t _) rfl, yw_at (self_cb P n1) (chs_ok P).1 (chs_ok P).2.1, if_pos ⟨by omega, by omega⟩, mH_f]
  exact e
theorem self_4 (P : Pr n a a) (n1 : n ≤ 1000) : m_law_heard [.d (.int 4), .d (.int (n : Int)), .d (.tuple (iL a)), .d (.tuple (iL a)), .d (.list [])] = .ret (.int 0) := by
  have hCB := self_cb P n1
  have e := ev_way_number (f := .list []) (w := []) hCB rfl (chs_ok P).1 (chs_ok P).2.1 (self_way P)
  have hy : y_way_number 0 [.d (.int (n : Int)), .d (.tuple (iL a)), .d (.tuple (iL a)), .d (.list [])] = .fail := by
    have hy : y_way_number 0 = fnZ 4 7 (zNext (sSet 4 (dCall m_chains_between az3)) (zNext (sSet 5 (dC (.int 0))) (fun E => (iS (dV 3) E).bind fun xs => zForT (.nm 6) gWN rWN (zIf (t2 pNin (dV 6) (dCall m_next_chairs (aC (aV 4) a0))) (zRaise 0 "way" (dV 3)) zNo) xs E))) := rfl
    rw [hy]
    have run : ∀ E, zForT (.nm 6) gWN rWN (zIf (t2 pNin (dV 6) (dCall m_next_chairs (aC (aV 4) a0))) (zRaise 0 "way" (dV 3)) zNo) [] E = .fail := fun _ => rfl
    generalize zForT (.nm 6) gWN rWN (zIf (t2 pNin (dV 6) (dCall m_next_chairs (aC (aV 4) a0))) (zRaise 0 "way" (dV 3)) zNo) = ZF at run ⊢
    generalize m_chains_between = CB at hCB ⊢
    unfold fnZ zNext
    simp only [Nat.reduceSub, Nat.reduceAdd, reduceIte, Tree.bind, liftO, dIdx, sAsgL, sPar4, dV, dC, d1, d2, t1, t2, l0, lC, dL, dT, aV, aE, a0, aC, dCall, dCallK, dIf, tTr, tV, truth, asB, tNot, tAnd, tOr, dAnd, dOr, sSet, sAsg, sPar, sRet, s0, sC, sIf, sX, sOwn, sApp, sFrz, frzE, sFor, outV, fnF, lenIs, ent, small, few, putE, putsE, wipeE, it_l, it_t, iS, iR1, iR2, wEn, wZ2, wZ3, dLc, dLf, dSl, oN, oS, pCut, pSub, cI, bD, pIx, pList, pTup, pLen, pNot, qIsN, qNotN, pIsN, pNotN, List.getElem?_cons_succ, List.getElem?_cons_zero, List.set_cons_succ, List.set_cons_zero, List.length_cons, List.length_nil, List.map_cons, List.map_nil, List.foldr_cons, List.foldr_nil, List.replicate_succ, List.replicate_zero, List.cons_append, List.nil_append, sOPar, sOOPar, dOIx, sNest, sCallP, dOLen, fnP, pC, pFrz, dPr, nApp, nIf, nEnd, sN0, sN1, lendE, frzW, sSetK, dGet, dZipD, dPairD, pMax2, sDD, sND, tNeN, sLock, lockE, odcE, tdE, dttE, tC, tLock, tRet, dGetO, dIdxO, tNinD, sPutO, tDen, sUpd, sCpT, iDtt, dSrtD, sParDt, sParDt3, tCall2, fnT, sNewD, isNd, hCB, run]
  rw [hv_4 (it_t _) (it_t _) rfl, hy, mH_f]
  exact e
end
theorem right_ok : (m_law_right [.bx]).All fun d => d = .bool true := by
  have PR : ∀ {n : Nat} {d e : PyData} {a b : List Int} {Q : PyData → Prop} {T : Tree PyData}, items d = some (iL a) → items e = some (iL b) → Tbl n a → Tbl n b → a ≠ [] → b ≠ [] → n ≤ 10 → a.length < n → b.length < n → Q (.bool true) → T = m_law_pair_right [.bx, .d (.int (n : Int)), .d d, .d e] → T.All Q := fun hd he ta tb ha hb n1 la lb hQ hT => all_pair_right hd he ta tb ha hb n1 la lb hQ hT
  have LS : ∀ {x y : PyData}, shwB x = true → x = y → m_law_same [.d x, .d y] = .ret (.bool true) := fun h e => ev_law_same h e
  have S0 := @self_0
  have S1 := @self_1
  have S2 := @self_2
  have S3 := @self_3
  have S4 := @self_4
  unfold m_law_right b_law_right
  generalize m_law_pair_right = PM at PR ⊢
  generalize m_law_same = SM at LS ⊢
  generalize m_law_heard = HF at S0 S1 S2 S3 S4 ⊢
  simp only [Nat.reduceSub, Nat.reduceAdd, reduceIte, Tree.bind, liftO, dIdx, sAsgL, sPar4, dV, dC, d1, d2, t1, t2, l0, lC, dL, dT, aV, aE, a0, aC, dCall, dCallK, dIf, tTr, tV, truth, asB, tNot, tAnd, tOr, dAnd, dOr, sSet, sAsg, sPar, sRet, s0, sC, sIf, sX, sOwn, sApp, sFrz, frzE, sFor, outV, fnF, lenIs, ent, small, few, putE, putsE, wipeE, it_l, it_t, iS, iR1, iR2, wEn, wZ2, wZ3, dLc, dLf, dSl, oN, oS, pCut, pSub, cI, bD, pIx, pList, pTup, pLen, pNot, qIsN, qNotN, pIsN, pNotN, List.getElem?_cons_succ, List.getElem?_cons_zero, List.set_cons_succ, List.set_cons_zero, List.length_cons, List.length_nil, List.map_cons, List.map_nil, List.foldr_cons, List.foldr_nil, List.replicate_succ, List.replicate_zero, List.cons_append, List.nil_append, sOPar, sOOPar, dOIx, sNest, sCallP, dOLen, fnP, pC, pFrz, dPr, nApp, nIf, nEnd, sN0, sN1, lendE, frzW, sSetK, dGet, dZipD, dPairD, pMax2, sDD, sND, tNeN, sLock, lockE, odcE, tdE, dttE, tC, tLock, tRet, dGetO, dIdxO, tNinD, sPutO, tDen, sUpd, sCpT, iDtt, dSrtD, sParDt, sParDt3, tCall2, fnT, sNewD, isNd, all_bindE, all_retE, Nat.reduceLeDiff, show rg1 (.int 3) = some (nums 3) from rfl]
  refine all_forT (fun i E => ∃ x1 x2 x3 x4 x5 x6 x7, E = [some .bx, x1, x2, x3, x4, x5, x6, x7, none]) ⟨_, _, _, _, _, _, _, rfl⟩ (fun i x E hx hI => ?_) fun E hI => ?_
  · obtain ⟨x1, x2, x3, x4, x5, x6, x7, rfl⟩ := hI
    refine ⟨_, rfl, ?_⟩
    try simp only [Nat.reduceSub, Nat.reduceAdd, reduceIte, Tree.bind, liftO, dIdx, sAsgL, sPar4, dV, dC, d1, d2, t1, t2, l0, lC, dL, dT, aV, aE, a0, aC, dCall, dCallK, dIf, tTr, tV, truth, asB, tNot, tAnd, tOr, dAnd, dOr, sSet, sAsg, sPar, sRet, s0, sC, sIf, sX, sOwn, sApp, sFrz, frzE, sFor, outV, fnF, lenIs, ent, small, few, putE, putsE, wipeE, it_l, it_t, iS, iR1, iR2, wEn, wZ2, wZ3, dLc, dLf, dSl, oN, oS, pCut, pSub, cI, bD, pIx, pList, pTup, pLen, pNot, qIsN, qNotN, pIsN, pNotN, List.getElem?_cons_succ, List.getElem?_cons_zero, List.set_cons_succ, List.set_cons_zero, List.length_cons, List.length_nil, List.map_cons, List.map_nil, List.foldr_cons, List.foldr_nil, List.replicate_succ, List.replicate_zero, List.cons_append, List.nil_append, sOPar, sOOPar, dOIx, sNest, sCallP, dOLen, fnP, pC, pFrz, dPr, nApp, nIf, nEnd, sN0, sN1, lendE, frzW, sSetK, dGet, dZipD, dPairD, pMax2, sDD, sND, tNeN, sLock, lockE, odcE, tdE, dttE, tC, tLock, tRet, dGetO, dIdxO, tNinD, sPutO, tDen, sUpd, sCpT, iDtt, dSrtD, sParDt, sParDt3, tCall2, fnT, sNewD, isNd, all_bindE, all_retE, Nat.reduceLeDiff]
    refine all_take (by omega) (by omega) fun r r0 r1 => ?_
    obtain ⟨n, hn⟩ : ∃ n : Nat, (3 : Int) + r = (n : Int) := ⟨(3 + r).toNat, by omega⟩
    try simp only [Nat.reduceSub, Nat.reduceAdd, reduceIte, Tree.bind, liftO, dIdx, sAsgL, sPar4, dV, dC, d1, d2, t1, t2, l0, lC, dL, dT, aV, aE, a0, aC, dCall, dCallK, dIf, tTr, tV, truth, asB, tNot, tAnd, tOr, dAnd, dOr, sSet, sAsg, sPar, sRet, s0, sC, sIf, sX, sOwn, sApp, sFrz, frzE, sFor, outV, fnF, lenIs, ent, small, few, putE, putsE, wipeE, it_l, it_t, iS, iR1, iR2, wEn, wZ2, wZ3, dLc, dLf, dSl, oN, oS, pCut, pSub, cI, bD, pIx, pList, pTup, pLen, pNot, qIsN, qNotN, pIsN, pNotN, List.getElem?_cons_succ, List.getElem?_cons_zero, List.set_cons_succ, List.set_cons_zero, List.length_cons, List.length_nil, List.map_cons, List.map_nil, List.foldr_cons, List.foldr_nil, List.replicate_succ, List.replicate_zero, List.cons_append, List.nil_append, sOPar, sOOPar, dOIx, sNest, sCallP, dOLen, fnP, pC, pFrz, dPr, nApp, nIf, nEnd, sN0, sN1, lendE, frzW, sSetK, dGet, dZipD, dPairD, pMax2, sDD, sND, tNeN, sLock, lockE, odcE, tdE, dttE, tC, tLock, tRet, dGetO, dIdxO, tNinD, sPutO, tDen, sUpd, sCpT, iDtt, dSrtD, sParDt, sParDt3, tCall2, fnT, sNewD, isNd, all_bindE, all_retE, Nat.reduceLeDiff, pAdd_ii, hn]
    refine all_take (by omega) (by omega) fun q q0 q1 => ?_
    obtain ⟨k, hk⟩ : ∃ k : Nat, (1 : Int) + q = (k : Int) := ⟨(1 + q).toNat, by omega⟩
    try simp only [Nat.reduceSub, Nat.reduceAdd, reduceIte, Tree.bind, liftO, dIdx, sAsgL, sPar4, dV, dC, d1, d2, t1, t2, l0, lC, dL, dT, aV, aE, a0, aC, dCall, dCallK, dIf, tTr, tV, truth, asB, tNot, tAnd, tOr, dAnd, dOr, sSet, sAsg, sPar, sRet, s0, sC, sIf, sX, sOwn, sApp, sFrz, frzE, sFor, outV, fnF, lenIs, ent, small, few, putE, putsE, wipeE, it_l, it_t, iS, iR1, iR2, wEn, wZ2, wZ3, dLc, dLf, dSl, oN, oS, pCut, pSub, cI, bD, pIx, pList, pTup, pLen, pNot, qIsN, qNotN, pIsN, pNotN, List.getElem?_cons_succ, List.getElem?_cons_zero, List.set_cons_succ, List.set_cons_zero, List.length_cons, List.length_nil, List.map_cons, List.map_nil, List.foldr_cons, List.foldr_nil, List.replicate_succ, List.replicate_zero, List.cons_append, List.nil_append, sOPar, sOOPar, dOIx, sNest, sCallP, dOLen, fnP, pC, pFrz, dPr, nApp, nIf, nEnd, sN0, sN1, lendE, frzW, sSetK, dGet, dZipD, dPairD, pMax2, sDD, sND, tNeN, sLock, lockE, odcE, tdE, dttE, tC, tLock, tRet, dGetO, dIdxO, tNinD, sPutO, tDen, sUpd, sCpT, iDtt, dSrtD, sParDt, sParDt3, tCall2, fnT, sNewD, isNd, all_bindE, all_retE, Nat.reduceLeDiff, pAdd_ii, hk]
    refine all_take (by omega) (by omega) fun t t0 t1 => ?_
    have hmod := pMod_of (i := (k : Int) + t) (show (0 : Int) < (n : Int) - 1 by omega)
    have g0 := Int.emod_nonneg ((k : Int) + t) (show (n : Int) - 1 ≠ 0 by omega)
    have g1 := Int.emod_lt_of_pos ((k : Int) + t) (show (0 : Int) < (n : Int) - 1 by omega)
    obtain ⟨j, hj⟩ : ∃ j : Nat, (1 : Int) + ((k : Int) + t) % ((n : Int) - 1) = (j : Int) := ⟨(1 + ((k : Int) + t) % ((n : Int) - 1)).toNat, by omega⟩
    try simp only [Nat.reduceSub, Nat.reduceAdd, reduceIte, Tree.bind, liftO, dIdx, sAsgL, sPar4, dV, dC, d1, d2, t1, t2, l0, lC, dL, dT, aV, aE, a0, aC, dCall, dCallK, dIf, tTr, tV, truth, asB, tNot, tAnd, tOr, dAnd, dOr, sSet, sAsg, sPar, sRet, s0, sC, sIf, sX, sOwn, sApp, sFrz, frzE, sFor, outV, fnF, lenIs, ent, small, few, putE, putsE, wipeE, it_l, it_t, iS, iR1, iR2, wEn, wZ2, wZ3, dLc, dLf, dSl, oN, oS, pCut, pSub, cI, bD, pIx, pList, pTup, pLen, pNot, qIsN, qNotN, pIsN, pNotN, List.getElem?_cons_succ, List.getElem?_cons_zero, List.set_cons_succ, List.set_cons_zero, List.length_cons, List.length_nil, List.map_cons, List.map_nil, List.foldr_cons, List.foldr_nil, List.replicate_succ, List.replicate_zero, List.cons_append, List.nil_append, sOPar, sOOPar, dOIx, sNest, sCallP, dOLen, fnP, pC, pFrz, dPr, nApp, nIf, nEnd, sN0, sN1, lendE, frzW, sSetK, dGet, dZipD, dPairD, pMax2, sDD, sND, tNeN, sLock, lockE, odcE, tdE, dttE, tC, tLock, tRet, dGetO, dIdxO, tNinD, sPutO, tDen, sUpd, sCpT, iDtt, dSrtD, sParDt, sParDt3, tCall2, fnT, sNewD, isNd, all_bindE, all_retE, Nat.reduceLeDiff, pAdd_ii, hmod, hj]
    refine all_law_crowd (by omega) (by omega) (by omega) fun a ta la => ?_
    try simp only [Nat.reduceSub, Nat.reduceAdd, reduceIte, Tree.bind, liftO, dIdx, sAsgL, sPar4, dV, dC, d1, d2, t1, t2, l0, lC, dL, dT, aV, aE, a0, aC, dCall, dCallK, dIf, tTr, tV, truth, asB, tNot, tAnd, tOr, dAnd, dOr, sSet, sAsg, sPar, sRet, s0, sC, sIf, sX, sOwn, sApp, sFrz, frzE, sFor, outV, fnF, lenIs, ent, small, few, putE, putsE, wipeE, it_l, it_t, iS, iR1, iR2, wEn, wZ2, wZ3, dLc, dLf, dSl, oN, oS, pCut, pSub, cI, bD, pIx, pList, pTup, pLen, pNot, qIsN, qNotN, pIsN, pNotN, List.getElem?_cons_succ, List.getElem?_cons_zero, List.set_cons_succ, List.set_cons_zero, List.length_cons, List.length_nil, List.map_cons, List.map_nil, List.foldr_cons, List.foldr_nil, List.replicate_succ, List.replicate_zero, List.cons_append, List.nil_append, sOPar, sOOPar, dOIx, sNest, sCallP, dOLen, fnP, pC, pFrz, dPr, nApp, nIf, nEnd, sN0, sN1, lendE, frzW, sSetK, dGet, dZipD, dPairD, pMax2, sDD, sND, tNeN, sLock, lockE, odcE, tdE, dttE, tC, tLock, tRet, dGetO, dIdxO, tNinD, sPutO, tDen, sUpd, sCpT, iDtt, dSrtD, sParDt, sParDt3, tCall2, fnT, sNewD, isNd, all_bindE, all_retE, Nat.reduceLeDiff]
    refine all_law_crowd (by omega) (by omega) (by omega) fun b tb lb => ?_
    have ha : a ≠ [] := List.length_pos_iff.mp (by omega)
    have hb : b ≠ [] := List.length_pos_iff.mp (by omega)
    try simp only [Nat.reduceSub, Nat.reduceAdd, reduceIte, Tree.bind, liftO, dIdx, sAsgL, sPar4, dV, dC, d1, d2, t1, t2, l0, lC, dL, dT, aV, aE, a0, aC, dCall, dCallK, dIf, tTr, tV, truth, asB, tNot, tAnd, tOr, dAnd, dOr, sSet, sAsg, sPar, sRet, s0, sC, sIf, sX, sOwn, sApp, sFrz, frzE, sFor, outV, fnF, lenIs, ent, small, few, putE, putsE, wipeE, it_l, it_t, iS, iR1, iR2, wEn, wZ2, wZ3, dLc, dLf, dSl, oN, oS, pCut, pSub, cI, bD, pIx, pList, pTup, pLen, pNot, qIsN, qNotN, pIsN, pNotN, List.getElem?_cons_succ, List.getElem?_cons_zero, List.set_cons_succ, List.set_cons_zero, List.length_cons, List.length_nil, List.map_cons, List.map_nil, List.foldr_cons, List.foldr_nil, List.replicate_succ, List.replicate_zero, List.cons_append, List.nil_append, sOPar, sOOPar, dOIx, sNest, sCallP, dOLen, fnP, pC, pFrz, dPr, nApp, nIf, nEnd, sN0, sN1, lendE, frzW, sSetK, dGet, dZipD, dPairD, pMax2, sDD, sND, tNeN, sLock, lockE, odcE, tdE, dttE, tC, tLock, tRet, dGetO, dIdxO, tNinD, sPutO, tDen, sUpd, sCpT, iDtt, dSrtD, sParDt, sParDt3, tCall2, fnT, sNewD, isNd, all_bindE, all_retE, Nat.reduceLeDiff]
    refine PR (it_t _) (it_t _) ta tb ha hb (by omega) (by omega) (by omega) ?_ rfl
    try simp only [Nat.reduceSub, Nat.reduceAdd, reduceIte, Tree.bind, liftO, dIdx, sAsgL, sPar4, dV, dC, d1, d2, t1, t2, l0, lC, dL, dT, aV, aE, a0, aC, dCall, dCallK, dIf, tTr, tV, truth, asB, tNot, tAnd, tOr, dAnd, dOr, sSet, sAsg, sPar, sRet, s0, sC, sIf, sX, sOwn, sApp, sFrz, frzE, sFor, outV, fnF, lenIs, ent, small, few, putE, putsE, wipeE, it_l, it_t, iS, iR1, iR2, wEn, wZ2, wZ3, dLc, dLf, dSl, oN, oS, pCut, pSub, cI, bD, pIx, pList, pTup, pLen, pNot, qIsN, qNotN, pIsN, pNotN, List.getElem?_cons_succ, List.getElem?_cons_zero, List.set_cons_succ, List.set_cons_zero, List.length_cons, List.length_nil, List.map_cons, List.map_nil, List.foldr_cons, List.foldr_nil, List.replicate_succ, List.replicate_zero, List.cons_append, List.nil_append, sOPar, sOOPar, dOIx, sNest, sCallP, dOLen, fnP, pC, pFrz, dPr, nApp, nIf, nEnd, sN0, sN1, lendE, frzW, sSetK, dGet, dZipD, dPairD, pMax2, sDD, sND, tNeN, sLock, lockE, odcE, tdE, dttE, tC, tLock, tRet, dGetO, dIdxO, tNinD, sPutO, tDen, sUpd, sCpT, iDtt, dSrtD, sParDt, sParDt3, tCall2, fnT, sNewD, isNd, all_bindE, all_retE, Nat.reduceLeDiff, Bool.not_true]
    refine PR (it_t _) (it_l _) tb ta hb ha (by omega) (by omega) (by omega) ?_ rfl
    try simp only [Nat.reduceSub, Nat.reduceAdd, reduceIte, Tree.bind, liftO, dIdx, sAsgL, sPar4, dV, dC, d1, d2, t1, t2, l0, lC, dL, dT, aV, aE, a0, aC, dCall, dCallK, dIf, tTr, tV, truth, asB, tNot, tAnd, tOr, dAnd, dOr, sSet, sAsg, sPar, sRet, s0, sC, sIf, sX, sOwn, sApp, sFrz, frzE, sFor, outV, fnF, lenIs, ent, small, few, putE, putsE, wipeE, it_l, it_t, iS, iR1, iR2, wEn, wZ2, wZ3, dLc, dLf, dSl, oN, oS, pCut, pSub, cI, bD, pIx, pList, pTup, pLen, pNot, qIsN, qNotN, pIsN, pNotN, List.getElem?_cons_succ, List.getElem?_cons_zero, List.set_cons_succ, List.set_cons_zero, List.length_cons, List.length_nil, List.map_cons, List.map_nil, List.foldr_cons, List.foldr_nil, List.replicate_succ, List.replicate_zero, List.cons_append, List.nil_append, sOPar, sOOPar, dOIx, sNest, sCallP, dOLen, fnP, pC, pFrz, dPr, nApp, nIf, nEnd, sN0, sN1, lendE, frzW, sSetK, dGet, dZipD, dPairD, pMax2, sDD, sND, tNeN, sLock, lockE, odcE, tdE, dttE, tC, tLock, tRet, dGetO, dIdxO, tNinD, sPutO, tDen, sUpd, sCpT, iDtt, dSrtD, sParDt, sParDt3, tCall2, fnT, sNewD, isNd, all_bindE, all_retE, Nat.reduceLeDiff, Bool.not_true]
    refine all_law_crowd (by omega) (by omega) (by omega) fun c tc lc => ?_
    have hc : c ≠ [] := List.length_pos_iff.mp (by omega)
    try simp only [Nat.reduceSub, Nat.reduceAdd, reduceIte, Tree.bind, liftO, dIdx, sAsgL, sPar4, dV, dC, d1, d2, t1, t2, l0, lC, dL, dT, aV, aE, a0, aC, dCall, dCallK, dIf, tTr, tV, truth, asB, tNot, tAnd, tOr, dAnd, dOr, sSet, sAsg, sPar, sRet, s0, sC, sIf, sX, sOwn, sApp, sFrz, frzE, sFor, outV, fnF, lenIs, ent, small, few, putE, putsE, wipeE, it_l, it_t, iS, iR1, iR2, wEn, wZ2, wZ3, dLc, dLf, dSl, oN, oS, pCut, pSub, cI, bD, pIx, pList, pTup, pLen, pNot, qIsN, qNotN, pIsN, pNotN, List.getElem?_cons_succ, List.getElem?_cons_zero, List.set_cons_succ, List.set_cons_zero, List.length_cons, List.length_nil, List.map_cons, List.map_nil, List.foldr_cons, List.foldr_nil, List.replicate_succ, List.replicate_zero, List.cons_append, List.nil_append, sOPar, sOOPar, dOIx, sNest, sCallP, dOLen, fnP, pC, pFrz, dPr, nApp, nIf, nEnd, sN0, sN1, lendE, frzW, sSetK, dGet, dZipD, dPairD, pMax2, sDD, sND, tNeN, sLock, lockE, odcE, tdE, dttE, tC, tLock, tRet, dGetO, dIdxO, tNinD, sPutO, tDen, sUpd, sCpT, iDtt, dSrtD, sParDt, sParDt3, tCall2, fnT, sNewD, isNd, all_bindE, all_retE, Nat.reduceLeDiff]
    refine PR (it_t _) (it_t _) ta tc ha hc (by omega) (by omega) (by omega) ?_ rfl
    have P : Pr n a a := ⟨ta, ta, rfl, ha, by omega, by omega⟩
    have s0 := S0 P (by omega) .none
    have s1 := S1 P (by omega) .none
    have s2 := S2 P (by omega) .none
    have s3 := S3 P (by omega)
    have s4 := S4 P (by omega)
    rw [la] at s1
    have n3 : rg1 (.int 3) = some [.int 0, .int 1, .int 2] := rfl
    have bz : ∀ x ∈ List.replicate k (0 : Int), x.natAbs < 10 ^ 60 := fun x hx => by
      rw [(List.mem_replicate.mp hx).2]
      decide
    have sh : shwB (.list [.int 0, .list (iL (List.replicate k 0)), .int 1, .list [], .int 0]) = true := shwB_mk rfl (by simp only [okR, okRs, ok_iL bz, Bool.and_self, Bool.and_true]; decide) (by simp only [dpR, dpRs, dp_iL]; omega) (by simp only [wdR, wdRs, wd_iL, List.length_replicate]; omega)
    have ls2 := LS sh rfl
    try simp only [Nat.reduceSub, Nat.reduceAdd, reduceIte, Tree.bind, liftO, dIdx, sAsgL, sPar4, dV, dC, d1, d2, t1, t2, l0, lC, dL, dT, aV, aE, a0, aC, dCall, dCallK, dIf, tTr, tV, truth, asB, tNot, tAnd, tOr, dAnd, dOr, sSet, sAsg, sPar, sRet, s0, sC, sIf, sX, sOwn, sApp, sFrz, frzE, sFor, outV, fnF, lenIs, ent, small, few, putE, putsE, wipeE, it_l, it_t, iS, iR1, iR2, wEn, wZ2, wZ3, dLc, dLf, dSl, oN, oS, pCut, pSub, cI, bD, pIx, pList, pTup, pLen, pNot, qIsN, qNotN, pIsN, pNotN, List.getElem?_cons_succ, List.getElem?_cons_zero, List.set_cons_succ, List.set_cons_zero, List.length_cons, List.length_nil, List.map_cons, List.map_nil, List.foldr_cons, List.foldr_nil, List.replicate_succ, List.replicate_zero, List.cons_append, List.nil_append, sOPar, sOOPar, dOIx, sNest, sCallP, dOLen, fnP, pC, pFrz, dPr, nApp, nIf, nEnd, sN0, sN1, lendE, frzW, sSetK, dGet, dZipD, dPairD, pMax2, sDD, sND, tNeN, sLock, lockE, odcE, tdE, dttE, tC, tLock, tRet, dGetO, dIdxO, tNinD, sPutO, tDen, sUpd, sCpT, iDtt, dSrtD, sParDt, sParDt3, tCall2, fnT, sNewD, isNd, all_bindE, all_retE, Nat.reduceLeDiff, Bool.not_true, n3, mapT, s0, s1, s2, s3, s4, pAdd, pMul_z k (by omega), ls2]
    exact ⟨_, _, _, _, _, _, _, rfl⟩
  · obtain ⟨x1, x2, x3, x4, x5, x6, x7, rfl⟩ := hI
    try simp only [Nat.reduceSub, Nat.reduceAdd, reduceIte, Tree.bind, liftO, dIdx, sAsgL, sPar4, dV, dC, d1, d2, t1, t2, l0, lC, dL, dT, aV, aE, a0, aC, dCall, dCallK, dIf, tTr, tV, truth, asB, tNot, tAnd, tOr, dAnd, dOr, sSet, sAsg, sPar, sRet, s0, sC, sIf, sX, sOwn, sApp, sFrz, frzE, sFor, outV, fnF, lenIs, ent, small, few, putE, putsE, wipeE, it_l, it_t, iS, iR1, iR2, wEn, wZ2, wZ3, dLc, dLf, dSl, oN, oS, pCut, pSub, cI, bD, pIx, pList, pTup, pLen, pNot, qIsN, qNotN, pIsN, pNotN, List.getElem?_cons_succ, List.getElem?_cons_zero, List.set_cons_succ, List.set_cons_zero, List.length_cons, List.length_nil, List.map_cons, List.map_nil, List.foldr_cons, List.foldr_nil, List.replicate_succ, List.replicate_zero, List.cons_append, List.nil_append, sOPar, sOOPar, dOIx, sNest, sCallP, dOLen, fnP, pC, pFrz, dPr, nApp, nIf, nEnd, sN0, sN1, lendE, frzW, sSetK, dGet, dZipD, dPairD, pMax2, sDD, sND, tNeN, sLock, lockE, odcE, tdE, dttE, tC, tLock, tRet, dGetO, dIdxO, tNinD, sPutO, tDen, sUpd, sCpT, iDtt, dSrtD, sParDt, sParDt3, tCall2, fnT, sNewD, isNd, all_bindE, all_retE, Nat.reduceLeDiff]
end Nx
namespace Nx
open PySem PySem.Spec PyProof.Rows L2
def topS (i : Nat) : Stmt := PySem.Challenge.pw_nextstands_k48_tables_with_other_people.main.body.getD i (.Pass ⟨0, 0, 0, 0⟩)
abbrev sC_NotWay : Stmt := clsS (topS 1) 0
abbrev sC_NoNumber : Stmt := clsS (topS 4) 0
abbrev sC_OtherPeople : Stmt := clsS (topS 6) 0
abbrev s_spot : Stmt := topS 8
abbrev s_steps_with : Stmt := topS 9
abbrev s_fewest_steps : Stmt := topS 10
abbrev s_fewest_calls : Stmt := topS 11
abbrev s_distance_before : Stmt := topS 12
abbrev s_chain_people : Stmt := topS 13
abbrev s_chains_between : Stmt := topS 14
abbrev s_orders_many : Stmt := topS 15
abbrev s_mixed_many : Stmt := topS 16
abbrev s_chains_after : Stmt := topS 17
abbrev s_next_chairs : Stmt := topS 18
abbrev s_lesser_many : Stmt := topS 19
abbrev s_ways_many : Stmt := topS 20
abbrev s_way_at : Stmt := topS 21
abbrev s_way_number : Stmt := topS 22
abbrev s_law_box : Stmt := topS 24
abbrev s_law_take : Stmt := topS 25
abbrev s_law_cells : Stmt := topS 26
abbrev s_law_strewn : Stmt := topS 27
abbrev s_law_same : Stmt := topS 28
abbrev s_law_crowd : Stmt := topS 29
abbrev s_law_heard : Stmt := topS 30
abbrev s_law_pair_right : Stmt := topS 31
abbrev s_law_right : Stmt := topS 32
abbrev s_law : Stmt := topS 33
section
variable {P : Program} {w : World} {K : PySem.W.Frag} {mg : Str → Option Value} {base : Heap}
theorem sc_law_take : FnScope ["_law_box_here", "_law_below", "_law_blend", "_law_found"] ["_law_box_here", "_law_below"] (defScope s_law_take) := ⟨rfl, rfl, rfl, by decide +kernel, rfl, by decide +kernel, by decide +kernel⟩
def c_law_take : Ct := fun os μ Φ => ∃ b n p q t, os = [.own b, .im (.int n)] ∧ μ b = some (bx p q t) ∧ 0 < n ∧ n < 4611686018427387904 ∧ ∀ r p' t', 0 ≤ r → r < n → Φ (.im (.int r)) (μ.put b (bx p' q t'))
theorem f_law_take {f : Addr} {fd : FuncData} (F : Fun K "_law_take" "_law_take" s_law_take f fd) (hm : mg "_law_take" = some (.ref f)) : Fc P w K mg base "_law_take" s_law_take ["_law_box_here", "_law_below"] 1 c_law_take := by
  have sc := sc_law_take
  refine fc_of F hm sc (fun os μ Φ h => ?_) fun cdv A outer s H E os μ Φ hr h => ?_
  · obtain ⟨b, n, p, q, t, rfl, _⟩ := h
    rfl
  · obtain ⟨b, n, p, q, t, rfl, hb, n0, n1, k⟩ := h
    refine dss_cons (ds_if (dt_gt (de_ix (fun _ _ => rfl) (de_var 0 rfl (.inl rfl) rfl (de_int ⟨_, _, _, .own hb, rfl, rfl, de_int ⟨_, _, rfl, rfl, ?_⟩⟩)))))
    by_cases hp : 0 < p
    · rw [if_pos (decide_eq_true hp)]
      refine dss_cons (ds_set 3 sc.nd rfl (.inl rfl) (de_mod (de_ix (fun _ _ => rfl) (de_var 0 rfl (.inl rfl) rfl (de_int ⟨_, _, _, .own hb, rfl, rfl, de_var 1 rfl (.inl rfl) rfl ⟨_, _, rfl, rfl, n0, ?_⟩⟩)))))
      refine dss_cons (ds_sub (de_fdivW (de_ix (fun _ _ => rfl) (de_var 0 rfl (.inl rfl) rfl (de_int ⟨_, _, _, .own hb, rfl, rfl, de_var 1 rfl (.inl rfl) rfl ⟨_, _, rfl, rfl, wide_div (b := 62) n0 (by omega) (by decide) (by decide), de_var 0 rfl (.inl rfl) rfl (de_int ⟨_, _, _, _, rfl, rfl, hb, rfl, ?_⟩)⟩⟩)))) (hsub := pg_sub pwe pwe set_list))
      refine dss_one (ds_ret (de_var 3 rfl (.inl rfl) rfl ?_))
      exact k _ _ _ (Int.emod_nonneg _ (by omega)) (Int.emod_lt_of_pos _ n0)
    · rw [if_neg (by simpa using hp)]
      refine dss_nil ?_
      refine dss_cons (ds_sub (de_add (de_ix (fun _ _ => rfl) (de_var 0 rfl (.inl rfl) rfl (de_int ⟨_, _, _, .own hb, rfl, rfl, de_int (.inl ⟨_, _, rfl, rfl, de_var 0 rfl (.inl rfl) rfl (de_int ⟨_, _, _, _, rfl, rfl, hb, rfl, ?_⟩)⟩)⟩)))) (hsub := pg_sub pwe pwe set_list))
      refine dss_cons (ds_set 2 sc.nd rfl (.inl rfl) (de_mod (de_add (de_ix (fun _ _ => rfl) (de_var 0 rfl (.inl rfl) rfl (de_int ⟨_, _, _, .own put_same, rfl, rfl, de_mul (de_int (de_ix (fun _ _ => rfl) (de_var 0 rfl (.inl rfl) rfl (de_int ⟨_, _, _, .own put_same, rfl, rfl, ⟨_, _, rfl, rfl, .inl ⟨by decide, by decide⟩, .inl ⟨_, _, rfl, rfl, de_int ⟨_, _, rfl, rfl, by decide, ?_⟩⟩⟩⟩))))⟩))))))
      generalize hm1 : (q + 1442695040888963407 * (t + 1)) % 2305843009213693951 = m1
      have a1 := Int.emod_nonneg (q + 1442695040888963407 * (t + 1)) (show (2305843009213693951 : Int) ≠ 0 by decide)
      have a2 := Int.emod_lt_of_pos (q + 1442695040888963407 * (t + 1)) (show (0 : Int) < 2305843009213693951 by decide)
      rw [hm1] at a1 a2
      refine dss_cons (ds_set 2 sc.nd rfl (.inl rfl) (de_mod (de_add (de_add (de_mul (de_var 2 rfl (.inl rfl) rfl (de_var 2 rfl (.inl rfl) rfl ⟨_, _, rfl, rfl, .inl ⟨by omega, by omega⟩, de_mul (de_int (de_ix (fun _ _ => rfl) (de_var 0 rfl (.inl rfl) rfl (de_int ⟨_, _, _, .own put_same, rfl, rfl, ⟨_, _, rfl, rfl, .inl ⟨by decide, by decide⟩, .inl ⟨_, _, rfl, rfl, de_int (.inl ⟨_, _, rfl, rfl, de_int ⟨_, _, rfl, rfl, by decide, ?_⟩⟩)⟩⟩⟩))))⟩)))))))
      generalize hm2 : (m1 * m1 + 39373 * (t + 1) + 7) % 2305843009213693921 = m2
      have a3 := Int.emod_nonneg (m1 * m1 + 39373 * (t + 1) + 7) (show (2305843009213693921 : Int) ≠ 0 by decide)
      have a4 := Int.emod_lt_of_pos (m1 * m1 + 39373 * (t + 1) + 7) (show (0 : Int) < 2305843009213693921 by decide)
      rw [hm2] at a3 a4
      refine dss_cons (ds_set 2 sc.nd rfl (.inl rfl) (de_mod (de_add (de_mul (de_var 2 rfl (.inl rfl) rfl (de_add (de_fdiv (de_var 2 rfl (.inl rfl) rfl (de_int ⟨_, _, rfl, rfl, ⟨by decide, by decide⟩, de_int (.inl ⟨_, _, rfl, rfl, ⟨_, _, rfl, rfl, .inl ⟨by omega, by omega⟩, de_ix (fun _ _ => rfl) (de_var 0 rfl (.inl rfl) rfl (de_int ⟨_, _, _, .own put_same, rfl, rfl, .inl ⟨_, _, rfl, rfl, de_int ⟨_, _, rfl, rfl, by decide, ?_⟩⟩⟩))⟩⟩)⟩)))))))))
      refine dss_one (ds_ret (de_mod (de_fdiv (de_var 2 rfl (.inl rfl) rfl (de_int ⟨_, _, rfl, rfl, ⟨by decide, by decide⟩, de_var 1 rfl (.inl rfl) rfl ⟨_, _, rfl, rfl, n0, ?_⟩⟩)))))
      exact k _ _ _ (Int.emod_nonneg _ (by omega)) (Int.emod_lt_of_pos _ n0)
theorem sc_law_strewn : FnScope ["_law_box_here", "_law_some", "_law_left", "_law_found", "_law_turn"] ["_law_box_here", "_law_some"] (defScope s_law_strewn) := ⟨rfl, rfl, rfl, by decide +kernel, rfl, by decide +kernel, by decide +kernel⟩
def c_law_strewn : Ct := fun os μ Φ => ∃ (b : Addr) (ds : List PyData) (p q t : Int), os = [.own b, .im (.list ds)] ∧ μ b = some (bx p q t) ∧ ds.length ≤ 1000 ∧ ∀ es p' t', es.Perm ds → Φ (.im (.list es)) (μ.put b (bx p' q t'))
theorem f_law_strewn (B : Bt mg) (F_law_take : Fc P w K mg base "_law_take" s_law_take ["_law_box_here", "_law_below"] 1 c_law_take) {f : Addr} {fd : FuncData} (F : Fun K "_law_strewn" "_law_strewn" s_law_strewn f fd) (hm : mg "_law_strewn" = some (.ref f)) : Fc P w K mg base "_law_strewn" s_law_strewn ["_law_box_here", "_law_some"] 2 c_law_strewn := by
  have sc := sc_law_strewn
  refine fc_of F hm sc (fun os μ Φ h => ?_) fun cdv A outer s H E os μ Φ hr h => ?_
  · obtain ⟨b, ds, p, q, t, rfl, _⟩ := h
    rfl
  · obtain ⟨b, ds, p, q, t, rfl, hb, hz, k⟩ := h
    refine dss_cons (ds_par 2 3 rfl sc.nd rfl rfl (by decide) rfl rfl rfl (da_cons (de_listO B rfl (de_var 1 rfl (.inl rfl) rfl ⟨_, .lst _, fun la hla => da_cons (de_lstO (da_nil ⟨lz rfl, fun fa hfa => da_nil ⟨_, _, rfl, ?_⟩⟩))⟩))))
    have nlf : la ≠ fa := ne_own put_same hfa
    have nbl := ne_own hb hla
    have hfa0 : μ fa = none := by
      cases z : μ fa with
      | none => rfl
      | some l =>
        rw [put_ne (ne_own z hla), z] at hfa
        cases hfa
    have nbf := ne_own hb hfa0
    refine dss_cons (ds_for (.nm 4) PassesOwn.never rfl (pg_name (i := 4) sc.nd rfl (.inl rfl)) (di_range1 B rfl (de_len B rfl (de_var 2 rfl (.inl rfl) rfl ⟨_, .own ((put_ne nlf).trans put_same), ⟨_, rfl, by omega, ?_, ?_⟩⟩))))
    · rw [List.length_map]
      omega
    refine ⟨fun i ρ' μ' => ∃ es fs p t x, ρ' = [some (.own b), some (.im (.list ds)), some (.own la), some (.own fa), x] ∧ μ' b = some (bx p q t) ∧ μ' la = some (es.map OV.im) ∧ μ' fa = some (fs.map OV.im) ∧ (∀ a l, a ≠ b → μ a = some l → μ' a = some l) ∧ es.length + i = ds.length ∧ (fs ++ es).Perm ds ∧ μ'.d = μ.d ∧ μ'.C = μ.C,
      ⟨ds, [], p, t, none, rfl, ?_, (put_ne nlf).trans put_same, put_same, fun a l _ e => ?_, rfl, by simp, rfl, rfl⟩, fun _ _ _ _ => trivial, fun i z ρ' μ' hz' hP => ?_, fun ρ' μ' hP => ?_⟩
    · rw [put_ne nbf, put_ne nbl]
      exact hb
    · rw [put_ne (ne_own e hfa0), put_ne (ne_own e hla)]
      exact e
    · obtain ⟨es, fs, p1, t1, x, rfl, h1, h2, h3, h4, h5, h6, h7, h8⟩ := hP
      have hi := (List.getElem?_eq_some_iff.mp hz').1
      simp at hi
      refine ⟨_, rfl, ?_⟩
      refine dss_one (ds_expr (de_append (de_var 3 rfl (.inl rfl) rfl ⟨_, _, rfl, h3, de_popAt (de_var 2 rfl (.inl rfl) rfl ⟨_, _, rfl, h2, de_call F_law_take (hr.mono (by decide)) rfl (fun _ _ _ _ _ _ us hl => match us, hl with | [_, _], _ => rfl) (da_cons (de_var 0 rfl (.inl rfl) rfl (da_cons (de_len B rfl (de_var 2 rfl (.inl rfl) rfl ⟨_, .own h2, da_nil ⟨b, _, p1, q, t1, rfl, h1, ?_, ?_, fun r p2 t2 r0 r1 => ?_⟩⟩)))))⟩)⟩)))
      · rw [List.length_map]
        omega
      · rw [List.length_map]
        omega
      · rw [List.length_map] at r1
        obtain ⟨j, rfl⟩ : ∃ j : Nat, r = (j : Int) := ⟨r.toNat, by omega⟩
        have hj : j < es.length := by omega
        refine ⟨es.map OV.im, j, .im es[j], rfl, by omega, by rw [put_ne nbl.symm]; exact h2, by rw [List.getElem?_map, List.getElem?_eq_getElem hj]; rfl, fs.map OV.im, by rw [put_ne nlf.symm, put_ne nbf.symm]; exact h3, ?_, ?_⟩
        · have := h6.length_eq
          rw [List.length_append] at this
          rw [List.length_map]
          omega
        · refine ⟨es.eraseIdx j, fs ++ [es[j]], p2, t2, _, rfl, ?_, ?_, ?_, fun a l ha e => ?_, ?_, ?_, h7, h8⟩
          · rw [put_ne nbf, put_ne nbl, put_same]
          · rw [put_ne nlf, put_same, erase_map]
          · rw [put_same, List.map_append]
            rfl
          · rw [put_ne (ne_own e hfa0), put_ne (ne_own e hla), put_ne ha]
            exact h4 a l ha e
          · rw [List.length_eraseIdx_of_lt hj]
            omega
          · refine List.Perm.trans ?_ h6
            rw [List.append_assoc]
            refine List.Perm.append_left fs ?_
            exact erase_perm es j hj
    · obtain ⟨es, fs, p1, t1, x, rfl, h1, h2, h3, h4, h5, h6, h7, h8⟩ := hP
      simp at h5
      subst h5
      rw [List.append_nil] at h6
      refine dss_frz (i := 3) rfl h3 (dss_drop (μ' := μ.put b (bx p1 q t1)) ⟨fun a l e => ?_, h7.symm, h8.symm⟩ (dss_one (ds_ret (de_var 3 rfl (.inl rfl) rfl (k fs p1 t1 h6)))))
      show (if a = fa then none else μ' a) = some l
      by_cases ha : a = b
      · subst ha
        rw [put_same] at e
        cases e
        rw [if_neg nbf]
        exact h1
      · rw [put_ne ha] at e
        rw [if_neg (ne_own e hfa0)]
        exact h4 a l ha e
abbrev N_spot : List Str := ["size", "table", "number"]
theorem sc_spot : FnScope N_spot ["size", "table", "number"] (defScope s_spot) := ⟨rfl, rfl, rfl, by decide +kernel, rfl, by decide +kernel, by decide +kernel⟩
theorem f_spot (B : Bt mg)   {f : Addr} {fd : FuncData} (F : Fun K "spot" "spot" s_spot f fd) (hm : mg "spot" = some (.ref f)) : Fc P w K mg base "spot" s_spot ["size", "table", "number"] 1 (cF m_spot) := by
  have sc := sc_spot
  refine fc_body (k := 0) b_spot (m := m_spot) (by unfold m_spot; rfl) F hm sc rfl rfl fun b cdv A outer s H E hr => ?_
  exact (ss_one (ss_ret (se_add (se_mul (se_div (se_v 2 rfl (.inl rfl)) (se_len B rfl (se_v 1 rfl (.inl rfl)))) (se_v 0 rfl (.inl rfl))) (se_ix (fun _ _ => rfl) (se_v 1 rfl (.inl rfl)) (se_mod (se_v 2 rfl (.inl rfl)) (se_len B rfl (se_v 1 rfl (.inl rfl))))))))
abbrev N_steps_with : List Str := ["size", "first", "second", "shift", "person", "seat"]
theorem sc_steps_with : FnScope N_steps_with ["size", "first", "second", "shift"] (defScope s_steps_with) := ⟨rfl, rfl, rfl, by decide +kernel, rfl, by decide +kernel, by decide +kernel⟩
theorem f_steps_with (B : Bt mg) (F_spot : Fc P w K mg base "spot" s_spot ["size", "table", "number"] 1 (cF m_spot))  {f : Addr} {fd : FuncData} (F : Fun K "steps_with" "steps_with" s_steps_with f fd) (hm : mg "steps_with" = some (.ref f)) : Fc P w K mg base "steps_with" s_steps_with ["size", "first", "second", "shift"] 2 (cF m_steps_with) := by
  have sc := sc_steps_with
  refine fc_body (k := 1) b_steps_with (m := m_steps_with) (by unfold m_steps_with; rfl) F hm sc rfl rfl fun b cdv A outer s H E hr => ?_
  exact (ss_one (ss_ret (se_lc (own := [("person", 4), ("seat", 5)]) (.tp [4, 5]) rfl sc.nd (blkOk_by (N := N_steps_with) (sc := defScope s_steps_with) (by decide +kernel)) (by decide) (fun _ _ _ _ _ => pg_tup rfl (pgs_cons (pg_name (i := 4) sc.nd rfl (by first | exact .inl rfl | exact .inr rfl)) (pgs_cons (pg_name (i := 5) sc.nd rfl (by first | exact .inl rfl | exact .inr rfl)) pgs_nil))) (si_en B rfl (se_v 1 rfl (.inl rfl))) (fun _ _ _ _ _ => (se_sub (se_v 5) (se_call F_spot (hr.mono (by decide)) rfl (fun _ _ _ _ _ _ us hl => match us, hl with | [_, _, _], _ => rfl) (sa_cons (sv_v 0) (sa_cons (sv_v 2) (sa_cons (sv_e (se_sub (se_v 4) (se_v 3))) sa_nil)))))))))
abbrev N_fewest_steps : List Str := ["size", "first", "second", "shift", "many"]
theorem sc_fewest_steps : FnScope N_fewest_steps ["size", "first", "second"] (defScope s_fewest_steps) := ⟨rfl, rfl, rfl, by decide +kernel, rfl, by decide +kernel, by decide +kernel⟩
theorem f_fewest_steps (B : Bt mg) (F_steps_with : Fc P w K mg base "steps_with" s_steps_with ["size", "first", "second", "shift"] 2 (cF m_steps_with))  {f : Addr} {fd : FuncData} (F : Fun K "fewest_steps" "fewest_steps" s_fewest_steps f fd) (hm : mg "fewest_steps" = some (.ref f)) : Fc P w K mg base "fewest_steps" s_fewest_steps ["size", "first", "second"] 3 (cF m_fewest_steps) := by
  have sc := sc_fewest_steps
  refine fc_body (k := 2) b_fewest_steps (m := m_fewest_steps) (by unfold m_fewest_steps; rfl) F hm sc rfl rfl fun b cdv A outer s H E hr => ?_
  exact (ss_cons (ss_if (st_cmp ((op_neI.or (op_neD hr.room.units)).or op_ne) (nomark _) ok_ne (se_len B rfl (se_v 1 rfl (.inl rfl))) (se_len B rfl (se_v 2 rfl (.inl rfl)))) (ss_one ss_no) ss_nil) (ss_cons (ss_set 3 sc.nd rfl (.inl rfl) se_int) (ss_cons (ss_wh 100 PassesOwn.never (st_tru (se_any B rfl rfl (se_lc (own := [("many", 4)]) (.nm 4) rfl sc.nd (blkOk_by (N := N_fewest_steps) (sc := defScope s_fewest_steps) (by decide +kernel)) (by decide) (fun _ _ _ _ _ => pg_name (i := 4) sc.nd rfl (by first | exact .inl rfl | exact .inr rfl)) (si_seq (se_call F_steps_with (hr.mono (by decide)) rfl (fun _ _ _ _ _ _ us hl => match us, hl with | [_, _, _, _], _ => rfl) (sa_cons (sv_v 0 rfl (.inl rfl)) (sa_cons (sv_v 1 rfl (.inl rfl)) (sa_cons (sv_v 2 rfl (.inl rfl)) (sa_cons (sv_v 3 rfl (.inl rfl)) sa_nil)))))) (fun _ _ _ _ _ => (se_cmp op_lt (nomark _) okI (se_v 4) se_int))))) (ss_one (ss_augA 3 sc.nd rfl (.inl rfl) se_int))) (ss_one (ss_ret (se_call F_steps_with (hr.mono (by decide)) rfl (fun _ _ _ _ _ _ us hl => match us, hl with | [_, _, _, _], _ => rfl) (sa_cons (sv_v 0 rfl (.inl rfl)) (sa_cons (sv_v 1 rfl (.inl rfl)) (sa_cons (sv_v 2 rfl (.inl rfl)) (sa_cons (sv_v 3 rfl (.inl rfl)) sa_nil))))))))))
abbrev N_fewest_calls : List Str := ["size", "first", "second", "many"]
theorem sc_fewest_calls : FnScope N_fewest_calls ["size", "first", "second"] (defScope s_fewest_calls) := ⟨rfl, rfl, rfl, by decide +kernel, rfl, by decide +kernel, by decide +kernel⟩
theorem f_fewest_calls (B : Bt mg) (F_fewest_steps : Fc P w K mg base "fewest_steps" s_fewest_steps ["size", "first", "second"] 3 (cF m_fewest_steps))  {f : Addr} {fd : FuncData} (F : Fun K "fewest_calls" "fewest_calls" s_fewest_calls f fd) (hm : mg "fewest_calls" = some (.ref f)) : Fc P w K mg base "fewest_calls" s_fewest_calls ["size", "first", "second"] 4 (cF m_fewest_calls) := by
  have sc := sc_fewest_calls
  refine fc_body (k := 3) b_fewest_calls (m := m_fewest_calls) (by unfold m_fewest_calls; rfl) F hm sc rfl rfl fun b cdv A outer s H E hr => ?_
  exact (ss_one (ss_ret (se_len B rfl (se_lf (own := [("many", 3)]) (.nm 3) rfl sc.nd (blkOk_by (N := N_fewest_calls) (sc := defScope s_fewest_calls) (by decide +kernel)) (by decide) (fun _ _ _ _ _ => pg_name (i := 3) sc.nd rfl (by first | exact .inl rfl | exact .inr rfl)) (si_seq (se_call F_fewest_steps (hr.mono (by decide)) rfl (fun _ _ _ _ _ _ us hl => match us, hl with | [_, _, _], _ => rfl) (sa_cons (sv_v 0 rfl (.inl rfl)) (sa_cons (sv_v 1 rfl (.inl rfl)) (sa_cons (sv_v 2 rfl (.inl rfl)) sa_nil))))) (fun _ _ _ _ _ => (st_cmp op_gt (nomark _) okI (se_v 3) se_int)) (fun _ _ _ _ _ => (se_v 3))))))
abbrev N_distance_before : List Str := ["size", "table", "person"]
theorem sc_distance_before : FnScope N_distance_before ["size", "table", "person"] (defScope s_distance_before) := ⟨rfl, rfl, rfl, by decide +kernel, rfl, by decide +kernel, by decide +kernel⟩
theorem f_distance_before (B : Bt mg)   {f : Addr} {fd : FuncData} (F : Fun K "distance_before" "distance_before" s_distance_before f fd) (hm : mg "distance_before" = some (.ref f)) : Fc P w K mg base "distance_before" s_distance_before ["size", "table", "person"] 1 (cF m_distance_before) := by
  have sc := sc_distance_before
  refine fc_body (k := 0) b_distance_before (m := m_distance_before) (by unfold m_distance_before; rfl) F hm sc rfl rfl fun b cdv A outer s H E hr => ?_
  exact (ss_one (ss_ret (se_add (se_mod (se_sub (se_sub (se_ix (fun _ _ => rfl) (se_v 1 rfl (.inl rfl)) (se_v 2 rfl (.inl rfl))) (se_ix (fun _ _ => rfl) (se_v 1 rfl (.inl rfl)) (se_sub (se_v 2 rfl (.inl rfl)) se_int))) se_int) (se_v 0 rfl (.inl rfl))) se_int)))
abbrev N_chain_people : List Str := ["waiting", "person", "people", "after"]
theorem sc_chain_people : FnScope N_chain_people ["waiting", "person"] (defScope s_chain_people) := ⟨rfl, rfl, rfl, by decide +kernel, rfl, by decide +kernel, by decide +kernel⟩
theorem f_chain_people (B : Bt mg)   {f : Addr} {fd : FuncData} (F : Fun K "chain_people" "chain_people" s_chain_people f fd) (hm : mg "chain_people" = some (.ref f)) : Fc P w K mg base "chain_people" s_chain_people ["waiting", "person"] 1 (cF m_chain_people) := by
  have sc := sc_chain_people
  refine fc_body (k := 0) b_chain_people (m := m_chain_people) (by unfold m_chain_people; rfl) F hm sc rfl rfl fun b cdv A outer s H E hr => ?_
  exact (ss_cons (ss_own 2 sc.nd rfl (.inl rfl) (so_lst (sd_cons (se_v 1 rfl (.inl rfl)) sd_nil))) (ss_cons (ss_set 3 sc.nd rfl (.inl rfl) (se_mod (se_add (se_v 1 rfl (.inl rfl)) se_int) (se_len B rfl (se_v 0 rfl (.inl rfl))))) (ss_cons (ss_wh 100 PassesOwn.never (st_tru (se_ix (fun _ _ => rfl) (se_v 0 rfl (.inl rfl)) (se_v 3 rfl (.inl rfl)))) (ss_cons (ss_app 2 rfl (.inl rfl) (se_v 3 rfl (.inl rfl))) (ss_one (ss_set 3 sc.nd rfl (.inl rfl) (se_mod (se_add (se_v 3 rfl (.inl rfl)) se_int) (se_len B rfl (se_v 0 rfl (.inl rfl)))))))) (ss_frz 2 (ss_one (ss_ret (se_v 2 rfl (.inl rfl))))))))
abbrev N_chains_between : List Str := ["size", "first", "second", "walked", "waiting", "aims", "person", "many", "seat", "member"]
theorem sc_chains_between : FnScope N_chains_between ["size", "first", "second"] (defScope s_chains_between) := ⟨rfl, rfl, rfl, by decide +kernel, rfl, by decide +kernel, by decide +kernel⟩
theorem f_chains_between (B : Bt mg) (F_fewest_steps : Fc P w K mg base "fewest_steps" s_fewest_steps ["size", "first", "second"] 3 (cF m_fewest_steps)) (F_distance_before : Fc P w K mg base "distance_before" s_distance_before ["size", "table", "person"] 1 (cF m_distance_before)) (F_chain_people : Fc P w K mg base "chain_people" s_chain_people ["waiting", "person"] 1 (cF m_chain_people))  {f : Addr} {fd : FuncData} (F : Fun K "chains_between" "chains_between" s_chains_between f fd) (hm : mg "chains_between" = some (.ref f)) : Fc P w K mg base "chains_between" s_chains_between ["size", "first", "second"] 4 (cF m_chains_between) := by
  have sc := sc_chains_between
  refine fc_body (k := 3) b_chains_between (m := m_chains_between) (by unfold m_chains_between; rfl) F hm sc rfl rfl fun b cdv A outer s H E hr => ?_
  exact (ss_cons (ss_set 3 sc.nd rfl (.inl rfl) (se_call F_fewest_steps (hr.mono (by decide)) rfl (fun _ _ _ _ _ _ us hl => match us, hl with | [_, _, _], _ => rfl) (sa_cons (sv_v 0 rfl (.inr (.inl rfl))) (sa_cons (sv_v 1 rfl (.inr (.inl rfl))) (sa_cons (sv_v 2 rfl (.inl rfl)) sa_nil))))) (ss_cons (ss_set 4 sc.nd rfl (.inr rfl) (se_lc (own := [("many", 7), ("person", 6)]) (.tp [6, 7]) rfl sc.nd (blkOk_by (N := N_chains_between) (sc := defScope s_chains_between) (by decide +kernel)) (by decide) (fun _ _ _ _ _ => pg_tup rfl (pgs_cons (pg_name (i := 6) sc.nd rfl (by first | exact .inl rfl | exact .inr rfl)) (pgs_cons (pg_name (i := 7) sc.nd rfl (by first | exact .inl rfl | exact .inr rfl)) pgs_nil))) (si_en B rfl (se_v 3 rfl (.inl rfl))) (fun _ _ _ _ _ => (se_cmp op_ge (nomark _) okI (se_v 7) (se_call F_distance_before (hr.mono (by decide)) rfl (fun _ _ _ _ _ _ us hl => match us, hl with | [_, _, _], _ => rfl) (sa_cons (sv_v 0) (sa_cons (sv_v 1) (sa_cons (sv_v 6) sa_nil)))))))) (ss_cons (ss_set 5 sc.nd rfl (.inr rfl) (se_lc (own := [("many", 7), ("seat", 8)]) (.tp [8, 7]) rfl sc.nd (blkOk_by (N := N_chains_between) (sc := defScope s_chains_between) (by decide +kernel)) (by decide) (fun _ _ _ _ _ => pg_tup rfl (pgs_cons (pg_name (i := 8) sc.nd rfl (by first | exact .inl rfl | exact .inr rfl)) (pgs_cons (pg_name (i := 7) sc.nd rfl (by first | exact .inl rfl | exact .inr rfl)) pgs_nil))) (si_z2 B rfl (se_v 1 rfl (.inr (.inl rfl))) (se_v 3 rfl (.inl rfl))) (fun _ _ _ _ _ => (se_mod (se_sub (se_v 8) (se_v 7)) (se_v 0))))) (ss_one (ss_ret (se_lf (own := [("many", 7), ("person", 6)]) (.tp [6, 7]) rfl sc.nd (blkOk_by (N := N_chains_between) (sc := defScope s_chains_between) (by decide +kernel)) (by decide) (fun _ _ _ _ _ => pg_tup rfl (pgs_cons (pg_name (i := 6) sc.nd rfl (by first | exact .inl rfl | exact .inr rfl)) (pgs_cons (pg_name (i := 7) sc.nd rfl (by first | exact .inl rfl | exact .inr rfl)) pgs_nil))) (si_en B rfl (se_v 3 rfl (.inl rfl))) (fun _ _ _ _ _ => (st_w (sw_and (st_cmp op_gt (nomark _) okI (se_v 7) se_int) (sw_and1 (st_not (st_tru (se_ix (fun _ _ => rfl) (se_v 4) (se_v 6)))))))) (fun _ _ _ _ _ => (se_lc (own := [("member", 9)]) (.nm 9) rfl sc.nd (blkOk_by (N := N_chains_between) (by first | decide +kernel | kernel_rfl)) (by decide) (fun _ _ _ _ _ => pg_name (i := 9) sc.nd rfl (by first | exact .inl rfl | exact .inr rfl)) (si_seq (se_call F_chain_people (hr.mono (by decide)) rfl (fun _ _ _ _ _ _ us hl => match us, hl with | [_, _], _ => rfl) (sa_cons (sv_v 4) (sa_cons (sv_v 6) sa_nil)))) (fun _ _ _ _ _ => (se_ix (fun _ _ => rfl) (se_v 5) (se_v 9)))))))))))
abbrev N_orders_many : List Str := ["many", "product", "factor"]
theorem sc_orders_many : FnScope N_orders_many ["many"] (defScope s_orders_many) := ⟨rfl, rfl, rfl, by decide +kernel, rfl, by decide +kernel, by decide +kernel⟩
theorem f_orders_many (B : Bt mg)   {f : Addr} {fd : FuncData} (F : Fun K "orders_many" "orders_many" s_orders_many f fd) (hm : mg "orders_many" = some (.ref f)) : Fc P w K mg base "orders_many" s_orders_many ["many"] 1 (cF m_orders_many) := by
  have sc := sc_orders_many
  refine fc_body (k := 0) b_orders_many (m := m_orders_many) (by unfold m_orders_many; rfl) F hm sc rfl rfl fun b cdv A outer s H E hr => ?_
  exact (ss_cons (ss_set 1 sc.nd rfl (.inl rfl) se_int) (ss_cons (ss_for (.nm 2) PassesOwn.never rfl (pg_name (i := 2) sc.nd rfl (.inl rfl)) (si_r2 B rfl se_int (se_add (se_v 0 rfl (.inl rfl)) se_int)) (ss_one (ss_augM 1 sc.nd rfl (.inl rfl) (se_v 2 rfl (.inl rfl))))) (ss_one (ss_ret (se_v 1 rfl (.inl rfl))))))
abbrev N_mixed_many : List Str := ["chains", "result", "chain"]
theorem sc_mixed_many : FnScope N_mixed_many ["chains"] (defScope s_mixed_many) := ⟨rfl, rfl, rfl, by decide +kernel, rfl, by decide +kernel, by decide +kernel⟩
theorem f_mixed_many (B : Bt mg) (F_orders_many : Fc P w K mg base "orders_many" s_orders_many ["many"] 1 (cF m_orders_many))  {f : Addr} {fd : FuncData} (F : Fun K "mixed_many" "mixed_many" s_mixed_many f fd) (hm : mg "mixed_many" = some (.ref f)) : Fc P w K mg base "mixed_many" s_mixed_many ["chains"] 2 (cF m_mixed_many) := by
  have sc := sc_mixed_many
  refine fc_body (k := 1) b_mixed_many (m := m_mixed_many) (by unfold m_mixed_many; rfl) F hm sc rfl rfl fun b cdv A outer s H E hr => ?_
  exact (ss_cons (ss_set 1 sc.nd rfl (.inl rfl) (se_call F_orders_many (hr.mono (by decide)) rfl (fun _ _ _ _ _ _ us hl => match us, hl with | [_], _ => rfl) (sa_cons (sv_e (se_sum B rfl rfl (se_lc (own := [("chain", 2)]) (.nm 2) rfl sc.nd (blkOk_by (N := N_mixed_many) (sc := defScope s_mixed_many) (by decide +kernel)) (by decide) (fun _ _ _ _ _ => pg_name (i := 2) sc.nd rfl (by first | exact .inl rfl | exact .inr rfl)) (si_seq (se_v 0 rfl (.inl rfl))) (fun _ _ _ _ _ => (se_len B rfl (se_v 2)))))) sa_nil))) (ss_cons (ss_for (.nm 2) PassesOwn.never rfl (pg_name (i := 2) sc.nd rfl (.inl rfl)) (si_seq (se_v 0 rfl (.inl rfl))) (ss_one (ss_set 1 sc.nd rfl (.inl rfl) (se_div (se_v 1 rfl (.inl rfl)) (se_call F_orders_many (hr.mono (by decide)) rfl (fun _ _ _ _ _ _ us hl => match us, hl with | [_], _ => rfl) (sa_cons (sv_e (se_len B rfl (se_v 2 rfl (.inl rfl)))) sa_nil)))))) (ss_one (ss_ret (se_v 1 rfl (.inl rfl))))))
abbrev N_chains_after : List Str := ["chains", "chair", "shorter", "chain"]
theorem sc_chains_after : FnScope N_chains_after ["chains", "chair"] (defScope s_chains_after) := ⟨rfl, rfl, rfl, by decide +kernel, rfl, by decide +kernel, by decide +kernel⟩
theorem f_chains_after (B : Bt mg)   {f : Addr} {fd : FuncData} (F : Fun K "chains_after" "chains_after" s_chains_after f fd) (hm : mg "chains_after" = some (.ref f)) : Fc P w K mg base "chains_after" s_chains_after ["chains", "chair"] 1 (cF m_chains_after) := by
  have sc := sc_chains_after
  refine fc_body (k := 0) b_chains_after (m := m_chains_after) (by unfold m_chains_after; rfl) F hm sc rfl rfl fun b cdv A outer s H E hr => ?_
  exact (ss_cons (ss_setLc (own := [("chain", 3)]) (.nm 3) 2 rfl sc.nd rfl rfl (sw_true rfl rfl rfl (by decide +kernel)) (blkOk_by (N := N_chains_after) (sc := defScope s_chains_after) (by decide +kernel)) (by decide) (fun _ _ _ _ _ => pg_name (i := 3) sc.nd rfl (by first | exact .inl rfl | exact .inr rfl)) (si_seq (se_v 0 rfl (.inl rfl))) (fun _ _ _ _ _ => (se_if (st_cmp ((op_eqI.or (op_eqD hr.room.units)).or op_eq) (nomark _) ok_eq (se_ix (fun _ _ => rfl) (se_v 3) se_int) (se_v 1)) (se_sl (se_v 3) (so_s se_int) so_n) (se_v 3)))) (ss_one (ss_ret (se_lf (own := [("chain", 3)]) (.nm 3) rfl sc.nd (blkOk_by (N := N_chains_after) (sc := defScope s_chains_after) (by decide +kernel)) (by decide) (fun _ _ _ _ _ => pg_name (i := 3) sc.nd rfl (by first | exact .inl rfl | exact .inr rfl)) (si_seq (se_v 2 rfl (.inl rfl))) (fun _ _ _ _ _ => (st_tru (se_v 3))) (fun _ _ _ _ _ => (se_v 3))))))
abbrev N_next_chairs : List Str := ["chains", "chain"]
theorem sc_next_chairs : FnScope N_next_chairs ["chains"] (defScope s_next_chairs) := ⟨rfl, rfl, rfl, by decide +kernel, rfl, by decide +kernel, by decide +kernel⟩
theorem f_next_chairs (B : Bt mg)   {f : Addr} {fd : FuncData} (F : Fun K "next_chairs" "next_chairs" s_next_chairs f fd) (hm : mg "next_chairs" = some (.ref f)) : Fc P w K mg base "next_chairs" s_next_chairs ["chains"] 1 (cF m_next_chairs) := by
  have sc := sc_next_chairs
  refine fc_body (k := 0) b_next_chairs (m := m_next_chairs) (by unfold m_next_chairs; rfl) F hm sc rfl rfl fun b cdv A outer s H E hr => ?_
  exact (ss_one (ss_ret (se_lc (own := [("chain", 1)]) (.nm 1) rfl sc.nd (blkOk_by (N := N_next_chairs) (sc := defScope s_next_chairs) (by decide +kernel)) (by decide) (fun _ _ _ _ _ => pg_name (i := 1) sc.nd rfl (by first | exact .inl rfl | exact .inr rfl)) (si_seq (se_v 0 rfl (.inl rfl))) (fun _ _ _ _ _ => (se_ix (fun _ _ => rfl) (se_v 1) se_int)))))
abbrev N_lesser_many : List Str := ["chains", "chair", "other"]
theorem sc_lesser_many : FnScope N_lesser_many ["chains", "chair"] (defScope s_lesser_many) := ⟨rfl, rfl, rfl, by decide +kernel, rfl, by decide +kernel, by decide +kernel⟩
theorem f_lesser_many (B : Bt mg) (F_mixed_many : Fc P w K mg base "mixed_many" s_mixed_many ["chains"] 2 (cF m_mixed_many)) (F_chains_after : Fc P w K mg base "chains_after" s_chains_after ["chains", "chair"] 1 (cF m_chains_after)) (F_next_chairs : Fc P w K mg base "next_chairs" s_next_chairs ["chains"] 1 (cF m_next_chairs))  {f : Addr} {fd : FuncData} (F : Fun K "lesser_many" "lesser_many" s_lesser_many f fd) (hm : mg "lesser_many" = some (.ref f)) : Fc P w K mg base "lesser_many" s_lesser_many ["chains", "chair"] 3 (cF m_lesser_many) := by
  have sc := sc_lesser_many
  refine fc_body (k := 2) b_lesser_many (m := m_lesser_many) (by unfold m_lesser_many; rfl) F hm sc rfl rfl fun b cdv A outer s H E hr => ?_
  exact (ss_one (ss_ret (se_sum B rfl rfl (se_lf (own := [("other", 2)]) (.nm 2) rfl sc.nd (blkOk_by (N := N_lesser_many) (sc := defScope s_lesser_many) (by decide +kernel)) (by decide) (fun _ _ _ _ _ => pg_name (i := 2) sc.nd rfl (by first | exact .inl rfl | exact .inr rfl)) (si_seq (se_call F_next_chairs (hr.mono (by decide)) rfl (fun _ _ _ _ _ _ us hl => match us, hl with | [_], _ => rfl) (sa_cons (sv_v 0 rfl (.inr (.inl rfl))) sa_nil))) (fun _ _ _ _ _ => (st_cmp op_lt (nomark _) okI (se_v 2) (se_v 1))) (fun _ _ _ _ _ => (se_call F_mixed_many (hr.mono (by decide)) rfl (fun _ _ _ _ _ _ us hl => match us, hl with | [_], _ => rfl) (sa_cons (sv_e (se_call F_chains_after (hr.mono (by decide)) rfl (fun _ _ _ _ _ _ us hl => match us, hl with | [_, _], _ => rfl) (sa_cons (sv_v 0) (sa_cons (sv_v 2) sa_nil)))) sa_nil)))))))
abbrev N_ways_many : List Str := ["size", "first", "second"]
theorem sc_ways_many : FnScope N_ways_many ["size", "first", "second"] (defScope s_ways_many) := ⟨rfl, rfl, rfl, by decide +kernel, rfl, by decide +kernel, by decide +kernel⟩
theorem f_ways_many (B : Bt mg) (F_mixed_many : Fc P w K mg base "mixed_many" s_mixed_many ["chains"] 2 (cF m_mixed_many)) (F_chains_between : Fc P w K mg base "chains_between" s_chains_between ["size", "first", "second"] 4 (cF m_chains_between))  {f : Addr} {fd : FuncData} (F : Fun K "ways_many" "ways_many" s_ways_many f fd) (hm : mg "ways_many" = some (.ref f)) : Fc P w K mg base "ways_many" s_ways_many ["size", "first", "second"] 5 (cF m_ways_many) := by
  have sc := sc_ways_many
  refine fc_body (k := 4) b_ways_many (m := m_ways_many) (by unfold m_ways_many; rfl) F hm sc rfl rfl fun b cdv A outer s H E hr => ?_
  exact (ss_one (ss_ret (se_call F_mixed_many (hr.mono (by decide)) rfl (fun _ _ _ _ _ _ us hl => match us, hl with | [_], _ => rfl) (sa_cons (sv_e (se_call F_chains_between (hr.mono (by decide)) rfl (fun _ _ _ _ _ _ us hl => match us, hl with | [_, _, _], _ => rfl) (sa_cons (sv_v 0 rfl (.inl rfl)) (sa_cons (sv_v 1 rfl (.inl rfl)) (sa_cons (sv_v 2 rfl (.inl rfl)) sa_nil))))) sa_nil))))
abbrev N_way_at : List Str := ["size", "first", "second", "number", "chains", "way", "left", "chair", "other"]
theorem sc_way_at : FnScope N_way_at ["size", "first", "second", "number"] (defScope s_way_at) := ⟨rfl, rfl, rfl, by decide +kernel, rfl, by decide +kernel, by decide +kernel⟩
theorem f_way_at (B : Bt mg) (F_chains_between : Fc P w K mg base "chains_between" s_chains_between ["size", "first", "second"] 4 (cF m_chains_between)) (F_lesser_many : Fc P w K mg base "lesser_many" s_lesser_many ["chains", "chair"] 3 (cF m_lesser_many)) (F_chains_after : Fc P w K mg base "chains_after" s_chains_after ["chains", "chair"] 1 (cF m_chains_after)) (F_mixed_many : Fc P w K mg base "mixed_many" s_mixed_many ["chains"] 2 (cF m_mixed_many)) (F_next_chairs : Fc P w K mg base "next_chairs" s_next_chairs ["chains"] 1 (cF m_next_chairs))  {f : Addr} {fd : FuncData} (F : Fun K "way_at" "way_at" s_way_at f fd) (hm : mg "way_at" = some (.ref f)) : Fc P w K mg base "way_at" s_way_at ["size", "first", "second", "number"] 5 (cF m_way_at) := by
  have sc := sc_way_at
  refine fc_body (k := 4) b_way_at (m := m_way_at) (by unfold m_way_at; rfl) F hm sc rfl rfl fun b cdv A outer s H E hr => ?_
  exact (ss_cons (ss_set 4 sc.nd rfl (.inr rfl) (se_call F_chains_between (hr.mono (by decide)) rfl (fun _ _ _ _ _ _ us hl => match us, hl with | [_, _, _], _ => rfl) (sa_cons (sv_v 0 rfl (.inl rfl)) (sa_cons (sv_v 1 rfl (.inl rfl)) (sa_cons (sv_v 2 rfl (.inl rfl)) sa_nil))))) (ss_cons (ss_if (st_not (st_chain op_le op_lt se_int (se_v 3 rfl (.inl rfl)) (se_call F_mixed_many (hr.mono (by decide)) rfl (fun _ _ _ _ _ _ us hl => match us, hl with | [_], _ => rfl) (sa_cons (sv_v 4 rfl (.inr (.inl rfl))) sa_nil)))) (ss_one ss_no) ss_nil) (ss_cons (ss_own 5 sc.nd rfl (.inl rfl) (so_lst sd_nil)) (ss_cons (ss_set 6 sc.nd rfl (.inr rfl) (se_v 3 rfl (.inl rfl))) (ss_cons (ss_wh 100 PassesOwn.never (st_tru (se_v 4 rfl (.inr (.inl rfl)))) (ss_cons (ss_set 7 sc.nd rfl (.inl rfl) (se_max B rfl rfl (se_lf (own := [("other", 8)]) (.nm 8) rfl sc.nd (blkOk_by (N := N_way_at) (sc := defScope s_way_at) (by decide +kernel)) (by decide) (fun _ _ _ _ _ => pg_name (i := 8) sc.nd rfl (by first | exact .inl rfl | exact .inr rfl)) (si_seq (se_call F_next_chairs (hr.mono (by decide)) rfl (fun _ _ _ _ _ _ us hl => match us, hl with | [_], _ => rfl) (sa_cons (sv_v 4 rfl (.inr (.inl rfl))) sa_nil))) (fun _ _ _ _ _ => (st_cmp op_le (nomark _) okI (se_call F_lesser_many (hr.mono (by decide)) rfl (fun _ _ _ _ _ _ us hl => match us, hl with | [_, _], _ => rfl) (sa_cons (sv_v 4) (sa_cons (sv_v 8) sa_nil))) (se_v 6))) (fun _ _ _ _ _ => (se_v 8))))) (ss_cons (ss_app 5 rfl (.inl rfl) (se_v 7 rfl (.inl rfl))) (ss_cons (ss_augS 6 sc.nd rfl (.inr rfl) (se_call F_lesser_many (hr.mono (by decide)) rfl (fun _ _ _ _ _ _ us hl => match us, hl with | [_, _], _ => rfl) (sa_cons (sv_v 4 rfl (.inr (.inl rfl))) (sa_cons (sv_v 7 rfl (.inl rfl)) sa_nil)))) (ss_one (ss_set 4 sc.nd rfl (.inr rfl) (se_call F_chains_after (hr.mono (by decide)) rfl (fun _ _ _ _ _ _ us hl => match us, hl with | [_, _], _ => rfl) (sa_cons (sv_v 4 rfl (.inr (.inl rfl))) (sa_cons (sv_v 7 rfl (.inl rfl)) sa_nil))))))))) (ss_frz 5 (ss_one (ss_ret (se_v 5 rfl (.inl rfl))))))))))
abbrev N_way_number : List Str := ["size", "first", "second", "calls", "chains", "number", "chair"]
theorem sc_way_number : FnScope N_way_number ["size", "first", "second", "calls"] (defScope s_way_number) := ⟨rfl, rfl, rfl, by decide +kernel, rfl, by decide +kernel, by decide +kernel⟩
theorem f_way_number (B : Bt mg) (F_chains_between : Fc P w K mg base "chains_between" s_chains_between ["size", "first", "second"] 4 (cF m_chains_between)) (F_lesser_many : Fc P w K mg base "lesser_many" s_lesser_many ["chains", "chair"] 3 (cF m_lesser_many)) (F_chains_after : Fc P w K mg base "chains_after" s_chains_after ["chains", "chair"] 1 (cF m_chains_after)) (F_next_chairs : Fc P w K mg base "next_chairs" s_next_chairs ["chains"] 1 (cF m_next_chairs))  {f : Addr} {fd : FuncData} (F : Fun K "way_number" "way_number" s_way_number f fd) (hm : mg "way_number" = some (.ref f)) : Fc P w K mg base "way_number" s_way_number ["size", "first", "second", "calls"] 5 (cF m_way_number) := by
  have sc := sc_way_number
  refine fc_body (k := 4) b_way_number (m := m_way_number) (by unfold m_way_number; rfl) F hm sc rfl rfl fun b cdv A outer s H E hr => ?_
  exact (ss_cons (ss_set 4 sc.nd rfl (.inl rfl) (se_call F_chains_between (hr.mono (by decide)) rfl (fun _ _ _ _ _ _ us hl => match us, hl with | [_, _, _], _ => rfl) (sa_cons (sv_v 0 rfl (.inl rfl)) (sa_cons (sv_v 1 rfl (.inl rfl)) (sa_cons (sv_v 2 rfl (.inl rfl)) sa_nil))))) (ss_cons (ss_set 5 sc.nd rfl (.inl rfl) se_int) (ss_cons (ss_for (.nm 6) PassesOwn.never rfl (pg_name (i := 6) sc.nd rfl (.inl rfl)) (si_seq (se_v 3 rfl (.inl rfl))) (ss_cons (ss_if (st_cmp op_notIn_seq rfl ok_nin (se_v 6 rfl (.inl rfl)) (se_call F_next_chairs (hr.mono (by decide)) rfl (fun _ _ _ _ _ _ us hl => match us, hl with | [_], _ => rfl) (sa_cons (sv_v 4 rfl (.inl rfl)) sa_nil))) (ss_one ss_no) ss_nil) (ss_cons (ss_augA 5 sc.nd rfl (.inl rfl) (se_call F_lesser_many (hr.mono (by decide)) rfl (fun _ _ _ _ _ _ us hl => match us, hl with | [_, _], _ => rfl) (sa_cons (sv_v 4 rfl (.inl rfl)) (sa_cons (sv_v 6 rfl (.inl rfl)) sa_nil)))) (ss_one (ss_set 4 sc.nd rfl (.inl rfl) (se_call F_chains_after (hr.mono (by decide)) rfl (fun _ _ _ _ _ _ us hl => match us, hl with | [_, _], _ => rfl) (sa_cons (sv_v 4 rfl (.inl rfl)) (sa_cons (sv_v 6 rfl (.inl rfl)) sa_nil)))))))) (ss_cons (ss_if (st_tru (se_v 4 rfl (.inl rfl))) (ss_one ss_no) ss_nil) (ss_one (ss_ret (se_v 5 rfl (.inl rfl))))))))
abbrev N_law_same : List Str := ["_law_found", "_law_due"]
theorem sc_law_same : FnScope N_law_same ["_law_found", "_law_due"] (defScope s_law_same) := ⟨rfl, rfl, rfl, by decide +kernel, rfl, by decide +kernel, by decide +kernel⟩
theorem f_law_same (B : Bt mg)   {f : Addr} {fd : FuncData} (F : Fun K "_law_same" "_law_same" s_law_same f fd) (hm : mg "_law_same" = some (.ref f)) : Fc P w K mg base "_law_same" s_law_same ["_law_found", "_law_due"] 1 (cF m_law_same) := by
  have sc := sc_law_same
  refine fc_body (k := 0) b_law_same (m := m_law_same) (by unfold m_law_same; rfl) F hm sc rfl rfl fun b cdv A outer s H E hr => ?_
  exact (ss_one (ss_ret (se_same B hr rfl (se_v 0 rfl (.inl rfl)) (se_v 1 rfl (.inl rfl)))))
abbrev N_law_crowd : List Str := ["_law_box_here", "_law_span", "_law_folk", "_law_base", "_law_k"]
theorem sc_law_crowd : FnScope N_law_crowd ["_law_box_here", "_law_span", "_law_folk"] (defScope s_law_crowd) := ⟨rfl, rfl, rfl, by decide +kernel, rfl, by decide +kernel, by decide +kernel⟩
theorem f_law_crowd (B : Bt mg) (F_law_take : Fc P w K mg base "_law_take" s_law_take ["_law_box_here", "_law_below"] 1 (cF takeF)) (F_law_strewn : Fc P w K mg base "_law_strewn" s_law_strewn ["_law_box_here", "_law_some"] 2 (cF strewnF))  {f : Addr} {fd : FuncData} (F : Fun K "_law_crowd" "_law_crowd" s_law_crowd f fd) (hm : mg "_law_crowd" = some (.ref f)) : Fc P w K mg base "_law_crowd" s_law_crowd ["_law_box_here", "_law_span", "_law_folk"] 3 (cF m_law_crowd) := by
  have sc := sc_law_crowd
  refine fc_body (k := 2) b_law_crowd (m := m_law_crowd) (by unfold m_law_crowd; rfl) F hm sc rfl rfl fun b cdv A outer s H E hr => ?_
  exact (ss_cons (ss_if (st_cmp ((op_eqI.or (op_eqD hr.room.units)).or op_eq) (nomark _) ok_eq (se_call F_law_take (hr.mono (by decide)) rfl (fun _ _ _ _ _ _ us hl => match us, hl with | [_, _], _ => rfl) (sa_cons (sv_v 0 rfl (.inl rfl)) (sa_cons (sv_e se_int) sa_nil))) se_int) (ss_cons (ss_set 3 sc.nd rfl (.inr rfl) (se_call F_law_take (hr.mono (by decide)) rfl (fun _ _ _ _ _ _ us hl => match us, hl with | [_, _], _ => rfl) (sa_cons (sv_v 0 rfl (.inl rfl)) (sa_cons (sv_v 1 rfl (.inr (.inl rfl))) sa_nil)))) (ss_one (ss_ret (se_tuple B rfl (se_sorted B rfl (se_lc (own := [("_law_k", 4)]) (.nm 4) rfl sc.nd (blkOk_by (N := N_law_crowd) (sc := defScope s_law_crowd) (by decide +kernel)) (by decide) (fun _ _ _ _ _ => pg_name (i := 4) sc.nd rfl (by first | exact .inl rfl | exact .inr rfl)) (si_r1 B rfl (se_v 2 rfl (.inl rfl))) (fun _ _ _ _ _ => (se_mod (se_add (se_v 3) (se_v 4)) (se_v 1))))))))) ss_nil) (ss_one (ss_ret (se_tuple B rfl (se_sorted B rfl (se_sl (se_call F_law_strewn (hr.mono (by decide)) rfl (fun _ _ _ _ _ _ us hl => match us, hl with | [_, _], _ => rfl) (sa_cons (sv_v 0 rfl (.inl rfl)) (sa_cons (sv_e (se_listRg B rfl rfl rfl (se_v 1 rfl (.inr (.inl rfl))))) sa_nil))) so_n (so_s (se_v 2 rfl (.inl rfl)))))))))
theorem fz_fewest_steps {C : Addr} (B : Bt mg) (TX : ExT P w K mg base "OtherPeople" C "many") {f : Addr} {fd : FuncData} (F : Fun K "fewest_steps" "fewest_steps" s_fewest_steps f fd) (hm : mg "fewest_steps" = some (.ref f)) : FcZ P w K mg base "fewest_steps" s_fewest_steps ["size", "first", "second"] 4 (cZF (x_fewest_steps C)) := by
  have sc := sc_fewest_steps
  refine fcz_body (k := 3) (z_fewest_steps C) (m := x_fewest_steps C) rfl F hm sc rfl rfl fun b cdv A outer s H E hr => ?_
  exact szs_if (st_cmp ((op_neI.or (op_neD hr.room.units)).or op_ne) (nomark _) ok_ne (se_len B rfl (se_v 1 rfl (.inl rfl))) (se_len B rfl (se_v 2 rfl (.inl rfl)))) (szs_one (sz_raise rfl TX hr rfl (se_len B rfl (se_v 2 rfl (.inl rfl))))) szs_no
theorem fz_fewest_calls {C : Addr} (B : Bt mg) (Z_fewest_steps : FcZ P w K mg base "fewest_steps" s_fewest_steps ["size", "first", "second"] 4 (cZF (x_fewest_steps C))) {f : Addr} {fd : FuncData} (F : Fun K "fewest_calls" "fewest_calls" s_fewest_calls f fd) (hm : mg "fewest_calls" = some (.ref f)) : FcZ P w K mg base "fewest_calls" s_fewest_calls ["size", "first", "second"] 5 (cZF (x_fewest_calls C)) := by
  have sc := sc_fewest_calls
  refine fcz_body (k := 4) (zCall (x_fewest_steps C) az3) (m := x_fewest_calls C) rfl F hm sc rfl rfl fun b cdv A outer s H E hr => ?_
  exact szs_one (sz_ret (sze_len B rfl (sze_lf (own := [("many", 3)]) (.nm 3) rfl sc.nd (blkOk_by (N := N_fewest_calls) (sc := defScope s_fewest_calls) (by decide +kernel)) (fun _ _ _ _ _ => pg_name (i := 3) sc.nd rfl (by first | exact .inl rfl | exact .inr rfl)) (sze_call Z_fewest_steps (hr.mono (by decide)) rfl (fun _ _ _ _ _ _ us hl => match us, hl with | [_, _, _], _ => rfl) (sa_cons (sv_v 0 rfl (.inl rfl)) (sa_cons (sv_v 1 rfl (.inl rfl)) (sa_cons (sv_v 2 rfl (.inl rfl)) sa_nil)))))))
theorem fz_chains_between {C : Addr} (B : Bt mg) (Z_fewest_steps : FcZ P w K mg base "fewest_steps" s_fewest_steps ["size", "first", "second"] 4 (cZF (x_fewest_steps C))) {f : Addr} {fd : FuncData} (F : Fun K "chains_between" "chains_between" s_chains_between f fd) (hm : mg "chains_between" = some (.ref f)) : FcZ P w K mg base "chains_between" s_chains_between ["size", "first", "second"] 5 (cZF (x_chains_between C)) := by
  have sc := sc_chains_between
  refine fcz_body (k := 4) (zCall (x_fewest_steps C) az3) (m := x_chains_between C) rfl F hm sc rfl rfl fun b cdv A outer s H E hr => ?_
  exact szs_here (sz_set 3 sc.nd rfl (.inl rfl) (sze_call Z_fewest_steps (hr.mono (by decide)) rfl (fun _ _ _ _ _ _ us hl => match us, hl with | [_, _, _], _ => rfl) (sa_cons (sv_v 0 rfl (.inr (.inl rfl))) (sa_cons (sv_v 1 rfl (.inr (.inl rfl))) (sa_cons (sv_v 2 rfl (.inl rfl)) sa_nil)))))
theorem fz_ways_many {C : Addr} (B : Bt mg) (F_mixed : ∃ fa fd, Fun K "mixed_many" "mixed_many" s_mixed_many fa fd ∧ mg "mixed_many" = some (.ref fa)) (Z_chains_between : FcZ P w K mg base "chains_between" s_chains_between ["size", "first", "second"] 5 (cZF (x_chains_between C))) {f : Addr} {fd : FuncData} (F : Fun K "ways_many" "ways_many" s_ways_many f fd) (hm : mg "ways_many" = some (.ref f)) : FcZ P w K mg base "ways_many" s_ways_many ["size", "first", "second"] 6 (cZF (x_ways_many C)) := by
  have sc := sc_ways_many
  obtain ⟨fa, fdm, FM, hmm⟩ := F_mixed
  refine fcz_body (k := 5) (zCall (x_chains_between C) az3) (m := x_ways_many C) rfl F hm sc rfl rfl fun b cdv A outer s H E hr => ?_
  exact szs_one (sz_ret (sze_in FM hmm rfl (sze_call Z_chains_between (hr.mono (by decide)) rfl (fun _ _ _ _ _ _ us hl => match us, hl with | [_, _, _], _ => rfl) (sa_cons (sv_v 0 rfl (.inl rfl)) (sa_cons (sv_v 1 rfl (.inl rfl)) (sa_cons (sv_v 2 rfl (.inl rfl)) sa_nil))))))
theorem fz_way_at {C : Addr} (B : Bt mg) (Z_chains_between : FcZ P w K mg base "chains_between" s_chains_between ["size", "first", "second"] 5 (cZF (x_chains_between C))) {f : Addr} {fd : FuncData} (F : Fun K "way_at" "way_at" s_way_at f fd) (hm : mg "way_at" = some (.ref f)) : FcZ P w K mg base "way_at" s_way_at ["size", "first", "second", "number"] 6 (cZF (x_way_at C)) := by
  have sc := sc_way_at
  refine fcz_body (k := 5) (zCall (x_chains_between C) az3) (m := x_way_at C) rfl F hm sc rfl rfl fun b cdv A outer s H E hr => ?_
  exact szs_here (sz_set 4 sc.nd rfl (.inr rfl) (sze_call Z_chains_between (hr.mono (by decide)) rfl (fun _ _ _ _ _ _ us hl => match us, hl with | [_, _, _], _ => rfl) (sa_cons (sv_v 0 rfl (.inl rfl)) (sa_cons (sv_v 1 rfl (.inl rfl)) (sa_cons (sv_v 2 rfl (.inl rfl)) sa_nil)))))
theorem fy_way_at {C : Addr} (B : Bt mg) (TX : ExT P w K mg base "NoNumber" C "number") (F_chains_between : Fc P w K mg base "chains_between" s_chains_between ["size", "first", "second"] 4 (cF m_chains_between)) (F_mixed_many : Fc P w K mg base "mixed_many" s_mixed_many ["chains"] 2 (cF m_mixed_many)) {f : Addr} {fd : FuncData} (F : Fun K "way_at" "way_at" s_way_at f fd) (hm : mg "way_at" = some (.ref f)) : FcZ P w K mg base "way_at" s_way_at ["size", "first", "second", "number"] 6 (cZF (y_way_at C)) := by
  have sc := sc_way_at
  refine fcz_body (k := 5) (zNext (sSet 4 (dCall m_chains_between az3)) (zIf (tNot (tCh (fun i j => decide (i ≤ j)) (fun i j => decide (i < j)) (dC (.int 0)) (dV 3) (dCall m_mixed_many (aC (aV 4) a0)))) (zRaise C "number" (dV 3)) zNo)) (m := y_way_at C) rfl F hm sc rfl rfl fun b cdv A outer s H E hr => ?_
  exact szs_next (ss_set 4 sc.nd rfl (.inr rfl) (se_call F_chains_between (hr.mono (by decide)) rfl (fun _ _ _ _ _ _ us hl => match us, hl with | [_, _, _], _ => rfl) (sa_cons (sv_v 0 rfl (.inl rfl)) (sa_cons (sv_v 1 rfl (.inl rfl)) (sa_cons (sv_v 2 rfl (.inl rfl)) sa_nil)))))
    (szs_if (st_not (st_chain op_le op_lt se_int (se_v 3 rfl (.inl rfl)) (se_call F_mixed_many (hr.mono (by decide)) rfl (fun _ _ _ _ _ _ us hl => match us, hl with | [_], _ => rfl) (sa_cons (sv_v 4 rfl (.inr (.inl rfl))) sa_nil)))) (szs_one (sz_raise rfl TX (hr.mono (by decide)) rfl (se_v 3 rfl (.inl rfl)))) szs_no)
theorem fz_way_number {C : Addr} (B : Bt mg) (Z_chains_between : FcZ P w K mg base "chains_between" s_chains_between ["size", "first", "second"] 5 (cZF (x_chains_between C))) {f : Addr} {fd : FuncData} (F : Fun K "way_number" "way_number" s_way_number f fd) (hm : mg "way_number" = some (.ref f)) : FcZ P w K mg base "way_number" s_way_number ["size", "first", "second", "calls"] 6 (cZF (x_way_number C)) := by
  have sc := sc_way_number
  refine fcz_body (k := 5) (zCall (x_chains_between C) az3) (m := x_way_number C) rfl F hm sc rfl rfl fun b cdv A outer s H E hr => ?_
  exact szs_here (sz_set 4 sc.nd rfl (.inl rfl) (sze_call Z_chains_between (hr.mono (by decide)) rfl (fun _ _ _ _ _ _ us hl => match us, hl with | [_, _, _], _ => rfl) (sa_cons (sv_v 0 rfl (.inl rfl)) (sa_cons (sv_v 1 rfl (.inl rfl)) (sa_cons (sv_v 2 rfl (.inl rfl)) sa_nil)))))
theorem fy_way_number {C : Addr} (B : Bt mg) (TX : ExT P w K mg base "NotWay" C "way") (F_chains_between : Fc P w K mg base "chains_between" s_chains_between ["size", "first", "second"] 4 (cF m_chains_between)) (F_lesser_many : Fc P w K mg base "lesser_many" s_lesser_many ["chains", "chair"] 3 (cF m_lesser_many)) (F_chains_after : Fc P w K mg base "chains_after" s_chains_after ["chains", "chair"] 1 (cF m_chains_after)) (F_next_chairs : Fc P w K mg base "next_chairs" s_next_chairs ["chains"] 1 (cF m_next_chairs)) {f : Addr} {fd : FuncData} (F : Fun K "way_number" "way_number" s_way_number f fd) (hm : mg "way_number" = some (.ref f)) : FcZ P w K mg base "way_number" s_way_number ["size", "first", "second", "calls"] 6 (cZF (y_way_number C)) := by
  have sc := sc_way_number
  refine fcz_body (k := 5) (zNext (sSet 4 (dCall m_chains_between az3)) (zNext (sSet 5 (dC (.int 0))) (zFor (.nm 6) (iS (dV 3)) gWN rWN (zIf (t2 pNin (dV 6) (dCall m_next_chairs (aC (aV 4) a0))) (zRaise C "way" (dV 3)) zNo)))) (m := y_way_number C) rfl F hm sc rfl rfl fun b cdv A outer s H E hr => ?_
  exact szs_next (ss_set 4 sc.nd rfl (.inl rfl) (se_call F_chains_between (hr.mono (by decide)) rfl (fun _ _ _ _ _ _ us hl => match us, hl with | [_, _, _], _ => rfl) (sa_cons (sv_v 0 rfl (.inl rfl)) (sa_cons (sv_v 1 rfl (.inl rfl)) (sa_cons (sv_v 2 rfl (.inl rfl)) sa_nil)))))
    (szs_next (ss_set 5 sc.nd rfl (.inl rfl) se_int)
    (szs_here (sz_for (.nm 6) (passes_of rfl) rfl (pg_name (i := 6) sc.nd rfl (.inl rfl)) (si_seq (se_v 3 rfl (.inl rfl)))
      (ss_cons (ss_if (st_cmp op_notIn_seq rfl ok_nin (se_v 6 rfl (.inl rfl)) (se_call F_next_chairs (hr.mono (by decide)) rfl (fun _ _ _ _ _ _ us hl => match us, hl with | [_], _ => rfl) (sa_cons (sv_v 4 rfl (.inl rfl)) sa_nil))) (ss_one ss_no) ss_nil) (ss_cons (ss_augA 5 sc.nd rfl (.inl rfl) (se_call F_lesser_many (hr.mono (by decide)) rfl (fun _ _ _ _ _ _ us hl => match us, hl with | [_, _], _ => rfl) (sa_cons (sv_v 4 rfl (.inl rfl)) (sa_cons (sv_v 6 rfl (.inl rfl)) sa_nil)))) (ss_one (ss_set 4 sc.nd rfl (.inl rfl) (se_call F_chains_after (hr.mono (by decide)) rfl (fun _ _ _ _ _ _ us hl => match us, hl with | [_, _], _ => rfl) (sa_cons (sv_v 4 rfl (.inl rfl)) (sa_cons (sv_v 6 rfl (.inl rfl)) sa_nil)))))))
      (szs_if (st_cmp op_notIn_seq rfl ok_nin (se_v 6 rfl (.inl rfl)) (se_call F_next_chairs (hr.mono (by decide)) rfl (fun _ _ _ _ _ _ us hl => match us, hl with | [_], _ => rfl) (sa_cons (sv_v 4 rfl (.inl rfl)) sa_nil))) (szs_one (sz_raise rfl TX (hr.mono (by decide)) rfl (se_v 3 rfl (.inl rfl)))) szs_no))))
theorem cls_ne {K : PySem.W.Frag} {C D : Addr} (h : PySem.W.subIn K (.ref C) (.ref D) = some false) (hs : PySem.W.subIn K (.ref C) (.ref C) = some true) : C ≠ D := fun e => by
  subst e
  rw [hs] at h
  cases h
theorem kone_ne {K : PySem.W.Frag} {C D : Addr} (hc : (PySem.W.clsIn K D).isSome = true) (ht : PySem.W.typeIn K (.ref D) = some (.type "type")) (h : PySem.W.subIn K (.ref C) (.ref D) = some false) (hs : PySem.W.subIn K (.ref C) (.ref C) = some true) : PySem.W.kitOne K (.ref C) (.ref D) = some (decide (C = D)) := by
  have ne := cls_ne h hs
  have e1 : ((Value.ref C == Value.ref D) = true) = False := by simp [ne]
  unfold PySem.W.kitOne PySem.W.kitCls
  rw [if_neg (by rw [e1]; exact id)]
  dsimp only
  rw [if_pos (by rw [hc, ht]; rfl), h, decide_eq_false ne]
theorem kone_eq {K : PySem.W.Frag} {C : Addr} : PySem.W.kitOne K (.ref C) (.ref C) = some (decide (C = C)) := by
  unfold PySem.W.kitOne
  rw [if_pos (by simp), decide_eq_true rfl]
theorem eone {K : PySem.W.Frag} {C D : Addr} {b : Bool} (he : PySem.W.subIn K (.ref D) (.type "BaseException") = some true) (hc : (PySem.W.clsIn K D).isSome = true) (ht : PySem.W.typeIn K (.ref D) = some (.type "type")) (h : PySem.W.subIn K (.ref C) (.ref D) = some b) : PySem.W.exmOne K (.ref C) (.ref D) = some b := by
  unfold PySem.W.exmOne PySem.W.kitCls
  rw [if_pos (by rw [he]; rfl)]
  dsimp only
  rw [if_pos (by rw [hc, ht]; rfl), h]
theorem eany {K : PySem.W.Frag} {C : Addr} : ∀ {Ds : List (Addr × Bool)}, (∀ p ∈ Ds, PySem.W.exmOne K (.ref C) (.ref p.1) = some p.2) → PySem.W.exmAny K (.ref C) (Ds.map fun p => .ref p.1) = some (Ds.any fun p => p.2)
  | [], _ => rfl
  | p :: Ds, h => by
    have h1 := h p (List.mem_cons_self ..)
    have h2 := eany (Ds := Ds) fun q hq => h q (List.mem_cons_of_mem _ hq)
    rw [List.map_cons, PySem.W.exmAny, h1, h2, List.any_cons]
theorem cls_some {K : PySem.W.Frag} {C : Addr} {nm q : Str} {N : Addr} {bs bm : List Value} {hd : Bool} {sn : List Str} {sub : List Value} {ab : Bool} {col : Option Bool} {dd : Option Addr} {m0 m1 m2 m3 m5 : Option Value} {newId : String} (h : K.lookup C = some (excClassObj nm q C N bs bm hd sn sub ab col dd m0 m1 m2 m3 m5 newId)) : (PySem.W.clsIn K C).isSome = true := by
  unfold PySem.W.clsIn
  rw [h] <;> rfl
theorem kone_ty {K : PySem.W.Frag} {C : Addr} {T : String} (hm : PySem.W.kitMeta T = true) (h : PySem.W.subIn K (.ref C) (.type T) = some true) : PySem.W.kitOne K (.ref C) (.type T) = some true := by
  unfold PySem.W.kitOne PySem.W.kitCls
  rw [if_neg (by simp)]
  dsimp only
  rw [if_pos hm, h]
structure Cl6 (K : PySem.W.Frag) (mg : Str → Option Value) (o nn nw nc bl bs : Addr) : Prop where
  mo : mg "OtherPeople" = some (.ref o)
  mnn : mg "NoNumber" = some (.ref nn)
  mnw : mg "NotWay" = some (.ref nw)
  mnc : mg "NoChair" = some (.ref nc)
  mbl : mg "BadLine" = some (.ref bl)
  mbs : mg "BadScript" = some (.ref bs)
  mre : mg "RuntimeError" = none
  ek : ∀ C ∈ [o, nn, nw], ExK K C
  on : ∀ C ∈ [o, nn, nw], ∀ D ∈ [o, nn, nw, nc, bl, bs], PySem.W.kitOne K (.ref C) (.ref D) = some (decide (C = D))
  ex : ∀ C ∈ [o, nn, nw], PySem.W.exmAny K (.ref C) [.ref bl, .ref bs, .ref nc, .ref nn, .ref nw, .ref o] = some true
  re : PySem.W.kitOne K (.ref o) (.type "RuntimeError") = some true
  fo : PySem.W.findIn K (.ref o) "many" = some none
  fnn : PySem.W.findIn K (.ref nn) "number" = some none
  fnw : PySem.W.findIn K (.ref nw) "way" = some none
  df : (o ≠ nn ∧ o ≠ nw ∧ o ≠ nc ∧ o ≠ bl ∧ o ≠ bs) ∧ (nn ≠ nw ∧ nn ≠ nc) ∧ nw ≠ nc
theorem kit_any {K : PySem.W.Frag} {C : Addr} : ∀ {Ds : List Addr}, (∀ D ∈ Ds, PySem.W.kitOne K (.ref C) (.ref D) = some (decide (C = D))) → PySem.W.kitAny K (.ref C) (Ds.map .ref) = some (Ds.any fun D => decide (C = D))
  | [], _ => rfl
  | D :: Ds, h => by
    have h1 := h D (List.mem_cons_self ..)
    have h2 := kit_any (Ds := Ds) fun E hE => h E (List.mem_cons_of_mem _ hE)
    rw [List.map_cons, PySem.W.kitAny, h1, List.any_cons]
    by_cases e : C = D
    · rw [decide_eq_true e]
      rfl
    · rw [decide_eq_false e, Bool.false_or]
      exact h2
theorem q1_ok {K : PySem.W.Frag} {mg : Str → Option Value} {o nn nw nc bl bs T : Addr} (Z : Cl6 K mg o nn nw nc bl bs) (hT : T ∈ [o, nn, nw, nc, bl, bs]) : ∀ C k, q1 o nn nw T C = some k → ExK K C ∧ PySem.W.kitOne K (.ref C) (.ref T) = some k := fun C k h => by
  unfold q1 at h
  split at h
  · rename_i hc
    cases h
    have hm : C ∈ [o, nn, nw] := by simpa using hc
    exact ⟨Z.ek C hm, Z.on C hm T hT⟩
  · cases h
theorem qL_ok {K : PySem.W.Frag} {mg : Str → Option Value} {o nn nw nc bl bs : Addr} {Ts : List Addr} (Z : Cl6 K mg o nn nw nc bl bs) (hT : ∀ T ∈ Ts, T ∈ [o, nn, nw, nc, bl, bs]) : ∀ C k, qL o nn nw Ts C = some k → ExK K C ∧ PySem.W.kitAny K (.ref C) (Ts.map .ref) = some k := fun C k h => by
  unfold qL at h
  split at h
  · rename_i hc
    cases h
    have hm : C ∈ [o, nn, nw] := by simpa using hc
    exact ⟨Z.ek C hm, kit_any fun D hD => Z.on C hm D (hT D hD)⟩
  · cases h
theorem qR_ok {K : PySem.W.Frag} {mg : Str → Option Value} {o nn nw nc bl bs : Addr} (Z : Cl6 K mg o nn nw nc bl bs) : ∀ C k, qR o C = some k → ExK K C ∧ PySem.W.kitOne K (.ref C) (.type "RuntimeError") = some k := fun C k h => by
  unfold qR at h
  split at h
  · rename_i hc
    subst hc
    cases h
    exact ⟨Z.ek _ (by simp), Z.re⟩
  · cases h
theorem sze_alt {P' : Rho → Prop} {b : Addr} {X : Cx} {e : Expr} {z1 z2 : DenZ} (h1 : SZe P' b X e z1) (h2 : SZe P' b X e z2) : SZe P' b X e (zAlt z1 z2) := .mk fun μ0 E ρ μ x hp R q => by
  unfold zAlt at q
  split at q
  · rename_i t ht
    exact h1.run μ0 E ρ μ x hp R (by rw [ht]; exact q)
  · exact h2.run μ0 E ρ μ x hp R q
abbrev N_law_heard : List Str := ["_law_way", "_law_span", "_law_crowd_here", "_law_mates", "_law_matter", "_law_found", "_law_caught", "_law_alone", "error"]
theorem sc_law_heard : FnScope N_law_heard ["_law_way", "_law_span", "_law_crowd_here", "_law_mates", "_law_matter"] (defScope s_law_heard) := ⟨rfl, rfl, rfl, by decide +kernel, rfl, by decide +kernel, by decide +kernel⟩
theorem bind_ret {α β : Type} {t : Tree α} {f : α → Tree β} {x : β} (h : t.bind f = .ret x) : ∃ a, t = .ret a ∧ f a = .ret x := by
  cases t with
  | ret a => exact ⟨a, rfl, h⟩
  | fail => cases h
  | draw n g => cases h
theorem reC_ret {C : Addr} {fn : Str} {t : Tree Thr} {x : Thr} (h : reC C fn t = .ret x) : x.C = C := by
  obtain ⟨a, _, h2⟩ := bind_ret h
  cases h2
  rfl
theorem hz_ret {o nn nw : Addr} {E : Env} {x : Thr} (h : hZ o nn nw E = .ret x) : x.C ∈ [o, nn, nw] := by
  have alt : ∀ {C D : Addr} {c d : Str} {F G : List W → Tree Thr} {gs : Env → Tree (List W)} {x : Thr}, (∀ ws, F ws = reC C c (F ws)) → (∀ ws, G ws = reC D d (G ws)) → zAlt (zCall F gs) (zCall G gs) E = .ret x → x.C = C ∨ x.C = D := fun {C D c d F G gs x} hF hG h => by
    unfold zAlt at h
    split at h
    · rename_i t ht
      cases h
      obtain ⟨ws, _, h2⟩ := bind_ret ht
      rw [hF] at h2
      exact .inl (reC_ret h2)
    · obtain ⟨ws, _, h2⟩ := bind_ret h
      rw [hG] at h2
      exact .inr (reC_ret h2)
  have rr : ∀ {C : Addr} {c : Str} {t : Tree Thr}, reC C c t = reC C c (reC C c t) := fun {C c t} => by
    unfold reC
    rw [Tree.bind_assoc]
    rfl
  unfold hZ zIf at h
  obtain ⟨k, _, h⟩ := bind_ret h
  cases k with
  | true =>
    dsimp only at h
    unfold zPick at h
    split at h
    · split at h
      · rename_i F hF
        obtain ⟨ws, _, h2⟩ := bind_ret h
        obtain ⟨_, _, h3⟩ := bind_ret h2
        have hFm := List.mem_of_getElem? hF
        simp only [List.mem_cons, List.not_mem_nil, or_false] at hFm
        rcases hFm with rfl | rfl | rfl
        · rw [re_fc] at h3; rw [reC_ret h3]; simp
        · rw [re_fs] at h3; rw [reC_ret h3]; simp
        · rw [re_wm] at h3; rw [reC_ret h3]; simp
      · cases h
    · cases h
  | false =>
    dsimp only at h
    obtain ⟨k, _, h⟩ := bind_ret h
    cases k with
    | true =>
      rcases alt (fun ws => by rw [re_wa o ws]; exact rr) (fun ws => by rw [re_ya nn ws]; exact rr) h with e | e <;> rw [e] <;> simp
    | false =>
      rcases alt (fun ws => by rw [re_wn o ws]; exact rr) (fun ws => by rw [re_yn nw ws]; exact rr) h with e | e <;> rw [e] <;> simp
theorem g_law_heard {o nn nw nc bl bs : Addr} (B : Bt mg) (Z : Cl6 K mg o nn nw nc bl bs)
    (F_fewest_calls : Fc P w K mg base "fewest_calls" s_fewest_calls ["size", "first", "second"] 4 (cF m_fewest_calls)) (F_fewest_steps : Fc P w K mg base "fewest_steps" s_fewest_steps ["size", "first", "second"] 3 (cF m_fewest_steps)) (F_ways_many : Fc P w K mg base "ways_many" s_ways_many ["size", "first", "second"] 5 (cF m_ways_many))
    (F_way_at : Fc P w K mg base "way_at" s_way_at ["size", "first", "second", "number"] 5 (cF m_way_at)) (F_way_number : Fc P w K mg base "way_number" s_way_number ["size", "first", "second", "calls"] 5 (cF m_way_number))
    (Z_fewest_calls : FcZ P w K mg base "fewest_calls" s_fewest_calls ["size", "first", "second"] 5 (cZF (x_fewest_calls o))) (Z_fewest_steps : FcZ P w K mg base "fewest_steps" s_fewest_steps ["size", "first", "second"] 4 (cZF (x_fewest_steps o))) (Z_ways_many : FcZ P w K mg base "ways_many" s_ways_many ["size", "first", "second"] 6 (cZF (x_ways_many o)))
    (Z_way_at : FcZ P w K mg base "way_at" s_way_at ["size", "first", "second", "number"] 6 (cZF (x_way_at o))) (Y_way_at : FcZ P w K mg base "way_at" s_way_at ["size", "first", "second", "number"] 6 (cZF (y_way_at nn)))
    (Z_way_number : FcZ P w K mg base "way_number" s_way_number ["size", "first", "second", "calls"] 6 (cZF (x_way_number o))) (Y_way_number : FcZ P w K mg base "way_number" s_way_number ["size", "first", "second", "calls"] 6 (cZF (y_way_number nw)))
    {f : Addr} {fd : FuncData} (F : Fun K "_law_heard" "_law_heard" s_law_heard f fd) (hm : mg "_law_heard" = some (.ref f)) : Fc P w K mg base "_law_heard" s_law_heard ["_law_way", "_law_span", "_law_crowd_here", "_law_mates", "_law_matter"] 7 (cF (fnF 5 9 (hB o nn nw nc bl bs))) := by
  have sc := sc_law_heard
  have fm : ∃ f1 f2 f3, mg "fewest_calls" = some (.ref f1) ∧ mg "fewest_steps" = some (.ref f2) ∧ mg "ways_many" = some (.ref f3) := by
    obtain ⟨f1, _, _, h1, _⟩ := F_fewest_calls.ex
    obtain ⟨f2, _, _, h2, _⟩ := F_fewest_steps.ex
    obtain ⟨f3, _, _, h3, _⟩ := F_ways_many.ex
    exact ⟨f1, f2, f3, h1, h2, h3⟩
  obtain ⟨f1, f2, f3, e1, e2, e3⟩ := fm
  refine fc_body (k := 6) (hB o nn nw nc bl bs) (m := fnF 5 9 (hB o nn nw nc bl bs)) rfl F hm sc rfl rfl fun b cdv A outer s H E hr => ?_
  have T3 : ∀ {x : Addr}, x ∈ [o, nn, nw, nc, bl, bs] → x ∈ [o, nn, nw, nc, bl, bs] := fun h => h
  refine ss_cons (ss_asg (.tp [5, 6]) (pg_tup rfl (pgs_cons (pg_name (i := 5) sc.nd rfl (.inl rfl)) (pgs_cons (pg_name (i := 6) sc.nd rfl (.inl rfl)) pgs_nil))) (se_tup (sd_cons se_non (sd_cons se_non sd_nil)))) (ss_cons (ss_try (n := "error") (m := "_law_caught") (cs := [.ref bl, .ref bs, .ref nc, .ref nn, .ref nw, .ref o]) rfl rfl rfl sc.nd rfl rfl rfl rfl (by decide) ?hes (show 6 ≤ 1000 by decide) (fun X0 LT hp hoc hod hx => PySem.W.exm_tupN6 X0 LT hp hoc hod hx) (fun E' x hz => Z.ex _ (hz_ret hz)) ?hg ?hb) ?rest)
  case hes =>
    exact fun a pn => .cons rfl rfl Z.mbl rfl (.cons rfl rfl Z.mbs rfl (.cons rfl rfl Z.mnc rfl (.cons rfl rfl Z.mnn rfl (.cons rfl rfl Z.mnw rfl (.cons rfl rfl Z.mo rfl .nil)))))
  case hg =>
    exact ss_one (ss_if (st_cmp op_lt (nomark _) okI (se_v 0 rfl (.inl rfl)) se_int) (ss_one (ss_set 5 sc.nd rfl (.inl rfl) (se_pick 0 ["second", "first", "size"] [2, 1, 0] (.cons rfl e1 rfl rfl (.cons rfl e2 rfl rfl (.cons rfl e3 rfl rfl .nil))) (show 3 ≤ 1000 by decide) rfl (.inl rfl) (sk_cons (sv_v 3 rfl (.inl rfl)) (sk_cons (sv_v 2 rfl (.inl rfl)) (sk_cons (sv_v 1 rfl (.inl rfl)) sk_nil))) fun k G hk => by
        match k, hk with
        | 0, hk => cases hk; exact ⟨_, _, 4, rfl, F_fewest_calls, hr.mono (by decide), fun _ _ _ _ _ _ us hl => match us, hl with | [_, _, _], _ => rfl⟩
        | 1, hk => cases hk; exact ⟨_, _, 3, rfl, F_fewest_steps, hr.mono (by decide), fun _ _ _ _ _ _ us hl => match us, hl with | [_, _, _], _ => rfl⟩
        | 2, hk => cases hk; exact ⟨_, _, 5, rfl, F_ways_many, hr.mono (by decide), fun _ _ _ _ _ _ us hl => match us, hl with | [_, _, _], _ => rfl⟩
        | k + 3, hk => simp at hk)))
      (ss_one (ss_if (st_cmp ((op_eqI.or (op_eqD hr.room.units)).or op_eq) (nomark _) ok_eq (se_v 0 rfl (.inl rfl)) se_int) (ss_one (ss_set 5 sc.nd rfl (.inl rfl) (se_call F_way_at (hr.mono (by decide)) rfl (fun _ _ _ _ _ _ us hl => match us, hl with | [_, _, _, _], _ => rfl) (sa_cons (sv_v 1 rfl (.inl rfl)) (sa_cons (sv_v 2 rfl (.inl rfl)) (sa_cons (sv_v 3 rfl (.inl rfl)) (sa_cons (sv_v 4 rfl (.inl rfl)) sa_nil)))))))
        (ss_one (ss_set 5 sc.nd rfl (.inl rfl) (se_call F_way_number (hr.mono (by decide)) rfl (fun _ _ _ _ _ _ us hl => match us, hl with | [_, _, _, _], _ => rfl) (sa_cons (sv_v 1 rfl (.inl rfl)) (sa_cons (sv_v 2 rfl (.inl rfl)) (sa_cons (sv_v 3 rfl (.inl rfl)) (sa_cons (sv_v 4 rfl (.inl rfl)) sa_nil))))))))))
  case hb =>
    intro pn xe ρ
    exact szs_one (sz_if (st_cmp op_lt (nomark _) okI (se_v 0 rfl (.inl rfl)) se_int) (szs_one (sz_set 5 sc.nd rfl (.inl rfl) (sze_pick 0 ["second", "first", "size"] [2, 1, 0] (.cons rfl e1 rfl rfl (.cons rfl e2 rfl rfl (.cons rfl e3 rfl rfl .nil))) (show 3 ≤ 1000 by decide) rfl (.inl rfl) (sk_cons (sv_v 3 rfl (.inl rfl)) (sk_cons (sv_v 2 rfl (.inl rfl)) (sk_cons (sv_v 1 rfl (.inl rfl)) sk_nil))) fun k G hk => by
        match k, hk with
        | 0, hk => cases hk; exact ⟨_, _, 5, rfl, Z_fewest_calls, hr.mono (by decide), fun _ _ _ _ _ _ us hl => match us, hl with | [_, _, _], _ => rfl⟩
        | 1, hk => cases hk; exact ⟨_, _, 4, rfl, Z_fewest_steps, hr.mono (by decide), fun _ _ _ _ _ _ us hl => match us, hl with | [_, _, _], _ => rfl⟩
        | 2, hk => cases hk; exact ⟨_, _, 6, rfl, Z_ways_many, hr.mono (by decide), fun _ _ _ _ _ _ us hl => match us, hl with | [_, _, _], _ => rfl⟩
        | k + 3, hk => simp at hk)))
      (szs_one (sz_if (st_cmp ((op_eqI.or (op_eqD hr.room.units)).or op_eq) (nomark _) ok_eq (se_v 0 rfl (.inl rfl)) se_int) (szs_one (sz_set 5 sc.nd rfl (.inl rfl) (sze_alt (sze_call Z_way_at (hr.mono (by decide)) rfl (fun _ _ _ _ _ _ us hl => match us, hl with | [_, _, _, _], _ => rfl) (sa_cons (sv_v 1 rfl (.inl rfl)) (sa_cons (sv_v 2 rfl (.inl rfl)) (sa_cons (sv_v 3 rfl (.inl rfl)) (sa_cons (sv_v 4 rfl (.inl rfl)) sa_nil))))) (sze_call Y_way_at (hr.mono (by decide)) rfl (fun _ _ _ _ _ _ us hl => match us, hl with | [_, _, _, _], _ => rfl) (sa_cons (sv_v 1 rfl (.inl rfl)) (sa_cons (sv_v 2 rfl (.inl rfl)) (sa_cons (sv_v 3 rfl (.inl rfl)) (sa_cons (sv_v 4 rfl (.inl rfl)) sa_nil))))))))
        (szs_one (sz_set 5 sc.nd rfl (.inl rfl) (sze_alt (sze_call Z_way_number (hr.mono (by decide)) rfl (fun _ _ _ _ _ _ us hl => match us, hl with | [_, _, _, _], _ => rfl) (sa_cons (sv_v 1 rfl (.inl rfl)) (sa_cons (sv_v 2 rfl (.inl rfl)) (sa_cons (sv_v 3 rfl (.inl rfl)) (sa_cons (sv_v 4 rfl (.inl rfl)) sa_nil))))) (sze_call Y_way_number (hr.mono (by decide)) rfl (fun _ _ _ _ _ _ us hl => match us, hl with | [_, _, _, _], _ => rfl) (sa_cons (sv_v 1 rfl (.inl rfl)) (sa_cons (sv_v 2 rfl (.inl rfl)) (sa_cons (sv_v 3 rfl (.inl rfl)) (sa_cons (sv_v 4 rfl (.inl rfl)) sa_nil)))))))))))
  case rest =>
    have cO : ClN (cxOf CX0 P w K mg base N_law_heard "_law_heard" (defScope s_law_heard) f cdv A outer s H E).nox "OtherPeople" (.ref o) (.ref o) := cln_own rfl Z.mo
    have cNN : ClN (cxOf CX0 P w K mg base N_law_heard "_law_heard" (defScope s_law_heard) f cdv A outer s H E).nox "NoNumber" (.ref nn) (.ref nn) := cln_own rfl Z.mnn
    have cNW : ClN (cxOf CX0 P w K mg base N_law_heard "_law_heard" (defScope s_law_heard) f cdv A outer s H E).nox "NotWay" (.ref nw) (.ref nw) := cln_own rfl Z.mnw
    have cNC : ClN (cxOf CX0 P w K mg base N_law_heard "_law_heard" (defScope s_law_heard) f cdv A outer s H E).nox "NoChair" (.ref nc) (.ref nc) := cln_own rfl Z.mnc
    have cBL : ClN (cxOf CX0 P w K mg base N_law_heard "_law_heard" (defScope s_law_heard) f cdv A outer s H E).nox "BadLine" (.ref bl) (.ref bl) := cln_own rfl Z.mbl
    have cBS : ClN (cxOf CX0 P w K mg base N_law_heard "_law_heard" (defScope s_law_heard) f cdv A outer s H E).nox "BadScript" (.ref bs) (.ref bs) := cln_own rfl Z.mbs
    have cRE : ClN (cxOf CX0 P w K mg base N_law_heard "_law_heard" (defScope s_law_heard) f cdv A outer s H E).nox "RuntimeError" (.ty "RuntimeError") (.type "RuntimeError") := cln_blt rfl Z.mre rfl
    refine ss_cons (ss_if (st_isNx 6 rfl (.inl rfl)) (ss_one (ss_ret (se_v 5 rfl (.inl rfl)))) ss_nil)
      (ss_cons (ss_if (st_w (sw_and (st_tru (se_isX 6 B rfl rfl (.inl rfl) cO (q1_ok Z (by simp)))) (sw_and1 (st_tru (se_isX 6 B rfl rfl (.inl rfl) cRE (qR_ok Z)))))) (ss_cons (ss_set 7 sc.nd rfl (.inl rfl) (se_not (se_isXT 6 (us := [.ref bl, .ref bs, .ref nc, .ref nn, .ref nw]) B rfl rfl (.inl rfl) (.cons cBL rfl (.cons cBS rfl (.cons cNC rfl (.cons cNN rfl (.cons cNW rfl .nil))))) (show 5 ≤ 1000 by decide) (qL_ok (Ts := [bl, bs, nc, nn, nw]) Z (by intro T hT; simp at hT; rcases hT with h | h | h | h | h <;> simp [h])))))
          (ss_one (ss_ret (se_if (st_tru (se_v 7 rfl (.inl rfl))) (se_tup (sd_cons se_str (sd_cons (se_fldX 6 (cl := [o]) rfl (.inl rfl) (by intro C hC; rw [List.mem_singleton.mp hC]; exact ⟨Z.ek _ (by simp), Z.fo⟩)) sd_nil))) se_str)))) ss_nil)
      (ss_cons (ss_if (st_w (sw_and (st_tru (se_isX 6 B rfl rfl (.inl rfl) cNN (q1_ok Z (by simp)))) (sw_and1 (st_not (st_tru (se_isXT 6 (us := [.ref nc, .ref nw]) B rfl rfl (.inl rfl) (.cons cNC rfl (.cons cNW rfl .nil)) (show 2 ≤ 1000 by decide) (qL_ok (Ts := [nc, nw]) Z (by intro T hT; simp at hT; rcases hT with h | h <;> simp [h])))))))) (ss_one (ss_ret (se_tup (sd_cons se_str (sd_cons (se_fldX 6 (cl := [nn]) rfl (.inl rfl) (by intro C hC; rw [List.mem_singleton.mp hC]; exact ⟨Z.ek _ (by simp), Z.fnn⟩)) sd_nil))))) ss_nil)
      (ss_one (ss_ret (se_if (st_tru (se_isX 6 B rfl rfl (.inl rfl) cNW (q1_ok Z (by simp)))) (se_tup (sd_cons se_str (sd_cons (se_fldX 6 (cl := [nw]) rfl (.inl rfl) (by intro C hC; rw [List.mem_singleton.mp hC]; exact ⟨Z.ek _ (by simp), Z.fnw⟩)) sd_nil))) se_str)))))
theorem reC_at {C : Addr} {fn : Str} {t : Tree Thr} {x : Thr} (h : t = .ret x) : reC C fn t = .ret ⟨C, fn, x.d⟩ := by
  rw [h]
  rfl
theorem not_ret {t : Tree Thr} (h : ∀ x, t ≠ .ret x) {C : Addr} {fn : Str} : ∀ x, reC C fn t ≠ .ret x := fun x e => by
  obtain ⟨a, h1, _⟩ := bind_ret e
  exact h a h1
def hR (o nn nw nc bl bs : Addr) : DenS := sC (sIf (tIsNx 6) (sRet (dV 5)) s0)
  (sC (sIf (tAnd (tTr (dIsX 6 (q1 o nn nw o))) (tTr (dIsX 6 (qR o)))) (sC (sSet 7 (d1 pNot (dIsX 6 (qL o nn nw [bl, bs, nc, nn, nw])))) (sRet (dIf (tTr (dV 7)) (dT (lC (dC (.str "other people")) (lC (dFldX 6 "many" [o]) l0))) (dC (.str "other"))))) s0)
  (sC (sIf (tAnd (tTr (dIsX 6 (q1 o nn nw nn))) (tNot (tTr (dIsX 6 (qL o nn nw [nc, nw]))))) (sRet (dT (lC (dC (.str "no number")) (lC (dFldX 6 "number" [nn]) l0)))) s0)
  (sRet (dIf (tTr (dIsX 6 (q1 o nn nw nw))) (dT (lC (dC (.str "not a way")) (lC (dFldX 6 "way" [nw]) l0))) (dC (.str "other"))))))
theorem hB_eq (o nn nw nc bl bs : Addr) : hB o nn nw nc bl bs = sC (sAsg (.tp [5, 6]) (dT (lC (dC .none) (lC (dC .none) l0)))) (sC (sTry 8 6 (hZ o nn nw) hN) (hR o nn nw nc bl bs)) := rfl
section
variable {o nn nw nc bl bs : Addr} {w0 n a b m d : PyData} {x7 : Option W}
theorem hR_n : hR o nn nw nc bl bs [some (.d w0), some (.d n), some (.d a), some (.d b), some (.d m), some (.d d), some (.d .none), none, none] = .ret (.rt d) := by
  simp only [hR, Nat.reduceSub, Nat.reduceAdd, reduceIte, Tree.bind, liftO, dIdx, sAsgL, sPar4, dV, dC, d1, d2, t1, t2, l0, lC, dL, dT, aV, aE, a0, aC, dCall, dCallK, dIf, tTr, tV, truth, asB, tNot, tAnd, tOr, dAnd, dOr, sSet, sAsg, sPar, sRet, s0, sC, sIf, sX, sOwn, sApp, sFrz, frzE, sFor, outV, fnF, lenIs, ent, small, few, putE, putsE, wipeE, it_l, it_t, iS, iR1, iR2, wEn, wZ2, wZ3, dLc, dLf, dSl, oN, oS, pCut, pSub, cI, bD, pIx, pList, pTup, pLen, pNot, qIsN, qNotN, pIsN, pNotN, List.getElem?_cons_succ, List.getElem?_cons_zero, List.set_cons_succ, List.set_cons_zero, List.length_cons, List.length_nil, List.map_cons, List.map_nil, List.foldr_cons, List.foldr_nil, List.replicate_succ, List.replicate_zero, List.cons_append, List.nil_append, sOPar, sOOPar, dOIx, sNest, sCallP, dOLen, fnP, pC, pFrz, dPr, nApp, nIf, nEnd, sN0, sN1, lendE, frzW, sSetK, dGet, dZipD, dPairD, pMax2, sDD, sND, tNeN, sLock, lockE, odcE, tdE, dttE, tC, tLock, tRet, dGetO, dIdxO, tNinD, sPutO, tDen, sUpd, sCpT, iDtt, dSrtD, sParDt, sParDt3, tCall2, fnT, sNewD, isNd, tIsNx, qIsN]
theorem hR_o (df : (o ≠ nn ∧ o ≠ nw ∧ o ≠ nc ∧ o ≠ bl ∧ o ≠ bs) ∧ (nn ≠ nw ∧ nn ≠ nc) ∧ nw ≠ nc) : hR o nn nw nc bl bs [some (.d w0), some (.d n), some (.d a), some (.d b), some (.d m), some (.d .none), some (.exn o "many" d), none, none] = .ret (.rt (.tuple [.str "other people", d])) := by
  obtain ⟨⟨d1', d2', d3', d4', d5'⟩, ⟨d6', d7'⟩, e1⟩ := df
  simp only [hR, Nat.reduceSub, Nat.reduceAdd, reduceIte, Tree.bind, liftO, dIdx, sAsgL, sPar4, dV, dC, d1, d2, t1, t2, l0, lC, dL, dT, aV, aE, a0, aC, dCall, dCallK, dIf, tTr, tV, truth, asB, tNot, tAnd, tOr, dAnd, dOr, sSet, sAsg, sPar, sRet, s0, sC, sIf, sX, sOwn, sApp, sFrz, frzE, sFor, outV, fnF, lenIs, ent, small, few, putE, putsE, wipeE, it_l, it_t, iS, iR1, iR2, wEn, wZ2, wZ3, dLc, dLf, dSl, oN, oS, pCut, pSub, cI, bD, pIx, pList, pTup, pLen, pNot, qIsN, qNotN, pIsN, pNotN, List.getElem?_cons_succ, List.getElem?_cons_zero, List.set_cons_succ, List.set_cons_zero, List.length_cons, List.length_nil, List.map_cons, List.map_nil, List.foldr_cons, List.foldr_nil, List.replicate_succ, List.replicate_zero, List.cons_append, List.nil_append, sOPar, sOOPar, dOIx, sNest, sCallP, dOLen, fnP, pC, pFrz, dPr, nApp, nIf, nEnd, sN0, sN1, lendE, frzW, sSetK, dGet, dZipD, dPairD, pMax2, sDD, sND, tNeN, sLock, lockE, odcE, tdE, dttE, tC, tLock, tRet, dGetO, dIdxO, tNinD, sPutO, tDen, sUpd, sCpT, iDtt, dSrtD, sParDt, sParDt3, tCall2, fnT, sNewD, isNd, Nat.reduceLeDiff, tIsNx, dIsX, exE, q1, qL, qR, dFldX, true_or, decide_true, List.any_cons, List.any_nil, decide_eq_false d1', decide_eq_false d2', decide_eq_false d3', decide_eq_false d4', decide_eq_false d5', Bool.or_false, Bool.not_false, List.mem_singleton, and_self]
theorem hR_nn (df : (o ≠ nn ∧ o ≠ nw ∧ o ≠ nc ∧ o ≠ bl ∧ o ≠ bs) ∧ (nn ≠ nw ∧ nn ≠ nc) ∧ nw ≠ nc) : hR o nn nw nc bl bs [some (.d w0), some (.d n), some (.d a), some (.d b), some (.d m), some (.d .none), some (.exn nn "number" d), none, none] = .ret (.rt (.tuple [.str "no number", d])) := by
  obtain ⟨⟨d1', d2', d3', d4', d5'⟩, ⟨d6', d7'⟩, e1⟩ := df
  have d1s : ¬ nn = o := fun h => d1' h.symm
  simp only [hR, Nat.reduceSub, Nat.reduceAdd, reduceIte, Tree.bind, liftO, dIdx, sAsgL, sPar4, dV, dC, d1, d2, t1, t2, l0, lC, dL, dT, aV, aE, a0, aC, dCall, dCallK, dIf, tTr, tV, truth, asB, tNot, tAnd, tOr, dAnd, dOr, sSet, sAsg, sPar, sRet, s0, sC, sIf, sX, sOwn, sApp, sFrz, frzE, sFor, outV, fnF, lenIs, ent, small, few, putE, putsE, wipeE, it_l, it_t, iS, iR1, iR2, wEn, wZ2, wZ3, dLc, dLf, dSl, oN, oS, pCut, pSub, cI, bD, pIx, pList, pTup, pLen, pNot, qIsN, qNotN, pIsN, pNotN, List.getElem?_cons_succ, List.getElem?_cons_zero, List.set_cons_succ, List.set_cons_zero, List.length_cons, List.length_nil, List.map_cons, List.map_nil, List.foldr_cons, List.foldr_nil, List.replicate_succ, List.replicate_zero, List.cons_append, List.nil_append, sOPar, sOOPar, dOIx, sNest, sCallP, dOLen, fnP, pC, pFrz, dPr, nApp, nIf, nEnd, sN0, sN1, lendE, frzW, sSetK, dGet, dZipD, dPairD, pMax2, sDD, sND, tNeN, sLock, lockE, odcE, tdE, dttE, tC, tLock, tRet, dGetO, dIdxO, tNinD, sPutO, tDen, sUpd, sCpT, iDtt, dSrtD, sParDt, sParDt3, tCall2, fnT, sNewD, isNd, Nat.reduceLeDiff, tIsNx, dIsX, exE, q1, qL, qR, dFldX, true_or, or_true, decide_true, List.any_cons, List.any_nil, decide_eq_false d1s, decide_eq_false d6', decide_eq_false d7', Bool.or_false, Bool.not_false, Bool.not_true, List.mem_singleton, and_self]
theorem hR_nw (df : (o ≠ nn ∧ o ≠ nw ∧ o ≠ nc ∧ o ≠ bl ∧ o ≠ bs) ∧ (nn ≠ nw ∧ nn ≠ nc) ∧ nw ≠ nc) : hR o nn nw nc bl bs [some (.d w0), some (.d n), some (.d a), some (.d b), some (.d m), some (.d .none), some (.exn nw "way" d), none, none] = .ret (.rt (.tuple [.str "not a way", d])) := by
  obtain ⟨⟨d1', d2', d3', d4', d5'⟩, ⟨d6', d7'⟩, e1⟩ := df
  have d2s : ¬ nw = o := fun h => d2' h.symm
  have d6s : ¬ nw = nn := fun h => d6' h.symm
  simp only [hR, Nat.reduceSub, Nat.reduceAdd, reduceIte, Tree.bind, liftO, dIdx, sAsgL, sPar4, dV, dC, d1, d2, t1, t2, l0, lC, dL, dT, aV, aE, a0, aC, dCall, dCallK, dIf, tTr, tV, truth, asB, tNot, tAnd, tOr, dAnd, dOr, sSet, sAsg, sPar, sRet, s0, sC, sIf, sX, sOwn, sApp, sFrz, frzE, sFor, outV, fnF, lenIs, ent, small, few, putE, putsE, wipeE, it_l, it_t, iS, iR1, iR2, wEn, wZ2, wZ3, dLc, dLf, dSl, oN, oS, pCut, pSub, cI, bD, pIx, pList, pTup, pLen, pNot, qIsN, qNotN, pIsN, pNotN, List.getElem?_cons_succ, List.getElem?_cons_zero, List.set_cons_succ, List.set_cons_zero, List.length_cons, List.length_nil, List.map_cons, List.map_nil, List.foldr_cons, List.foldr_nil, List.replicate_succ, List.replicate_zero, List.cons_append, List.nil_append, sOPar, sOOPar, dOIx, sNest, sCallP, dOLen, fnP, pC, pFrz, dPr, nApp, nIf, nEnd, sN0, sN1, lendE, frzW, sSetK, dGet, dZipD, dPairD, pMax2, sDD, sND, tNeN, sLock, lockE, odcE, tdE, dttE, tC, tLock, tRet, dGetO, dIdxO, tNinD, sPutO, tDen, sUpd, sCpT, iDtt, dSrtD, sParDt, sParDt3, tCall2, fnT, sNewD, isNd, Nat.reduceLeDiff, tIsNx, dIsX, exE, q1, qL, qR, dFldX, true_or, or_true, decide_true, List.any_cons, List.any_nil, decide_eq_false d2s, decide_eq_false d6s, decide_eq_false e1, Bool.or_false, Bool.or_true, Bool.not_false, Bool.not_true, List.mem_singleton, and_self]
end
theorem sTry_n {i j : Nat} {z : DenZ} {g : DenS} {E : Env} (h : ∀ x, z E ≠ .ret x) : sTry i j z g E = g E := by
  unfold sTry
  split
  · rename_i x hx
    exact absurd hx (h x)
  · rfl
theorem mH_n {z : Tree Thr} {s : Str} {g : Tree PyData} (h : ∀ x, z ≠ .ret x) : mH z s g = g := by
  unfold mH
  split
  · rename_i x hx
    exact absurd rfl (h _)
  · rfl
abbrev hE (w0 n a b m : PyData) : Env := [some (.d w0), some (.d n), some (.d a), some (.d b), some (.d m), some (.d .none), some (.d .none), none, none]
section
variable {o nn nw nc bl bs : Addr} {w0 n a b m d : PyData}
theorem sTry_r {z : DenZ} {x : Thr} (h : z (hE w0 n a b m) = .ret x) : sTry 8 6 z hN (hE w0 n a b m) = .ret (.nx [some (.d w0), some (.d n), some (.d a), some (.d b), some (.d m), some (.d .none), some (.exn x.C x.f x.d), none, none]) := by
  unfold sTry
  rw [h]
  rfl
theorem runH : fnF 5 9 (hB o nn nw nc bl bs) [.d w0, .d n, .d a, .d b, .d m] = ((sTry 8 6 (hZ o nn nw) hN (hE w0 n a b m)).bind fun out => match out with | .nx E' => hR o nn nw nc bl bs E' | r => .ret r).bind outV := by
  rw [hB_eq]
  simp only [Nat.reduceSub, Nat.reduceAdd, reduceIte, Tree.bind, liftO, dIdx, sAsgL, sPar4, dV, dC, d1, d2, t1, t2, l0, lC, dL, dT, aV, aE, a0, aC, dCall, dCallK, dIf, tTr, tV, truth, asB, tNot, tAnd, tOr, dAnd, dOr, sSet, sAsg, sPar, sRet, s0, sC, sIf, sX, sOwn, sApp, sFrz, frzE, sFor, outV, fnF, lenIs, ent, small, few, putE, putsE, wipeE, it_l, it_t, iS, iR1, iR2, wEn, wZ2, wZ3, dLc, dLf, dSl, oN, oS, pCut, pSub, cI, bD, pIx, pList, pTup, pLen, pNot, qIsN, qNotN, pIsN, pNotN, List.getElem?_cons_succ, List.getElem?_cons_zero, List.set_cons_succ, List.set_cons_zero, List.length_cons, List.length_nil, List.map_cons, List.map_nil, List.foldr_cons, List.foldr_nil, List.replicate_succ, List.replicate_zero, List.cons_append, List.nil_append, sOPar, sOOPar, dOIx, sNest, sCallP, dOLen, fnP, pC, pFrz, dPr, nApp, nIf, nEnd, sN0, sN1, lendE, frzW, sSetK, dGet, dZipD, dPairD, pMax2, sDD, sND, tNeN, sLock, lockE, odcE, tdE, dttE, tC, tLock, tRet, dGetO, dIdxO, tNinD, sPutO, tDen, sUpd, sCpT, iDtt, dSrtD, sParDt, sParDt3, tCall2, fnT, sNewD, isNd, Nat.reduceLeDiff, hE]
  try rfl
def altT (z w : Tree Thr) : Tree Thr := match z with | .ret t => .ret t | _ => w
theorem altT_n {z w : Tree Thr} (h : ∀ x, z ≠ .ret x) : altT z w = w := by
  unfold altT
  split
  · exact absurd rfl (h _)
  · rfl
def hZg (F0 F1 F2 G3 H3 G4 H4 : List W → Tree Thr) : DenZ := zIf (t2 cLt (dV 0) (dC (.int 3))) (zPick 0 3 [2, 1, 0] [F0, F1, F2] hgs) (zIf (t2 pEq (dV 0) (dC (.int 3))) (zAlt (zCall G3 has) (zCall H3 has)) (zAlt (zCall G4 has) (zCall H4 has)))
theorem hZg_eq : hZ o nn nw = hZg (x_fewest_calls o) (x_fewest_steps o) (x_ways_many o) (x_way_at o) (y_way_at nn) (x_way_number o) (y_way_number nw) := rfl
def hNg (F0 F1 F2 G3 G4 : List W → Tree PyData) : DenS := sIf (t2 cLt (dV 0) (dC (.int 3))) (sSet 5 (dPick 0 3 [2, 1, 0] [F0, F1, F2] hgs)) (sIf (t2 pEq (dV 0) (dC (.int 3))) (sSet 5 (dCall G3 has)) (sSet 5 (dCall G4 has)))
theorem hNg_eq : hN = hNg m_fewest_calls m_fewest_steps m_ways_many m_way_at m_way_number := rfl
section
variable {F0 F1 F2 G3 H3 G4 H4 : List W → Tree Thr} {A0 A1 A2 A3 A4 : List W → Tree PyData}
theorem hZ_0 : hZg F0 F1 F2 G3 H3 G4 H4 (hE (.int 0) n a b m) = F0 [.d n, .d a, .d b] := rfl
theorem hZ_1 : hZg F0 F1 F2 G3 H3 G4 H4 (hE (.int 1) n a b m) = F1 [.d n, .d a, .d b] := rfl
theorem hZ_2 : hZg F0 F1 F2 G3 H3 G4 H4 (hE (.int 2) n a b m) = F2 [.d n, .d a, .d b] := rfl
theorem hZ_3 : hZg F0 F1 F2 G3 H3 G4 H4 (hE (.int 3) n a b m) = altT (G3 [.d n, .d a, .d b, .d m]) (H3 [.d n, .d a, .d b, .d m]) := rfl
theorem hZ_4 : hZg F0 F1 F2 G3 H3 G4 H4 (hE (.int 4) n a b m) = altT (G4 [.d n, .d a, .d b, .d m]) (H4 [.d n, .d a, .d b, .d m]) := rfl
abbrev hO (w0 n a b m d : PyData) : Out := .nx [some (.d w0), some (.d n), some (.d a), some (.d b), some (.d m), some (.d d), some (.d .none), none, none]
theorem hN_0 : hNg A0 A1 A2 A3 A4 (hE (.int 0) n a b m) = (A0 [.d n, .d a, .d b]).bind fun d => .ret (hO (.int 0) n a b m d) := rfl
theorem hN_1 : hNg A0 A1 A2 A3 A4 (hE (.int 1) n a b m) = (A1 [.d n, .d a, .d b]).bind fun d => .ret (hO (.int 1) n a b m d) := rfl
theorem hN_2 : hNg A0 A1 A2 A3 A4 (hE (.int 2) n a b m) = (A2 [.d n, .d a, .d b]).bind fun d => .ret (hO (.int 2) n a b m d) := rfl
theorem hN_3 : hNg A0 A1 A2 A3 A4 (hE (.int 3) n a b m) = (A3 [.d n, .d a, .d b, .d m]).bind fun d => .ret (hO (.int 3) n a b m d) := rfl
theorem hN_4 : hNg A0 A1 A2 A3 A4 (hE (.int 4) n a b m) = (A4 [.d n, .d a, .d b, .d m]).bind fun d => .ret (hO (.int 4) n a b m d) := rfl
end
theorem runN {Q : PyData → Prop} {t : Tree PyData} (hz : ∀ x, hZ o nn nw (hE w0 n a b m) ≠ .ret x) (hn : hN (hE w0 n a b m) = t.bind fun d => .ret (hO w0 n a b m d)) (h : t.All Q) : (fnF 5 9 (hB o nn nw nc bl bs) [.d w0, .d n, .d a, .d b, .d m]).All Q := by
  rw [runH, sTry_n hz, hn, Tree.bind_assoc, Tree.bind_assoc]
  refine Tree.all_bind.mpr (h.imp fun d q => ?_)
  show (((hR o nn nw nc bl bs _).bind outV)).All Q
  rw [hR_n]
  exact q
theorem runZ {Q : PyData → Prop} {C : Addr} {f s : Str} (hz : hZ o nn nw (hE w0 n a b m) = .ret ⟨C, f, d⟩) (hr : hR o nn nw nc bl bs [some (.d w0), some (.d n), some (.d a), some (.d b), some (.d m), some (.d .none), some (.exn C f d), none, none] = .ret (.rt (.tuple [.str s, d]))) (q : Q (.tuple [.str s, d])) : (fnF 5 9 (hB o nn nw nc bl bs) [.d w0, .d n, .d a, .d b, .d m]).All Q := by
  rw [runH, sTry_r hz]
  show (((hR o nn nw nc bl bs _).bind outV)).All Q
  rw [hr]
  exact q
theorem mH_r {z : Tree Thr} {s : Str} {g : Tree PyData} {t : Thr} (h : z = .ret t) : mH z s g = .ret (hK s t) := by
  rw [h]
  rfl
theorem heard_ev (df : (o ≠ nn ∧ o ≠ nw ∧ o ≠ nc ∧ o ≠ bl ∧ o ≠ bs) ∧ (nn ≠ nw ∧ nn ≠ nc) ∧ nw ≠ nc) {ws : List W} {Q : PyData → Prop} (h : (m_law_heard ws).All Q) : (fnF 5 9 (hB o nn nw nc bl bs) ws).All Q := by
  unfold m_law_heard at h
  split at h
  case h_2 => exact h.elim
  rename_i wi n a b m
  have one : ∀ {F : Addr → List W → Tree Thr} {A : List W → Tree PyData} {w0 : PyData}, (∀ C ws, F C ws = reC C "many" (F 0 ws)) → hZ o nn nw (hE w0 n a b m) = F o [.d n, .d a, .d b] → hN (hE w0 n a b m) = (A [.d n, .d a, .d b]).bind (fun d => .ret (hO w0 n a b m d)) → (mH (F 0 [.d n, .d a, .d b]) "other people" (A [.d n, .d a, .d b])).All Q → (fnF 5 9 (hB o nn nw nc bl bs) [.d w0, .d n, .d a, .d b, .d m]).All Q := fun {F A w0} re hz hn h => by
    by_cases hx : ∃ t, F 0 [.d n, .d a, .d b] = .ret t
    · obtain ⟨t, ht⟩ := hx
      rw [mH_r ht] at h
      exact runZ (by rw [hz, re, reC_at ht]) (hR_o df) h
    · have hx := fun t e => hx ⟨t, e⟩
      rw [mH_n hx] at h
      exact runN (fun x e => by rw [hz, re] at e; exact not_ret hx x e) hn h
  have two : ∀ {F G : Addr → List W → Tree Thr} {A : List W → Tree PyData} {w0 : PyData} {D : Addr} {fn s : Str}, (∀ C ws, F C ws = reC C "many" (F 0 ws)) → (∀ C ws, G C ws = reC C fn (G 0 ws)) → (∀ d, hR o nn nw nc bl bs [some (.d w0), some (.d n), some (.d a), some (.d b), some (.d m), some (.d .none), some (.exn D fn d), none, none] = .ret (.rt (.tuple [.str s, d]))) → hZ o nn nw (hE w0 n a b m) = altT (F o [.d n, .d a, .d b, .d m]) (G D [.d n, .d a, .d b, .d m]) → hN (hE w0 n a b m) = (A [.d n, .d a, .d b, .d m]).bind (fun d => .ret (hO w0 n a b m d)) → (mH (F 0 [.d n, .d a, .d b, .d m]) "other people" (mH (G 0 [.d n, .d a, .d b, .d m]) s (A [.d n, .d a, .d b, .d m]))).All Q → (fnF 5 9 (hB o nn nw nc bl bs) [.d w0, .d n, .d a, .d b, .d m]).All Q := fun {F G A w0 D fn s} re re2 hr hz hn h => by
    by_cases hx : ∃ t, F 0 [.d n, .d a, .d b, .d m] = .ret t
    · obtain ⟨t, ht⟩ := hx
      rw [mH_r ht] at h
      exact runZ (by rw [hz, re, reC_at ht]; rfl) (hR_o df) h
    · have hx := fun t e => hx ⟨t, e⟩
      rw [mH_n hx] at h
      have e1 : hZ o nn nw (hE w0 n a b m) = G D [.d n, .d a, .d b, .d m] := by
        rw [hz, re, altT_n (not_ret hx)]
      by_cases hy : ∃ t, G 0 [.d n, .d a, .d b, .d m] = .ret t
      · obtain ⟨t, ht⟩ := hy
        rw [mH_r ht] at h
        exact runZ (by rw [e1, re2, reC_at ht]) (hr _) h
      · have hy := fun t e => hy ⟨t, e⟩
        rw [mH_n hy] at h
        exact runN (fun x e => by rw [e1, re2] at e; exact not_ret hy x e) hn h
  by_cases h0 : wi = 0
  · subst h0
    rw [if_pos rfl] at h
    exact one re_fc (by rw [hZg_eq, hZ_0]) (by rw [hNg_eq, hN_0]) h
  rw [if_neg h0] at h
  by_cases h1 : wi = 1
  · subst h1
    rw [if_pos rfl] at h
    exact one re_fs (by rw [hZg_eq, hZ_1]) (by rw [hNg_eq, hN_1]) h
  rw [if_neg h1] at h
  by_cases h2 : wi = 2
  · subst h2
    rw [if_pos rfl] at h
    exact one re_wm (by rw [hZg_eq, hZ_2]) (by rw [hNg_eq, hN_2]) h
  rw [if_neg h2] at h
  by_cases h3 : wi = 3
  · subst h3
    rw [if_pos rfl] at h
    exact two re_wa re_ya (fun d => hR_nn df) (by rw [hZg_eq, hZ_3]) (by rw [hNg_eq, hN_3]) h
  rw [if_neg h3] at h
  by_cases h4 : wi = 4
  · subst h4
    rw [if_pos rfl] at h
    exact two re_wn re_yn (fun d => hR_nw df) (by rw [hZg_eq, hZ_4]) (by rw [hNg_eq, hN_4]) h
  rw [if_neg h4] at h
  exact h.elim
end
theorem f_law_heard {o nn nw nc bl bs : Addr} (B : Bt mg) (Z : Cl6 K mg o nn nw nc bl bs)
    (F_fewest_calls : Fc P w K mg base "fewest_calls" s_fewest_calls ["size", "first", "second"] 4 (cF m_fewest_calls)) (F_fewest_steps : Fc P w K mg base "fewest_steps" s_fewest_steps ["size", "first", "second"] 3 (cF m_fewest_steps)) (F_ways_many : Fc P w K mg base "ways_many" s_ways_many ["size", "first", "second"] 5 (cF m_ways_many))
    (F_way_at : Fc P w K mg base "way_at" s_way_at ["size", "first", "second", "number"] 5 (cF m_way_at)) (F_way_number : Fc P w K mg base "way_number" s_way_number ["size", "first", "second", "calls"] 5 (cF m_way_number))
    (Z_fewest_calls : FcZ P w K mg base "fewest_calls" s_fewest_calls ["size", "first", "second"] 5 (cZF (x_fewest_calls o))) (Z_fewest_steps : FcZ P w K mg base "fewest_steps" s_fewest_steps ["size", "first", "second"] 4 (cZF (x_fewest_steps o))) (Z_ways_many : FcZ P w K mg base "ways_many" s_ways_many ["size", "first", "second"] 6 (cZF (x_ways_many o)))
    (Z_way_at : FcZ P w K mg base "way_at" s_way_at ["size", "first", "second", "number"] 6 (cZF (x_way_at o))) (Y_way_at : FcZ P w K mg base "way_at" s_way_at ["size", "first", "second", "number"] 6 (cZF (y_way_at nn)))
    (Z_way_number : FcZ P w K mg base "way_number" s_way_number ["size", "first", "second", "calls"] 6 (cZF (x_way_number o))) (Y_way_number : FcZ P w K mg base "way_number" s_way_number ["size", "first", "second", "calls"] 6 (cZF (y_way_number nw)))
    {f : Addr} {fd : FuncData} (F : Fun K "_law_heard" "_law_heard" s_law_heard f fd) (hm : mg "_law_heard" = some (.ref f)) : Fc P w K mg base "_law_heard" s_law_heard ["_law_way", "_law_span", "_law_crowd_here", "_law_mates", "_law_matter"] 7 (cF m_law_heard) :=
  (g_law_heard B Z F_fewest_calls F_fewest_steps F_ways_many F_way_at F_way_number Z_fewest_calls Z_fewest_steps Z_ways_many Z_way_at Y_way_at Z_way_number Y_way_number F hm).imp fun os μ Φ ⟨b, ws, e, hb, h⟩ => ⟨b, ws, e, hb, heard_ev Z.df h⟩
theorem sc_NotWay : FnScope ["self", "way"] ["self", "way"] (defScope sC_NotWay) := ⟨rfl, rfl, rfl, by decide +kernel, rfl, by decide +kernel, by decide +kernel⟩
theorem x_NotWay {C fI : Addr} {fd : FuncData} (B0 : mg "ValueError" = none) (vV : PySem.W.findCls K (.type "ValueError") (.type "type") "__init__" = some (.val (.builtin "ValueError.__init__"))) (T : ExB K C "ValueError.__new__" [.type "ValueError", .type "Exception", .type "BaseException", .type "object"]) (no : PySem.W.findIn K (.ref C) "way" = some none) (F : Fun K "__init__" "NotWay.__init__" sC_NotWay fI fd)
    (gC : mg "NotWay" = some (.ref C)) (exC : PySem.W.subIn K (.ref C) (.type "BaseException") = some true) (tyC : PySem.W.typeIn K (.ref C) = some (.type "type")) (iC : PySem.W.findIn K (.ref C) "__init__" = some (some (.ref fI))) (tI : PySem.W.typeIn K (.ref fI) = some (.type "function")) : ExT P w K mg base "NotWay" C "way" :=
  ext_mk bsVE T (by decide +kernel) gC exC tyC iC tI (ok_init bsVE T no F sc_NotWay "not one of the fewest calls" fun cdv A outer s H E => pss_cons (ps_expr (pe_binit bsVE rfl B0 rfl vV (pa_cons (pv 0) (pa_cons pe_str pa_nil)))) (pss_one (ps_os1 bsVE (pv 0) (pv 1)))) (F.binds fun _ _ _ _ _ _ us hl => match us, hl with | [_, _], _ => rfl)
theorem sc_NoNumber : FnScope ["self", "number"] ["self", "number"] (defScope sC_NoNumber) := ⟨rfl, rfl, rfl, by decide +kernel, rfl, by decide +kernel, by decide +kernel⟩
theorem x_NoNumber {C fI : Addr} {fd : FuncData} (B0 : mg "LookupError" = none) (vV : PySem.W.findCls K (.type "LookupError") (.type "type") "__init__" = some (.val (.builtin "LookupError.__init__"))) (T : ExB K C "LookupError.__new__" [.type "LookupError", .type "Exception", .type "BaseException", .type "object"]) (no : PySem.W.findIn K (.ref C) "number" = some none) (F : Fun K "__init__" "NoNumber.__init__" sC_NoNumber fI fd)
    (gC : mg "NoNumber" = some (.ref C)) (exC : PySem.W.subIn K (.ref C) (.type "BaseException") = some true) (tyC : PySem.W.typeIn K (.ref C) = some (.type "type")) (iC : PySem.W.findIn K (.ref C) "__init__" = some (some (.ref fI))) (tI : PySem.W.typeIn K (.ref fI) = some (.type "function")) : ExT P w K mg base "NoNumber" C "number" :=
  ext_mk bsLE T (by decide +kernel) gC exC tyC iC tI (ok_init bsLE T no F sc_NoNumber "nothing has this number" fun cdv A outer s H E => pss_cons (ps_expr (pe_binit bsLE rfl B0 rfl vV (pa_cons (pv 0) (pa_cons pe_str pa_nil)))) (pss_one (ps_os1 bsLE (pv 0) (pv 1)))) (F.binds fun _ _ _ _ _ _ us hl => match us, hl with | [_, _], _ => rfl)
theorem sc_OtherPeople : FnScope ["self", "many"] ["self", "many"] (defScope sC_OtherPeople) := ⟨rfl, rfl, rfl, by decide +kernel, rfl, by decide +kernel, by decide +kernel⟩
theorem x_OtherPeople {C fI : Addr} {fd : FuncData} (B0 : mg "RuntimeError" = none) (vV : PySem.W.findCls K (.type "RuntimeError") (.type "type") "__init__" = some (.val (.builtin "RuntimeError.__init__"))) (T : ExB K C "RuntimeError.__new__" [.type "RuntimeError", .type "Exception", .type "BaseException", .type "object"]) (no : PySem.W.findIn K (.ref C) "many" = some none) (F : Fun K "__init__" "OtherPeople.__init__" sC_OtherPeople fI fd)
    (gC : mg "OtherPeople" = some (.ref C)) (exC : PySem.W.subIn K (.ref C) (.type "BaseException") = some true) (tyC : PySem.W.typeIn K (.ref C) = some (.type "type")) (iC : PySem.W.findIn K (.ref C) "__init__" = some (some (.ref fI))) (tI : PySem.W.typeIn K (.ref fI) = some (.type "function")) : ExT P w K mg base "OtherPeople" C "many" :=
  ext_mk bsRE T (by decide +kernel) gC exC tyC iC tI (ok_init bsRE T no F sc_OtherPeople "the tables have different numbers of people" fun cdv A outer s H E => pss_cons (ps_expr (pe_binit bsRE rfl B0 rfl vV (pa_cons (pv 0) (pa_cons pe_str pa_nil)))) (pss_one (ps_os1 bsRE (pv 0) (pv 1)))) (F.binds fun _ _ _ _ _ _ us hl => match us, hl with | [_, _], _ => rfl)
abbrev N_law_pair_right : List Str := ["_law_box_here", "_law_span", "_law_crowd_here", "_law_mates", "_law_heard_here", "_law_due", "_law_odd", "_law_tour", "_law_way", "_law_turn"]
theorem sc_law_pair_right : FnScope N_law_pair_right ["_law_box_here", "_law_span", "_law_crowd_here", "_law_mates"] (defScope s_law_pair_right) := ⟨rfl, rfl, rfl, by decide +kernel, rfl, by decide +kernel, by decide +kernel⟩
theorem f_law_pair_right (B : Bt mg) (F_law_heard : Fc P w K mg base "_law_heard" s_law_heard ["_law_way", "_law_span", "_law_crowd_here", "_law_mates", "_law_matter"] 7 (cF m_law_heard)) (F_law_same : Fc P w K mg base "_law_same" s_law_same ["_law_found", "_law_due"] 1 (cF m_law_same)) (F_law_take : Fc P w K mg base "_law_take" s_law_take ["_law_box_here", "_law_below"] 1 (cF takeF))  {f : Addr} {fd : FuncData} (F : Fun K "_law_pair_right" "_law_pair_right" s_law_pair_right f fd) (hm : mg "_law_pair_right" = some (.ref f)) : Fc P w K mg base "_law_pair_right" s_law_pair_right ["_law_box_here", "_law_span", "_law_crowd_here", "_law_mates"] 8 (cF m_law_pair_right) := by
  have sc := sc_law_pair_right
  refine fc_body (k := 7) b_law_pair_right (m := m_law_pair_right) (by unfold m_law_pair_right; rfl) F hm sc rfl rfl fun b cdv A outer s H E hr => ?_
  exact (ss_cons (ss_par 6 7 rfl sc.nd rfl rfl (by decide) rfl rfl rfl (sd_cons (se_add (se_pow se_int se_int) (se_call F_law_take (hr.mono (by decide)) rfl (fun _ _ _ _ _ _ us hl => match us, hl with | [_, _], _ => rfl) (sa_cons (sv_v 0 rfl (.inr (.inl rfl))) (sa_cons (sv_e se_int) sa_nil)))) (sd_cons (se_lc (own := [("_law_turn", 9)]) (.nm 9) rfl sc.nd (blkOk_by (N := N_law_pair_right) (sc := defScope s_law_pair_right) (by decide +kernel)) (by decide) (fun _ _ _ _ _ => pg_name (i := 9) sc.nd rfl (by first | exact .inl rfl | exact .inr rfl)) (si_r1 B rfl (se_v 1 rfl (.inr (.inl rfl)))) (fun _ _ _ _ _ => (se_call F_law_take (hr.mono (by decide)) rfl (fun _ _ _ _ _ _ us hl => match us, hl with | [_, _], _ => rfl) (sa_cons (sv_v 0) (sa_cons (sv_v 1) sa_nil))))) sd_nil))) (ss_cons (ss_setLc (own := [("_law_way", 8)]) (.nm 8) 4 rfl sc.nd rfl rfl (sw_true rfl rfl rfl (by decide +kernel)) (blkOk_by (N := N_law_pair_right) (sc := defScope s_law_pair_right) (by decide +kernel)) (by decide) (fun _ _ _ _ _ => pg_name (i := 8) sc.nd rfl (by first | exact .inl rfl | exact .inr rfl)) (si_r1 B rfl se_int) (fun _ _ _ _ _ => (se_call F_law_heard (hr.mono (by decide)) rfl (fun _ _ _ _ _ _ us hl => match us, hl with | [_, _, _, _, _], _ => rfl) (sa_cons (sv_v 8) (sa_cons (sv_v 1) (sa_cons (sv_v 2) (sa_cons (sv_v 3) (sa_cons (sv_e se_non) sa_nil)))))))) (ss_cons (ss_set 4 sc.nd rfl (.inl rfl) (se_add (se_v 4 rfl (.inl rfl)) (se_lst (sd_cons (se_call F_law_heard (hr.mono (by decide)) rfl (fun _ _ _ _ _ _ us hl => match us, hl with | [_, _, _, _, _], _ => rfl) (sa_cons (sv_e se_int) (sa_cons (sv_v 1 rfl (.inr (.inl rfl))) (sa_cons (sv_v 2 rfl (.inr (.inl rfl))) (sa_cons (sv_v 3 rfl (.inr (.inl rfl))) (sa_cons (sv_e (se_sub se_int (se_v 6 rfl (.inl rfl)))) sa_nil)))))) (sd_cons (se_call F_law_heard (hr.mono (by decide)) rfl (fun _ _ _ _ _ _ us hl => match us, hl with | [_, _, _, _, _], _ => rfl) (sa_cons (sv_e se_int) (sa_cons (sv_v 1 rfl (.inr (.inl rfl))) (sa_cons (sv_v 2 rfl (.inr (.inl rfl))) (sa_cons (sv_v 3 rfl (.inr (.inl rfl))) (sa_cons (sv_v 6 rfl (.inl rfl)) sa_nil)))))) sd_nil))))) (ss_cons (ss_set 4 sc.nd rfl (.inl rfl) (se_add (se_v 4 rfl (.inl rfl)) (se_lst (sd_cons (se_call F_law_heard (hr.mono (by decide)) rfl (fun _ _ _ _ _ _ us hl => match us, hl with | [_, _, _, _, _], _ => rfl) (sa_cons (sv_e se_int) (sa_cons (sv_v 1 rfl (.inr (.inl rfl))) (sa_cons (sv_v 2 rfl (.inr (.inl rfl))) (sa_cons (sv_v 3 rfl (.inr (.inl rfl))) (sa_cons (sv_v 7 rfl (.inl rfl)) sa_nil)))))) (sd_cons (se_call F_law_heard (hr.mono (by decide)) rfl (fun _ _ _ _ _ _ us hl => match us, hl with | [_, _, _, _, _], _ => rfl) (sa_cons (sv_e se_int) (sa_cons (sv_v 1 rfl (.inr (.inl rfl))) (sa_cons (sv_v 2 rfl (.inr (.inl rfl))) (sa_cons (sv_v 3 rfl (.inr (.inl rfl))) (sa_cons (sv_e (se_tuple B rfl (se_v 7 rfl (.inl rfl)))) sa_nil)))))) sd_nil))))) (ss_cons (ss_if (st_cmp ((op_neI.or (op_neD hr.room.units)).or op_ne) (nomark _) ok_ne (se_len B rfl (se_v 2 rfl (.inr (.inl rfl)))) (se_len B rfl (se_v 3 rfl (.inr (.inl rfl))))) (ss_one (ss_ret (se_call F_law_same (hr.mono (by decide)) rfl (fun _ _ _ _ _ _ us hl => match us, hl with | [_, _], _ => rfl) (sa_cons (sv_v 4 rfl (.inl rfl)) (sa_cons (sv_e (se_mul (se_lst (sd_cons (se_tup (sd_cons se_str (sd_cons (se_len B rfl (se_v 3 rfl (.inr (.inl rfl)))) sd_nil))) sd_nil)) se_int)) sa_nil))))) ss_nil) (ss_cons (ss_set 5 sc.nd rfl (.inl rfl) (se_lst (sd_cons (se_tup (sd_cons se_str (sd_cons (se_sub se_int (se_v 6 rfl (.inl rfl))) sd_nil))) (sd_cons (se_tup (sd_cons se_str (sd_cons (se_v 6 rfl (.inl rfl)) sd_nil))) (sd_cons (se_tup (sd_cons se_str (sd_cons (se_v 7 rfl (.inl rfl)) sd_nil))) (sd_cons (se_tup (sd_cons se_str (sd_cons (se_tuple B rfl (se_v 7 rfl (.inl rfl))) sd_nil))) sd_nil)))))) (ss_one (ss_ret (se_and (se_call F_law_same (hr.mono (by decide)) rfl (fun _ _ _ _ _ _ us hl => match us, hl with | [_, _], _ => rfl) (sa_cons (sv_e (se_sl (se_v 4 rfl (.inl rfl)) (so_s se_int) so_n)) (sa_cons (sv_v 5 rfl (.inl rfl)) sa_nil))) (se_one (se_cmp ((op_eqI.or (op_eqD hr.room.units)).or op_eq) (nomark _) ok_eq (se_len B rfl (se_ix (fun _ _ => rfl) (se_v 4 rfl (.inl rfl)) se_int)) (se_len B rfl (se_v 2 rfl (.inr (.inl rfl)))))))))))))))
abbrev N_law_right : List Str := ["_law_box_here", "_law_turn", "_law_span", "_law_folk", "_law_mate_folk", "_law_heard_here", "_law_crowd_here", "_law_mates", "_law_way"]
theorem sc_law_right : FnScope N_law_right ["_law_box_here"] (defScope s_law_right) := ⟨rfl, rfl, rfl, by decide +kernel, rfl, by decide +kernel, by decide +kernel⟩
theorem f_law_right (B : Bt mg) (F_law_take : Fc P w K mg base "_law_take" s_law_take ["_law_box_here", "_law_below"] 1 (cF takeF)) (F_law_crowd : Fc P w K mg base "_law_crowd" s_law_crowd ["_law_box_here", "_law_span", "_law_folk"] 3 (cF m_law_crowd)) (F_law_pair_right : Fc P w K mg base "_law_pair_right" s_law_pair_right ["_law_box_here", "_law_span", "_law_crowd_here", "_law_mates"] 8 (cF m_law_pair_right)) (F_law_heard : Fc P w K mg base "_law_heard" s_law_heard ["_law_way", "_law_span", "_law_crowd_here", "_law_mates", "_law_matter"] 7 (cF m_law_heard)) (F_law_same : Fc P w K mg base "_law_same" s_law_same ["_law_found", "_law_due"] 1 (cF m_law_same))  {f : Addr} {fd : FuncData} (F : Fun K "_law_right" "_law_right" s_law_right f fd) (hm : mg "_law_right" = some (.ref f)) : Fc P w K mg base "_law_right" s_law_right ["_law_box_here"] 9 (cF m_law_right) := by
  have sc := sc_law_right
  refine fc_body (k := 8) b_law_right (m := m_law_right) (by unfold m_law_right; rfl) F hm sc rfl rfl fun b cdv A outer s H E hr => ?_
  exact (ss_cons (ss_for (.nm 1) PassesOwn.never rfl (pg_name (i := 1) sc.nd rfl (.inl rfl)) (si_r1 B rfl se_int) (ss_cons (ss_set 2 sc.nd rfl (.inr rfl) (se_add se_int (se_call F_law_take (hr.mono (by decide)) rfl (fun _ _ _ _ _ _ us hl => match us, hl with | [_, _], _ => rfl) (sa_cons (sv_v 0 rfl (.inl rfl)) (sa_cons (sv_e se_int) sa_nil))))) (ss_cons (ss_set 3 sc.nd rfl (.inl rfl) (se_add se_int (se_call F_law_take (hr.mono (by decide)) rfl (fun _ _ _ _ _ _ us hl => match us, hl with | [_, _], _ => rfl) (sa_cons (sv_v 0 rfl (.inl rfl)) (sa_cons (sv_e (se_sub (se_v 2 rfl (.inr (.inl rfl))) se_int)) sa_nil))))) (ss_cons (ss_set 4 sc.nd rfl (.inl rfl) (se_add se_int (se_mod (se_add (se_v 3 rfl (.inl rfl)) (se_call F_law_take (hr.mono (by decide)) rfl (fun _ _ _ _ _ _ us hl => match us, hl with | [_, _], _ => rfl) (sa_cons (sv_v 0 rfl (.inl rfl)) (sa_cons (sv_e (se_sub (se_v 2 rfl (.inr (.inl rfl))) se_int)) sa_nil)))) (se_sub (se_v 2 rfl (.inr (.inl rfl))) se_int)))) (ss_cons (ss_asg (.tp [6, 7]) (pg_tup rfl (pgs_cons (pg_name (i := 6) sc.nd rfl (.inr rfl)) (pgs_cons (pg_name (i := 7) sc.nd rfl (.inl rfl)) pgs_nil))) (se_tup (sd_cons (se_call F_law_crowd (hr.mono (by decide)) rfl (fun _ _ _ _ _ _ us hl => match us, hl with | [_, _, _], _ => rfl) (sa_cons (sv_v 0 rfl (.inl rfl)) (sa_cons (sv_v 2 rfl (.inr (.inl rfl))) (sa_cons (sv_v 3 rfl (.inl rfl)) sa_nil)))) (sd_cons (se_call F_law_crowd (hr.mono (by decide)) rfl (fun _ _ _ _ _ _ us hl => match us, hl with | [_, _, _], _ => rfl) (sa_cons (sv_v 0 rfl (.inl rfl)) (sa_cons (sv_v 2 rfl (.inr (.inl rfl))) (sa_cons (sv_v 4 rfl (.inl rfl)) sa_nil)))) sd_nil)))) (ss_cons (ss_if (st_w (sw_or (st_not (st_tru (se_call F_law_pair_right (hr.mono (by decide)) rfl (fun _ _ _ _ _ _ us hl => match us, hl with | [_, _, _, _], _ => rfl) (sa_cons (sv_v 0 rfl (.inl rfl)) (sa_cons (sv_v 2 rfl (.inr (.inl rfl))) (sa_cons (sv_v 6 rfl (.inr (.inl rfl))) (sa_cons (sv_v 7 rfl (.inl rfl)) sa_nil))))))) (sw_or1 (st_not (st_tru (se_call F_law_pair_right (hr.mono (by decide)) rfl (fun _ _ _ _ _ _ us hl => match us, hl with | [_, _, _, _], _ => rfl) (sa_cons (sv_v 0 rfl (.inl rfl)) (sa_cons (sv_v 2 rfl (.inr (.inl rfl))) (sa_cons (sv_v 7 rfl (.inl rfl)) (sa_cons (sv_e (se_list B rfl (se_v 6 rfl (.inr (.inl rfl))))) sa_nil)))))))))) (ss_one (ss_ret se_bl)) ss_nil) (ss_cons (ss_if (st_not (st_tru (se_call F_law_pair_right (hr.mono (by decide)) rfl (fun _ _ _ _ _ _ us hl => match us, hl with | [_, _, _, _], _ => rfl) (sa_cons (sv_v 0 rfl (.inl rfl)) (sa_cons (sv_v 2 rfl (.inr (.inl rfl))) (sa_cons (sv_v 6 rfl (.inr (.inl rfl))) (sa_cons (sv_e (se_call F_law_crowd (hr.mono (by decide)) rfl (fun _ _ _ _ _ _ us hl => match us, hl with | [_, _, _], _ => rfl) (sa_cons (sv_v 0 rfl (.inl rfl)) (sa_cons (sv_v 2 rfl (.inr (.inl rfl))) (sa_cons (sv_v 3 rfl (.inl rfl)) sa_nil))))) sa_nil))))))) (ss_one (ss_ret se_bl)) ss_nil) (ss_cons (ss_setLc (own := [("_law_way", 8)]) (.nm 8) 5 rfl sc.nd rfl rfl (sw_true rfl rfl rfl (by decide +kernel)) (blkOk_by (N := N_law_right) (sc := defScope s_law_right) (by decide +kernel)) (by decide) (fun _ _ _ _ _ => pg_name (i := 8) sc.nd rfl (by first | exact .inl rfl | exact .inr rfl)) (si_r1 B rfl se_int) (fun _ _ _ _ _ => (se_call F_law_heard (hr.mono (by decide)) rfl (fun _ _ _ _ _ _ us hl => match us, hl with | [_, _, _, _, _], _ => rfl) (sa_cons (sv_v 8) (sa_cons (sv_v 2) (sa_cons (sv_v 6) (sa_cons (sv_v 6) (sa_cons (sv_e se_non) sa_nil)))))))) (ss_cons (ss_set 5 sc.nd rfl (.inl rfl) (se_add (se_v 5 rfl (.inl rfl)) (se_lst (sd_cons (se_call F_law_heard (hr.mono (by decide)) rfl (fun _ _ _ _ _ _ us hl => match us, hl with | [_, _, _, _, _], _ => rfl) (sa_cons (sv_e se_int) (sa_cons (sv_v 2 rfl (.inr (.inl rfl))) (sa_cons (sv_v 6 rfl (.inr (.inl rfl))) (sa_cons (sv_v 6 rfl (.inr (.inl rfl))) (sa_cons (sv_e se_int) sa_nil)))))) (sd_cons (se_call F_law_heard (hr.mono (by decide)) rfl (fun _ _ _ _ _ _ us hl => match us, hl with | [_, _, _, _, _], _ => rfl) (sa_cons (sv_e se_int) (sa_cons (sv_v 2 rfl (.inr (.inl rfl))) (sa_cons (sv_v 6 rfl (.inr (.inl rfl))) (sa_cons (sv_v 6 rfl (.inr (.inl rfl))) (sa_cons (sv_e (se_lst sd_nil)) sa_nil)))))) sd_nil))))) (ss_one (ss_if (st_not (st_tru (se_call F_law_same (hr.mono (by decide)) rfl (fun _ _ _ _ _ _ us hl => match us, hl with | [_, _], _ => rfl) (sa_cons (sv_v 5 rfl (.inl rfl)) (sa_cons (sv_e (se_lst (sd_cons se_int (sd_cons (se_mul (se_lst (sd_cons se_int sd_nil)) (se_v 3 rfl (.inl rfl))) (sd_cons se_int (sd_cons (se_lst sd_nil) (sd_cons se_int sd_nil))))))) sa_nil))))) (ss_one (ss_ret se_bl)) ss_nil))))))))))) (ss_one (ss_ret se_bl)))
theorem sc_law_box : FnScope ["_law_cells_here", "_law_k", "_law_cell"] ["_law_cells_here", "_law_k"] (defScope s_law_box) := ⟨rfl, rfl, rfl, by decide +kernel, rfl, by decide +kernel, by decide +kernel⟩
def c_law_box : Ct := fun os μ Φ => ∃ (cs : List Int) (k : Nat), os = [.im (.list (iL cs)), .im (.int (k : Int))] ∧ k < cs.length ∧ ∀ b p q, μ b = none → Φ (.own b) (μ.put b (bx p q 0))
theorem f_law_box (B : Bt mg) {f : Addr} {fd : FuncData} (F : Fun K "_law_box" "_law_box" s_law_box f fd) (hm : mg "_law_box" = some (.ref f)) : Fc P w K mg base "_law_box" s_law_box ["_law_cells_here", "_law_k"] 1 c_law_box := by
  have sc := sc_law_box
  refine fc_of F hm sc (fun os μ Φ h => ?_) fun cdv A outer s H E os μ Φ hr h => ?_
  · obtain ⟨cs, k, rfl, _⟩ := h
    rfl
  · obtain ⟨cs, k, rfl, hk, q⟩ := h
    refine dss_cons (ds_set 2 sc.nd rfl (.inl rfl) (de_ix (fun _ _ => rfl) (de_var 0 rfl (.inl rfl) rfl (de_var 1 rfl (.inl rfl) rfl ⟨_, _, _, .lst _, rfl, atI_iL hk, ?_⟩))))
    refine dss_one (ds_ret (de_lstO (da_cons (de_mul (de_abs B rfl (de_var 2 rfl (.inl rfl) rfl ⟨_, rfl, de_int1 B rfl (de_ge (de_abs B rfl (de_var 2 rfl (.inl rfl) rfl ⟨_, rfl, de_pow (de_int (de_int ⟨_, _, rfl, rfl, ⟨by decide, by decide, by decide⟩, ⟨_, _, rfl, rfl, .inr ⟨_, rfl, ⟨_, _, rfl, rfl, .inr c01, da_cons (de_add (de_add (de_mod (de_var 2 rfl (.inl rfl) rfl (de_int ⟨_, _, rfl, rfl, by decide, de_mul (de_int (de_var 1 rfl (.inl rfl) rfl ⟨_, _, rfl, rfl, .inl ⟨by decide, by decide⟩, .inl ⟨_, _, rfl, rfl, de_int (.inl ⟨_, _, rfl, rfl, da_cons (de_int (da_nil ⟨lz rfl, fun b hb => q b _ _ hb⟩))⟩)⟩⟩))⟩)))))⟩⟩⟩⟩))⟩)))⟩))))))
theorem sc_law_cells : FnScope ["_law_script", "_law_utmost", "_law_cells_here", "_law_k", "_law_cell"] ["_law_script", "_law_utmost"] (defScope s_law_cells) := ⟨rfl, rfl, rfl, by decide +kernel, rfl, by decide +kernel, by decide +kernel⟩
def c_law_cells (K : PySem.W.Frag) : Ct := fun os μ Φ => ∃ (ns : List Int) (u : Nat), os = [.scr K ns, .im (.int (u : Int))] ∧ 0 < u ∧ u ≤ 1000 ∧ ns.length ≤ 63 ∧ ∀ cs : List Int, cs ≠ [] → cs.length ≤ u → Φ (.im (.list (iL cs))) μ
theorem f_law_cells (B : Bt mg) {f : Addr} {fd : FuncData} (F : Fun K "_law_cells" "_law_cells" s_law_cells f fd) (hm : mg "_law_cells" = some (.ref f)) : Fc P w K mg base "_law_cells" s_law_cells ["_law_script", "_law_utmost"] 1 (c_law_cells K) := by
  have sc := sc_law_cells
  refine fc_of F hm sc (fun os μ Φ h => ?_) fun cdv A outer s H E os μ Φ hr h => ?_
  · obtain ⟨ns, u, rfl, _⟩ := h
    rfl
  · obtain ⟨ns, u, rfl, u0, u1, hn, q⟩ := h
    refine dss_cons (ds_set 2 sc.nd rfl (.inl rfl) (de_orL (de_listO B rfl (de_slS (de_var 0 rfl (.inl rfl) rfl (de_var 1 rfl (.inl rfl) rfl ⟨_, rfl, ⟨_, rfl, ⟨_, .lst _, fun p hp => ?_⟩⟩⟩))))))
    rw [cutI_to]
    have go : ∀ (p : Addr) (μ1 : Mu) (cs : List Int), Sub μ μ1 → μ p = none → μ1 p = some ((iL cs).map OV.im) → cs ≠ [] → cs.length ≤ u → (u < ns.length → cs.length = u) →
        DSs (cxOf CX0 P w K mg base ["_law_script", "_law_utmost", "_law_cells_here", "_law_k", "_law_cell"] "_law_cells" (defScope s_law_cells) f cdv A outer s H E).nox (defBody s_law_cells).tail [some (.scr K ns), some (.im (.int (u : Int))), some (.own p), none, none] μ1 { nx := fun _ μ' => Φ (.im .none) μ', rt := Φ } := by
      intro p μ1 cs hs hp h1 hc hcl hcu
      refine dss_cons (ds_for (.tp [3, 4]) PassesOwn.never rfl (pg_tup rfl (pgs_cons (pg_name (i := 3) sc.nd rfl (.inl rfl)) (pgs_cons (pg_name (i := 4) sc.nd rfl (.inl rfl)) pgs_nil))) (di_en B rfl (de_slS (de_var 0 rfl (.inl rfl) rfl (de_var 1 rfl (.inl rfl) rfl ⟨_, rfl, de_int ⟨_, rfl, ⟨_, rfl, ⟨_, .lst, ?_⟩⟩⟩⟩)))))
      refine ⟨fun i ρ' μ' => ∃ cs' x y, ρ' = [some (.scr K ns), some (.im (.int (u : Int))), some (.own p), x, y] ∧ Sub μ μ' ∧ μ' p = some ((iL cs').map OV.im) ∧ cs'.length = cs.length, ⟨cs, none, none, rfl, hs, h1, rfl⟩, fun _ _ _ _ => trivial, fun i z ρ' μ' hz hP => ?_, fun ρ' μ' hP => ?_⟩
      · obtain ⟨cs', x, y, rfl, hs', hp', hl⟩ := hP
        obtain ⟨d, hd, rfl⟩ := prs_at hz
        obtain ⟨c, hc1, rfl⟩ := iL_get hd
        have hi := (List.getElem?_eq_some_iff.mp hc1).1
        have hlen := cutI_len ns u 63
        have hi' : i < (cutI ns (some (u : Int)) (some ((63 : Nat) : Int))).length := hi
        have hul : cs'.length = u := by rw [hl]; exact hcu (by omega)
        refine ⟨_, rfl, ?_⟩
        have em : ((i : Int) % (u : Int)) = ((i % u : Nat) : Int) := by omega
        have hm' : i % u < cs'.length := by rw [hul]; exact Nat.mod_lt _ u0
        have hix : ixN ((iL cs').map OV.im).length ((i : Int) % (u : Int)) = some (i % u) := by
          rw [em]
          exact ixN_nat (by rw [List.length_map, List.length_map]; exact hm')
        refine dss_one (ds_sub (de_add (de_ix (fun _ _ => rfl) (de_var 2 rfl (.inl rfl) rfl (de_mod (de_var 3 rfl (.inl rfl) rfl (de_var 1 rfl (.inl rfl) rfl ⟨_, _, rfl, rfl, by omega, ⟨_, _, _, .own hp', rfl, (by rw [em]; exact atI_iL hm'), de_mul (de_var 4 rfl (.inl rfl) rfl (de_add (de_var 3 rfl (.inl rfl) rfl (de_int (.inl ⟨_, _, rfl, rfl, ⟨_, _, rfl, rfl, .inr ⟨by omega, by omega⟩, .inl ⟨_, _, rfl, rfl, de_var 2 rfl (.inl rfl) rfl (de_mod (de_var 3 rfl (.inl rfl) rfl (de_var 1 rfl (.inl rfl) rfl ⟨_, _, rfl, rfl, by omega, ⟨_, _, _, _, rfl, rfl, hp', hix, ?_⟩⟩)))⟩⟩⟩)))))⟩⟩)))))) (hsub := pg_sub pwe pwe set_list))
        refine ⟨cs'.set (i % u) (cs'[i % u] + c * ((i : Int) + 2)), _, _, rfl, ⟨fun a l e => ?_, hs'.2⟩, ?_, by rw [List.length_set, hl]⟩
        · rw [put_ne (ne_own e hp)]
          exact hs'.1 a l e
        · rw [put_same, ← List.map_set, ← List.map_set]
      · obtain ⟨cs', x, y, rfl, hs', hp', hl⟩ := hP
        refine dss_frz (i := 2) rfl hp' (dss_drop (μ' := μ) ⟨fun a l e => ?_, hs'.2⟩ (dss_one (ds_ret (de_var 2 rfl (.inl rfl) rfl (q cs' ?_ ?_)))))
        · show (if a = p then none else μ' a) = some l
          rw [if_neg (ne_own e hp)]
          exact hs'.1 a l e
        · intro e
          rw [e] at hl
          exact hc (List.length_eq_zero_iff.mp hl.symm)
        · omega
    by_cases hne : ns.take u = []
    · refine ⟨[], ?_, ?_⟩
      · rw [hne]
        exact .own put_same
      · rw [if_neg (by simp)]
        refine de_one (de_lstO (da_cons (de_int (da_nil ⟨lz rfl, fun p2 hp2 => ?_⟩))))
        have hp3 : μ p2 = none := by
          cases z : μ p2 with
          | none => rfl
          | some l =>
            rw [put_ne (ne_own z hp), z] at hp2
            cases hp2
        refine go p2 _ [0] ⟨fun a l e => ?_, rfl, rfl⟩ hp3 put_same (by simp) (by simp; omega) fun hu => ?_
        · rw [put_ne (ne_own e hp3), put_ne (ne_own e hp)]
          exact e
        · have := congrArg List.length hne
          rw [List.length_take, List.length_nil] at this
          omega
    · refine ⟨iL (ns.take u), .own put_same, ?_⟩
      rw [if_pos (by simpa using hne)]
      refine go p _ (ns.take u) ⟨fun a l e => ?_, rfl, rfl⟩ hp put_same hne (by rw [List.length_take]; omega) fun hu => by rw [List.length_take]; omega
      rw [put_ne (ne_own e hp)]
      exact e
abbrev N_law : List Str := ["_law_script", "_law_cells_here", "_law_k"]
theorem sc_law : FnScope N_law ["_law_script"] (defScope s_law) := ⟨rfl, rfl, rfl, by decide +kernel, rfl, by decide +kernel, by decide +kernel⟩
theorem f_law {kr : Nat} (B : Bt mg) (F_law_cells : Fc P w K mg base "_law_cells" s_law_cells ["_law_script", "_law_utmost"] 1 (c_law_cells K)) (F_law_box : Fc P w K mg base "_law_box" s_law_box ["_law_cells_here", "_law_k"] 1 c_law_box) (F_law_right : Fc P w K mg base "_law_right" s_law_right ["_law_box_here"] (kr + 1) cR) {f : Addr} {fd : FuncData} (F : Fun K "law" "law" s_law f fd) : FnG P w K mg base CX0 (kr + 2) f fd ["_law_script"] (spOf (c_law K)) := by
  have sc := sc_law
  refine fg_of F sc (fun os μ Φ h => ?_) fun cdv A outer s H E os μ Φ hr h => ?_
  · obtain ⟨ns, rfl, _⟩ := h
    rfl
  · obtain ⟨ns, rfl, hn, k⟩ := h
    refine dss_cons (ds_set 1 sc.nd rfl (.inr rfl) (de_call F_law_cells (hr.mono (by omega)) rfl (fun _ _ _ _ _ _ us hl => match us, hl with | [_, _], _ => rfl) (da_cons (de_var 0 rfl (.inl rfl) rfl (da_cons (de_int (da_nil ⟨ns, 2, rfl, by decide, by decide, hn, fun cs hc hcl => ?_⟩)))))))
    refine dss_one (ds_ret (de_all B rfl rfl (de_lc (own := [("_law_k", 2)]) (.nm 2) rfl sc.nd (blkOk_by (N := N_law) (sc := defScope s_law) (by decide +kernel)) (by decide) (fun _ _ _ _ _ => pg_name (i := 2) sc.nd rfl (.inl rfl)) (di_range1 B rfl (de_len B rfl (de_var 1 rfl (.inr (.inl rfl)) rfl ⟨_, .lst _, ⟨_, rfl, by omega, ?_, ?_⟩⟩))))))
    · rw [List.length_map, List.length_map]
      omega
    refine ⟨fun i acc μ' => acc = (List.replicate i (PyData.bool true)).map .im, ?_, rfl, fun _ _ _ _ _ _ => trivial, fun acc μ2 h => ?_, fun i acc μ2 o ho h => ?_⟩
    · simp
      omega
    · subst h
      refine ⟨_, rfl, List.replicate (List.map (fun (q : Nat) => OV.im (PyData.int (q : Int))) (List.range (((List.map OV.im (iL cs)).length : Nat) : Int).toNat)).length true, ?_, ?_⟩
      · rw [show ∀ m : Nat, List.map PyData.bool (List.replicate m true) = List.replicate m (PyData.bool true) from fun m => List.map_replicate]
        exact .im _
      · rw [show ∀ n, (List.replicate n true).all id = true from fun n => by simp]
        exact k _
    · subst h
      have hi : i < cs.length := by simpa using (List.getElem?_eq_some_iff.mp ho).1
      simp only [List.length_map, Int.toNat_natCast, List.getElem?_map, List.getElem?_range hi, Option.map_some, Option.some.injEq] at ho
      subst ho
      refine ⟨_, rfl, fun Dl hDl => ?_⟩
      dsimp only [DTb]
      rw [if_pos rfl]
      intro s1 H1 C1 cl1 fp1
      refine de_call F_law_right hr rfl (fun _ _ _ _ _ _ us hl => match us, hl with | [_], _ => rfl) (da_cons (de_call F_law_box (hr.mono (by omega)) rfl (fun _ _ _ _ _ _ us hl => match us, hl with | [_, _], _ => rfl) (da_cons (de_v 1 rfl (da_cons (de_v 2 rfl (da_nil ⟨cs, i, rfl, hi, fun b p q hb => da_nil ⟨b, p, q, 0, rfl, put_same, fun μ3 s3 => ?_⟩⟩)))))))
      have nD : Dl ≠ b := ne_own put_same hb
      obtain ⟨pb1, pb2⟩ := put_back (s3.old Dl _ nD ((put_ne nD).trans put_same))
      refine ⟨μ3.del Dl, pb1, pb2, ?_⟩
      rw [List.replicate_succ', List.map_append]
      rfl
end
theorem all_mk {l : PySem.W.OpenLaw} {w : World} {K : PySem.W.Frag} {h : Heap} {mg : Str → Option Value} {fa : Addr} (X : K.In h) (G : h.Ns mainGlobals mg) (hfa : mg "law" = some (.ref fa))
    {f0 : Addr} {od0 an0 : Option Addr} {sl0 : Array (Option Value)} {oc0 kV0 dc0 pm0 cd0 ct0 : Value} (a0 : PySem.W.nsIn K mainGlobals "spot" = some (some (.ref f0))) (l0 : K.lookup f0 = some ⟨oc0, od0, .func (PySem.W.fnOf "spot" "spot" (defArgs s_spot) (defBody s_spot) (defScope s_spot) .none kV0 dc0 pm0 an0 cd0 ct0), sl0⟩) (c0 : PySem.W.codeIn K cd0 "spot" = true) (k0 : PySem.W.keepIn K (.ref f0) = true)
    {f1 : Addr} {od1 an1 : Option Addr} {sl1 : Array (Option Value)} {oc1 kV1 dc1 pm1 cd1 ct1 : Value} (a1 : PySem.W.nsIn K mainGlobals "steps_with" = some (some (.ref f1))) (l1 : K.lookup f1 = some ⟨oc1, od1, .func (PySem.W.fnOf "steps_with" "steps_with" (defArgs s_steps_with) (defBody s_steps_with) (defScope s_steps_with) .none kV1 dc1 pm1 an1 cd1 ct1), sl1⟩) (c1 : PySem.W.codeIn K cd1 "steps_with" = true) (k1 : PySem.W.keepIn K (.ref f1) = true)
    {f2 : Addr} {od2 an2 : Option Addr} {sl2 : Array (Option Value)} {oc2 kV2 dc2 pm2 cd2 ct2 : Value} (a2 : PySem.W.nsIn K mainGlobals "fewest_steps" = some (some (.ref f2))) (l2 : K.lookup f2 = some ⟨oc2, od2, .func (PySem.W.fnOf "fewest_steps" "fewest_steps" (defArgs s_fewest_steps) (defBody s_fewest_steps) (defScope s_fewest_steps) .none kV2 dc2 pm2 an2 cd2 ct2), sl2⟩) (c2 : PySem.W.codeIn K cd2 "fewest_steps" = true) (k2 : PySem.W.keepIn K (.ref f2) = true)
    {f3 : Addr} {od3 an3 : Option Addr} {sl3 : Array (Option Value)} {oc3 kV3 dc3 pm3 cd3 ct3 : Value} (a3 : PySem.W.nsIn K mainGlobals "fewest_calls" = some (some (.ref f3))) (l3 : K.lookup f3 = some ⟨oc3, od3, .func (PySem.W.fnOf "fewest_calls" "fewest_calls" (defArgs s_fewest_calls) (defBody s_fewest_calls) (defScope s_fewest_calls) .none kV3 dc3 pm3 an3 cd3 ct3), sl3⟩) (c3 : PySem.W.codeIn K cd3 "fewest_calls" = true) (k3 : PySem.W.keepIn K (.ref f3) = true)
    {f4 : Addr} {od4 an4 : Option Addr} {sl4 : Array (Option Value)} {oc4 kV4 dc4 pm4 cd4 ct4 : Value} (a4 : PySem.W.nsIn K mainGlobals "distance_before" = some (some (.ref f4))) (l4 : K.lookup f4 = some ⟨oc4, od4, .func (PySem.W.fnOf "distance_before" "distance_before" (defArgs s_distance_before) (defBody s_distance_before) (defScope s_distance_before) .none kV4 dc4 pm4 an4 cd4 ct4), sl4⟩) (c4 : PySem.W.codeIn K cd4 "distance_before" = true) (k4 : PySem.W.keepIn K (.ref f4) = true)
    {f5 : Addr} {od5 an5 : Option Addr} {sl5 : Array (Option Value)} {oc5 kV5 dc5 pm5 cd5 ct5 : Value} (a5 : PySem.W.nsIn K mainGlobals "chain_people" = some (some (.ref f5))) (l5 : K.lookup f5 = some ⟨oc5, od5, .func (PySem.W.fnOf "chain_people" "chain_people" (defArgs s_chain_people) (defBody s_chain_people) (defScope s_chain_people) .none kV5 dc5 pm5 an5 cd5 ct5), sl5⟩) (c5 : PySem.W.codeIn K cd5 "chain_people" = true) (k5 : PySem.W.keepIn K (.ref f5) = true)
    {f6 : Addr} {od6 an6 : Option Addr} {sl6 : Array (Option Value)} {oc6 kV6 dc6 pm6 cd6 ct6 : Value} (a6 : PySem.W.nsIn K mainGlobals "chains_between" = some (some (.ref f6))) (l6 : K.lookup f6 = some ⟨oc6, od6, .func (PySem.W.fnOf "chains_between" "chains_between" (defArgs s_chains_between) (defBody s_chains_between) (defScope s_chains_between) .none kV6 dc6 pm6 an6 cd6 ct6), sl6⟩) (c6 : PySem.W.codeIn K cd6 "chains_between" = true) (k6 : PySem.W.keepIn K (.ref f6) = true)
    {f7 : Addr} {od7 an7 : Option Addr} {sl7 : Array (Option Value)} {oc7 kV7 dc7 pm7 cd7 ct7 : Value} (a7 : PySem.W.nsIn K mainGlobals "orders_many" = some (some (.ref f7))) (l7 : K.lookup f7 = some ⟨oc7, od7, .func (PySem.W.fnOf "orders_many" "orders_many" (defArgs s_orders_many) (defBody s_orders_many) (defScope s_orders_many) .none kV7 dc7 pm7 an7 cd7 ct7), sl7⟩) (c7 : PySem.W.codeIn K cd7 "orders_many" = true) (k7 : PySem.W.keepIn K (.ref f7) = true)
    {f8 : Addr} {od8 an8 : Option Addr} {sl8 : Array (Option Value)} {oc8 kV8 dc8 pm8 cd8 ct8 : Value} (a8 : PySem.W.nsIn K mainGlobals "mixed_many" = some (some (.ref f8))) (l8 : K.lookup f8 = some ⟨oc8, od8, .func (PySem.W.fnOf "mixed_many" "mixed_many" (defArgs s_mixed_many) (defBody s_mixed_many) (defScope s_mixed_many) .none kV8 dc8 pm8 an8 cd8 ct8), sl8⟩) (c8 : PySem.W.codeIn K cd8 "mixed_many" = true) (k8 : PySem.W.keepIn K (.ref f8) = true)
    {f9 : Addr} {od9 an9 : Option Addr} {sl9 : Array (Option Value)} {oc9 kV9 dc9 pm9 cd9 ct9 : Value} (a9 : PySem.W.nsIn K mainGlobals "chains_after" = some (some (.ref f9))) (l9 : K.lookup f9 = some ⟨oc9, od9, .func (PySem.W.fnOf "chains_after" "chains_after" (defArgs s_chains_after) (defBody s_chains_after) (defScope s_chains_after) .none kV9 dc9 pm9 an9 cd9 ct9), sl9⟩) (c9 : PySem.W.codeIn K cd9 "chains_after" = true) (k9 : PySem.W.keepIn K (.ref f9) = true)
    {f10 : Addr} {od10 an10 : Option Addr} {sl10 : Array (Option Value)} {oc10 kV10 dc10 pm10 cd10 ct10 : Value} (a10 : PySem.W.nsIn K mainGlobals "next_chairs" = some (some (.ref f10))) (l10 : K.lookup f10 = some ⟨oc10, od10, .func (PySem.W.fnOf "next_chairs" "next_chairs" (defArgs s_next_chairs) (defBody s_next_chairs) (defScope s_next_chairs) .none kV10 dc10 pm10 an10 cd10 ct10), sl10⟩) (c10 : PySem.W.codeIn K cd10 "next_chairs" = true) (k10 : PySem.W.keepIn K (.ref f10) = true)
    {f11 : Addr} {od11 an11 : Option Addr} {sl11 : Array (Option Value)} {oc11 kV11 dc11 pm11 cd11 ct11 : Value} (a11 : PySem.W.nsIn K mainGlobals "lesser_many" = some (some (.ref f11))) (l11 : K.lookup f11 = some ⟨oc11, od11, .func (PySem.W.fnOf "lesser_many" "lesser_many" (defArgs s_lesser_many) (defBody s_lesser_many) (defScope s_lesser_many) .none kV11 dc11 pm11 an11 cd11 ct11), sl11⟩) (c11 : PySem.W.codeIn K cd11 "lesser_many" = true) (k11 : PySem.W.keepIn K (.ref f11) = true)
    {f12 : Addr} {od12 an12 : Option Addr} {sl12 : Array (Option Value)} {oc12 kV12 dc12 pm12 cd12 ct12 : Value} (a12 : PySem.W.nsIn K mainGlobals "ways_many" = some (some (.ref f12))) (l12 : K.lookup f12 = some ⟨oc12, od12, .func (PySem.W.fnOf "ways_many" "ways_many" (defArgs s_ways_many) (defBody s_ways_many) (defScope s_ways_many) .none kV12 dc12 pm12 an12 cd12 ct12), sl12⟩) (c12 : PySem.W.codeIn K cd12 "ways_many" = true) (k12 : PySem.W.keepIn K (.ref f12) = true)
    {f13 : Addr} {od13 an13 : Option Addr} {sl13 : Array (Option Value)} {oc13 kV13 dc13 pm13 cd13 ct13 : Value} (a13 : PySem.W.nsIn K mainGlobals "way_at" = some (some (.ref f13))) (l13 : K.lookup f13 = some ⟨oc13, od13, .func (PySem.W.fnOf "way_at" "way_at" (defArgs s_way_at) (defBody s_way_at) (defScope s_way_at) .none kV13 dc13 pm13 an13 cd13 ct13), sl13⟩) (c13 : PySem.W.codeIn K cd13 "way_at" = true) (k13 : PySem.W.keepIn K (.ref f13) = true)
    {f14 : Addr} {od14 an14 : Option Addr} {sl14 : Array (Option Value)} {oc14 kV14 dc14 pm14 cd14 ct14 : Value} (a14 : PySem.W.nsIn K mainGlobals "way_number" = some (some (.ref f14))) (l14 : K.lookup f14 = some ⟨oc14, od14, .func (PySem.W.fnOf "way_number" "way_number" (defArgs s_way_number) (defBody s_way_number) (defScope s_way_number) .none kV14 dc14 pm14 an14 cd14 ct14), sl14⟩) (c14 : PySem.W.codeIn K cd14 "way_number" = true) (k14 : PySem.W.keepIn K (.ref f14) = true)
    {f15 : Addr} {od15 an15 : Option Addr} {sl15 : Array (Option Value)} {oc15 kV15 dc15 pm15 cd15 ct15 : Value} (a15 : PySem.W.nsIn K mainGlobals "_law_box" = some (some (.ref f15))) (l15 : K.lookup f15 = some ⟨oc15, od15, .func (PySem.W.fnOf "_law_box" "_law_box" (defArgs s_law_box) (defBody s_law_box) (defScope s_law_box) .none kV15 dc15 pm15 an15 cd15 ct15), sl15⟩) (c15 : PySem.W.codeIn K cd15 "_law_box" = true) (k15 : PySem.W.keepIn K (.ref f15) = true)
    {f16 : Addr} {od16 an16 : Option Addr} {sl16 : Array (Option Value)} {oc16 kV16 dc16 pm16 cd16 ct16 : Value} (a16 : PySem.W.nsIn K mainGlobals "_law_take" = some (some (.ref f16))) (l16 : K.lookup f16 = some ⟨oc16, od16, .func (PySem.W.fnOf "_law_take" "_law_take" (defArgs s_law_take) (defBody s_law_take) (defScope s_law_take) .none kV16 dc16 pm16 an16 cd16 ct16), sl16⟩) (c16 : PySem.W.codeIn K cd16 "_law_take" = true) (k16 : PySem.W.keepIn K (.ref f16) = true)
    {f17 : Addr} {od17 an17 : Option Addr} {sl17 : Array (Option Value)} {oc17 kV17 dc17 pm17 cd17 ct17 : Value} (a17 : PySem.W.nsIn K mainGlobals "_law_cells" = some (some (.ref f17))) (l17 : K.lookup f17 = some ⟨oc17, od17, .func (PySem.W.fnOf "_law_cells" "_law_cells" (defArgs s_law_cells) (defBody s_law_cells) (defScope s_law_cells) .none kV17 dc17 pm17 an17 cd17 ct17), sl17⟩) (c17 : PySem.W.codeIn K cd17 "_law_cells" = true) (k17 : PySem.W.keepIn K (.ref f17) = true)
    {f18 : Addr} {od18 an18 : Option Addr} {sl18 : Array (Option Value)} {oc18 kV18 dc18 pm18 cd18 ct18 : Value} (a18 : PySem.W.nsIn K mainGlobals "_law_strewn" = some (some (.ref f18))) (l18 : K.lookup f18 = some ⟨oc18, od18, .func (PySem.W.fnOf "_law_strewn" "_law_strewn" (defArgs s_law_strewn) (defBody s_law_strewn) (defScope s_law_strewn) .none kV18 dc18 pm18 an18 cd18 ct18), sl18⟩) (c18 : PySem.W.codeIn K cd18 "_law_strewn" = true) (k18 : PySem.W.keepIn K (.ref f18) = true)
    {f19 : Addr} {od19 an19 : Option Addr} {sl19 : Array (Option Value)} {oc19 kV19 dc19 pm19 cd19 ct19 : Value} (a19 : PySem.W.nsIn K mainGlobals "_law_same" = some (some (.ref f19))) (l19 : K.lookup f19 = some ⟨oc19, od19, .func (PySem.W.fnOf "_law_same" "_law_same" (defArgs s_law_same) (defBody s_law_same) (defScope s_law_same) .none kV19 dc19 pm19 an19 cd19 ct19), sl19⟩) (c19 : PySem.W.codeIn K cd19 "_law_same" = true) (k19 : PySem.W.keepIn K (.ref f19) = true)
    {f20 : Addr} {od20 an20 : Option Addr} {sl20 : Array (Option Value)} {oc20 kV20 dc20 pm20 cd20 ct20 : Value} (a20 : PySem.W.nsIn K mainGlobals "_law_crowd" = some (some (.ref f20))) (l20 : K.lookup f20 = some ⟨oc20, od20, .func (PySem.W.fnOf "_law_crowd" "_law_crowd" (defArgs s_law_crowd) (defBody s_law_crowd) (defScope s_law_crowd) .none kV20 dc20 pm20 an20 cd20 ct20), sl20⟩) (c20 : PySem.W.codeIn K cd20 "_law_crowd" = true) (k20 : PySem.W.keepIn K (.ref f20) = true)
    {f21 : Addr} {od21 an21 : Option Addr} {sl21 : Array (Option Value)} {oc21 kV21 dc21 pm21 cd21 ct21 : Value} (a21 : PySem.W.nsIn K mainGlobals "_law_heard" = some (some (.ref f21))) (l21 : K.lookup f21 = some ⟨oc21, od21, .func (PySem.W.fnOf "_law_heard" "_law_heard" (defArgs s_law_heard) (defBody s_law_heard) (defScope s_law_heard) .none kV21 dc21 pm21 an21 cd21 ct21), sl21⟩) (c21 : PySem.W.codeIn K cd21 "_law_heard" = true) (k21 : PySem.W.keepIn K (.ref f21) = true)
    {f22 : Addr} {od22 an22 : Option Addr} {sl22 : Array (Option Value)} {oc22 kV22 dc22 pm22 cd22 ct22 : Value} (a22 : PySem.W.nsIn K mainGlobals "_law_pair_right" = some (some (.ref f22))) (l22 : K.lookup f22 = some ⟨oc22, od22, .func (PySem.W.fnOf "_law_pair_right" "_law_pair_right" (defArgs s_law_pair_right) (defBody s_law_pair_right) (defScope s_law_pair_right) .none kV22 dc22 pm22 an22 cd22 ct22), sl22⟩) (c22 : PySem.W.codeIn K cd22 "_law_pair_right" = true) (k22 : PySem.W.keepIn K (.ref f22) = true)
    {f23 : Addr} {od23 an23 : Option Addr} {sl23 : Array (Option Value)} {oc23 kV23 dc23 pm23 cd23 ct23 : Value} (a23 : PySem.W.nsIn K mainGlobals "_law_right" = some (some (.ref f23))) (l23 : K.lookup f23 = some ⟨oc23, od23, .func (PySem.W.fnOf "_law_right" "_law_right" (defArgs s_law_right) (defBody s_law_right) (defScope s_law_right) .none kV23 dc23 pm23 an23 cd23 ct23), sl23⟩) (c23 : PySem.W.codeIn K cd23 "_law_right" = true) (k23 : PySem.W.keepIn K (.ref f23) = true)
    {f24 : Addr} {od24 an24 : Option Addr} {sl24 : Array (Option Value)} {oc24 kV24 dc24 pm24 cd24 ct24 : Value} (a24 : PySem.W.nsIn K mainGlobals "law" = some (some (.ref f24))) (l24 : K.lookup f24 = some ⟨oc24, od24, .func (PySem.W.fnOf "law" "law" (defArgs s_law) (defBody s_law) (defScope s_law) .none kV24 dc24 pm24 an24 cd24 ct24), sl24⟩) (c24 : PySem.W.codeIn K cd24 "law" = true) (k24 : PySem.W.keepIn K (.ref f24) = true)
    {C_NotWay N_NotWay : Addr} {nm_NotWay q_NotWay : Str} {bs_NotWay : List Value} {sn_NotWay : List Str} {su_NotWay : List Value} {ab_NotWay : Bool} {co_NotWay : Option Bool} {dd_NotWay : Option Addr} {m0_NotWay m1_NotWay m2_NotWay m3_NotWay m5_NotWay : Option Value} (aC_NotWay : PySem.W.nsIn K mainGlobals "NotWay" = some (some (.ref C_NotWay))) (xL_NotWay : K.lookup C_NotWay = some (excClassObj nm_NotWay q_NotWay C_NotWay N_NotWay bs_NotWay [.type "ValueError", .type "Exception", .type "BaseException", .type "object"] true sn_NotWay su_NotWay ab_NotWay co_NotWay dd_NotWay m0_NotWay m1_NotWay m2_NotWay m3_NotWay m5_NotWay "ValueError.__new__")) (eC_NotWay : PySem.W.subIn K (.ref C_NotWay) (.type "BaseException") = some true) (tC_NotWay : PySem.W.typeIn K (.ref C_NotWay) = some (.type "type"))
    {fI_NotWay : Addr} {odI_NotWay anI_NotWay : Option Addr} {slI_NotWay : Array (Option Value)} {ocI_NotWay kVI_NotWay dcI_NotWay pmI_NotWay cdI_NotWay ctI_NotWay : Value} (sa_NotWay : (PySem.W.findIn K (.ref C_NotWay) "__setattr__" = some (some (.builtin "object.__setattr__")))) (ga_NotWay : (PySem.W.findIn K (.ref C_NotWay) "__getattribute__" = some (some (.builtin "BaseException.__getattribute__")))) (gg_NotWay : (PySem.W.findIn K (.ref C_NotWay) "__getattr__" = some none)) (no_NotWay : (PySem.W.findIn K (.ref C_NotWay) "way" = some none)) (cc_NotWay : (PySem.W.findIn K (.ref C_NotWay) "__class__" = some (some (.builtin "object.__class__")))) (iC_NotWay : (PySem.W.findIn K (.ref C_NotWay) "__init__" = some (some (.ref fI_NotWay)))) (tI_NotWay : PySem.W.typeIn K (.ref fI_NotWay) = some (.type "function")) (lI_NotWay : K.lookup fI_NotWay = some ⟨ocI_NotWay, odI_NotWay, .func (PySem.W.fnOf "__init__" "NotWay.__init__" (defArgs sC_NotWay) (defBody sC_NotWay) (defScope sC_NotWay) .none kVI_NotWay dcI_NotWay pmI_NotWay anI_NotWay cdI_NotWay ctI_NotWay), slI_NotWay⟩) (cI_NotWay : PySem.W.codeIn K cdI_NotWay "NotWay.__init__" = true) (kI_NotWay : PySem.W.keepIn K (.ref fI_NotWay) = true) (kC_NotWay : PySem.W.keepIn K (.ref C_NotWay) = true) (hC_NotWay : PySem.W.hasDictIn K C_NotWay = true) (oC_NotWay : PySem.W.mroIn K C_NotWay (.type "object") = some true)
    {C_BadLine N_BadLine : Addr} {nm_BadLine q_BadLine : Str} {bs_BadLine : List Value} {sn_BadLine : List Str} {su_BadLine : List Value} {ab_BadLine : Bool} {co_BadLine : Option Bool} {dd_BadLine : Option Addr} {m0_BadLine m1_BadLine m2_BadLine m3_BadLine m5_BadLine : Option Value} (aC_BadLine : PySem.W.nsIn K mainGlobals "BadLine" = some (some (.ref C_BadLine))) (xL_BadLine : K.lookup C_BadLine = some (excClassObj nm_BadLine q_BadLine C_BadLine N_BadLine bs_BadLine [.type "ValueError", .type "Exception", .type "BaseException", .type "object"] true sn_BadLine su_BadLine ab_BadLine co_BadLine dd_BadLine m0_BadLine m1_BadLine m2_BadLine m3_BadLine m5_BadLine "ValueError.__new__")) (eC_BadLine : PySem.W.subIn K (.ref C_BadLine) (.type "BaseException") = some true) (tC_BadLine : PySem.W.typeIn K (.ref C_BadLine) = some (.type "type"))
    {C_BadScript N_BadScript : Addr} {nm_BadScript q_BadScript : Str} {bs_BadScript : List Value} {sn_BadScript : List Str} {su_BadScript : List Value} {ab_BadScript : Bool} {co_BadScript : Option Bool} {dd_BadScript : Option Addr} {m0_BadScript m1_BadScript m2_BadScript m3_BadScript m5_BadScript : Option Value} (aC_BadScript : PySem.W.nsIn K mainGlobals "BadScript" = some (some (.ref C_BadScript))) (xL_BadScript : K.lookup C_BadScript = some (excClassObj nm_BadScript q_BadScript C_BadScript N_BadScript bs_BadScript [.type "ValueError", .type "Exception", .type "BaseException", .type "object"] true sn_BadScript su_BadScript ab_BadScript co_BadScript dd_BadScript m0_BadScript m1_BadScript m2_BadScript m3_BadScript m5_BadScript "ValueError.__new__")) (eC_BadScript : PySem.W.subIn K (.ref C_BadScript) (.type "BaseException") = some true) (tC_BadScript : PySem.W.typeIn K (.ref C_BadScript) = some (.type "type"))
    {C_NoNumber N_NoNumber : Addr} {nm_NoNumber q_NoNumber : Str} {bs_NoNumber : List Value} {sn_NoNumber : List Str} {su_NoNumber : List Value} {ab_NoNumber : Bool} {co_NoNumber : Option Bool} {dd_NoNumber : Option Addr} {m0_NoNumber m1_NoNumber m2_NoNumber m3_NoNumber m5_NoNumber : Option Value} (aC_NoNumber : PySem.W.nsIn K mainGlobals "NoNumber" = some (some (.ref C_NoNumber))) (xL_NoNumber : K.lookup C_NoNumber = some (excClassObj nm_NoNumber q_NoNumber C_NoNumber N_NoNumber bs_NoNumber [.type "LookupError", .type "Exception", .type "BaseException", .type "object"] true sn_NoNumber su_NoNumber ab_NoNumber co_NoNumber dd_NoNumber m0_NoNumber m1_NoNumber m2_NoNumber m3_NoNumber m5_NoNumber "LookupError.__new__")) (eC_NoNumber : PySem.W.subIn K (.ref C_NoNumber) (.type "BaseException") = some true) (tC_NoNumber : PySem.W.typeIn K (.ref C_NoNumber) = some (.type "type"))
    {fI_NoNumber : Addr} {odI_NoNumber anI_NoNumber : Option Addr} {slI_NoNumber : Array (Option Value)} {ocI_NoNumber kVI_NoNumber dcI_NoNumber pmI_NoNumber cdI_NoNumber ctI_NoNumber : Value} (sa_NoNumber : (PySem.W.findIn K (.ref C_NoNumber) "__setattr__" = some (some (.builtin "object.__setattr__")))) (ga_NoNumber : (PySem.W.findIn K (.ref C_NoNumber) "__getattribute__" = some (some (.builtin "BaseException.__getattribute__")))) (gg_NoNumber : (PySem.W.findIn K (.ref C_NoNumber) "__getattr__" = some none)) (no_NoNumber : (PySem.W.findIn K (.ref C_NoNumber) "number" = some none)) (cc_NoNumber : (PySem.W.findIn K (.ref C_NoNumber) "__class__" = some (some (.builtin "object.__class__")))) (iC_NoNumber : (PySem.W.findIn K (.ref C_NoNumber) "__init__" = some (some (.ref fI_NoNumber)))) (tI_NoNumber : PySem.W.typeIn K (.ref fI_NoNumber) = some (.type "function")) (lI_NoNumber : K.lookup fI_NoNumber = some ⟨ocI_NoNumber, odI_NoNumber, .func (PySem.W.fnOf "__init__" "NoNumber.__init__" (defArgs sC_NoNumber) (defBody sC_NoNumber) (defScope sC_NoNumber) .none kVI_NoNumber dcI_NoNumber pmI_NoNumber anI_NoNumber cdI_NoNumber ctI_NoNumber), slI_NoNumber⟩) (cI_NoNumber : PySem.W.codeIn K cdI_NoNumber "NoNumber.__init__" = true) (kI_NoNumber : PySem.W.keepIn K (.ref fI_NoNumber) = true) (kC_NoNumber : PySem.W.keepIn K (.ref C_NoNumber) = true) (hC_NoNumber : PySem.W.hasDictIn K C_NoNumber = true) (oC_NoNumber : PySem.W.mroIn K C_NoNumber (.type "object") = some true)
    {C_NoChair N_NoChair : Addr} {nm_NoChair q_NoChair : Str} {bs_NoChair : List Value} {sn_NoChair : List Str} {su_NoChair : List Value} {ab_NoChair : Bool} {co_NoChair : Option Bool} {dd_NoChair : Option Addr} {m0_NoChair m1_NoChair m2_NoChair m3_NoChair m5_NoChair : Option Value} (aC_NoChair : PySem.W.nsIn K mainGlobals "NoChair" = some (some (.ref C_NoChair))) (xL_NoChair : K.lookup C_NoChair = some (excClassObj nm_NoChair q_NoChair C_NoChair N_NoChair bs_NoChair [.type "LookupError", .type "Exception", .type "BaseException", .type "object"] true sn_NoChair su_NoChair ab_NoChair co_NoChair dd_NoChair m0_NoChair m1_NoChair m2_NoChair m3_NoChair m5_NoChair "LookupError.__new__")) (eC_NoChair : PySem.W.subIn K (.ref C_NoChair) (.type "BaseException") = some true) (tC_NoChair : PySem.W.typeIn K (.ref C_NoChair) = some (.type "type"))
    {C_OtherPeople N_OtherPeople : Addr} {nm_OtherPeople q_OtherPeople : Str} {bs_OtherPeople : List Value} {sn_OtherPeople : List Str} {su_OtherPeople : List Value} {ab_OtherPeople : Bool} {co_OtherPeople : Option Bool} {dd_OtherPeople : Option Addr} {m0_OtherPeople m1_OtherPeople m2_OtherPeople m3_OtherPeople m5_OtherPeople : Option Value} (aC_OtherPeople : PySem.W.nsIn K mainGlobals "OtherPeople" = some (some (.ref C_OtherPeople))) (xL_OtherPeople : K.lookup C_OtherPeople = some (excClassObj nm_OtherPeople q_OtherPeople C_OtherPeople N_OtherPeople bs_OtherPeople [.type "RuntimeError", .type "Exception", .type "BaseException", .type "object"] true sn_OtherPeople su_OtherPeople ab_OtherPeople co_OtherPeople dd_OtherPeople m0_OtherPeople m1_OtherPeople m2_OtherPeople m3_OtherPeople m5_OtherPeople "RuntimeError.__new__")) (eC_OtherPeople : PySem.W.subIn K (.ref C_OtherPeople) (.type "BaseException") = some true) (tC_OtherPeople : PySem.W.typeIn K (.ref C_OtherPeople) = some (.type "type"))
    {fI_OtherPeople : Addr} {odI_OtherPeople anI_OtherPeople : Option Addr} {slI_OtherPeople : Array (Option Value)} {ocI_OtherPeople kVI_OtherPeople dcI_OtherPeople pmI_OtherPeople cdI_OtherPeople ctI_OtherPeople : Value} (sa_OtherPeople : (PySem.W.findIn K (.ref C_OtherPeople) "__setattr__" = some (some (.builtin "object.__setattr__")))) (ga_OtherPeople : (PySem.W.findIn K (.ref C_OtherPeople) "__getattribute__" = some (some (.builtin "BaseException.__getattribute__")))) (gg_OtherPeople : (PySem.W.findIn K (.ref C_OtherPeople) "__getattr__" = some none)) (no_OtherPeople : (PySem.W.findIn K (.ref C_OtherPeople) "many" = some none)) (cc_OtherPeople : (PySem.W.findIn K (.ref C_OtherPeople) "__class__" = some (some (.builtin "object.__class__")))) (iC_OtherPeople : (PySem.W.findIn K (.ref C_OtherPeople) "__init__" = some (some (.ref fI_OtherPeople)))) (tI_OtherPeople : PySem.W.typeIn K (.ref fI_OtherPeople) = some (.type "function")) (lI_OtherPeople : K.lookup fI_OtherPeople = some ⟨ocI_OtherPeople, odI_OtherPeople, .func (PySem.W.fnOf "__init__" "OtherPeople.__init__" (defArgs sC_OtherPeople) (defBody sC_OtherPeople) (defScope sC_OtherPeople) .none kVI_OtherPeople dcI_OtherPeople pmI_OtherPeople anI_OtherPeople cdI_OtherPeople ctI_OtherPeople), slI_OtherPeople⟩) (cI_OtherPeople : PySem.W.codeIn K cdI_OtherPeople "OtherPeople.__init__" = true) (kI_OtherPeople : PySem.W.keepIn K (.ref fI_OtherPeople) = true) (kC_OtherPeople : PySem.W.keepIn K (.ref C_OtherPeople) = true) (hC_OtherPeople : PySem.W.hasDictIn K C_OtherPeople = true) (oC_OtherPeople : PySem.W.mroIn K C_OtherPeople (.type "object") = some true)
    (s_NotWay_NotWay : PySem.W.subIn K (.ref C_NotWay) (.ref C_NotWay) = some true)
    (s_NotWay_BadLine : PySem.W.subIn K (.ref C_NotWay) (.ref C_BadLine) = some false)
    (s_NotWay_BadScript : PySem.W.subIn K (.ref C_NotWay) (.ref C_BadScript) = some false)
    (s_NotWay_NoNumber : PySem.W.subIn K (.ref C_NotWay) (.ref C_NoNumber) = some false)
    (s_NotWay_NoChair : PySem.W.subIn K (.ref C_NotWay) (.ref C_NoChair) = some false)
    (s_NotWay_OtherPeople : PySem.W.subIn K (.ref C_NotWay) (.ref C_OtherPeople) = some false)
    (s_NoNumber_NotWay : PySem.W.subIn K (.ref C_NoNumber) (.ref C_NotWay) = some false)
    (s_NoNumber_BadLine : PySem.W.subIn K (.ref C_NoNumber) (.ref C_BadLine) = some false)
    (s_NoNumber_BadScript : PySem.W.subIn K (.ref C_NoNumber) (.ref C_BadScript) = some false)
    (s_NoNumber_NoNumber : PySem.W.subIn K (.ref C_NoNumber) (.ref C_NoNumber) = some true)
    (s_NoNumber_NoChair : PySem.W.subIn K (.ref C_NoNumber) (.ref C_NoChair) = some false)
    (s_NoNumber_OtherPeople : PySem.W.subIn K (.ref C_NoNumber) (.ref C_OtherPeople) = some false)
    (s_OtherPeople_NotWay : PySem.W.subIn K (.ref C_OtherPeople) (.ref C_NotWay) = some false)
    (s_OtherPeople_BadLine : PySem.W.subIn K (.ref C_OtherPeople) (.ref C_BadLine) = some false)
    (s_OtherPeople_BadScript : PySem.W.subIn K (.ref C_OtherPeople) (.ref C_BadScript) = some false)
    (s_OtherPeople_NoNumber : PySem.W.subIn K (.ref C_OtherPeople) (.ref C_NoNumber) = some false)
    (s_OtherPeople_NoChair : PySem.W.subIn K (.ref C_OtherPeople) (.ref C_NoChair) = some false)
    (s_OtherPeople_OtherPeople : PySem.W.subIn K (.ref C_OtherPeople) (.ref C_OtherPeople) = some true)
    (gsO : PySem.W.specialIn K (.builtin "object.__class__") "__get__" = some (some (.builtin "getset_descriptor.__get__"))) (tkO : PySem.W.takesIn K (.builtin "object.__class__") = some true) (sRE : PySem.W.subIn K (.ref C_OtherPeople) (.type "RuntimeError") = some true)
    (vV_ValueError : PySem.W.findCls K (.type "ValueError") (.type "type") "__init__" = some (.val (.builtin "ValueError.__init__"))) (zB_ValueError : PySem.W.nsIn K mainGlobals "ValueError" = some none)
    (vV_LookupError : PySem.W.findCls K (.type "LookupError") (.type "type") "__init__" = some (.val (.builtin "LookupError.__init__"))) (zB_LookupError : PySem.W.nsIn K mainGlobals "LookupError" = some none)
    (vV_RuntimeError : PySem.W.findCls K (.type "RuntimeError") (.type "type") "__init__" = some (.val (.builtin "RuntimeError.__init__"))) (zB_RuntimeError : PySem.W.nsIn K mainGlobals "RuntimeError" = some none)
    (z_len : PySem.W.nsIn K mainGlobals "len" = some none)
    (z_range : PySem.W.nsIn K mainGlobals "range" = some none)
    (z_list : PySem.W.nsIn K mainGlobals "list" = some none)
    (z_tuple : PySem.W.nsIn K mainGlobals "tuple" = some none)
    (z_sorted : PySem.W.nsIn K mainGlobals "sorted" = some none)
    (z_abs : PySem.W.nsIn K mainGlobals "abs" = some none)
    (z_int : PySem.W.nsIn K mainGlobals "int" = some none)
    (z_str : PySem.W.nsIn K mainGlobals "str" = some none)
    (z_repr : PySem.W.nsIn K mainGlobals "repr" = some none)
    (z_all : PySem.W.nsIn K mainGlobals "all" = some none)
    (z_any : PySem.W.nsIn K mainGlobals "any" = some none)
    (z_max : PySem.W.nsIn K mainGlobals "max" = some none)
    (z_min : PySem.W.nsIn K mainGlobals "min" = some none)
    (z_sum : PySem.W.nsIn K mainGlobals "sum" = some none)
    (z_enumerate : PySem.W.nsIn K mainGlobals "enumerate" = some none)
    (z_zip : PySem.W.nsIn K mainGlobals "zip" = some none)
    (z_isinstance : PySem.W.nsIn K mainGlobals "isinstance" = some none)
    (z_bool : PySem.W.nsIn K mainGlobals "bool" = some none)
    (z_set : PySem.W.nsIn K mainGlobals "set" = some none)
    (z_dict : PySem.W.nsIn K mainGlobals "dict" = some none)
    : ∃ fd : FuncData, (∀ (s : Shared) (v : Value), BindsTo s fd ⟨[v], []⟩ [("_law_script", v)]) ∧ ∀ base : Heap, K.In base → base.Ns mainGlobals mg → FnG l.prog w K mg base CX0 10 fa fd ["_law_script"] (spOf (c_law K)) := by
  have e := hfa.symm.trans (PySem.W.mg_of X G a24)
  cases e
  have B : Bt mg := ⟨PySem.W.mg_none_of X G z_len, PySem.W.mg_none_of X G z_range, PySem.W.mg_none_of X G z_list, PySem.W.mg_none_of X G z_tuple, PySem.W.mg_none_of X G z_sorted, PySem.W.mg_none_of X G z_abs, PySem.W.mg_none_of X G z_int, PySem.W.mg_none_of X G z_str, PySem.W.mg_none_of X G z_repr, PySem.W.mg_none_of X G z_all, PySem.W.mg_none_of X G z_any, PySem.W.mg_none_of X G z_max, PySem.W.mg_none_of X G z_min, PySem.W.mg_none_of X G z_sum, PySem.W.mg_none_of X G z_enumerate, PySem.W.mg_none_of X G z_zip, PySem.W.mg_none_of X G z_isinstance, PySem.W.mg_none_of X G z_bool, PySem.W.mg_none_of X G z_set, PySem.W.mg_none_of X G z_dict⟩
  have G_law_cells := fun base : Heap => f_law_cells (P := l.prog) (w := w) (base := base) B (fun_mk (st := s_law_cells) l17 c17 k17) (PySem.W.mg_of X G a17)
  have G_law_box := fun base : Heap => f_law_box (P := l.prog) (w := w) (base := base) B (fun_mk (st := s_law_box) l15 c15 k15) (PySem.W.mg_of X G a15)
  have H_law_take := fun base : Heap => f_law_take (P := l.prog) (w := w) (base := base)  (fun_mk (st := s_law_take) l16 c16 k16) (PySem.W.mg_of X G a16)
  have G_law_take := fun base : Heap => (H_law_take base).imp take_ok
  have H_law_strewn := fun base : Heap => f_law_strewn (P := l.prog) (w := w) (base := base) B (H_law_take base) (fun_mk (st := s_law_strewn) l18 c18 k18) (PySem.W.mg_of X G a18)
  have G_law_strewn := fun base : Heap => (H_law_strewn base).imp strewn_ok
  have G_law_crowd := fun base : Heap => f_law_crowd (P := l.prog) (w := w) (base := base) B (G_law_take base) (G_law_strewn base) (fun_mk (st := s_law_crowd) l20 c20 k20) (PySem.W.mg_of X G a20)
  have G_spot := fun base : Heap => f_spot (P := l.prog) (w := w) (base := base) B (fun_mk (st := s_spot) l0 c0 k0) (PySem.W.mg_of X G a0)
  have G_steps_with := fun base : Heap => f_steps_with (P := l.prog) (w := w) (base := base) B (G_spot base) (fun_mk (st := s_steps_with) l1 c1 k1) (PySem.W.mg_of X G a1)
  have G_fewest_steps := fun base : Heap => f_fewest_steps (P := l.prog) (w := w) (base := base) B (G_steps_with base) (fun_mk (st := s_fewest_steps) l2 c2 k2) (PySem.W.mg_of X G a2)
  have G_fewest_calls := fun base : Heap => f_fewest_calls (P := l.prog) (w := w) (base := base) B (G_fewest_steps base) (fun_mk (st := s_fewest_calls) l3 c3 k3) (PySem.W.mg_of X G a3)
  have G_orders_many := fun base : Heap => f_orders_many (P := l.prog) (w := w) (base := base) B (fun_mk (st := s_orders_many) l7 c7 k7) (PySem.W.mg_of X G a7)
  have G_mixed_many := fun base : Heap => f_mixed_many (P := l.prog) (w := w) (base := base) B (G_orders_many base) (fun_mk (st := s_mixed_many) l8 c8 k8) (PySem.W.mg_of X G a8)
  have G_distance_before := fun base : Heap => f_distance_before (P := l.prog) (w := w) (base := base) B (fun_mk (st := s_distance_before) l4 c4 k4) (PySem.W.mg_of X G a4)
  have G_chain_people := fun base : Heap => f_chain_people (P := l.prog) (w := w) (base := base) B (fun_mk (st := s_chain_people) l5 c5 k5) (PySem.W.mg_of X G a5)
  have G_chains_between := fun base : Heap => f_chains_between (P := l.prog) (w := w) (base := base) B (G_fewest_steps base) (G_distance_before base) (G_chain_people base) (fun_mk (st := s_chains_between) l6 c6 k6) (PySem.W.mg_of X G a6)
  have G_ways_many := fun base : Heap => f_ways_many (P := l.prog) (w := w) (base := base) B (G_mixed_many base) (G_chains_between base) (fun_mk (st := s_ways_many) l12 c12 k12) (PySem.W.mg_of X G a12)
  have G_chains_after := fun base : Heap => f_chains_after (P := l.prog) (w := w) (base := base) B (fun_mk (st := s_chains_after) l9 c9 k9) (PySem.W.mg_of X G a9)
  have G_next_chairs := fun base : Heap => f_next_chairs (P := l.prog) (w := w) (base := base) B (fun_mk (st := s_next_chairs) l10 c10 k10) (PySem.W.mg_of X G a10)
  have G_lesser_many := fun base : Heap => f_lesser_many (P := l.prog) (w := w) (base := base) B (G_mixed_many base) (G_chains_after base) (G_next_chairs base) (fun_mk (st := s_lesser_many) l11 c11 k11) (PySem.W.mg_of X G a11)
  have G_way_at := fun base : Heap => f_way_at (P := l.prog) (w := w) (base := base) B (G_chains_between base) (G_lesser_many base) (G_chains_after base) (G_mixed_many base) (G_next_chairs base) (fun_mk (st := s_way_at) l13 c13 k13) (PySem.W.mg_of X G a13)
  have G_way_number := fun base : Heap => f_way_number (P := l.prog) (w := w) (base := base) B (G_chains_between base) (G_lesser_many base) (G_chains_after base) (G_next_chairs base) (fun_mk (st := s_way_number) l14 c14 k14) (PySem.W.mg_of X G a14)
  have TX_NotWay := fun base : Heap => x_NotWay (P := l.prog) (w := w) (base := base) (PySem.W.mg_none_of X G zB_ValueError) vV_ValueError ⟨⟨_, _, _, _, _, _, _, _, _, _, _, _, _, _, xL_NotWay⟩, sa_NotWay, kC_NotWay⟩ no_NotWay (fun_mk (st := sC_NotWay) lI_NotWay cI_NotWay kI_NotWay) (PySem.W.mg_of X G aC_NotWay) eC_NotWay tC_NotWay iC_NotWay tI_NotWay
  have EK_NotWay : ExK K C_NotWay := ⟨cls_some xL_NotWay, ga_NotWay, gg_NotWay, eC_NotWay, cc_NotWay, gsO, tkO, oC_NotWay, hC_NotWay⟩
  have TX_NoNumber := fun base : Heap => x_NoNumber (P := l.prog) (w := w) (base := base) (PySem.W.mg_none_of X G zB_LookupError) vV_LookupError ⟨⟨_, _, _, _, _, _, _, _, _, _, _, _, _, _, xL_NoNumber⟩, sa_NoNumber, kC_NoNumber⟩ no_NoNumber (fun_mk (st := sC_NoNumber) lI_NoNumber cI_NoNumber kI_NoNumber) (PySem.W.mg_of X G aC_NoNumber) eC_NoNumber tC_NoNumber iC_NoNumber tI_NoNumber
  have EK_NoNumber : ExK K C_NoNumber := ⟨cls_some xL_NoNumber, ga_NoNumber, gg_NoNumber, eC_NoNumber, cc_NoNumber, gsO, tkO, oC_NoNumber, hC_NoNumber⟩
  have TX_OtherPeople := fun base : Heap => x_OtherPeople (P := l.prog) (w := w) (base := base) (PySem.W.mg_none_of X G zB_RuntimeError) vV_RuntimeError ⟨⟨_, _, _, _, _, _, _, _, _, _, _, _, _, _, xL_OtherPeople⟩, sa_OtherPeople, kC_OtherPeople⟩ no_OtherPeople (fun_mk (st := sC_OtherPeople) lI_OtherPeople cI_OtherPeople kI_OtherPeople) (PySem.W.mg_of X G aC_OtherPeople) eC_OtherPeople tC_OtherPeople iC_OtherPeople tI_OtherPeople
  have EK_OtherPeople : ExK K C_OtherPeople := ⟨cls_some xL_OtherPeople, ga_OtherPeople, gg_OtherPeople, eC_OtherPeople, cc_OtherPeople, gsO, tkO, oC_OtherPeople, hC_OtherPeople⟩
  have on6 : ∀ C ∈ [C_OtherPeople, C_NoNumber, C_NotWay], ∀ D ∈ [C_OtherPeople, C_NoNumber, C_NotWay, C_NoChair, C_BadLine, C_BadScript], PySem.W.kitOne K (.ref C) (.ref D) = some (decide (C = D)) := by
    intro C hC D hD
    simp only [List.mem_cons, List.not_mem_nil, or_false] at hC hD
    rcases hC with rfl | rfl | rfl
    · rcases hD with rfl | rfl | rfl | rfl | rfl | rfl
      · exact (kone_eq)
      · exact (kone_ne (cls_some xL_NoNumber) tC_NoNumber s_OtherPeople_NoNumber s_OtherPeople_OtherPeople)
      · exact (kone_ne (cls_some xL_NotWay) tC_NotWay s_OtherPeople_NotWay s_OtherPeople_OtherPeople)
      · exact (kone_ne (cls_some xL_NoChair) tC_NoChair s_OtherPeople_NoChair s_OtherPeople_OtherPeople)
      · exact (kone_ne (cls_some xL_BadLine) tC_BadLine s_OtherPeople_BadLine s_OtherPeople_OtherPeople)
      · exact (kone_ne (cls_some xL_BadScript) tC_BadScript s_OtherPeople_BadScript s_OtherPeople_OtherPeople)
    · rcases hD with rfl | rfl | rfl | rfl | rfl | rfl
      · exact (kone_ne (cls_some xL_OtherPeople) tC_OtherPeople s_NoNumber_OtherPeople s_NoNumber_NoNumber)
      · exact (kone_eq)
      · exact (kone_ne (cls_some xL_NotWay) tC_NotWay s_NoNumber_NotWay s_NoNumber_NoNumber)
      · exact (kone_ne (cls_some xL_NoChair) tC_NoChair s_NoNumber_NoChair s_NoNumber_NoNumber)
      · exact (kone_ne (cls_some xL_BadLine) tC_BadLine s_NoNumber_BadLine s_NoNumber_NoNumber)
      · exact (kone_ne (cls_some xL_BadScript) tC_BadScript s_NoNumber_BadScript s_NoNumber_NoNumber)
    · rcases hD with rfl | rfl | rfl | rfl | rfl | rfl
      · exact (kone_ne (cls_some xL_OtherPeople) tC_OtherPeople s_NotWay_OtherPeople s_NotWay_NotWay)
      · exact (kone_ne (cls_some xL_NoNumber) tC_NoNumber s_NotWay_NoNumber s_NotWay_NotWay)
      · exact (kone_eq)
      · exact (kone_ne (cls_some xL_NoChair) tC_NoChair s_NotWay_NoChair s_NotWay_NotWay)
      · exact (kone_ne (cls_some xL_BadLine) tC_BadLine s_NotWay_BadLine s_NotWay_NotWay)
      · exact (kone_ne (cls_some xL_BadScript) tC_BadScript s_NotWay_BadScript s_NotWay_NotWay)
  have ex6 : ∀ C ∈ [C_OtherPeople, C_NoNumber, C_NotWay], PySem.W.exmAny K (.ref C) [.ref C_BadLine, .ref C_BadScript, .ref C_NoChair, .ref C_NoNumber, .ref C_NotWay, .ref C_OtherPeople] = some true := by
    intro C hC
    simp only [List.mem_cons, List.not_mem_nil, or_false] at hC
    rcases hC with hh | hh | hh
    · rw [hh]
      refine eany (Ds := [(C_BadLine, false), (C_BadScript, false), (C_NoChair, false), (C_NoNumber, false), (C_NotWay, false), (C_OtherPeople, true)]) fun p hp => ?_
      simp only [List.mem_cons, List.not_mem_nil, or_false] at hp
      rcases hp with hp | hp | hp | hp | hp | hp
      · rw [hp]; exact eone eC_BadLine (cls_some xL_BadLine) tC_BadLine s_OtherPeople_BadLine
      · rw [hp]; exact eone eC_BadScript (cls_some xL_BadScript) tC_BadScript s_OtherPeople_BadScript
      · rw [hp]; exact eone eC_NoChair (cls_some xL_NoChair) tC_NoChair s_OtherPeople_NoChair
      · rw [hp]; exact eone eC_NoNumber (cls_some xL_NoNumber) tC_NoNumber s_OtherPeople_NoNumber
      · rw [hp]; exact eone eC_NotWay (cls_some xL_NotWay) tC_NotWay s_OtherPeople_NotWay
      · rw [hp]; exact eone eC_OtherPeople (cls_some xL_OtherPeople) tC_OtherPeople s_OtherPeople_OtherPeople
    · rw [hh]
      refine eany (Ds := [(C_BadLine, false), (C_BadScript, false), (C_NoChair, false), (C_NoNumber, true), (C_NotWay, false), (C_OtherPeople, false)]) fun p hp => ?_
      simp only [List.mem_cons, List.not_mem_nil, or_false] at hp
      rcases hp with hp | hp | hp | hp | hp | hp
      · rw [hp]; exact eone eC_BadLine (cls_some xL_BadLine) tC_BadLine s_NoNumber_BadLine
      · rw [hp]; exact eone eC_BadScript (cls_some xL_BadScript) tC_BadScript s_NoNumber_BadScript
      · rw [hp]; exact eone eC_NoChair (cls_some xL_NoChair) tC_NoChair s_NoNumber_NoChair
      · rw [hp]; exact eone eC_NoNumber (cls_some xL_NoNumber) tC_NoNumber s_NoNumber_NoNumber
      · rw [hp]; exact eone eC_NotWay (cls_some xL_NotWay) tC_NotWay s_NoNumber_NotWay
      · rw [hp]; exact eone eC_OtherPeople (cls_some xL_OtherPeople) tC_OtherPeople s_NoNumber_OtherPeople
    · rw [hh]
      refine eany (Ds := [(C_BadLine, false), (C_BadScript, false), (C_NoChair, false), (C_NoNumber, false), (C_NotWay, true), (C_OtherPeople, false)]) fun p hp => ?_
      simp only [List.mem_cons, List.not_mem_nil, or_false] at hp
      rcases hp with hp | hp | hp | hp | hp | hp
      · rw [hp]; exact eone eC_BadLine (cls_some xL_BadLine) tC_BadLine s_NotWay_BadLine
      · rw [hp]; exact eone eC_BadScript (cls_some xL_BadScript) tC_BadScript s_NotWay_BadScript
      · rw [hp]; exact eone eC_NoChair (cls_some xL_NoChair) tC_NoChair s_NotWay_NoChair
      · rw [hp]; exact eone eC_NoNumber (cls_some xL_NoNumber) tC_NoNumber s_NotWay_NoNumber
      · rw [hp]; exact eone eC_NotWay (cls_some xL_NotWay) tC_NotWay s_NotWay_NotWay
      · rw [hp]; exact eone eC_OtherPeople (cls_some xL_OtherPeople) tC_OtherPeople s_NotWay_OtherPeople
  have Z6 : Cl6 K mg C_OtherPeople C_NoNumber C_NotWay C_NoChair C_BadLine C_BadScript := ⟨PySem.W.mg_of X G aC_OtherPeople, PySem.W.mg_of X G aC_NoNumber, PySem.W.mg_of X G aC_NotWay, PySem.W.mg_of X G aC_NoChair, PySem.W.mg_of X G aC_BadLine, PySem.W.mg_of X G aC_BadScript, PySem.W.mg_none_of X G zB_RuntimeError, by intro C hC; simp only [List.mem_cons, List.not_mem_nil, or_false] at hC; rcases hC with rfl | rfl | rfl; exact EK_OtherPeople; exact EK_NoNumber; exact EK_NotWay, on6, ex6, kone_ty (by decide +kernel) sRE, no_OtherPeople, no_NoNumber, no_NotWay, ⟨⟨cls_ne s_OtherPeople_NoNumber s_OtherPeople_OtherPeople, cls_ne s_OtherPeople_NotWay s_OtherPeople_OtherPeople, cls_ne s_OtherPeople_NoChair s_OtherPeople_OtherPeople, cls_ne s_OtherPeople_BadLine s_OtherPeople_OtherPeople, cls_ne s_OtherPeople_BadScript s_OtherPeople_OtherPeople⟩, ⟨cls_ne s_NoNumber_NotWay s_NoNumber_NoNumber, cls_ne s_NoNumber_NoChair s_NoNumber_NoNumber⟩, cls_ne s_NotWay_NoChair s_NotWay_NotWay⟩⟩
  have Z_fs := fun base : Heap => fz_fewest_steps (P := l.prog) (w := w) (base := base) B (TX_OtherPeople base) (fun_mk (st := s_fewest_steps) l2 c2 k2) (PySem.W.mg_of X G a2)
  have Z_fc := fun base : Heap => fz_fewest_calls (P := l.prog) (w := w) (base := base) B (Z_fs base) (fun_mk (st := s_fewest_calls) l3 c3 k3) (PySem.W.mg_of X G a3)
  have Z_cb := fun base : Heap => fz_chains_between (P := l.prog) (w := w) (base := base) B (Z_fs base) (fun_mk (st := s_chains_between) l6 c6 k6) (PySem.W.mg_of X G a6)
  have Z_wm := fun base : Heap => fz_ways_many (P := l.prog) (w := w) (base := base) B ⟨_, _, fun_mk (st := s_mixed_many) l8 c8 k8, PySem.W.mg_of X G a8⟩ (Z_cb base) (fun_mk (st := s_ways_many) l12 c12 k12) (PySem.W.mg_of X G a12)
  have Z_wa := fun base : Heap => fz_way_at (P := l.prog) (w := w) (base := base) B (Z_cb base) (fun_mk (st := s_way_at) l13 c13 k13) (PySem.W.mg_of X G a13)
  have Y_wa := fun base : Heap => fy_way_at (P := l.prog) (w := w) (base := base) B (TX_NoNumber base) (G_chains_between base) (G_mixed_many base) (fun_mk (st := s_way_at) l13 c13 k13) (PySem.W.mg_of X G a13)
  have Z_wn := fun base : Heap => fz_way_number (P := l.prog) (w := w) (base := base) B (Z_cb base) (fun_mk (st := s_way_number) l14 c14 k14) (PySem.W.mg_of X G a14)
  have Y_wn := fun base : Heap => fy_way_number (P := l.prog) (w := w) (base := base) B (TX_NotWay base) (G_chains_between base) (G_lesser_many base) (G_chains_after base) (G_next_chairs base) (fun_mk (st := s_way_number) l14 c14 k14) (PySem.W.mg_of X G a14)
  have G_law_heard := fun base : Heap => f_law_heard (P := l.prog) (w := w) (base := base) B Z6 (G_fewest_calls base) (G_fewest_steps base) (G_ways_many base) (G_way_at base) (G_way_number base) (Z_fc base) (Z_fs base) (Z_wm base) (Z_wa base) (Y_wa base) (Z_wn base) (Y_wn base) (fun_mk (st := s_law_heard) l21 c21 k21) (PySem.W.mg_of X G a21)
  have G_law_same := fun base : Heap => f_law_same (P := l.prog) (w := w) (base := base) B (fun_mk (st := s_law_same) l19 c19 k19) (PySem.W.mg_of X G a19)
  have G_law_pair_right := fun base : Heap => f_law_pair_right (P := l.prog) (w := w) (base := base) B (G_law_heard base) (G_law_same base) (G_law_take base) (fun_mk (st := s_law_pair_right) l22 c22 k22) (PySem.W.mg_of X G a22)
  have H_law_right := fun base : Heap => f_law_right (P := l.prog) (w := w) (base := base) B (G_law_take base) (G_law_crowd base) (G_law_pair_right base) (G_law_heard base) (G_law_same base) (fun_mk (st := s_law_right) l23 c23 k23) (PySem.W.mg_of X G a23)
  have G_law_right := fun base : Heap => (H_law_right base).imp (cR_of right_ok)
  exact ⟨_, fun s v => .of_eq rfl, fun base _ _ => f_law B (G_law_cells base) (G_law_box base) (G_law_right base) (fun_mk (st := s_law) l24 c24 k24)⟩
end Nx
open PySem PySem.W PyProof.Rows
set_option maxHeartbeats 0 in
theorem PySem.Challenge.cw_nextstands_k48_tables_with_other_people_holds : PySem.Challenge.rw_nextstands_k48_tables_with_other_people.Holds := by
  w_on; o_law; k_head; (case hw => w_witness2)
  k_fill
  refine Nx.walk_G (l := PySem.Challenge.rw_nextstands_k48_tables_with_other_people) (n := 63) (k := 10) (x := "_law_script") (sp := fun K => Nx.spOf (Nx.c_law K)) rfl (by decide) rfl ⟨⟨rfl, by decide, by decide⟩, rfl⟩ (fun w h Y => PySem.W.kIn_of Y) ?F (fun K H a ns hl _ hS => Nx.law_sp K H a ns hl hS)
  case F =>
    intro w mg fa h KX G hmg
    refine' Nx.all_mk KX G hmg ?a0 ?l0 ?c0 ?k0 ?a1 ?l1 ?c1 ?k1 ?a2 ?l2 ?c2 ?k2 ?a3 ?l3 ?c3 ?k3 ?a4 ?l4 ?c4 ?k4 ?a5 ?l5 ?c5 ?k5 ?a6 ?l6 ?c6 ?k6 ?a7 ?l7 ?c7 ?k7 ?a8 ?l8 ?c8 ?k8 ?a9 ?l9 ?c9 ?k9 ?a10 ?l10 ?c10 ?k10 ?a11 ?l11 ?c11 ?k11 ?a12 ?l12 ?c12 ?k12 ?a13 ?l13 ?c13 ?k13 ?a14 ?l14 ?c14 ?k14 ?a15 ?l15 ?c15 ?k15 ?a16 ?l16 ?c16 ?k16 ?a17 ?l17 ?c17 ?k17 ?a18 ?l18 ?c18 ?k18 ?a19 ?l19 ?c19 ?k19 ?a20 ?l20 ?c20 ?k20 ?a21 ?l21 ?c21 ?k21 ?a22 ?l22 ?c22 ?k22 ?a23 ?l23 ?c23 ?k23 ?a24 ?l24 ?c24 ?k24 ?aC_NotWay ?xL_NotWay ?eC_NotWay ?tC_NotWay ?sa_NotWay ?ga_NotWay ?gg_NotWay ?no_NotWay ?cc_NotWay ?iC_NotWay ?tI_NotWay ?lI_NotWay ?cI_NotWay ?kI_NotWay ?kC_NotWay ?hC_NotWay ?oC_NotWay ?aC_BadLine ?xL_BadLine ?eC_BadLine ?tC_BadLine ?aC_BadScript ?xL_BadScript ?eC_BadScript ?tC_BadScript ?aC_NoNumber ?xL_NoNumber ?eC_NoNumber ?tC_NoNumber ?sa_NoNumber ?ga_NoNumber ?gg_NoNumber ?no_NoNumber ?cc_NoNumber ?iC_NoNumber ?tI_NoNumber ?lI_NoNumber ?cI_NoNumber ?kI_NoNumber ?kC_NoNumber ?hC_NoNumber ?oC_NoNumber ?aC_NoChair ?xL_NoChair ?eC_NoChair ?tC_NoChair ?aC_OtherPeople ?xL_OtherPeople ?eC_OtherPeople ?tC_OtherPeople ?sa_OtherPeople ?ga_OtherPeople ?gg_OtherPeople ?no_OtherPeople ?cc_OtherPeople ?iC_OtherPeople ?tI_OtherPeople ?lI_OtherPeople ?cI_OtherPeople ?kI_OtherPeople ?kC_OtherPeople ?hC_OtherPeople ?oC_OtherPeople ?s_NotWay_NotWay ?s_NotWay_BadLine ?s_NotWay_BadScript ?s_NotWay_NoNumber ?s_NotWay_NoChair ?s_NotWay_OtherPeople ?s_NoNumber_NotWay ?s_NoNumber_BadLine ?s_NoNumber_BadScript ?s_NoNumber_NoNumber ?s_NoNumber_NoChair ?s_NoNumber_OtherPeople ?s_OtherPeople_NotWay ?s_OtherPeople_BadLine ?s_OtherPeople_BadScript ?s_OtherPeople_NoNumber ?s_OtherPeople_NoChair ?s_OtherPeople_OtherPeople ?gsO ?tkO ?sRE ?vV_ValueError ?zB_ValueError ?vV_LookupError ?zB_LookupError ?vV_RuntimeError ?zB_RuntimeError ?z_len ?z_range ?z_list ?z_tuple ?z_sorted ?z_abs ?z_int ?z_str ?z_repr ?z_all ?z_any ?z_max ?z_min ?z_sum ?z_enumerate ?z_zip ?z_isinstance ?z_bool ?z_set ?z_dict
    (case a0 => k_is); (case l0 => k_is); (case c0 => k_is); (case k0 => k_is); (case a1 => k_is); (case l1 => k_is); (case c1 => k_is); (case k1 => k_is); (case a2 => k_is); (case l2 => k_is); (case c2 => k_is); (case k2 => k_is); (case a3 => k_is); (case l3 => k_is); (case c3 => k_is); (case k3 => k_is); (case a4 => k_is); (case l4 => k_is); (case c4 => k_is); (case k4 => k_is); (case a5 => k_is); (case l5 => k_is); (case c5 => k_is); (case k5 => k_is); (case a6 => k_is); (case l6 => k_is); (case c6 => k_is); (case k6 => k_is); (case a7 => k_is); (case l7 => k_is); (case c7 => k_is); (case k7 => k_is); (case a8 => k_is); (case l8 => k_is); (case c8 => k_is); (case k8 => k_is); (case a9 => k_is); (case l9 => k_is); (case c9 => k_is); (case k9 => k_is); (case a10 => k_is); (case l10 => k_is); (case c10 => k_is); (case k10 => k_is); (case a11 => k_is); (case l11 => k_is); (case c11 => k_is); (case k11 => k_is); (case a12 => k_is); (case l12 => k_is); (case c12 => k_is); (case k12 => k_is); (case a13 => k_is); (case l13 => k_is); (case c13 => k_is); (case k13 => k_is); (case a14 => k_is); (case l14 => k_is); (case c14 => k_is); (case k14 => k_is); (case a15 => k_is); (case l15 => k_is); (case c15 => k_is); (case k15 => k_is); (case a16 => k_is); (case l16 => k_is); (case c16 => k_is); (case k16 => k_is); (case a17 => k_is); (case l17 => k_is); (case c17 => k_is); (case k17 => k_is); (case a18 => k_is); (case l18 => k_is); (case c18 => k_is); (case k18 => k_is); (case a19 => k_is); (case l19 => k_is); (case c19 => k_is); (case k19 => k_is); (case a20 => k_is); (case l20 => k_is); (case c20 => k_is); (case k20 => k_is); (case a21 => k_is); (case l21 => k_is); (case c21 => k_is); (case k21 => k_is); (case a22 => k_is); (case l22 => k_is); (case c22 => k_is); (case k22 => k_is); (case a23 => k_is); (case l23 => k_is); (case c23 => k_is); (case k23 => k_is); (case a24 => k_is); (case l24 => k_is); (case c24 => k_is); (case k24 => k_is); (case aC_NotWay => k_is); (case xL_NotWay => k_is); (case eC_NotWay => k_is); (case tC_NotWay => k_is); (case sa_NotWay => k_is); (case ga_NotWay => k_is); (case gg_NotWay => k_is); (case no_NotWay => k_is); (case cc_NotWay => k_is); (case iC_NotWay => k_is); (case tI_NotWay => k_is); (case lI_NotWay => k_is); (case cI_NotWay => k_is); (case kI_NotWay => k_is); (case kC_NotWay => k_is); (case hC_NotWay => k_is); (case oC_NotWay => k_is); (case aC_BadLine => k_is); (case xL_BadLine => k_is); (case eC_BadLine => k_is); (case tC_BadLine => k_is); (case aC_BadScript => k_is); (case xL_BadScript => k_is); (case eC_BadScript => k_is); (case tC_BadScript => k_is); (case aC_NoNumber => k_is); (case xL_NoNumber => k_is); (case eC_NoNumber => k_is); (case tC_NoNumber => k_is); (case sa_NoNumber => k_is); (case ga_NoNumber => k_is); (case gg_NoNumber => k_is); (case no_NoNumber => k_is); (case cc_NoNumber => k_is); (case iC_NoNumber => k_is); (case tI_NoNumber => k_is); (case lI_NoNumber => k_is); (case cI_NoNumber => k_is); (case kI_NoNumber => k_is); (case kC_NoNumber => k_is); (case hC_NoNumber => k_is); (case oC_NoNumber => k_is); (case aC_NoChair => k_is); (case xL_NoChair => k_is); (case eC_NoChair => k_is); (case tC_NoChair => k_is); (case aC_OtherPeople => k_is); (case xL_OtherPeople => k_is); (case eC_OtherPeople => k_is); (case tC_OtherPeople => k_is); (case sa_OtherPeople => k_is); (case ga_OtherPeople => k_is); (case gg_OtherPeople => k_is); (case no_OtherPeople => k_is); (case cc_OtherPeople => k_is); (case iC_OtherPeople => k_is); (case tI_OtherPeople => k_is); (case lI_OtherPeople => k_is); (case cI_OtherPeople => k_is); (case kI_OtherPeople => k_is); (case kC_OtherPeople => k_is); (case hC_OtherPeople => k_is); (case oC_OtherPeople => k_is); (case s_NotWay_NotWay => k_is); (case s_NotWay_BadLine => k_is); (case s_NotWay_BadScript => k_is); (case s_NotWay_NoNumber => k_is); (case s_NotWay_NoChair => k_is); (case s_NotWay_OtherPeople => k_is); (case s_NoNumber_NotWay => k_is); (case s_NoNumber_BadLine => k_is); (case s_NoNumber_BadScript => k_is); (case s_NoNumber_NoNumber => k_is); (case s_NoNumber_NoChair => k_is); (case s_NoNumber_OtherPeople => k_is); (case s_OtherPeople_NotWay => k_is); (case s_OtherPeople_BadLine => k_is); (case s_OtherPeople_BadScript => k_is); (case s_OtherPeople_NoNumber => k_is); (case s_OtherPeople_NoChair => k_is); (case s_OtherPeople_OtherPeople => k_is); (case gsO => k_is); (case tkO => k_is); (case sRE => k_is); (case vV_ValueError => k_is); (case zB_ValueError => k_is); (case vV_LookupError => k_is); (case zB_LookupError => k_is); (case vV_RuntimeError => k_is); (case zB_RuntimeError => k_is); (case z_len => k_is); (case z_range => k_is); (case z_list => k_is); (case z_tuple => k_is); (case z_sorted => k_is); (case z_abs => k_is); (case z_int => k_is); (case z_str => k_is); (case z_repr => k_is); (case z_all => k_is); (case z_any => k_is); (case z_max => k_is); (case z_min => k_is); (case z_sum => k_is); (case z_enumerate => k_is); (case z_zip => k_is); (case z_isinstance => k_is); (case z_bool => k_is); (case z_set => k_is); (case z_dict => k_is)
