import PyProof.Rows.All
import Wide.All
import OpenK.AllK
import Wide.FinOn
import HandS.ForMost
import HandS.Walk
import HandS.Deep
import HandS.Flow
import HandS.SortInts
import HandS.Zip
import HandS.Conv
import HandS.Wide
import HandS.RaiseMore
import HandS.TupAny
import HandS.Style
import KE.GoesNew
import HandS.IsInst
import HandS.TupMul
import HandS.Dict
import HandS.TupLen
import HandS.Iter
import HandS.NoneIn
import HandS.SetFor
import HandS.TupSets
import HandS.Strs
import KE.KDictZip
import KE.GoesMore
import HandS.DictComp
import HandS.SetBool
import KE.SortData
import KE.KDictSum
import KE.KDictDisplayH
import KE.KEqDict
import KE.KDictPairs
import HandS.ExcInit
import KE.KExcInit
import KE.KExcIs
import HandS.ExcOwn
import KE.KTryMore
import HandS.Text
import HandS.FStr
import PyProof.Rows.ListStrD
import PySem.Challenge.RW_nextstands_k58_tables_as_lines
set_option Elab.async false
set_option linter.all false
set_option maxRecDepth 100000
set_option maxHeartbeats 4000000
namespace Nx
open PySem PySem.Spec PyProof.Rows L2
def WE (X : Cx) (e : Expr) : TE := fun σ H Q => ∀ pins s, Inv X pins σ H s → wpAny (model X.prog X.w) X.A (eval e X.env) (EP X pins σ Q) X.xe s
def WT (X : Cx) (e : Expr) : TT := fun σ H Q => ∀ pins s, Inv X pins σ H s → wpAny (model X.prog X.w) X.A (isTrue e X.env (eval e X.env)) (TP X pins σ Q) X.xe s
def WA (X : Cx) (es : List Expr) : TA := fun σ H Q => ∀ pos pins s, Inv X pins σ H s → wpAny (model X.prog X.w) X.A (spliced (backTo pos (starEach es X.env))) (AP X pins σ Q) X.xe s
def WK (X : Cx) (ks : List Keyword) : TA := fun σ H Q => ∀ pos pins s, Inv X pins σ H s → wpAny (model X.prog X.w) X.A (evalAll ((backToKw pos (keywordEach ks X.env)).map (·.2))) (AP X pins σ Q) X.xe s
def WS (X : Cx) (st : Stmt) : TS := fun D σ H => ∀ pins s, Inv X pins σ H s → wpAny (model X.prog X.w) X.A (exec st X.env) (SP X pins D) X.xe s
def WSs (X : Cx) (st : List Stmt) : TS := fun D σ H => ∀ pins s, Inv X pins σ H s → wpAny (model X.prog X.w) X.A (execs st X.env) (SP X pins D) X.xe s
section
variable {X : Cx} {e : Expr} {es : List Expr} {ks : List Keyword} {st : Stmt} {ss : List Stmt}
theorem pwe : PE X e (WE X e) := ⟨fun pins s _ _ _ I h => h pins s I⟩
theorem pwt : PT X e (WT X e) := ⟨fun pins s _ _ _ I h => h pins s I⟩
theorem pwa : PA X es (WA X es) := ⟨fun pos pins s _ _ _ I h => h pos pins s I⟩
theorem pwk : PK X ks (WK X ks) := ⟨fun pos pins s _ _ _ I h => h pos pins s I⟩
theorem pws : PS X st (WS X st) := ⟨fun pins s _ _ _ I h => h pins s I⟩
theorem pwss : PSs X ss (WSs X ss) := ⟨fun pins s _ _ _ I h => h pins s I⟩
variable {σ : L2.St} {H : Hp}
theorem WE.of {t : TE} {Q : VK} (h : PE X e t) (q : t σ H Q) : WE X e σ H Q := fun pins s I => h.run pins s σ H Q I q
theorem WT.of {t : TT} {Q : Bool → Hp → Prop} (h : PT X e t) (q : t σ H Q) : WT X e σ H Q := fun pins s I => h.run pins s σ H Q I q
theorem WA.of {t : TA} {Q : List V → Hp → Prop} (h : PA X es t) (q : t σ H Q) : WA X es σ H Q := fun pos pins s I => h.run pos pins s σ H Q I q
theorem WK.of {t : TA} {Q : List V → Hp → Prop} (h : PK X ks t) (q : t σ H Q) : WK X ks σ H Q := fun pos pins s I => h.run pos pins s σ H Q I q
theorem WS.of {t : TS} {D : Ends} (h : PS X st t) (q : t D σ H) : WS X st D σ H := fun pins s I => h.run pins s σ H D I q
theorem WSs.of {t : TS} {D : Ends} (h : PSs X ss t) (q : t D σ H) : WSs X ss D σ H := fun pins s I => h.run pins s σ H D I q
end
def Ex (H H' : Hp) : Prop := ∀ a o, H a = some o → H' a = some o
theorem Ex.refl (H : Hp) : Ex H H := fun _ _ h => h
theorem Ex.trans {H H1 H2 : Hp} (a : Ex H H1) (b : Ex H1 H2) : Ex H H2 := fun x o h => b x o (a x o h)
theorem Ex.new {H : Hp} {p : Addr} {o : HO} (h : H p = none) : Ex H (upd H p o) := fun a u e => by
  rw [upd_ne (ne_of_none e h)]
  exact e
theorem Ex.free {H H' : Hp} {p : Addr} (e : Ex H H') (h : H' p = none) : H p = none := by
  cases h1 : H p with
  | none => rfl
  | some o =>
    rw [e p o h1] at h
    cases h
mutual
inductive Dv (H : Hp) : V → PyData → Prop
  | non : Dv H .non .none
  | bl (b : Bool) : Dv H (.bl b) (.bool b)
  | int (i : Int) : Dv H (.int i) (.int i)
  | str (x : Str) : Dv H (.str x) (.str x)
  | lst {a : Addr} {xs : List V} {ds : List PyData} : H a = some (.lst xs) → DvA H xs ds → Dv H (.ref a) (.list ds)
  | tup {a : Addr} {xs : List V} {ds : List PyData} : H a = some (.tup xs) → DvA H xs ds → Dv H (.ref a) (.tuple ds)
inductive DvA (H : Hp) : List V → List PyData → Prop
  | nil : DvA H [] []
  | cons {v : V} {vs : List V} {d : PyData} {ds : List PyData} : Dv H v d → DvA H vs ds → DvA H (v :: vs) (d :: ds)
end
section
variable {H H' : Hp}
mutual
theorem Dv.mono (e : Ex H H') : ∀ {v : V} {d : PyData}, Dv H v d → Dv H' v d
  | _, _, .non => .non
  | _, _, .bl b => .bl b
  | _, _, .int i => .int i
  | _, _, .str x => .str x
  | _, _, .lst h hs => .lst (e _ _ h) (DvA.mono e hs)
  | _, _, .tup h hs => .tup (e _ _ h) (DvA.mono e hs)
theorem DvA.mono (e : Ex H H') : ∀ {vs : List V} {ds : List PyData}, DvA H vs ds → DvA H' vs ds
  | _, _, .nil => .nil
  | _, _, .cons h hs => .cons (Dv.mono e h) (DvA.mono e hs)
end
mutual
theorem Dv.dp {K : PySem.W.Frag} : ∀ {v : V} {d : PyData}, Dv H v d → Dp K H v d
  | _, _, .non => .non
  | _, _, .bl b => .bl b
  | _, _, .int i => .int i
  | _, _, .str x => .str x
  | _, _, .lst h hs => .lst (.inl (.inl h)) (DvA.dp hs)
  | _, _, .tup h hs => .tup (.inl (.inl h)) (DvA.dp hs)
theorem DvA.dp {K : PySem.W.Frag} : ∀ {vs : List V} {ds : List PyData}, DvA H vs ds → DpAll K H vs ds
  | _, _, .nil => .nil
  | _, _, .cons h hs => .cons (Dv.dp h) (DvA.dp hs)
end
theorem DvA.length : ∀ {vs : List V} {ds : List PyData}, DvA H vs ds → vs.length = ds.length
  | _, _, .nil => rfl
  | _, _, .cons _ hs => by rw [List.length_cons, List.length_cons, DvA.length hs]
theorem DvA.get : ∀ {vs : List V} {ds : List PyData} {i : Nat} {d : PyData}, DvA H vs ds → ds[i]? = some d → ∃ v, vs[i]? = some v ∧ Dv H v d
  | _, _, _, _, .nil, e => by simp at e
  | _, _, 0, _, .cons h _, e => by
    simp at e
    subst e
    exact ⟨_, rfl, h⟩
  | _, _, i + 1, d, .cons _ hs, e => by
    obtain ⟨v, h1, h2⟩ := DvA.get (i := i) hs (by simpa using e)
    exact ⟨v, by simpa using h1, h2⟩
theorem DvA.getV : ∀ {vs : List V} {ds : List PyData} {i : Nat} {v : V}, DvA H vs ds → vs[i]? = some v → ∃ d, ds[i]? = some d ∧ Dv H v d
  | _, _, _, _, .nil, e => by simp at e
  | _, _, 0, _, .cons h _, e => by
    simp at e
    subst e
    exact ⟨_, rfl, h⟩
  | _, _, i + 1, d, .cons _ hs, e => by
    obtain ⟨v, h1, h2⟩ := DvA.getV (i := i) hs (by simpa using e)
    exact ⟨v, by simpa using h1, h2⟩
theorem DvA.append : ∀ {vs ws : List V} {ds es : List PyData}, DvA H vs ds → DvA H ws es → DvA H (vs ++ ws) (ds ++ es)
  | _, _, _, _, .nil, s => s
  | _, _, _, _, .cons h t, s => .cons h (DvA.append t s)
theorem DvA.take : ∀ {vs : List V} {ds : List PyData} (n : Nat), DvA H vs ds → DvA H (vs.take n) (ds.take n)
  | _, _, 0, _ => .nil
  | _, _, _ + 1, .nil => .nil
  | _, _, n + 1, .cons r t => .cons r (DvA.take n t)
theorem DvA.drop : ∀ {vs : List V} {ds : List PyData} (n : Nat), DvA H vs ds → DvA H (vs.drop n) (ds.drop n)
  | _, _, 0, r => r
  | _, _, _ + 1, .nil => .nil
  | _, _, n + 1, .cons _ t => DvA.drop n t
theorem DvA.ints : ∀ (ns : List Int) {vs : List V}, DvA H vs (ns.map PyData.int) → vs = ns.map V.int
  | [], _, .nil => rfl
  | n :: ns, _, .cons (.int _) t => by rw [DvA.ints ns t]; rfl
theorem DvA.of_ints : ∀ (ns : List Int), DvA H (ns.map V.int) (ns.map PyData.int)
  | [] => .nil
  | n :: ns => .cons (.int n) (DvA.of_ints ns)
end
def Ez (G G' : Hp) : Prop := ∀ a o, G a = some o → (∀ φ, o ≠ .ext φ) → G' a = some o
theorem Ex.ez {G G' : Hp} (e : Ex G G') : Ez G G' := fun a o h _ => e a o h
section
variable {G G' : Hp}
mutual
theorem Dv.ez (e : Ez G G') : ∀ {v : V} {d : PyData}, Dv G v d → Dv G' v d
  | _, _, .non => .non
  | _, _, .bl b => .bl b
  | _, _, .int i => .int i
  | _, _, .str x => .str x
  | _, _, .lst h hs => .lst (e _ _ h fun _ z => nomatch z) (DvA.ez e hs)
  | _, _, .tup h hs => .tup (e _ _ h fun _ z => nomatch z) (DvA.ez e hs)
theorem DvA.ez (e : Ez G G') : ∀ {vs : List V} {ds : List PyData}, DvA G vs ds → DvA G' vs ds
  | _, _, .nil => .nil
  | _, _, .cons h hs => .cons (Dv.ez e h) (DvA.ez e hs)
end
end
structure ObP where
  p : Hp → V → Prop
  mono : ∀ {G G' : Hp} {v : V}, Ez G G' → p G v → p G' v
  ref : ∀ {G : Hp} {v : V}, p G v → ∃ a, v = .ref a
inductive OV where
  | im (d : PyData) | own (a : Addr) | scr (K : PySem.W.Frag) (ns : List Int) | pr (a : Addr) (d : PyData) | dic (kvs : List (PyData × PyData)) | ob (P : ObP)
def DicAt (G : Hp) (a : Addr) (ks : List PyData) (xs : List V) : Prop :=
  (∃ is : List Int, ks = is.map .int ∧ G a = some (.dK ((is.map fun i => (Sum.inl i : Key)).zip xs))) ∨
  ∃ (iss : List (List Int)) (o : Obj), ks = iss.map (fun is => .tuple (is.map .int)) ∧ G a = some (.frz o (.dT ((iss.map fun is => is.map fun i => (Sum.inl i : Key)).zip xs)))
theorem DicAt.mono {G G' : Hp} (e : Ex G G') {a : Addr} {ks : List PyData} {xs : List V} (h : DicAt G a ks xs) : DicAt G' a ks xs := by
  rcases h with ⟨is, h1, h2⟩ | ⟨iss, o, h1, h2⟩
  · exact .inl ⟨is, h1, e _ _ h2⟩
  · exact .inr ⟨iss, o, h1, e _ _ h2⟩
def RO (G : Hp) (v : V) : OV → Prop
  | .im d => Dv G v d
  | .own a => v = .ref a
  | .scr K ns => ∃ a, v = .ref a ∧ SqL K G a (ns.map V.int)
  | .pr a d => ∃ t v2, v = .ref t ∧ G t = some (.tup [.ref a, v2]) ∧ Dv G v2 d
  | .dic kvs => ∃ a xs, v = .ref a ∧ DicAt G a (kvs.map (·.1)) xs ∧ DvA G xs (kvs.map (·.2))
  | .ob P => P.p G v
abbrev ROs (G : Hp) : List V → List OV → Prop := Paired (RO G)
theorem sql_mono {K : PySem.W.Frag} {G G' : Hp} (e : Ex G G') {a : Addr} {xs : List V} (h : SqL K G a xs) : SqL K G' a xs := by
  rcases h with (h | ⟨o, h⟩) | h
  · exact .inl (.inl (e _ _ h))
  · exact .inl (.inr ⟨o, e _ _ h⟩)
  · exact .inr h
theorem RO.mono {G G' : Hp} (e : Ex G G') {v : V} : ∀ {o : OV}, RO G v o → RO G' v o
  | .im _, h => Dv.mono e h
  | .own _, h => h
  | .scr _ _, ⟨a, h1, h2⟩ => ⟨a, h1, sql_mono e h2⟩
  | .pr _ _, ⟨t, v2, h1, h2, h3⟩ => ⟨t, v2, h1, e _ _ h2, h3.mono e⟩
  | .dic _, ⟨a, xs, h1, h2, h3⟩ => ⟨a, xs, h1, h2.mono e, h3.mono e⟩
  | .ob P, h => P.mono e.ez h
theorem ROs.mono {G G' : Hp} (e : Ex G G') : ∀ {vs : List V} {os : List OV}, ROs G vs os → ROs G' vs os
  | _, _, .nil => .nil
  | _, _, .cons h t => .cons (h.mono e) (ROs.mono e t)
theorem ROs.length {G : Hp} {vs : List V} {os : List OV} (h : ROs G vs os) : vs.length = os.length := Paired.length h
theorem ROs.ims {G : Hp} : ∀ {vs : List V} {ds : List PyData}, ROs G vs (ds.map .im) → DvA G vs ds
  | _, [], .nil => .nil
  | _, _ :: _, .cons h t => .cons h (ROs.ims t)
theorem ROs.of_ims {G : Hp} : ∀ {vs : List V} {ds : List PyData}, DvA G vs ds → ROs G vs (ds.map .im)
  | _, _, .nil => .nil
  | _, _, .cons h t => .cons h (ROs.of_ims t)
theorem ROs.append {G : Hp} : ∀ {vs ws : List V} {os ps : List OV}, ROs G vs os → ROs G ws ps → ROs G (vs ++ ws) (os ++ ps)
  | _, _, _, _, .nil, s => s
  | _, _, _, _, .cons h t, s => .cons h (ROs.append t s)
theorem ROs.get {G : Hp} : ∀ {vs : List V} {os : List OV} {i : Nat} {o : OV}, ROs G vs os → os[i]? = some o → ∃ v, vs[i]? = some v ∧ RO G v o
  | _, _, _, _, .nil, e => by simp at e
  | _, _, 0, _, .cons h _, e => by
    simp at e
    subst e
    exact ⟨_, rfl, h⟩
  | _, _, i + 1, d, .cons _ hs, e => by
    obtain ⟨v, h1, h2⟩ := ROs.get (i := i) hs (by simpa using e)
    exact ⟨v, by simpa using h1, h2⟩
theorem ROs.getV {G : Hp} : ∀ {vs : List V} {os : List OV} {i : Nat} {v : V}, ROs G vs os → vs[i]? = some v → ∃ o, os[i]? = some o ∧ RO G v o
  | _, _, _, _, .nil, e => by simp at e
  | _, _, 0, _, .cons h _, e => by
    simp at e
    subst e
    exact ⟨_, rfl, h⟩
  | _, _, i + 1, d, .cons _ hs, e => by
    obtain ⟨v, h1, h2⟩ := ROs.getV (i := i) hs (by simpa using e)
    exact ⟨v, by simpa using h1, h2⟩
theorem ROs.set {G : Hp} {v : V} {o : OV} (r : RO G v o) : ∀ {vs : List V} {os : List OV} (i : Nat), ROs G vs os → ROs G (vs.set i v) (os.set i o)
  | _, _, _, .nil => .nil
  | _, _, 0, .cons _ t => .cons r t
  | _, _, i + 1, .cons q t => .cons q (ROs.set r i t)
theorem ROs.erase {G : Hp} : ∀ {vs : List V} {os : List OV} (i : Nat), ROs G vs os → ROs G (vs.eraseIdx i) (os.eraseIdx i)
  | _, _, _, .nil => .nil
  | _, _, 0, .cons _ t => t
  | _, _, i + 1, .cons q t => .cons q (ROs.erase i t)
theorem ROs.take {G : Hp} : ∀ {vs : List V} {ds : List OV} (n : Nat), ROs G vs ds → ROs G (vs.take n) (ds.take n)
  | _, _, 0, _ => .nil
  | _, _, _ + 1, .nil => .nil
  | _, _, n + 1, .cons r t => .cons r (ROs.take n t)
theorem ROs.drop {G : Hp} : ∀ {vs : List V} {ds : List OV} (n : Nat), ROs G vs ds → ROs G (vs.drop n) (ds.drop n)
  | _, _, 0, r => r
  | _, _, _ + 1, .nil => .nil
  | _, _, n + 1, .cons _ t => ROs.drop n t
theorem ROs.snoc {G : Hp} {vs : List V} {os : List OV} {v : V} {o : OV} (h : ROs G vs os) (r : RO G v o) : ROs G (vs ++ [v]) (os ++ [o]) := h.append (.cons r .nil)
structure Cir where
  C : Addr
  sz : Int
  bg : List Int
  ops : List (List Int)
  ent : List Str
inductive Th where
  | dT (kvs : List (List Int × OV))
  | cir (c : Cir)
structure Mu where
  l : Addr → Option (List OV)
  d : Addr → Option Th
  C : Addr
instance : CoeFun Mu (fun _ => Addr → Option (List OV)) := ⟨Mu.l⟩
theorem mu_ext {μ ν : Mu} (h : ∀ b : Addr, μ b = ν b) (hd : μ.d = ν.d) (hC : μ.C = ν.C) : μ = ν := by
  obtain ⟨l, d, C⟩ := μ
  obtain ⟨l', d', C'⟩ := ν
  have h : l = l' := funext h
  cases h
  cases hd
  cases hC
  rfl
def Mu.put (μ : Mu) (a : Addr) (l : List OV) : Mu := { μ with l := fun b => if b = a then some l else μ b }
def Mu.del (μ : Mu) (a : Addr) : Mu := { μ with l := fun b => if b = a then none else μ b }
theorem put_same {μ : Mu} {a : Addr} {l : List OV} : μ.put a l a = some l := if_pos rfl
theorem put_ne {μ : Mu} {a b : Addr} {l : List OV} (h : b ≠ a) : μ.put a l b = μ b := if_neg h
theorem put_put {μ : Mu} {a : Addr} {l m : List OV} : (μ.put a l).put a m = μ.put a m := by
  unfold Mu.put
  congr 1
  funext b
  dsimp only
  split <;> rfl
def keyT (is : List Int) : List Key := is.map fun i => Sum.inl i
def ThOk (C : Addr) (who : Addr → Option Addr) (G H : Hp) (a : Addr) : Th → Prop
  | .dT kvs => ∃ xs : List V, H a = some (.dT ((kvs.map fun p => keyT p.1).zip xs)) ∧ ROs G xs (kvs.map (·.2))
  | .cir c => ∃ dx q r vb xs ys, H a = some (.ins c.C dx [("size", .int c.sz), ("beginning", vb), ("operations", .ref q), ("entries", .ref r)]) ∧ H dx = some (.own a) ∧ H q = some (.lst xs) ∧ H r = some (.lst ys) ∧
      who dx = some a ∧ who q = some a ∧ who r = some a ∧ q ≠ r ∧ Dv G vb (.tuple (c.bg.map .int)) ∧ DvA G xs (c.ops.map fun is => .tuple (is.map .int)) ∧ DvA G ys (c.ent.map .str)
theorem ThOk.mono {C : Addr} {who : Addr → Option Addr} {G G' H : Hp} {a : Addr} (e : Ex G G') : ∀ {t : Th}, ThOk C who G H a t → ThOk C who G' H a t
  | .dT kvs, ⟨xs, h1, h2⟩ => ⟨xs, h1, h2.mono e⟩
  | .cir c, ⟨dx, q, r, vb, xs, ys, h1, h2, h3, h4, h5, h6, h7, h8, h9, h10, h11⟩ => ⟨dx, q, r, vb, xs, ys, h1, h2, h3, h4, h5, h6, h7, h8, h9.mono e, h10.mono e, h11.mono e⟩
theorem ThOk.keep {C : Addr} {who : Addr → Option Addr} {G H H' : Hp} {a : Addr} (hw : who a = some a) (k : ∀ x, who x = some a → H' x = H x) : ∀ {t : Th}, ThOk C who G H a t → ThOk C who G H' a t
  | .dT kvs, ⟨xs, h1, h2⟩ => ⟨xs, (k _ hw).trans h1, h2⟩
  | .cir c, ⟨dx, q, r, vb, xs, ys, h1, h2, h3, h4, h5, h6, h7, h8, h9, h10, h11⟩ => ⟨dx, q, r, vb, xs, ys, (k _ hw).trans h1, (k _ h5).trans h2, (k _ h6).trans h3, (k _ h7).trans h4, h5, h6, h7, h8, h9, h10, h11⟩
def Mutb : HO → Prop
  | .lst _ => True
  | .dT _ => True
  | .ins _ _ _ => True
  | .own _ => True
  | _ => False
structure Thg (who : Addr → Option Addr) (G H : Hp) (μ : Mu) : Prop where
  ok : ∀ a t, μ.d a = some t → who a = some a ∧ ThOk μ.C who G H a t
  of : ∀ x a, who x = some a → G x = none ∧ μ x = none ∧ (∃ o, H x = some o ∧ Mutb o) ∧ (μ.d a).isSome = true
theorem Thg.keep {who : Addr → Option Addr} {G G' H H' : Hp} {μ μ' : Mu} (h : Thg who G H μ) (e : Ex G G') (hd : μ'.d = μ.d) (hC : μ'.C = μ.C) (k : ∀ x a, who x = some a → H' x = H x ∧ G' x = none ∧ μ' x = none) : Thg who G' H' μ' :=
  ⟨fun a t q => by
    rw [hd] at q
    obtain ⟨h1, h2⟩ := h.ok a t q
    rw [hC]
    exact ⟨h1, (h2.mono e).keep h1 fun x hx => (k x a hx).1⟩, fun x a hx => by
    obtain ⟨h1, h2, h3, h4⟩ := h.of x a hx
    obtain ⟨k1, k2, k3⟩ := k x a hx
    exact ⟨k2, k3, by rw [k1]; exact h3, by rw [hd]; exact h4⟩⟩
structure RM (G H : Hp) (μ : Mu) : Prop where
  ex : Ex G H
  own : ∀ a l, μ a = some l → G a = none ∧ ∃ vs, H a = some (.lst vs) ∧ ROs G vs l
  thg : ∃ who, Thg who G H μ
abbrev Rho := List (Option OV)
structure RV (G : Hp) (ρ : Rho) (σ : L2.St) : Prop where
  len : σ.length = ρ.length
  get : ∀ (i : Nat) o, ρ[i]? = some (some o) → ∃ v, σ[i]? = some (some v) ∧ RO G v o
section
variable {G G' H H' : Hp} {μ : Mu} {ρ : Rho} {σ : L2.St}
theorem RV.mono (h : RV G ρ σ) (e : Ex G G') : RV G' ρ σ := ⟨h.len, fun i o q => let ⟨v, a, b⟩ := h.get i o q; ⟨v, a, b.mono e⟩⟩
theorem RV.set (h : RV G ρ σ) {i : Nat} {v : V} {o : OV} (r : RO G v o) : RV G (ρ.set i (some o)) (σ.set i (some v)) := by
  refine ⟨by rw [List.length_set, List.length_set, h.len], fun j p q => ?_⟩
  by_cases e : i = j
  · subst e
    by_cases hl : i < ρ.length
    · rw [List.getElem?_set_self hl] at q
      cases q
      exact ⟨v, List.getElem?_set_self (by rw [h.len]; exact hl), r⟩
    · rw [List.getElem?_eq_none (by rw [List.length_set]; omega)] at q
      cases q
  · rw [List.getElem?_set_ne e] at q ⊢
    exact h.get j p q
theorem RV.wipe (h : RV G ρ σ) : ∀ (vs : List Nat), RV G (vs.foldr (fun v r => r.set v none) ρ) (L2.wipe σ vs)
  | [] => h
  | v :: vs => by
    have ih := RV.wipe h vs
    refine ⟨by show ((L2.wipe σ vs).set v none).length = _; rw [List.length_set, ih.len, List.foldr_cons, List.length_set], fun j p q => ?_⟩
    rw [List.foldr_cons] at q
    by_cases e : v = j
    · subst e
      by_cases hl : v < (vs.foldr (fun v r => r.set v none) ρ).length
      · rw [List.getElem?_set_self hl] at q
        cases q
      · rw [List.getElem?_eq_none (by rw [List.length_set]; omega)] at q
        cases q
    · rw [List.getElem?_set_ne e] at q
      obtain ⟨v', a, b⟩ := ih.get j p q
      refine ⟨v', ?_, b⟩
      show ((L2.wipe σ vs).set v none)[j]? = _
      rw [List.getElem?_set_ne e]
      exact a
theorem RM.fresh (r : RM G H μ) {p : Addr} (h : H p = none) : μ p = none := by
  cases q : μ p with
  | none => rfl
  | some l =>
    obtain ⟨_, vs, e, _⟩ := r.own p l q
    rw [h] at e
    cases e
theorem Thg.ne {who : Addr → Option Addr} (t : Thg who G H μ) {p x a : Addr} (h : H p = none) (hx : who x = some a) : x ≠ p := fun e => by
  obtain ⟨o, ho, _⟩ := (t.of x a hx).2.2.1
  rw [e, h] at ho
  cases ho
theorem Thg.neL {who : Addr → Option Addr} (t : Thg who G H μ) {p x a : Addr} {l : List OV} (h : μ p = some l) (hx : who x = some a) : x ≠ p := fun e => by
  have := (t.of x a hx).2.1
  rw [e, h] at this
  cases this
theorem RM.lay (r : RM G H μ) {p : Addr} {o : HO} (h : H p = none) : RM (upd G p o) (upd H p o) μ := by
  refine ⟨fun a u e => ?_, fun a l q => ?_, ?_⟩
  · by_cases ha : a = p
    · subst ha
      rw [upd_same] at e ⊢
      exact e
    · rw [upd_ne ha] at e ⊢
      exact r.ex a u e
  · obtain ⟨g, vs, e, w⟩ := r.own a l q
    have ha : a ≠ p := ne_of_none e h
    refine ⟨by rw [upd_ne ha]; exact g, vs, by rw [upd_ne ha]; exact e, w.mono (Ex.new (r.ex.free h))⟩
  · obtain ⟨who, t⟩ := r.thg
    refine ⟨who, t.keep (Ex.new (r.ex.free h)) rfl rfl fun x a hx => ?_⟩
    have n := t.ne h hx
    exact ⟨upd_ne n, by rw [upd_ne n]; exact (t.of x a hx).1, (t.of x a hx).2.1⟩
theorem RM.new (r : RM G H μ) {p : Addr} {vs : List V} {l : List OV} (h : H p = none) (w : ROs G vs l) : RM G (upd H p (.lst vs)) (μ.put p l) := by
  refine ⟨r.ex.trans (Ex.new h), fun a m q => ?_, ?_⟩
  · by_cases ha : a = p
    · subst ha
      rw [put_same] at q
      cases q
      exact ⟨r.ex.free h, vs, upd_same, w⟩
    · rw [put_ne ha] at q
      obtain ⟨g, us, e, w⟩ := r.own a m q
      exact ⟨g, us, by rw [upd_ne ha]; exact e, w⟩
  · obtain ⟨who, t⟩ := r.thg
    refine ⟨who, t.keep (Ex.refl G) rfl rfl fun x a hx => ?_⟩
    have n := t.ne h hx
    exact ⟨upd_ne n, (t.of x a hx).1, by rw [put_ne n]; exact (t.of x a hx).2.1⟩
theorem RM.chg (r : RM G H μ) {p : Addr} {vs : List V} {l m : List OV} (h : μ p = some m) (w : ROs G vs l) : RM G (upd H p (.lst vs)) (μ.put p l) := by
  obtain ⟨g0, us0, e0, _⟩ := r.own p m h
  refine ⟨fun a u e => ?_, fun a m q => ?_, ?_⟩
  · rw [upd_ne (ne_of_none e g0)]
    exact r.ex a u e
  · by_cases ha : a = p
    · subst ha
      rw [put_same] at q
      cases q
      exact ⟨g0, vs, upd_same, w⟩
    · rw [put_ne ha] at q
      obtain ⟨g, us, e, w⟩ := r.own a m q
      exact ⟨g, us, by rw [upd_ne ha]; exact e, w⟩
  · obtain ⟨who, t⟩ := r.thg
    refine ⟨who, t.keep (Ex.refl G) rfl rfl fun x a hx => ?_⟩
    have n := t.neL h hx
    exact ⟨upd_ne n, (t.of x a hx).1, by rw [put_ne n]; exact (t.of x a hx).2.1⟩
theorem RM.frz (r : RM G H μ) {p : Addr} {ds : List PyData} (h : μ p = some (ds.map .im)) : ∃ vs, H p = some (.lst vs) ∧ G p = none ∧ DvA G vs ds ∧ RM (upd G p (.lst vs)) H (μ.del p) := by
  obtain ⟨g0, vs, e0, w⟩ := r.own p _ h
  refine ⟨vs, e0, g0, ROs.ims w, fun a u e => ?_, fun a m q => ?_, ?_⟩
  · by_cases ha : a = p
    · subst ha
      rw [upd_same] at e
      cases e
      exact e0
    · rw [upd_ne ha] at e
      exact r.ex a u e
  · by_cases ha : a = p
    · subst ha
      rw [show μ.del a a = none from if_pos rfl] at q
      cases q
    · rw [show μ.del p a = μ a from if_neg ha] at q
      obtain ⟨g, us, e, w⟩ := r.own a m q
      exact ⟨by rw [upd_ne ha]; exact g, us, e, w.mono (Ex.new g0)⟩
  · obtain ⟨who, t⟩ := r.thg
    refine ⟨who, t.keep (Ex.new g0) rfl rfl fun x a hx => ?_⟩
    have n := t.neL h hx
    exact ⟨rfl, by rw [upd_ne n]; exact (t.of x a hx).1, by rw [show μ.del p x = μ x from if_neg n]; exact (t.of x a hx).2.1⟩
theorem RM.drop (r : RM G H μ) {μ' : Mu} (h : ∀ a l, μ' a = some l → μ a = some l) (hd : μ'.d = μ.d) (hC : μ'.C = μ.C) : RM G H μ' := ⟨r.ex, fun a l q => r.own a l (h a l q), by
  obtain ⟨who, t⟩ := r.thg
  refine ⟨who, t.keep (Ex.refl G) hd hC fun x a hx => ⟨rfl, (t.of x a hx).1, ?_⟩⟩
  cases q : μ' x with
  | none => rfl
  | some l =>
    have := (t.of x a hx).2.1
    rw [h x l q] at this
    cases this⟩
theorem RM.zero (C : Addr) : RM H H ⟨fun _ => none, fun _ => none, C⟩ := ⟨Ex.refl H, fun _ _ h => (nomatch h : False).elim, fun _ => none, fun _ _ h => (nomatch h : False).elim, fun _ _ h => (nomatch h : False).elim⟩
theorem RM.raw (r : RM G H μ) {p : Addr} {o : HO} (h : H p = none) : RM G (upd H p o) μ := ⟨r.ex.trans (Ex.new h), fun a l q => by
  obtain ⟨g, vs, e, w⟩ := r.own a l q
  exact ⟨g, vs, by rw [upd_ne (ne_of_none e h)]; exact e, w⟩, by
  obtain ⟨who, t⟩ := r.thg
  exact ⟨who, t.keep (Ex.refl G) rfl rfl fun x a hx => ⟨upd_ne (t.ne h hx), (t.of x a hx).1, (t.of x a hx).2.1⟩⟩⟩
end
end Nx
namespace Nx
open PySem PySem.Spec PyProof.Rows L2
def Fin (G : Hp) (Φ : OV → Mu → Prop) (Q : VK) : Prop := ∀ v o μ' G' H', Φ o μ' → Ex G G' → RM G' H' μ' → RO G' v o → Q v H'
theorem Fin.later {G G' : Hp} {Φ : OV → Mu → Prop} {Q : VK} (f : Fin G Φ Q) (e : Ex G G') : Fin G' Φ Q := fun v o μ' G2 H' h e2 => f v o μ' G2 H' h (e.trans e2)
def DE (X : Cx) (e : Expr) (ρ : Rho) (μ : Mu) (Φ : OV → Mu → Prop) : Prop := ∀ G H σ, RM G H μ → RV G ρ σ → ∀ Q : VK, Fin G Φ Q → WE X e σ H Q
def DT (X : Cx) (e : Expr) (ρ : Rho) (μ : Mu) (Φ : Bool → Mu → Prop) : Prop := ∀ G H σ, RM G H μ → RV G ρ σ → ∀ Q : Bool → Hp → Prop, (∀ b μ' G' H', Φ b μ' → Ex G G' → RM G' H' μ' → Q b H') → WT X e σ H Q
def DA (X : Cx) (es : List Expr) (ρ : Rho) (μ : Mu) (Φ : List OV → Mu → Prop) : Prop := ∀ G H σ, RM G H μ → RV G ρ σ → ∀ Q : List V → Hp → Prop, (∀ vs os μ' G' H', Φ os μ' → Ex G G' → RM G' H' μ' → ROs G' vs os → Q vs H') → WA X es σ H Q
def DK (X : Cx) (ks : List Keyword) (ρ : Rho) (μ : Mu) (Φ : List OV → Mu → Prop) : Prop := ∀ G H σ, RM G H μ → RV G ρ σ → ∀ Q : List V → Hp → Prop, (∀ vs os μ' G' H', Φ os μ' → Ex G G' → RM G' H' μ' → ROs G' vs os → Q vs H') → WK X ks σ H Q
structure DEnds where
  nx : Rho → Mu → Prop
  rt : OV → Mu → Prop
  bk : Rho → Mu → Prop := fun _ _ => False
  ct : Rho → Mu → Prop := fun _ _ => False
def FinS (G : Hp) (P : Rho → Mu → Prop) (Q : L2.St → Hp → Prop) : Prop := ∀ ρ' μ' G' H' σ', P ρ' μ' → Ex G G' → RM G' H' μ' → RV G' ρ' σ' → Q σ' H'
theorem FinS.later {G G' : Hp} {P : Rho → Mu → Prop} {Q : L2.St → Hp → Prop} (f : FinS G P Q) (e : Ex G G') : FinS G' P Q := fun ρ' μ' G2 H' σ' h e2 => f ρ' μ' G2 H' σ' h (e.trans e2)
structure FinE (G : Hp) (D : DEnds) (E : Ends) : Prop where
  nx : FinS G D.nx E.nx
  rt : Fin G D.rt E.rt
  bk : FinS G D.bk E.bk
  ct : FinS G D.ct E.ct
theorem FinE.later {G G' : Hp} {D : DEnds} {E : Ends} (f : FinE G D E) (e : Ex G G') : FinE G' D E := ⟨f.nx.later e, f.rt.later e, f.bk.later e, f.ct.later e⟩
def DS (X : Cx) (st : Stmt) (ρ : Rho) (μ : Mu) (D : DEnds) : Prop := ∀ G H σ, RM G H μ → RV G ρ σ → ∀ E : Ends, FinE G D E → WS X st E σ H
def DSs (X : Cx) (ss : List Stmt) (ρ : Rho) (μ : Mu) (D : DEnds) : Prop := ∀ G H σ, RM G H μ → RV G ρ σ → ∀ E : Ends, FinE G D E → WSs X ss E σ H
section
variable {X : Cx} {a b c e : Expr} {es : List Expr} {ρ : Rho} {μ : Mu} {Φ : OV → Mu → Prop} {pos : Pos}
theorem DE.imp {Ψ : OV → Mu → Prop} (h : DE X e ρ μ Φ) (k : ∀ o μ', Φ o μ' → Ψ o μ') : DE X e ρ μ Ψ := fun G H σ r v Q f => h G H σ r v Q fun v o μ' G' H' q => f v o μ' G' H' (k o μ' q)
theorem DT.imp {Φ Ψ : Bool → Mu → Prop} (h : DT X e ρ μ Φ) (k : ∀ o μ', Φ o μ' → Ψ o μ') : DT X e ρ μ Ψ := fun G H σ r v Q f => h G H σ r v Q fun o μ' G' H' q => f o μ' G' H' (k o μ' q)
theorem DA.imp {Φ Ψ : List OV → Mu → Prop} (h : DA X es ρ μ Φ) (k : ∀ o μ', Φ o μ' → Ψ o μ') : DA X es ρ μ Ψ := fun G H σ r v Q f => h G H σ r v Q fun v o μ' G' H' q => f v o μ' G' H' (k o μ' q)
theorem DSs.imp {ss : List Stmt} {D D' : DEnds} (h : DSs X ss ρ μ D) (k1 : ∀ r m, D.nx r m → D'.nx r m) (k2 : ∀ o m, D.rt o m → D'.rt o m) (k3 : ∀ r m, D.bk r m → D'.bk r m) (k4 : ∀ r m, D.ct r m → D'.ct r m) : DSs X ss ρ μ D' :=
  fun G H σ r v E f => h G H σ r v E ⟨fun ρ' μ' G' H' σ' q => f.nx ρ' μ' G' H' σ' (k1 _ _ q), fun v o μ' G' H' q => f.rt v o μ' G' H' (k2 _ _ q), fun ρ' μ' G' H' σ' q => f.bk ρ' μ' G' H' σ' (k3 _ _ q), fun ρ' μ' G' H' σ' q => f.ct ρ' μ' G' H' σ' (k4 _ _ q)⟩
theorem DS.imp {ss : Stmt} {D D' : DEnds} (h : DS X ss ρ μ D) (k1 : ∀ r m, D.nx r m → D'.nx r m) (k2 : ∀ o m, D.rt o m → D'.rt o m) (k3 : ∀ r m, D.bk r m → D'.bk r m) (k4 : ∀ r m, D.ct r m → D'.ct r m) : DS X ss ρ μ D' :=
  fun G H σ r v E f => h G H σ r v E ⟨fun ρ' μ' G' H' σ' q => f.nx ρ' μ' G' H' σ' (k1 _ _ q), fun v o μ' G' H' q => f.rt v o μ' G' H' (k2 _ _ q), fun ρ' μ' G' H' σ' q => f.bk ρ' μ' G' H' σ' (k3 _ _ q), fun ρ' μ' G' H' σ' q => f.ct ρ' μ' G' H' σ' (k4 _ _ q)⟩
theorem de_frz {ds : List PyData} {p : Addr} (h : DE X e ρ μ fun o μ' => ∃ p ds, o = .own p ∧ μ' p = some (ds.map .im) ∧ Φ (.im (.list ds)) (μ'.del p)) : DE X e ρ μ Φ := fun G H σ r v Q f =>
  h G H σ r v Q fun v o μ' G' H' q e m ro => by
    obtain ⟨p, ds, rfl, hp, q⟩ := q
    obtain ⟨vs, e0, g0, w, m'⟩ := m.frz hp
    have ro : v = .ref p := ro
    subst ro
    exact f _ _ _ _ _ q (e.trans (Ex.new g0)) m' (Dv.lst upd_same (w.mono (Ex.new g0)))
theorem de_var (i : Nat) {x : Str} {o : OV} (hN : X.N[i]? = some x) (hv : Vis X.env.scope x) (hρ : ρ[i]? = some (some o)) (h : Φ o μ) (hd : (x == ("__debug__" : Str)) = false := by decide) (hcd : (x == ("__classdict__" : Str)) = false := by decide) : DE X (.Name x pos) ρ μ Φ := fun G H σ r v Q f => by
  obtain ⟨u, h1, h2⟩ := v.get i o hρ
  exact WE.of (pe_var hN hv hd hcd) ⟨u, h1, f u o μ G H h (Ex.refl G) r h2⟩
theorem de_v (i : Nat) {x : Str} {o : OV} (hρ : ρ[i]? = some (some o)) (h : Φ o μ) (hN : X.N[i]? = some x := by rfl) (hv : Vis X.env.scope x := by first | exact Or.inl rfl | exact Or.inr (Or.inl rfl) | exact Or.inr (Or.inr rfl))
    (hd : (x == ("__debug__" : Str)) = false := by decide) (hcd : (x == ("__classdict__" : Str)) = false := by decide) : DE X (.Name x pos) ρ μ Φ := de_var i hN hv hρ h hd hcd
theorem de_int {i : Int} {j : Nat} (h : Φ (.im (.int i)) μ) : DE X (.Constant (.int i) j pos) ρ μ Φ := fun G H σ r v Q f => WE.of pe_int (f _ _ _ _ _ h (Ex.refl G) r (Dv.int i))
theorem de_bl {i : Bool} {j : Nat} (h : Φ (.im (.bool i)) μ) : DE X (.Constant (.bool i) j pos) ρ μ Φ := fun G H σ r v Q f => WE.of pe_bl (f _ _ _ _ _ h (Ex.refl G) r (Dv.bl i))
theorem de_non {j : Nat} (h : Φ (.im .none) μ) : DE X (.Constant .none j pos) ρ μ Φ := fun G H σ r v Q f => WE.of pe_non (f _ _ _ _ _ h (Ex.refl G) r Dv.non)
theorem de_str {i : Str} {j : Nat} (h : Φ (.im (.str i)) μ) : DE X (.Constant (.str i) j pos) ρ μ Φ := fun G H σ r v Q f => WE.of pe_str (f _ _ _ _ _ h (Ex.refl G) r (Dv.str i))
def OpD (r : R2) (x y : OV) (μ : Mu) (Φ : OV → Mu → Prop) : Prop := ∀ G H vx vy, RM G H μ → RO G vx x → RO G vy y → ∀ Q : VK, Fin G Φ Q → r vx vy H Q
theorem de_op {op : Operator} {r : R2} (ho : OpR X (binaryOp op) r) (h : DE X a ρ μ fun x μ1 => DE X b ρ μ1 fun y μ2 => OpD r x y μ2 Φ) : DE X (.BinOp a op b pos) ρ μ Φ := fun G H σ m v Q f =>
  WE.of (pe_op ho pwe pwe) (h G H σ m v _ fun vx x μ1 G1 H1 q1 e1 m1 r1 => q1 G1 H1 σ m1 (v.mono e1) _ fun vy y μ2 G2 H2 q2 e2 m2 r2 => q2 G2 H2 vx vy m2 (r1.mono e2) r2 Q (f.later (e1.trans e2)))
theorem de_cmp {op : CmpOp} {r : R2} (ho : OpR X (compareOp op) r) (hm : behindInMarks op b = false) (h : DE X a ρ μ fun x μ1 => DE X b ρ μ1 fun y μ2 => OpD r x y μ2 Φ) : DE X (.Compare a [op] [b] pos) ρ μ Φ := fun G H σ m v Q f =>
  WE.of (pe_cmpR ho pwe pwe hm) (h G H σ m v _ fun vx x μ1 G1 H1 q1 e1 m1 r1 => q1 G1 H1 σ m1 (v.mono e1) _ fun vy y μ2 G2 H2 q2 e2 m2 r2 => q2 G2 H2 vx vy m2 (r1.mono e2) r2 Q (f.later (e1.trans e2)))
theorem dt_cmp {Φ : Bool → Mu → Prop} {op : CmpOp} {r : R2} (ho : OpR X (compareOp op) r) (hm : behindInMarks op b = false) (h : DE X a ρ μ fun x μ1 => DE X b ρ μ1 fun y μ2 => OpD r x y μ2 fun z μ3 => ∃ k, z = .im (.bool k) ∧ Φ k μ3) : DT X (.Compare a [op] [b] pos) ρ μ Φ := fun G H σ m v Q f =>
  WT.of (pt_cmpR ho pwe pwe hm) (h G H σ m v _ fun vx x μ1 G1 H1 q1 e1 m1 r1 => q1 G1 H1 σ m1 (v.mono e1) _ fun vy y μ2 G2 H2 q2 e2 m2 r2 => q2 G2 H2 vx vy m2 (r1.mono e2) r2 _ fun vz z μ3 G3 H3 q3 e3 m3 r3 => by
    obtain ⟨k, rfl, q⟩ := q3
    cases r3
    exact ⟨k, rfl, f k μ3 G3 H3 q ((e1.trans e2).trans e3) m3⟩)
theorem od_I0 {g : Int → Int → Int} {i j : Int} (h : Φ (.im (.int (g i j))) μ) : OpD (rI0 fun i j => .int (g i j)) (.im (.int i)) (.im (.int j)) μ Φ := fun G H vx vy m rx ry Q f => by
  cases rx
  cases ry
  exact ⟨i, j, rfl, rfl, f _ _ μ G H h (Ex.refl G) m (Dv.int _)⟩
theorem od_B0 {g : Int → Int → Bool} {i j : Int} (h : Φ (.im (.bool (g i j))) μ) : OpD (rI0 fun i j => .bl (g i j)) (.im (.int i)) (.im (.int j)) μ Φ := fun G H vx vy m rx ry Q f => by
  cases rx
  cases ry
  exact ⟨i, j, rfl, rfl, f _ _ μ G H h (Ex.refl G) m (Dv.bl _)⟩
theorem od_I {C : Int → Int → Prop} {g : Int → Int → Int} {i j : Int} (hc : C i j) (h : Φ (.im (.int (g i j))) μ) : OpD (rI C fun i j => .int (g i j)) (.im (.int i)) (.im (.int j)) μ Φ := fun G H vx vy m rx ry Q f => by
  cases rx
  cases ry
  exact ⟨i, j, rfl, rfl, hc, f _ _ μ G H h (Ex.refl G) m (Dv.int _)⟩
theorem OpD.or {r r' : R2} {x y : OV} (h : OpD r x y μ Φ ∨ OpD r' x y μ Φ) : OpD (fun x y H Q => r x y H Q ∨ r' x y H Q) x y μ Φ := fun G H vx vy m rx ry Q f => by
  rcases h with h | h
  · exact .inl (h G H vx vy m rx ry Q f)
  · exact .inr (h G H vx vy m rx ry Q f)
def AddD (x y : OV) (μ : Mu) (Φ : OV → Mu → Prop) : Prop :=
  (∃ i j, x = .im (.int i) ∧ y = .im (.int j) ∧ Φ (.im (.int (i + j))) μ) ∨
  (∃ xs ys, x = .im (.list xs) ∧ y = .im (.list ys) ∧ xs.length + ys.length ≤ 100000 ∧ Φ (.im (.list (xs ++ ys))) μ) ∨
  (∃ x' y', x = .im (.str x') ∧ y = .im (.str y') ∧ x'.length + y'.length ≤ 100000 ∧ Φ (.im (.str (x' ++ y'))) μ)
theorem od_cat {xs ys : List PyData} (hz : xs.length + ys.length ≤ 100000) (h : Φ (.im (.list (xs ++ ys))) μ) : OpD rCat (.im (.list xs)) (.im (.list ys)) μ Φ := fun G H vx vy m rx ry Q f => by
  cases rx with
  | lst h1 w1 =>
    cases ry with
    | lst h2 w2 =>
      refine ⟨_, _, _, _, rfl, rfl, m.ex _ _ h1, m.ex _ _ h2, by rw [w1.length, w2.length]; exact Nat.le_trans hz (by decide), fun p hp => ?_⟩
      have n := m.ex.free hp
      exact f _ _ μ _ _ h (Ex.new n) (m.lay hp) (Dv.lst upd_same ((w1.append w2).mono (Ex.new n)))
theorem de_add (h : DE X a ρ μ fun x μ1 => DE X b ρ μ1 fun y μ2 => AddD x y μ2 Φ) : DE X (.BinOp a .Add b pos) ρ μ Φ := by
  refine de_op ((op_add.or op_cat).or op_add_str) (h.imp fun x μ1 h1 => h1.imp fun y μ2 h2 => ?_)
  rcases h2 with ⟨i, j, rfl, rfl, q⟩ | ⟨xs, ys, rfl, rfl, hz, q⟩ | ⟨xs, ys, rfl, rfl, hz, q⟩
  · exact .or (.inl (.or (.inl (od_I0 q))))
  · exact .or (.inl (.or (.inr (od_cat hz q))))
  · refine .or (.inr fun G H vx vy m rx ry Q f => ?_)
    cases rx
    cases ry
    exact ⟨_, _, rfl, rfl, Nat.le_trans hz (by decide), f _ _ _ _ _ q (Ex.refl G) m (Dv.str _)⟩
theorem de_mod (h : DE X a ρ μ fun x μ1 => DE X b ρ μ1 fun y μ2 => ∃ i j, x = .im (.int i) ∧ y = .im (.int j) ∧ 0 < j ∧ Φ (.im (.int (i % j))) μ2) : DE X (.BinOp a .Mod b pos) ρ μ Φ := by
  refine de_op op_mod (h.imp fun x μ1 h1 => h1.imp fun y μ2 h2 => ?_)
  obtain ⟨i, j, rfl, rfl, hj, q⟩ := h2
  exact od_I hj q
theorem de_fdiv (h : DE X a ρ μ fun x μ1 => DE X b ρ μ1 fun y μ2 => ∃ i j, x = .im (.int i) ∧ y = .im (.int j) ∧ CDiv i j ∧ Φ (.im (.int (i / j))) μ2) : DE X (.BinOp a .FloorDiv b pos) ρ μ Φ := by
  refine de_op op_fdiv (h.imp fun x μ1 h1 => h1.imp fun y μ2 h2 => ?_)
  obtain ⟨i, j, rfl, rfl, hj, q⟩ := h2
  exact od_I hj q
theorem de_mul (h : DE X a ρ μ fun x μ1 => DE X b ρ μ1 fun y μ2 => ∃ i j, x = .im (.int i) ∧ y = .im (.int j) ∧ CMul i j ∧ Φ (.im (.int (i * j))) μ2) : DE X (.BinOp a .Mult b pos) ρ μ Φ := by
  refine de_op op_mul (h.imp fun x μ1 h1 => h1.imp fun y μ2 h2 => ?_)
  obtain ⟨i, j, rfl, rfl, hj, q⟩ := h2
  exact od_I hj q
theorem de_pow (h : DE X a ρ μ fun x μ1 => DE X b ρ μ1 fun y μ2 => ∃ i j, x = .im (.int i) ∧ y = .im (.int j) ∧ CPow i j ∧ Φ (.im (.int (i ^ j.toNat))) μ2) : DE X (.BinOp a .Pow b pos) ρ μ Φ := by
  refine de_op op_pow (h.imp fun x μ1 h1 => h1.imp fun y μ2 h2 => ?_)
  obtain ⟨i, j, rfl, rfl, hj, q⟩ := h2
  exact od_I hj q
theorem de_neg (h : DE X a ρ μ fun x μ1 => ∃ i, x = .im (.int i) ∧ Φ (.im (.int (-i))) μ1) : DE X (.UnaryOp .USub a pos) ρ μ Φ := fun G H σ m v Q f =>
  WE.of (pe_un un_neg pwe) (h G H σ m v _ fun vx x μ1 G1 H1 q1 e1 m1 r1 => by
    obtain ⟨i, rfl, q⟩ := q1
    cases r1
    exact ⟨i, rfl, f _ _ _ _ _ q e1 m1 (Dv.int _)⟩)
inductive RdD (μ : Mu) : OV → PyData → Prop
  | im (d : PyData) : RdD μ (.im d) d
  | own {a : Addr} {ds : List PyData} : μ a = some (ds.map .im) → RdD μ (.own a) (.list ds)
theorem RdD.at {G H : Hp} {μ : Mu} (m : RM G H μ) {v : V} {o : OV} {d : PyData} (h : RdD μ o d) (r : RO G v o) : Dv H v d := by
  cases h with
  | im d => exact Dv.mono m.ex r
  | own h =>
    have r : v = _ := r
    subst r
    obtain ⟨_, vs, e, w⟩ := m.own _ _ h
    exact .lst e ((ROs.ims w).mono m.ex)
def CmpI (p : Int → Int → Bool) (Φ : OV → Mu → Prop) (x y : OV) (μ : Mu) : Prop := ∃ i j, x = .im (.int i) ∧ y = .im (.int j) ∧ Φ (.im (.bool (p i j))) μ
theorem de_ge (h : DE X a ρ μ fun x μ1 => DE X b ρ μ1 fun y μ2 => CmpI (fun i j => decide (j ≤ i)) Φ x y μ2) : DE X (.Compare a [.GtE] [b] pos) ρ μ Φ :=
  de_cmp op_ge (nomark _) (h.imp fun x μ1 h1 => h1.imp fun y μ2 ⟨i, j, e1, e2, q⟩ => by subst e1 e2; exact od_B0 q)
def CmpB (Φ : Bool → Mu → Prop) : OV → Mu → Prop := fun z μ3 => ∃ k, z = .im (.bool k) ∧ Φ k μ3
theorem dt_gt {Φ : Bool → Mu → Prop} (h : DE X a ρ μ fun x μ1 => DE X b ρ μ1 fun y μ2 => ∃ i j, x = .im (.int i) ∧ y = .im (.int j) ∧ Φ (decide (j < i)) μ2) : DT X (.Compare a [.Gt] [b] pos) ρ μ Φ :=
  dt_cmp op_gt (nomark _) (h.imp fun x μ1 h1 => h1.imp fun y μ2 ⟨i, j, e1, e2, q⟩ => by subst e1 e2; exact od_B0 ⟨_, rfl, q⟩)
theorem od_eq {x y : OV} {d e : PyData} (hx : RdD μ x d) (hy : RdD μ y e) (sd : SeqAt.shaped d = true) (se : SeqAt.shaped e = true) (h : Φ (.im (.bool (PyData.eqv d e))) μ) : OpD (rEqD X.K) x y μ Φ := fun G H vx vy m rx ry Q f =>
  ⟨d, e, (hx.at m rx).dp, (hy.at m ry).dp, sd, se, f _ _ _ _ _ h (Ex.refl G) m (Dv.bl _)⟩
theorem od_ne {x y : OV} {d e : PyData} (hx : RdD μ x d) (hy : RdD μ y e) (sd : SeqAt.shaped d = true) (se : SeqAt.shaped e = true) (h : Φ (.im (.bool (!PyData.eqv d e))) μ) : OpD (rNeD X.K) x y μ Φ := fun G H vx vy m rx ry Q f =>
  ⟨d, e, (hx.at m rx).dp, (hy.at m ry).dp, sd, se, f _ _ _ _ _ h (Ex.refl G) m (Dv.bl _)⟩
end
end Nx
namespace Nx
open PySem PySem.Spec PyProof.Rows L2
section
variable {X : Cx} {a b c e : Expr} {es rest : List Expr} {ρ : Rho} {μ : Mu} {Φ : OV → Mu → Prop} {pos : Pos}
theorem op_eqI : OpR X (compareOp .Eq) (rI0 fun i j => .bl (decide (i = j))) := opB0 fun i j t u s Q E q => eq_int (by rw [Bool.beq_eq_decide_eq]; exact q)
theorem op_neI : OpR X (compareOp .NotEq) (rI0 fun i j => .bl (!decide (i = j))) := opB0 fun i j t u s Q E q => ne_int (by rw [bne, Bool.beq_eq_decide_eq]; exact q)
def EqD (x y : OV) (μ : Mu) (f : Bool → Bool) (Φ : OV → Mu → Prop) : Prop :=
  (∃ i j, x = .im (.int i) ∧ y = .im (.int j) ∧ Φ (.im (.bool (f (decide (i = j))))) μ) ∨
  (∃ d e, RdD μ x d ∧ RdD μ y e ∧ SeqAt.shaped d = true ∧ SeqAt.shaped e = true ∧ Φ (.im (.bool (f (PyData.eqv d e)))) μ) ∨
  (∃ a b, x = .im (.str a) ∧ y = .im (.str b) ∧ Φ (.im (.bool (f (decide (a = b))))) μ)
theorem dec_strD {a b : Str} : decide (V.str a = V.str b) = decide (a = b) := by
  by_cases h : a = b
  · subst h
    simp
  · have h' : ¬ V.str a = V.str b := fun e => h (V.str.inj e)
    simp [h]
theorem od_eqS {a b : Str} (h : Φ (.im (.bool (decide (a = b)))) μ) : OpD rEq (.im (.str a)) (.im (.str b)) μ Φ := fun G H vx vy m rx ry Q f => by
  cases rx
  cases ry
  refine ⟨rfl, ?_⟩
  rw [dec_strD]
  exact f _ _ _ _ _ h (Ex.refl G) m (Dv.bl _)
theorem od_neS {a b : Str} (h : Φ (.im (.bool (!decide (a = b)))) μ) : OpD rNe (.im (.str a)) (.im (.str b)) μ Φ := fun G H vx vy m rx ry Q f => by
  cases rx
  cases ry
  refine ⟨rfl, ?_⟩
  rw [dec_strD]
  exact f _ _ _ _ _ h (Ex.refl G) m (Dv.bl _)
theorem de_eq {k : Nat} (hr : Room k X.A) (h : DE X a ρ μ fun x μ1 => DE X b ρ μ1 fun y μ2 => EqD x y μ2 id Φ) : DE X (.Compare a [.Eq] [b] pos) ρ μ Φ := by
  refine de_cmp ((op_eqI.or (op_eqD hr.units)).or op_eq) (nomark _) (h.imp fun x μ1 h1 => h1.imp fun y μ2 h2 => ?_)
  rcases h2 with ⟨i, j, rfl, rfl, q⟩ | ⟨d, e, h1, h2, s1, s2, q⟩ | ⟨a, b, rfl, rfl, q⟩
  · exact .or (.inl (.or (.inl (od_B0 q))))
  · exact .or (.inl (.or (.inr (od_eq h1 h2 s1 s2 q))))
  · exact .or (.inr (od_eqS q))
def isNon : OV → Bool
  | .im .none => true
  | _ => false
theorem isNon_at {G : Hp} {v : V} : ∀ {o : OV}, RO G v o → decide (v = .non) = isNon o
  | .own a, h => by
    have h : v = .ref a := h
    subst h
    rfl
  | .scr K ns, h => by
    obtain ⟨a, rfl, _⟩ := h
    rfl
  | .pr p d, h => by
    obtain ⟨t, v2, rfl, _⟩ := h
    rfl
  | .dic kvs, h => by
    obtain ⟨t, v2, rfl, _⟩ := h
    rfl
  | .ob P, h => by
    obtain ⟨a, rfl⟩ := P.ref h
    rfl
  | .im d, h => by
    have h : Dv G v d := h
    cases h <;> rfl
theorem od_isN {x y : OV} (hy : y = .im .none) (h : Φ (.im (.bool (isNon x))) μ) : OpD (fun x y H Q => y = .non ∧ Q (.bl (decide (x = .non))) H) x y μ Φ := fun G H vx vy m rx ry Q f => by
  subst hy
  cases ry
  refine ⟨rfl, ?_⟩
  rw [isNon_at rx]
  exact f _ _ _ _ _ h (Ex.refl G) m (Dv.bl _)
theorem dt_isN {j : Nat} {p' : Pos} {Φ : Bool → Mu → Prop} (h : DE X a ρ μ fun x μ1 => Φ (isNon x) μ1) : DT X (.Compare a [.Is] [.Constant .none j p'] pos) ρ μ Φ :=
  dt_cmp op_isN (nomark _) (h.imp fun x μ1 h1 => de_non (od_isN rfl ⟨_, rfl, h1⟩))
theorem de_chain {op op' : CmpOp} {p p' : Int → Int → Bool} (ho : OpR X (compareOp op) (rI0 fun i j => .bl (p i j))) (ho' : OpR X (compareOp op') (rI0 fun i j => .bl (p' i j)))
    (h : DE X a ρ μ fun x μ1 => DE X b ρ μ1 fun y μ2 => ∃ i j, x = .im (.int i) ∧ y = .im (.int j) ∧ if p i j = true then DE X c ρ μ2 fun z μ3 => ∃ k, z = .im (.int k) ∧ Φ (.im (.bool (p' j k))) μ3 else Φ (.im (.bool false)) μ2)
    (hm : lastMarks [op, op'] [b, c] = false := by with_unfolding_all rfl) : DE X (.Compare a [op, op'] [b, c] pos) ρ μ Φ := fun G H σ m v Q f =>
  WE.of (pe_chain ho ho' pwe pwe pwe hm) (h G H σ m v _ fun vx x μ1 G1 H1 q1 e1 m1 r1 => q1 G1 H1 σ m1 (v.mono e1) _ fun vy y μ2 G2 H2 q2 e2 m2 r2 => by
    obtain ⟨i, j, rfl, rfl, q⟩ := q2
    cases r1
    cases r2
    refine ⟨i, j, rfl, rfl, _, rfl, ?_⟩
    split at q
    · rename_i hp
      rw [if_pos hp]
      refine q G2 H2 σ m2 (v.mono (e1.trans e2)) _ fun vz z μ3 G3 H3 q3 e3 m3 r3 => ?_
      obtain ⟨k, rfl, q⟩ := q3
      cases r3
      exact ⟨j, k, rfl, rfl, f _ _ _ _ _ q ((e1.trans e2).trans e3) m3 (Dv.bl _)⟩
    · rename_i hp
      rw [if_neg hp]
      exact f _ _ _ _ _ q (e1.trans e2) m2 (Dv.bl _))
def WW (X : Cx) (e : Expr) : TT := fun σ H Q => ∀ whole pins s, Inv X pins σ H s → wpAny (model X.prog X.w) X.A (isTrue e X.env whole) (TP X pins σ Q) X.xe s
theorem pww : PW X e (WW X e) := ⟨fun whole pins s _ _ _ I h => h whole pins s I⟩
theorem WW.of {t : TT} {σ : L2.St} {H : Hp} {Q : Bool → Hp → Prop} (h : PW X e t) (q : t σ H Q) : WW X e σ H Q := fun whole pins s I => h.run whole pins s σ H Q I q
def DW (X : Cx) (e : Expr) (ρ : Rho) (μ : Mu) (Φ : Bool → Mu → Prop) : Prop := ∀ G H σ, RM G H μ → RV G ρ σ → ∀ Q : Bool → Hp → Prop, (∀ b μ' G' H', Φ b μ' → Ex G G' → RM G' H' μ' → Q b H') → WW X e σ H Q
variable {Ψ : Bool → Mu → Prop}
theorem dt_val (h : DE X e ρ μ (CmpB Ψ)) (he : ∀ whole, isTrue e X.env whole = (do let v ← whole; standAt e.pos; holding [v] (truthy v)) := by intro _; rfl) : DT X e ρ μ Ψ := fun G H σ m v Q f =>
  WT.of (pt_val pwe he) (h G H σ m v _ fun vx x μ1 G1 H1 q1 e1 m1 r1 => by
    obtain ⟨k, rfl, q⟩ := q1
    cases r1
    exact ⟨k, rfl, f _ _ _ _ q e1 m1⟩)
theorem dt_not (h : DT X a ρ μ fun k μ1 => Ψ (!k) μ1) : DT X (.UnaryOp .Not a pos) ρ μ Ψ := fun G H σ m v Q f =>
  WT.of (pt_not pwt) (h G H σ m v _ fun k μ1 G1 H1 q1 e1 m1 => f _ _ _ _ q1 e1 m1)
theorem DW.dt (h : DW X e ρ μ Ψ) : DT X e ρ μ Ψ := fun G H σ m v Q f pins s I => h G H σ m v Q f _ pins s I
theorem dw_and1 (h : DT X a ρ μ Ψ) : DW X (.BoolOp .And [a] pos) ρ μ Ψ := fun G H σ m v Q f => WW.of (pw_and1 pwt) (h G H σ m v Q f)
theorem dw_or1 (h : DT X a ρ μ Ψ) : DW X (.BoolOp .Or [a] pos) ρ μ Ψ := fun G H σ m v Q f => WW.of (pw_or1 pwt) (h G H σ m v Q f)
theorem dw_and (h : DT X a ρ μ fun k μ1 => if k = true then DW X (.BoolOp .And (b :: rest) pos) ρ μ1 Ψ else Ψ false μ1) : DW X (.BoolOp .And (a :: b :: rest) pos) ρ μ Ψ := fun G H σ m v Q f =>
  WW.of (pw_and pwt pww) (h G H σ m v _ fun k μ1 G1 H1 q1 e1 m1 => by
    dsimp only at q1
    split at q1
    · rename_i hk
      subst hk
      rw [if_pos rfl]
      exact q1 G1 H1 σ m1 (v.mono e1) Q fun k μ2 G2 H2 q2 e2 m2 => f _ _ _ _ q2 (e1.trans e2) m2
    · rename_i hk
      rw [if_neg hk]
      exact f _ _ _ _ q1 e1 m1)
theorem dw_or (h : DT X a ρ μ fun k μ1 => if k = true then Ψ true μ1 else DW X (.BoolOp .Or (b :: rest) pos) ρ μ1 Ψ) : DW X (.BoolOp .Or (a :: b :: rest) pos) ρ μ Ψ := fun G H σ m v Q f =>
  WW.of (pw_or pwt pww) (h G H σ m v _ fun k μ1 G1 H1 q1 e1 m1 => by
    dsimp only at q1
    split at q1
    · rename_i hk
      subst hk
      rw [if_pos rfl]
      exact f _ _ _ _ q1 e1 m1
    · rename_i hk
      rw [if_neg hk]
      exact q1 G1 H1 σ m1 (v.mono e1) Q fun k μ2 G2 H2 q2 e2 m2 => f _ _ _ _ q2 (e1.trans e2) m2)
theorem de_one {op} (h : DE X a ρ μ Φ) : DE X (.BoolOp op [a] pos) ρ μ Φ := fun G H σ m v Q f => WE.of (pe_one pwe) (h G H σ m v Q f)
theorem de_and (h : DE X a ρ μ fun x μ1 => ∃ k, x = .im (.bool k) ∧ if k = true then DE X (.BoolOp .And (b :: rest) pos) ρ μ1 Φ else Φ (.im (.bool false)) μ1) : DE X (.BoolOp .And (a :: b :: rest) pos) ρ μ Φ := fun G H σ m v Q f =>
  WE.of (pe_and pwe pwe) (h G H σ m v _ fun vx x μ1 G1 H1 q1 e1 m1 r1 => by
    obtain ⟨k, rfl, q⟩ := q1
    cases r1
    refine ⟨k, rfl, ?_⟩
    split at q
    · rename_i hk
      rw [if_pos hk]
      exact q G1 H1 σ m1 (v.mono e1) Q (f.later e1)
    · rename_i hk
      rw [if_neg hk]
      exact f _ _ _ _ _ q e1 m1 (Dv.bl _))
theorem de_ifExp (h : DT X c ρ μ fun k μ1 => if k = true then DE X a ρ μ1 Φ else DE X b ρ μ1 Φ) : DE X (.IfExp c a b pos) ρ μ Φ := fun G H σ m v Q f =>
  WE.of (pe_ifExp pwt pwe pwe) (h G H σ m v _ fun k μ1 G1 H1 q1 e1 m1 => by
    dsimp only at q1
    split at q1
    · rename_i hk
      rw [if_pos hk]
      exact q1 G1 H1 σ m1 (v.mono e1) Q (f.later e1)
    · rename_i hk
      rw [if_neg hk]
      exact q1 G1 H1 σ m1 (v.mono e1) Q (f.later e1))
theorem de_orL (h : DE X a ρ μ fun x μ1 => ∃ ds, RdD μ1 x (.list ds) ∧ if ds ≠ [] then Φ x μ1 else DE X (.BoolOp .Or (b :: rest) pos) ρ μ1 Φ) : DE X (.BoolOp .Or (a :: b :: rest) pos) ρ μ Φ := fun G H σ m v Q f =>
  WE.of (pe_orT pwe pwe) (h G H σ m v _ fun vx x μ1 G1 H1 q1 e1 m1 r1 => by
    obtain ⟨ds, hd, q⟩ := q1
    have d := hd.at m1 r1
    generalize hdd : PyData.list ds = dd at d
    cases d with
    | lst h1 w =>
      cases hdd
      refine ⟨_, .inl ⟨_, .inl (.inl h1), rfl⟩, ?_⟩
      by_cases hn : ds = []
      · rw [if_neg (by simp [hn])] at q
        subst hn
        cases w
        rw [if_neg (by simp)]
        exact q G1 H1 σ m1 (v.mono e1) Q (f.later e1)
      · rw [if_pos hn] at q
        rw [if_pos (by
          cases w with
          | nil => exact absurd rfl hn
          | cons _ _ => rfl)]
        exact f _ _ _ _ _ q e1 m1 r1
    | _ => cases hdd)
end
end Nx
namespace Nx
open PySem PySem.Spec PyProof.Rows L2
section
variable {X : Cx} {a b c e : Expr} {es rest : List Expr} {ρ : Rho} {μ : Mu} {Φ : OV → Mu → Prop} {Λ : List OV → Mu → Prop} {pos : Pos}
theorem da_nil (h : Λ [] μ) : DA X [] ρ μ Λ := fun G H σ m v Q f => WA.of pa_nil (f [] [] μ G H h (Ex.refl G) m .nil)
theorem da_cons (h : DE X e ρ μ fun x μ1 => DA X es ρ μ1 fun xs μ2 => Λ (x :: xs) μ2) (hs : starEach (e :: es) X.env = (false, eval e X.env) :: starEach es X.env := by rfl) : DA X (e :: es) ρ μ Λ := fun G H σ m v Q f =>
  WA.of (pa_cons pwe pwa hs) (h G H σ m v _ fun vx x μ1 G1 H1 q1 e1 m1 r1 => q1 G1 H1 σ m1 (v.mono e1) _ fun vs xs μ2 G2 H2 q2 e2 m2 r2 => f _ _ _ _ _ q2 (e1.trans e2) m2 (.cons (r1.mono e2) r2))
theorem dk_nil (h : Λ [] μ) : DK X [] ρ μ Λ := fun G H σ m v Q f => WK.of pk_nil (f [] [] μ G H h (Ex.refl G) m .nil)
theorem dk_cons {nm : Option Str} {kpos : Pos} {ks : List Keyword} (h : DE X e ρ μ fun x μ1 => DK X ks ρ μ1 fun xs μ2 => Λ (x :: xs) μ2) : DK X (⟨nm, e, kpos⟩ :: ks) ρ μ Λ := fun G H σ m v Q f =>
  WK.of (pk_cons pwe pwk) (h G H σ m v _ fun vx x μ1 G1 H1 q1 e1 m1 r1 => q1 G1 H1 σ m1 (v.mono e1) _ fun vs xs μ2 G2 H2 q2 e2 m2 r2 => f _ _ _ _ _ q2 (e1.trans e2) m2 (.cons (r1.mono e2) r2))
theorem sz {n : Nat} (h : n ≤ 100000) : n ≤ sizeLine := Nat.le_trans h (by decide)
theorem de_lst (h : DA X es ρ μ fun os μ1 => ∃ ds, os = ds.map .im ∧ ds.length ≤ 100000 ∧ Φ (.im (.list ds)) μ1) : DE X (.List es pos) ρ μ Φ := fun G H σ m v Q f =>
  WE.of (pe_lst pwa) (h G H σ m v _ fun vs os μ1 G1 H1 q1 e1 m1 r1 => by
    obtain ⟨ds, rfl, hz, q⟩ := q1
    refine ⟨by rw [r1.length, List.length_map]; exact sz hz, fun p hp => ?_⟩
    have n := m1.ex.free hp
    exact f _ _ _ _ _ q (e1.trans (Ex.new n)) (m1.lay hp) (Dv.lst upd_same (r1.ims.mono (Ex.new n))))
theorem de_lstO (h : DA X es ρ μ fun os μ1 => os.length ≤ 100000 ∧ ∀ p, μ1 p = none → Φ (.own p) (μ1.put p os)) : DE X (.List es pos) ρ μ Φ := fun G H σ m v Q f =>
  WE.of (pe_lst pwa) (h G H σ m v _ fun vs os μ1 G1 H1 q1 e1 m1 r1 => by
    obtain ⟨hz, q⟩ := q1
    refine ⟨by rw [r1.length]; exact sz hz, fun p hp => ?_⟩
    exact f _ _ _ _ _ (q p (m1.fresh hp)) e1 (m1.new hp r1) rfl)
theorem de_tup {x1} (h : DA X es ρ μ fun os μ1 => ∃ ds, os = ds.map .im ∧ ds.length ≤ 100000 ∧ Φ (.im (.tuple ds)) μ1) : DE X (.Tuple es x1 pos) ρ μ Φ := fun G H σ m v Q f =>
  WE.of (pe_tup pwa) (h G H σ m v _ fun vs os μ1 G1 H1 q1 e1 m1 r1 => by
    obtain ⟨ds, rfl, hz, q⟩ := q1
    refine ⟨by rw [r1.length, List.length_map]; exact sz hz, fun p hp => ?_⟩
    have n := m1.ex.free hp
    exact f _ _ _ _ _ q (e1.trans (Ex.new n)) (m1.lay hp) (Dv.tup upd_same (r1.ims.mono (Ex.new n))))
inductive SqD (μ : Mu) : OV → List OV → Prop
  | lst (ds : List PyData) : SqD μ (.im (.list ds)) (ds.map .im)
  | tup (ds : List PyData) : SqD μ (.im (.tuple ds)) (ds.map .im)
  | own {a : Addr} {l : List OV} : μ a = some l → SqD μ (.own a) l
theorem SqD.at {G H : Hp} (m : RM G H μ) {v : V} {o : OV} {l : List OV} (h : SqD μ o l) (r : RO G v o) : ∃ a xs, v = .ref a ∧ (H a = some (.lst xs) ∨ H a = some (.tup xs)) ∧ ROs G xs l := by
  cases h with
  | lst ds =>
    have r : Dv G v (.list ds) := r
    cases r with
    | lst h w => exact ⟨_, _, rfl, .inl (m.ex _ _ h), ROs.of_ims w⟩
  | tup ds =>
    have r : Dv G v (.tuple ds) := r
    cases r with
    | tup h w => exact ⟨_, _, rfl, .inr (m.ex _ _ h), ROs.of_ims w⟩
  | own h =>
    have r : v = _ := r
    subst r
    obtain ⟨_, vs, e, w⟩ := m.own _ _ h
    exact ⟨_, vs, rfl, .inl e, w⟩
theorem sq_or {K : PySem.W.Frag} {H : Hp} {a : Addr} {xs : List V} (h : H a = some (.lst xs) ∨ H a = some (.tup xs)) : SqL K H a xs ∨ SqT K H a xs := by
  rcases h with h | h
  · exact .inl (.inl (.inl h))
  · exact .inr (.inl (.inl h))
theorem ROs.at {G : Hp} {xs : List V} {l : List OV} {i : Int} {o : OV} (w : ROs G xs l) (h : atI l i = some o) : ∃ v, atI xs i = some v ∧ RO G v o := by
  unfold atI at h ⊢
  rw [w.length]
  cases q : ixN l.length i with
  | none =>
    rw [q] at h
    cases h
  | some j =>
    rw [q] at h
    obtain ⟨v, h1, h2⟩ := ROs.get w (show l[j]? = some o from h)
    exact ⟨v, h1, h2⟩
theorem de_ix (hs : PlainIx b) (h : DE X a ρ μ fun x μ1 => DE X b ρ μ1 fun y μ2 => ∃ l i o, SqD μ2 x l ∧ y = .im (.int i) ∧ atI l i = some o ∧ Φ o μ2) : DE X (.Subscript a b pos) ρ μ Φ := fun G H σ m v Q f =>
  WE.of (pe_ix (ix_list.or ix_tup) pwe pwe hs) (h G H σ m v _ fun vx x μ1 G1 H1 q1 e1 m1 r1 => q1 G1 H1 σ m1 (v.mono e1) _ fun vy y μ2 G2 H2 q2 e2 m2 r2 => by
    obtain ⟨l, i, o, hx, rfl, ho, q⟩ := q2
    cases r2
    obtain ⟨p, xs, rfl, hp, w⟩ := hx.at m2 (r1.mono e2)
    obtain ⟨u, h1, h2⟩ := w.at ho
    have fin := f u o μ2 G2 H2 q (e1.trans e2) m2 h2
    rcases hp with hp | hp
    · exact .inl ⟨p, xs, i, u, rfl, rfl, .inl (.inl hp), h1, fin⟩
    · exact .inr ⟨p, xs, i, u, rfl, rfl, .inl (.inl hp), h1, fin⟩)
theorem atI_im {ds : List PyData} {i : Int} {d : PyData} (h : atI ds i = some d) : atI (ds.map OV.im) i = some (.im d) := by
  unfold atI at h ⊢
  rw [List.length_map]
  cases q : ixN ds.length i with
  | none =>
    rw [q] at h
    cases h
  | some j =>
    rw [q] at h
    have h : ds[j]? = some d := h
    show (ds.map OV.im)[j]? = _
    rw [List.getElem?_map, h]
    rfl
def DO (X : Cx) (e : Option Expr) (ρ : Rho) (μ : Mu) (Φ : Option Int → Mu → Prop) : Prop :=
  match e with
  | none => Φ none μ
  | some e => DE X e ρ μ fun x μ1 => ∃ i, x = .im (.int i) ∧ Φ (some i) μ1
def cutO (xs : List OV) (lo hi : Option Int) : List OV := (xs.drop (HT.sIx xs.length 0 lo)).take (HT.sIx xs.length xs.length hi - HT.sIx xs.length 0 lo)
def cutD (xs : List PyData) (lo hi : Option Int) : List PyData := (xs.drop (HT.sIx xs.length 0 lo)).take (HT.sIx xs.length xs.length hi - HT.sIx xs.length 0 lo)
theorem ROs.cut {G : Hp} {xs : List V} {l : List OV} (w : ROs G xs l) (lo hi : Option Int) : ROs G (cutV xs lo hi) (cutO l lo hi) := by
  unfold cutV cutO
  rw [w.length]
  exact (w.drop _).take _
theorem cutO_im (ds : List PyData) (lo hi : Option Int) : cutO (ds.map .im) lo hi = (cutD ds lo hi).map .im := by
  unfold cutO cutD
  rw [List.length_map, List.map_take, List.map_drop]
def WO (X : Cx) (lo : Option Expr) : TO := fun σ H R => match lo with
  | none => R none H
  | some e => WE X e σ H fun x H1 => ∃ i, x = .int i ∧ R (some i) H1
theorem pwo {lo : Option Expr} : PO X lo (WO X lo) := by
  cases lo with
  | none => exact po_none
  | some e => exact po_some pwe
theorem DO.run {lo : Option Expr} {Ψ : Option Int → Mu → Prop} {G H : Hp} {σ : L2.St} {R : Option Int → Hp → Prop} (h : DO X lo ρ μ Ψ) (m : RM G H μ) (v : RV G ρ σ) (k : ∀ o μ1 G1 H1, Ψ o μ1 → Ex G G1 → RM G1 H1 μ1 → R o H1) : WO X lo σ H R := by
  cases lo with
  | none => exact k _ _ _ _ h (Ex.refl G) m
  | some e =>
    refine h G H σ m v _ fun vx x μ1 G1 H1 q1 e1 m1 r1 => ?_
    obtain ⟨i, rfl, q⟩ := q1
    cases r1
    exact ⟨i, rfl, k _ _ _ _ q e1 m1⟩
def cutI (ns : List Int) (lo hi : Option Int) : List Int := (ns.drop (HT.sIx ns.length 0 lo)).take (HT.sIx ns.length ns.length hi - HT.sIx ns.length 0 lo)
theorem cutI_V (ns : List Int) (lo hi : Option Int) : cutV (ns.map V.int) lo hi = (cutI ns lo hi).map V.int := by
  unfold cutV cutI
  rw [List.length_map, List.map_take, List.map_drop]
theorem de_slS {lo hi : Option Expr} {p2 : Pos} (h : DE X e ρ μ fun x μ1 => DO X lo ρ μ1 fun l μ2 => DO X hi ρ μ2 fun u μ3 => ∃ ns, x = .scr X.K ns ∧ Φ (.im (.list ((cutI ns l u).map .int))) μ3) : DE X (.Subscript e (.Slice lo hi none p2) pos) ρ μ Φ := fun G H σ m v Q f =>
  WE.of (pe_slice sl_list pwe pwo pwo) (h G H σ m v _ fun vx x μ1 G1 H1 q1 e1 m1 r1 => q1.run m1 (v.mono e1) fun l μ2 G2 H2 q2 e2 m2 => q2.run m2 (v.mono (e1.trans e2)) fun u μ3 G3 H3 q3 e3 m3 => by
    obtain ⟨ns, rfl, q⟩ := q3
    obtain ⟨a, rfl, ha⟩ := r1
    refine ⟨_, _, rfl, sql_mono (e2.trans (e3.trans m3.ex)) ha, fun p hp => ?_⟩
    have n := m3.ex.free hp
    rw [cutI_V]
    exact f _ _ _ _ _ q (((e1.trans e2).trans e3).trans (Ex.new n)) (m3.lay hp) (Dv.lst upd_same (DvA.of_ints _)))
end
end Nx
namespace Nx
open PySem PySem.Spec PyProof.Rows L2
structure Rm (k : Nat) (A : Around) : Prop where
  room : Room k A
  gds : A.guards = some []
theorem Rm.mono {j k : Nat} {A : Around} (r : Rm k A) (h : j ≤ k) : Rm j A := ⟨r.room.mono h, r.gds⟩
structure FnG (P : Program) (w : World) (K : PySem.W.Frag) (mg : Str → Option Value) (base : Heap) (CX : CXT) (k : Nat) (f : Addr) (fd : FuncData) (ps : List Str) (sp : Sp) : Prop where
  len : ∀ vs H Q E, sp vs H Q E → vs.length = ps.length
  run : ∀ A outer s H args us vs Q E, Rm k A → Env0 P w K mg base A outer s H → BindsTo s fd args (ps.zip us) → Vals vs us → sp vs H Q E → codeAny (model P w) A (.call (.ref f) args) (CR CX outer P w H s Q E) s
theorem FnG.mono {P : Program} {w : World} {K : PySem.W.Frag} {mg : Str → Option Value} {base : Heap} {CX : CXT} {j k : Nat} {f : Addr} {fd : FuncData} {ps : List Str} {sp : Sp} (F : FnG P w K mg base CX j f fd ps sp) (h : j ≤ k) : FnG P w K mg base CX k f fd ps sp :=
  ⟨F.len, fun A outer s H args us vs Q E r => F.run A outer s H args us vs Q E (r.mono h)⟩
section
variable {P : Program} {w : World} {K : PySem.W.Frag} {mg : Str → Option Value} {base : Heap} {CX : CXT}
theorem fng_of {k : Nat} {f : Addr} {x q : Str} {st : Stmt} {fd : FuncData} {N ps : List Str} {sp : Sp} (F : Fun K x q st f fd) (S : FnScope N ps (defScope st)) (len : ∀ vs H Q E, sp vs H Q E → vs.length = ps.length)
    (body : ∀ (cdv : Value) A outer s H vs Q E, Rm k (A.deeper (envOfC q (defScope st) s.heap.objs.size f cdv)) → sp vs H Q E →
      WSs (cxOf CX P w K mg base N q (defScope st) f cdv A outer s H E) (defBody st) { nx := fun _ H' => Q .non H', rt := Q } (start N vs) H) : FnG P w K mg base CX (k + 1) f fd ps sp := by
  obtain ⟨oc, od, kV, doc, pm, an, cdv, ct, osl, rfl, lk, hcd⟩ := F.ex
  constructor
  · exact len
  intro A outer s H args us vs Q E hr e0 hb r hsp
  have inH : ∀ b o, base.get? b = some o → s.heap.get? b = some o := fun b o e => (e0.bs b o e).1
  have KX : K.In s.heap := e0.mod.kin.keeps inH
  have nolim : s.heap.NoLimit := e0.mod.nolimit.keeps inH
  have kinds : ∀ y ∈ ps.zip us, (defScope st).names.lookup y.1 = some .local ∨
      ((defScope st).names.lookup y.1 = some .cell ∧ ((cellsFrom (s.heap.objs.size + 1) (defScope st).names []).lookup y.1).isSome = true) := by
    rintro ⟨n, v⟩ hy
    rcases S.par n (List.of_mem_zip hy).1 with z | z
    · exact Or.inl z
    · exact Or.inr ⟨z, PySem.W.cellsFrom_some _ _ _ (Or.inl z)⟩
  apply codeAny_call_function hr.room.depth (KX _ _ lk) rfl S.co S.gen rfl (PySem.W.codeRec_of KX hcd)
  apply hb _ _ _ _
  apply wpAny_newFunctionEnv_cells S.kind kinds
  intro env he s1 y
  subst he
  refine ⟨nolim.keeps y.toInCall.keep, codeAny_func ?_⟩
  have go := body cdv A outer s H vs Q E ⟨hr.room.deeper _, hr.gds⟩ hsp
  have I : Inv (cxOf CX P w K mg base N q (defScope st) f cdv A outer s H E) [] (start N vs) H s1 := inv_start S hr.room.hd e0 (len _ _ _ _ hsp) r y
  refine wpAny_mono (go [] s1 I) (fun fl s' hs => ?_) (fun _ _ z => z)
  cases fl with
  | ret u =>
    obtain ⟨v, σ', H', J, rv, z⟩ := hs
    exact ⟨v, H', J.os, J.bare, J.base, J.hok, rv, z⟩
  | next =>
    obtain ⟨σ', H', J, z⟩ := hs
    exact ⟨V.non, H', J.os, J.bare, J.base, J.hok, rfl, z⟩
  | brk =>
    obtain ⟨_, _, _, z⟩ := hs
    exact z.elim
  | cont =>
    obtain ⟨_, _, _, z⟩ := hs
    exact z.elim
end
section
variable {X : Cx} {CX : CXT} {k : Nat} {f : Addr} {fd : FuncData} {ps : List Str} {sp : Sp} {E : XK}
theorem run_g {pins : List (Addr × Obj)} {σ : L2.St} {H : Hp} {s : Shared} {Q : VK} {args : Args} {us : List Value} {vs : List V} (F : FnG X.prog X.w X.K X.mg X.base CX k f fd ps sp) (hr : Rm k X.A) (hx : Passes CX X E)
    (I : Inv X pins σ H s) (hb : BindsTo s fd args (ps.zip us)) (r : Vals vs us) (h : sp vs H Q E) : wpAny (model X.prog X.w) X.A (call (.ref f) args.pos args.kw) (EP X pins σ Q) X.xe s := by
  refine wpAny_call (codeAny_mono (F.run X.A X.stack s H args us vs Q E hr I.env0 hb r h) fun z s' hq => ?_)
  match z, hq with
  | .error e, hq => exact hx pins σ H s e s' I hq
  | .ok (.ret u), hq => exact I.after hq
end
abbrev Ct := List OV → Mu → (OV → Mu → Prop) → Prop
def spOf (C : Ct) : Sp := fun vs H Q _ => ∃ os μ G Φ, RM G H μ ∧ ROs G vs os ∧ C os μ Φ ∧ Fin G Φ Q
structure Fc (P : Program) (w : World) (K : PySem.W.Frag) (mg : Str → Option Value) (base : Heap) (x : Str) (st : Stmt) (ps : List Str) (k : Nat) (C : Ct) : Prop where
  ex : ∃ f fd, Fun K x x st f fd ∧ mg x = some (.ref f) ∧ FnG P w K mg base CX0 k f fd ps (spOf C)
section
variable {P : Program} {w : World} {K : PySem.W.Frag} {mg : Str → Option Value} {base : Heap}
theorem rv_start {G : Hp} {N : List Str} {vs : List V} {os : List OV} (r : ROs G vs os) : RV G (os.map some ++ List.replicate (N.length - os.length) none) (start N vs) := by
  unfold L2.start
  refine ⟨by simp only [List.length_append, List.length_map, List.length_replicate, r.length], fun i o h => ?_⟩
  by_cases hi : i < os.length
  · rw [List.getElem?_append_left (by simpa using hi), List.getElem?_map] at h
    have h : os[i]? = some o := by
      cases q : os[i]? with
      | none =>
        rw [q] at h
        cases h
      | some z =>
        rw [q] at h
        cases h
        rfl
    obtain ⟨v, h1, h2⟩ := ROs.get r h
    refine ⟨v, ?_, h2⟩
    rw [List.getElem?_append_left (by rw [List.length_map, r.length]; exact hi), List.getElem?_map, h1]
    rfl
  · rw [List.getElem?_append_right (by simpa using hi), List.getElem?_replicate] at h
    split at h <;> cases h
theorem fc_of {k : Nat} {f : Addr} {x : Str} {st : Stmt} {fd : FuncData} {N ps : List Str} {C : Ct} (F : Fun K x x st f fd) (hm : mg x = some (.ref f)) (S : FnScope N ps (defScope st)) (len : ∀ os μ Φ, C os μ Φ → os.length = ps.length)
    (body : ∀ (cdv : Value) A outer s H E os μ Φ, Rm k (A.deeper (envOfC x (defScope st) s.heap.objs.size f cdv)) → C os μ Φ →
      DSs (cxOf CX0 P w K mg base N x (defScope st) f cdv A outer s H E).nox (defBody st) (os.map some ++ List.replicate (N.length - os.length) none) μ { nx := fun _ μ' => Φ (.im .none) μ', rt := Φ }) : Fc P w K mg base x st ps (k + 1) C := by
  refine ⟨⟨f, fd, F, hm, fng_of F S (fun vs H Q E h => ?_) fun cdv A outer s H vs Q E hr h => ?_⟩⟩
  · obtain ⟨os, μ, G, Φ, _, r, c, _⟩ := h
    rw [r.length]
    exact len _ _ _ c
  · obtain ⟨os, μ, G, Φ, m, r, c, fin⟩ := h
    refine WSs.of (PSs.nox pwss) (body cdv A outer s H E os μ Φ hr c G H _ m (rv_start r) _ ⟨fun ρ' μ' G' H' σ' q e m' _ => fin _ _ _ _ _ q e m' Dv.non, fin, fun _ _ _ _ _ q => q.elim, fun _ _ _ _ _ q => q.elim⟩)
theorem Fc.mono {j k : Nat} {x : Str} {st : Stmt} {ps : List Str} {C : Ct} (F : Fc P w K mg base x st ps j C) (h : j ≤ k) : Fc P w K mg base x st ps k C := by
  obtain ⟨f, fd, a, b, c⟩ := F.ex
  exact ⟨⟨f, fd, a, b, c.mono h⟩⟩
end
section
variable {X : Cx} {a b c e : Expr} {es rest : List Expr} {ρ : Rho} {μ : Mu} {Φ : OV → Mu → Prop} {pos p : Pos} {x : Str} {st : Stmt} {ps : List Str} {k : Nat} {C : Ct}
theorem passE {X : Cx} : Passes CX0 X fun _ _ _ => False := fun _ _ _ _ _ _ _ h => h.elim
theorem de_call (F : Fc X.prog X.w X.K X.mg X.base x st ps k C) (hr : Rm k X.A) (hg : Gl X x)
    (hb : ∀ (kV doc pm : Value) (an : Option Addr) (cdv ct : Value) (us : List Value), us.length = ps.length → bindArgs (PySem.W.fnOf x x (defArgs st) (defBody st) (defScope st) .none kV doc pm an cdv ct) ⟨us, []⟩ = pure (ps.zip us))
    (h : DA X (e :: es) ρ μ fun os μ1 => C os μ1 Φ) (hdb : (x == ("__debug__" : Str)) = false := by decide) (he : starEach (e :: es) X.env = (false, eval e X.env) :: starEach es X.env := by rfl) (hpl : (backTo pos (starEach es X.env)).any (·.1) = false := by rfl) :
    DE X (.Call (.Name x p) (e :: es) [] pos) ρ μ Φ := fun G H σ m v Q f pins s I => by
  obtain ⟨fa, fd, FF, hm, FG⟩ := F.ex
  refine wpAny_Call_Name_kw (ld_glob I hg hm ?_ hdb)
  have hargs : WA X (e :: es) σ H fun vs H1 => spOf C vs H1 Q fun _ _ _ => False := h G H σ m v _ fun vs os μ1 G1 H1 q1 e1 m1 r1 => ⟨os, μ1, G1, Φ, m1, r1, q1, f.later e1⟩
  refine PySem.W.callWith_K (h₀ := X.base) I.ok.mod.kin FF.kp (thn (hargs pos pins s I) fun us s1 ⟨vs, H1, I1, r, q⟩ => ⟨I1.kIn, ?_⟩) he hpl
  refine run_g (args := ⟨us, []⟩) FG hr passE I1 ?_ r q
  obtain ⟨oc, od, kV, doc, pm, an, cdv, ct, osl, rfl, lk, hcd⟩ := FF.ex
  exact .of_eq (hb kV doc pm an cdv ct us (by rw [← r.length]; exact FG.len _ _ _ _ q))
def pick {α : Type} (ix : List Nat) (l : List α) : List α := ix.filterMap fun i => l[i]?
theorem pick_rel {α β : Type} {R : α → β → Prop} {l : List α} {m : List β} (h : Paired R l m) : ∀ ix : List Nat, Paired R (pick ix l) (pick ix m) := by
  have get : ∀ {l : List α} {m : List β}, Paired R l m → ∀ i : Nat, (∃ a b, l[i]? = some a ∧ m[i]? = some b ∧ R a b) ∨ (l[i]? = none ∧ m[i]? = none) := by
    intro l m h
    induction h with
    | nil => intro i; exact .inr ⟨rfl, rfl⟩
    | cons r _ ih =>
      intro i
      cases i with
      | zero => exact .inl ⟨_, _, rfl, rfl, r⟩
      | succ i => exact ih i
  intro ix
  induction ix with
  | nil => exact .nil
  | cons i ix ih =>
    unfold pick at ih ⊢
    rcases get h i with ⟨a, b, h1, h2, r⟩ | ⟨h1, h2⟩
    · rw [List.filterMap_cons_some h1, List.filterMap_cons_some h2]
      exact .cons r ih
    · rw [List.filterMap_cons_none h1, List.filterMap_cons_none h2]
      exact ih
theorem de_callK {kws : List Keyword} (ks : List Str) (ix : List Nat) (F : Fc X.prog X.w X.K X.mg X.base x st ps k C) (hr : Rm k X.A) (hg : Gl X x)
    (hb : ∀ (kV doc pm : Value) (an : Option Addr) (cdv ct : Value) (us : List Value), us.length = ks.length → bindArgs (PySem.W.fnOf x x (defArgs st) (defBody st) (defScope st) .none kV doc pm an cdv ct) ⟨[], ks.zip us⟩ = pure (ps.zip (pick ix us)))
    (h : DK X kws ρ μ fun os μ1 => os.length = ks.length ∧ C (pick ix os) μ1 Φ) (hall : (backToKw pos (keywordEach kws X.env)).all (·.1.isSome) = true := by rfl) (hks : (backToKw pos (keywordEach kws X.env)).filterMap (·.1) = ks := by rfl)
    (hpl : ((backTo pos (starEach [] X.env)).any (·.1) || (backToKw pos (keywordEach kws X.env)).any (·.1.isNone)) = false := by rfl) (hdb : (x == ("__debug__" : Str)) = false := by decide) :
    DE X (.Call (.Name x p) [] kws pos) ρ μ Φ := fun G H σ m v Q f pins s I => by
  obtain ⟨fa, fd, FF, hm, FG⟩ := F.ex
  refine wpAny_Call_Name_kw (ld_glob I hg hm ?_ hdb)
  have hargs : WK X kws σ H fun vs H1 => vs.length = ks.length ∧ spOf C (pick ix vs) H1 Q fun _ _ _ => False := h G H σ m v _ fun vs os μ1 G1 H1 q1 e1 m1 r1 => ⟨by rw [r1.length]; exact q1.1, pick ix os, μ1, G1, Φ, m1, pick_rel r1 ix, q1.2, f.later e1⟩
  refine PySem.W.callWith_KW0 (h₀ := X.base) I.ok.mod.kin FF.kp hall (thn (hargs pos pins s I) fun us s1 ⟨vs, H1, I1, r, hl, q⟩ => ⟨I1.kIn, ?_⟩) hpl
  rw [hks]
  refine run_g (args := ⟨[], ks.zip us⟩) FG hr passE I1 ?_ (pick_rel r ix) q
  obtain ⟨oc, od, kV, doc, pm, an, cdv, ct, osl, rfl, lk, hcd⟩ := FF.ex
  exact .of_eq (hb kV doc pm an cdv ct us (by rw [← r.length]; exact hl))
end
end Nx
namespace Nx
open PySem PySem.Spec PyProof.Rows L2
mutual
inductive DR (μ : Mu) : OV → PyData → Prop
  | im (d : PyData) : DR μ (.im d) d
  | own {a : Addr} {l : List OV} {ds : List PyData} : μ a = some l → DRs μ l ds → DR μ (.own a) (.list ds)
inductive DRs (μ : Mu) : List OV → List PyData → Prop
  | nil : DRs μ [] []
  | cons {o : OV} {os : List OV} {d : PyData} {ds : List PyData} : DR μ o d → DRs μ os ds → DRs μ (o :: os) (d :: ds)
end
theorem DRs.ims {μ : Mu} : ∀ ds : List PyData, DRs μ (ds.map .im) ds
  | [] => .nil
  | d :: ds => .cons (.im d) (DRs.ims ds)
mutual
theorem DR.at {G H : Hp} {μ : Mu} (m : RM G H μ) : ∀ {v : V} {o : OV} {d : PyData}, DR μ o d → RO G v o → Dv H v d
  | _, _, _, .im d, r => Dv.mono m.ex r
  | v, _, _, .own (a := a) h hs, r => by
    have r : v = .ref a := r
    subst r
    obtain ⟨_, vs, e, w⟩ := m.own _ _ h
    exact .lst e (DRs.at m hs w)
theorem DRs.at {G H : Hp} {μ : Mu} (m : RM G H μ) : ∀ {vs : List V} {os : List OV} {ds : List PyData}, DRs μ os ds → ROs G vs os → DvA H vs ds
  | _, _, _, .nil, .nil => .nil
  | _, _, _, .cons h hs, .cons r rs => .cons (DR.at m h r) (DRs.at m hs rs)
end
structure Bt (mg : Str → Option Value) : Prop where
  len : mg "len" = none
  range : mg "range" = none
  list : mg "list" = none
  tuple : mg "tuple" = none
  sorted : mg "sorted" = none
  abs : mg "abs" = none
  int : mg "int" = none
  str : mg "str" = none
  repr : mg "repr" = none
  all : mg "all" = none
  any : mg "any" = none
  max : mg "max" = none
  min : mg "min" = none
  sum : mg "sum" = none
  enumerate : mg "enumerate" = none
  zip : mg "zip" = none
  isinstance : mg "isinstance" = none
  bool : mg "bool" = none
  set : mg "set" = none
  dict : mg "dict" = none
section
variable {X : Cx} {a b c e : Expr} {es rest : List Expr} {ρ : Rho} {μ : Mu} {Φ : OV → Mu → Prop} {pos p : Pos} {x : Str}
abbrev CR1 := List V → Hp → VK → Prop
def CallD (r : CR1) (os : List OV) (μ : Mu) (Φ : OV → Mu → Prop) : Prop := ∀ G H vs, RM G H μ → ROs G vs os → ∀ Q : VK, Fin G Φ Q → r vs H Q
theorem de_callB {id : String} {r : CR1} (hc : CallR X (.builtin id) r) (hg : Gl X x) (hm : X.mg x = none) (hv : bootBuiltins x = some (.builtin id)) (h : DA X (e :: es) ρ μ fun os μ1 => CallD r os μ1 Φ) (hn : x ≠ "__name__" := by decide) (hdb : (x == ("__debug__" : Str)) = false := by decide)
    (he : starEach (e :: es) X.env = (false, eval e X.env) :: starEach es X.env := by rfl) (hpl : (backTo pos (starEach es X.env)).any (·.1) = false := by rfl) : DE X (.Call (.Name x p) (e :: es) [] pos) ρ μ Φ := fun G H σ m v Q f =>
  WE.of (pe_callB hc hg hm hv pwa hn hdb he hpl) (h G H σ m v _ fun vs os μ1 G1 H1 q1 e1 m1 r1 => q1 G1 H1 vs m1 r1 Q (f.later e1))
theorem de_callT {T : String} {r : CR1} (hc : CallR X (.type T) r) (hg : Gl X x) (hm : X.mg x = none) (hv : bootBuiltins x = some (.type T)) (h : DA X (e :: es) ρ μ fun os μ1 => CallD r os μ1 Φ) (hn : x ≠ "__name__" := by decide) (hdb : (x == ("__debug__" : Str)) = false := by decide)
    (he : starEach (e :: es) X.env = (false, eval e X.env) :: starEach es X.env := by rfl) (hpl : (backTo pos (starEach es X.env)).any (·.1) = false := by rfl) : DE X (.Call (.Name x p) (e :: es) [] pos) ρ μ Φ := fun G H σ m v Q f =>
  WE.of (pe_callTy hc hg hm hv pwa hn hdb he hpl) (h G H σ m v _ fun vs os μ1 G1 H1 q1 e1 m1 r1 => q1 G1 H1 vs m1 r1 Q (f.later e1))
theorem ro1 {G : Hp} {vs : List V} {o : OV} (r : ROs G vs [o]) : ∃ v, vs = [v] ∧ RO G v o := by
  cases r with
  | cons r t =>
    cases t
    exact ⟨_, rfl, r⟩
theorem de_len (B : Bt X.mg) (hg : Gl X "len") (h : DE X e ρ μ fun o μ1 => ∃ l, SqD μ1 o l ∧ Φ (.im (.int (l.length : Nat))) μ1) (he : starEach [e] X.env = (false, eval e X.env) :: starEach [] X.env := by rfl) (hpl : (backTo pos (starEach [] X.env)).any (·.1) = false := by rfl) : DE X (.Call (.Name "len" p) [e] [] pos) ρ μ Φ :=
  de_callB call_len_seq hg B.len PySem.boot_len (he := he) (hpl := hpl) (da_cons (hs := he) (h.imp fun o μ1 ⟨l, hl, q⟩ => da_nil fun G H vs m r Q f => by
    obtain ⟨v, rfl, r1⟩ := ro1 r
    obtain ⟨a, xs, rfl, hx, w⟩ := hl.at m r1
    refine ⟨a, xs, rfl, sq_or hx, ?_⟩
    rw [w.length]
    exact f _ _ _ _ _ q (Ex.refl G) m (Dv.int _)))
theorem de_abs (B : Bt X.mg) (hg : Gl X "abs") (h : DE X e ρ μ fun o μ1 => ∃ i, o = .im (.int i) ∧ Φ (.im (.int (if i < 0 then -i else i))) μ1) (he : starEach [e] X.env = (false, eval e X.env) :: starEach [] X.env := by rfl) (hpl : (backTo pos (starEach [] X.env)).any (·.1) = false := by rfl) : DE X (.Call (.Name "abs" p) [e] [] pos) ρ μ Φ :=
  de_callB call_abs hg B.abs PyProof.Rows.boot_abs (he := he) (hpl := hpl) (da_cons (hs := he) (h.imp fun o μ1 ⟨i, ho, q⟩ => da_nil fun G H vs m r Q f => by
    obtain ⟨v, rfl, r1⟩ := ro1 r
    subst ho
    cases r1
    exact ⟨i, rfl, f _ _ _ _ _ q (Ex.refl G) m (Dv.int _)⟩))
theorem de_int1 (B : Bt X.mg) (hg : Gl X "int") (h : DE X e ρ μ fun o μ1 => (∃ i, o = .im (.int i) ∧ Φ (.im (.int i)) μ1) ∨ ∃ k, o = .im (.bool k) ∧ Φ (.im (.int (if k then 1 else 0))) μ1) (he : starEach [e] X.env = (false, eval e X.env) :: starEach [] X.env := by rfl) (hpl : (backTo pos (starEach [] X.env)).any (·.1) = false := by rfl) : DE X (.Call (.Name "int" p) [e] [] pos) ρ μ Φ :=
  de_callT call_int1 hg B.int PyProof.Rows.boot_int (he := he) (hpl := hpl) (da_cons (hs := he) (h.imp fun o μ1 hq => da_nil fun G H vs m r Q f => by
    obtain ⟨v, rfl, r1⟩ := ro1 r
    rcases hq with ⟨i, rfl, q⟩ | ⟨k, rfl, q⟩
    · cases r1
      exact .inl ⟨i, rfl, f _ _ _ _ _ q (Ex.refl G) m (Dv.int _)⟩
    · cases r1
      exact .inr ⟨k, rfl, f _ _ _ _ _ q (Ex.refl G) m (Dv.int _)⟩))
theorem de_str1 (B : Bt X.mg) (hg : Gl X "str") (h : DE X e ρ μ fun o μ1 => ∃ i : Int, o = .im (.int i) ∧ i.natAbs.log2 < 1920 ∧ Φ (.im (.str (toString i))) μ1) (he : starEach [e] X.env = (false, eval e X.env) :: starEach [] X.env := by rfl) (hpl : (backTo pos (starEach [] X.env)).any (·.1) = false := by rfl) : DE X (.Call (.Name "str" p) [e] [] pos) ρ μ Φ :=
  de_callT call_str_int hg B.str PyProof.Rows.boot_str (he := he) (hpl := hpl) (da_cons (hs := he) (h.imp fun o μ1 ⟨i, ho, hz, q⟩ => da_nil fun G H vs m r Q f => by
    obtain ⟨v, rfl, r1⟩ := ro1 r
    subst ho
    cases r1
    exact ⟨i, rfl, hz, f _ _ _ _ _ q (Ex.refl G) m (Dv.str _)⟩))
theorem de_list (B : Bt X.mg) (hg : Gl X "list") (h : DE X e ρ μ fun o μ1 => ∃ ds, SqD μ1 o (ds.map .im) ∧ Φ (.im (.list ds)) μ1) (he : starEach [e] X.env = (false, eval e X.env) :: starEach [] X.env := by rfl) (hpl : (backTo pos (starEach [] X.env)).any (·.1) = false := by rfl) : DE X (.Call (.Name "list" p) [e] [] pos) ρ μ Φ :=
  de_callT call_list_of hg B.list PyProof.Rows.boot_list (he := he) (hpl := hpl) (da_cons (hs := he) (h.imp fun o μ1 ⟨ds, hl, q⟩ => da_nil fun G H vs m r Q f => by
    obtain ⟨v, rfl, r1⟩ := ro1 r
    obtain ⟨a, xs, rfl, hx, w⟩ := hl.at m r1
    refine ⟨a, xs, rfl, sq_or hx, fun l hl => ?_⟩
    have n := m.ex.free hl
    exact f _ _ _ _ _ q (Ex.new n) (m.lay hl) (Dv.lst upd_same (w.ims.mono (Ex.new n)))))
theorem de_listO (B : Bt X.mg) (hg : Gl X "list") (h : DE X e ρ μ fun o μ1 => ∃ l, SqD μ1 o l ∧ ∀ p, μ1 p = none → Φ (.own p) (μ1.put p l)) (he : starEach [e] X.env = (false, eval e X.env) :: starEach [] X.env := by rfl) (hpl : (backTo pos (starEach [] X.env)).any (·.1) = false := by rfl) : DE X (.Call (.Name "list" p) [e] [] pos) ρ μ Φ :=
  de_callT call_list_of hg B.list PyProof.Rows.boot_list (he := he) (hpl := hpl) (da_cons (hs := he) (h.imp fun o μ1 ⟨ds, hl, q⟩ => da_nil fun G H vs m r Q f => by
    obtain ⟨v, rfl, r1⟩ := ro1 r
    obtain ⟨a, xs, rfl, hx, w⟩ := hl.at m r1
    refine ⟨a, xs, rfl, sq_or hx, fun l hl => ?_⟩
    exact f _ _ _ _ _ (q l (m.fresh hl)) (Ex.refl G) (m.new hl w) rfl))
theorem de_tuple (B : Bt X.mg) (hg : Gl X "tuple") (h : DE X e ρ μ fun o μ1 => ∃ ds, SqD μ1 o (ds.map .im) ∧ Φ (.im (.tuple ds)) μ1) (he : starEach [e] X.env = (false, eval e X.env) :: starEach [] X.env := by rfl) (hpl : (backTo pos (starEach [] X.env)).any (·.1) = false := by rfl) : DE X (.Call (.Name "tuple" p) [e] [] pos) ρ μ Φ :=
  de_callT call_tuple_of hg B.tuple PyProof.Rows.boot_tuple (he := he) (hpl := hpl) (da_cons (hs := he) (h.imp fun o μ1 ⟨ds, hl, q⟩ => da_nil fun G H vs m r Q f => by
    obtain ⟨v, rfl, r1⟩ := ro1 r
    generalize hll : ds.map OV.im = ll at hl
    cases hl with
    | tup ds' =>
      have e12 : ds = ds' := by
        have := congrArg (List.map fun o => match o with | OV.im d => d | _ => PyData.none) hll
        simpa [List.map_map, Function.comp_def] using this
      subst e12
      have rr : Dv G v (.tuple ds) := r1
      cases rr with
      | tup h1 w1 => exact ⟨_, _, rfl, .inr ⟨.inl (.inl (m.ex _ _ h1)), f _ _ _ _ _ q (Ex.refl G) m (Dv.tup h1 w1)⟩⟩
    | lst ds' =>
      have hsq : SqD μ1 (.im (.list ds')) (ds.map .im) := by rw [hll]; exact .lst ds'
      obtain ⟨a, xs, rfl, hx, w⟩ := hsq.at m r1
      have hx : H a = some (.lst xs) := by
        rcases hx with z | z
        · exact z
        · have rr : Dv G (.ref a) (.list ds') := r1
          cases rr with
          | lst h1 _ =>
            have := m.ex _ _ h1
            rw [z] at this
            cases this
      refine ⟨a, xs, rfl, .inl ⟨.inl (.inl hx), fun l hl => ?_⟩⟩
      have n := m.ex.free hl
      exact f _ _ _ _ _ q (Ex.new n) (m.lay hl) (Dv.tup upd_same (w.ims.mono (Ex.new n)))
    | own ho =>
      obtain ⟨_, xs, hx, w⟩ := m.own _ _ ho
      have rr : v = .ref _ := r1
      subst rr
      rw [← hll] at w
      refine ⟨_, xs, rfl, .inl ⟨.inl (.inl hx), fun l hl => ?_⟩⟩
      have n := m.ex.free hl
      exact f _ _ _ _ _ q (Ex.new n) (m.lay hl) (Dv.tup upd_same (w.ims.mono (Ex.new n)))))
def srt (ns : List Int) : List Int := ns.mergeSort (fun a b => decide (a ≤ b))
theorem srt_perm (ns : List Int) : (srt ns).Perm ns := List.mergeSort_perm ns _
theorem srt_pw (ns : List Int) : (srt ns).Pairwise (· ≤ ·) := by
  have h := List.pairwise_mergeSort (le := fun a b : Int => decide (a ≤ b)) (fun a b c h1 h2 => by
    simp only [decide_eq_true_eq] at *
    omega) (fun a b => by
    simp only [Bool.or_eq_true, decide_eq_true_eq]
    omega) ns
  exact h.imp fun {a b} h => by simpa using h
theorem srt_eq {ns ms : List Int} (hp : ms.Perm ns) (hw : ms.Pairwise (· ≤ ·)) : ms = srt ns :=
  (hp.trans (srt_perm ns).symm).eq_of_pairwise (fun x y _ _ h1 h2 => Int.le_antisymm h1 h2) hw (srt_pw ns)
theorem de_sorted (B : Bt X.mg) (hg : Gl X "sorted") (h : DE X e ρ μ fun o μ1 => ∃ ns : List Int, RdD μ1 o (.list (ns.map .int)) ∧ Φ (.im (.list ((srt ns).map .int))) μ1) (he : starEach [e] X.env = (false, eval e X.env) :: starEach [] X.env := by rfl) (hpl : (backTo pos (starEach [] X.env)).any (·.1) = false := by rfl) : DE X (.Call (.Name "sorted" p) [e] [] pos) ρ μ Φ :=
  de_callB cr_sortedI hg B.sorted PyProof.Rows.boot_sorted (he := he) (hpl := hpl) (da_cons (hs := he) (h.imp fun o μ1 ⟨ns, hd, q⟩ => da_nil fun G H vs m r Q f => by
    obtain ⟨v, rfl, r1⟩ := ro1 r
    have d := hd.at m r1
    generalize hdd : PyData.list (ns.map .int) = dd at d
    cases d with
    | lst h1 w =>
      cases hdd
      have e1 := w.ints
      subst e1
      refine ⟨_, ns, rfl, .inl (.inl h1), fun ns' p hp hw hn => ?_⟩
      rw [srt_eq hp hw]
      have n := m.ex.free hn
      exact f _ _ _ _ _ q (Ex.new n) (m.lay hn) (Dv.lst upd_same ((DvA.of_ints _).mono (Ex.new n)))
    | _ => cases hdd))
def Shw (d : PyData) : Prop := d.showable = true ∧ d.hasDict = false ∧ isDisplay d = true ∧ d.depth ≤ 60 ∧ d.shown.length ≤ sizeLine
theorem call_reprD (hr : Room 0 X.A) (hgd : X.A.guards = some []) : CallR X (.builtin "repr") (fun xs H Q => ∃ v d, xs = [v] ∧ Dp X.K H v d ∧ Shw d ∧ Q (.str d.shown) H) := by
  intro pins s σ H xs us Q I r h
  obtain ⟨v, d, rfl, hd, ⟨h1, h2, h3, h4, h5⟩, q⟩ := h
  obtain ⟨u, rfl, ru⟩ := vals1 r
  obtain ⟨as, rd⟩ := Dp.reads I d v u hd ru
  obtain ⟨a, rfl⟩ := isRef_of_reads rd h3
  refine repr_of_reads' rd h1 (PyData.noDict_hsm h2) hgd (by have := hr.units; omega) (fun _ _ e => e) (fun h' u' tk hk => ?_) h5
  exact ⟨.str d.shown, H, I.kept hk, ⟨_, rfl⟩, q⟩
end
end Nx
namespace Nx
open PySem PySem.Spec PyProof.Rows L2
structure Itd where
  its : List OV
  ok : Mu → Prop
def Gives (J : It) (D : Itd) (G1 : Hp) : Prop := ∃ Gd Y, Walk J D.its.length Gd Y ∧ (∀ G' H' μ', Ex G1 G' → RM G' H' μ' → D.ok μ' → Gd H') ∧
  ∀ i H' x H2 G' μ', Ex G1 G' → RM G' H' μ' → D.ok μ' → Y i H' x H2 → i < D.its.length → ∃ G2 o, Ex G' G2 ∧ RM G2 H2 μ' ∧ D.its[i]? = some o ∧ RO G2 x o
def DI (X : Cx) (tg iter : Expr) (ρ : Rho) (μ : Mu) (Ψ : Itd → Mu → Prop) : Prop := ∃ wi, PI X tg iter wi ∧ ∀ G H σ, RM G H μ → RV G ρ σ → ∀ R : It → Hp → Prop, (∀ J D μ1 G1 H1, Ψ D μ1 → Ex G G1 → RM G1 H1 μ1 → Gives J D G1 → R J H1) → wi σ H R
section
variable {X : Cx} {tg e e2 : Expr} {ρ : Rho} {μ : Mu} {Ψ : Itd → Mu → Prop} {p pos : Pos}
theorem DI.imp {iter : Expr} {Ψ' : Itd → Mu → Prop} (h : DI X tg iter ρ μ Ψ) (k : ∀ D μ', Ψ D μ' → Ψ' D μ') : DI X tg iter ρ μ Ψ' := by
  obtain ⟨wi, a, b⟩ := h
  exact ⟨wi, a, fun G H σ m v R f => b G H σ m v R fun J D μ1 G1 H1 q => f J D μ1 G1 H1 (k _ _ q)⟩
theorem gives_list {K : PySem.W.Frag} {a : Addr} {xs : List V} {ds : List PyData} {G : Hp} (h : G a = some (.lst xs)) (w : DvA G xs ds) : Gives (Itl K a) ⟨ds.map .im, fun _ => True⟩ G := by
  refine ⟨fun H => SqL K H a xs, YAt xs, ?_, fun G' H' μ' e m _ => .inl (.inl (m.ex _ _ (e _ _ h))), fun i H' x H2 G' μ' e m _ y _ => ?_⟩
  · show Walk _ (ds.map OV.im).length _ _
    rw [List.length_map, ← w.length]
    exact walk_list
  · obtain ⟨rfl, hx⟩ := y
    obtain ⟨d, h1, h2⟩ := w.getV hx
    exact ⟨G', .im d, Ex.refl _, m, by rw [List.getElem?_map, h1]; rfl, h2.mono e⟩
theorem gives_tup {K : PySem.W.Frag} {a : Addr} {xs : List V} {ds : List PyData} {G : Hp} (h : G a = some (.tup xs)) (w : DvA G xs ds) : Gives (Itt K a) ⟨ds.map .im, fun _ => True⟩ G := by
  refine ⟨fun H => SqT K H a xs, YAt xs, ?_, fun G' H' μ' e m _ => .inl (.inl (m.ex _ _ (e _ _ h))), fun i H' x H2 G' μ' e m _ y _ => ?_⟩
  · show Walk _ (ds.map OV.im).length _ _
    rw [List.length_map, ← w.length]
    exact walk_tup
  · obtain ⟨rfl, hx⟩ := y
    obtain ⟨d, h1, h2⟩ := w.getV hx
    exact ⟨G', .im d, Ex.refl _, m, by rw [List.getElem?_map, h1]; rfl, h2.mono e⟩
theorem gives_range {lo : Int} {n : Nat} {G : Hp} : Gives (Itr lo n) ⟨(List.range n).map fun (k : Nat) => .im (.int (lo + (k : Int))), fun _ => True⟩ G := by
  refine ⟨fun _ => True, YFn fun i => .int (lo + i), ?_, fun _ _ _ _ _ _ => trivial, fun i H' x H2 G' μ' e m _ y hi => ?_⟩
  · show Walk _ ((List.range n).map _).length _ _
    rw [List.length_map, List.length_range]
    exact walk_range
  · obtain ⟨rfl, rfl⟩ := y
    have hi : i < n := by simpa using hi
    exact ⟨G', .im (.int (lo + (i : Int))), Ex.refl _, m, by rw [List.getElem?_map, List.getElem?_range hi]; rfl, Dv.int _⟩
theorem di_range1 (B : Bt X.mg) (hg : Gl X "range") (h : DE X e ρ μ fun o μ1 => ∃ j : Int, o = .im (.int j) ∧ -100000 ≤ j ∧ j ≤ 100000 ∧ Ψ ⟨(List.range j.toNat).map fun (k : Nat) => .im (.int (k : Int)), fun _ => True⟩ μ1)
    (he : starEach [e] X.env = (false, eval e X.env) :: starEach [] X.env := by rfl) : DI X tg (.Call (.Name "range" p) [e] [] pos) ρ μ Ψ :=
  ⟨_, pi_range1 hg B.range pwa (hs := by rw [he]; rfl), fun G H σ m v R f => (da_cons (Λ := fun os μ1 => ∃ j : Int, os = [.im (.int j)] ∧ -100000 ≤ j ∧ j ≤ 100000 ∧ Ψ ⟨(List.range j.toNat).map fun (k : Nat) => .im (.int (k : Int)), fun _ => True⟩ μ1)
      (h.imp fun o μ1 ⟨j, ho, h1, h2, q⟩ => da_nil ⟨j, by rw [ho], h1, h2, q⟩) he) G H σ m v _ fun vs os μ1 G1 H1 q1 e1 m1 r1 => by
    obtain ⟨j, rfl, h1, h2, q⟩ := q1
    obtain ⟨u, rfl, ru⟩ := ro1 r1
    cases ru
    exact ⟨j, rfl, by omega, by omega, f _ _ _ _ _ q e1 m1 (by have := gives_range (lo := 0) (n := j.toNat) (G := G1); simpa only [Int.zero_add] using this)⟩⟩
theorem di_range2 (B : Bt X.mg) (hg : Gl X "range") (h : DE X e ρ μ fun x μ0 => DE X e2 ρ μ0 fun o μ1 => ∃ i j : Int, x = .im (.int i) ∧ o = .im (.int j) ∧ -100000 ≤ i ∧ i ≤ 100000 ∧ -100000 ≤ j ∧ j ≤ 100000 ∧ Ψ ⟨(List.range (j - i).toNat).map fun (k : Nat) => .im (.int (i + (k : Int))), fun _ => True⟩ μ1)
    (he : starEach [e, e2] X.env = (false, eval e X.env) :: starEach [e2] X.env := by rfl) (he2 : starEach [e2] X.env = (false, eval e2 X.env) :: starEach [] X.env := by rfl) : DI X tg (.Call (.Name "range" p) [e, e2] [] pos) ρ μ Ψ :=
  ⟨_, pi_range2 hg B.range pwa (hs := by rw [he, he2]; rfl) (hs2 := by rw [he2]; rfl), fun G H σ m v R f => (da_cons (Λ := fun os μ1 => ∃ i j : Int, os = [.im (.int i), .im (.int j)] ∧ -100000 ≤ i ∧ i ≤ 100000 ∧ -100000 ≤ j ∧ j ≤ 100000 ∧ Ψ ⟨(List.range (j - i).toNat).map fun (k : Nat) => .im (.int (i + (k : Int))), fun _ => True⟩ μ1)
      (h.imp fun x μ0 h0 => da_cons (h0.imp fun o μ1 ⟨i, j, hx, ho, h1, h2, h3, h4, q⟩ => da_nil ⟨i, j, by rw [hx, ho], h1, h2, h3, h4, q⟩) he2) he) G H σ m v _ fun vs os μ1 G1 H1 q1 e1 m1 r1 => by
    obtain ⟨i, j, rfl, h1, h2, h3, h4, q⟩ := q1
    cases r1 with
    | cons r1 t =>
      obtain ⟨u, rfl, ru⟩ := ro1 t
      cases r1
      cases ru
      exact ⟨i, j, rfl, ⟨by omega, by omega, by omega, by omega⟩, f _ _ _ _ _ q e1 m1 gives_range⟩⟩
def prs (xs ys : List PyData) : List PyData := (xs.zip ys).map fun q => .tuple [q.1, q.2]
theorem prs_get {xs ys : List PyData} {i : Nat} {x y : PyData} (h1 : xs[i]? = some x) (h2 : ys[i]? = some y) : (prs xs ys)[i]? = some (.tuple [x, y]) := by
  unfold prs
  rw [List.getElem?_map, List.getElem?_zip_eq_some (z := (x, y)) |>.mpr ⟨h1, h2⟩]
  rfl
def nums (n : Nat) : List PyData := (List.range n).map fun (k : Nat) => PyData.int (k : Int)
theorem nums_get {n i : Nat} (h : i < n) : (nums n)[i]? = some (.int (i : Int)) := by
  unfold nums
  rw [List.getElem?_map, List.getElem?_range h]
  rfl
theorem pair_new {G H' : Hp} {μ' : Mu} {T : Addr} {x y : V} {d e : PyData} (m : RM G H' μ') (hT : H' T = none) (h1 : Dv G x d) (h2 : Dv G y e) : Ex G (upd G T (.tup [x, y])) ∧ RM (upd G T (.tup [x, y])) (upd H' T (.tup [x, y])) μ' ∧ RO (upd G T (.tup [x, y])) (.ref T) (.im (.tuple [d, e])) := by
  have n := m.ex.free hT
  exact ⟨Ex.new n, m.lay hT, Dv.tup upd_same (.cons (h1.mono (Ex.new n)) (.cons (h2.mono (Ex.new n)) .nil))⟩
end
def setAll (ρ : Rho) : List Nat → List PyData → Rho
  | i :: is, d :: ds => setAll (ρ.set i (some (.im d))) is ds
  | _, _ => ρ
inductive Tgt where
  | nm (i : Nat) | tp (is : List Nat)
def Tgt.put : Tgt → OV → Rho → Option Rho
  | .nm i, o, ρ => some (ρ.set i (some o))
  | .tp is, .im (.tuple ds), ρ => if ds.length = is.length then some (setAll ρ is ds) else none
  | .tp _, _, _ => none
def gNames : List Nat → TGs
  | [] => gNil
  | i :: is => gCons (gName i) (gNames is)
def TgtG (K : PySem.W.Frag) : Tgt → TG
  | .nm i => gName i
  | .tp is => gTup K is.length (gNames is)
theorem names_run {G H : Hp} {Q : L2.St → Hp → Prop} : ∀ (is : List Nat) {xs : List V} {ds : List PyData} {ρ : Rho} {σ : L2.St}, RV G ρ σ → DvA G xs ds → ds.length = is.length → (∀ σ', RV G (setAll ρ is ds) σ' → Q σ' H) → gNames is xs σ H Q
  | [], _, _, _, _, w, .nil, _, q => ⟨rfl, q _ w⟩
  | i :: is, _, _, _, _, w, .cons hd tl, hl, q => ⟨_, _, rfl, names_run is (w.set (o := .im _) hd) tl (by simpa using hl) q⟩
  | i :: is, _, _, _, _, w, .nil, hl, q => by cases hl
theorem tgt_run {K : PySem.W.Frag} {t : Tgt} {G H : Hp} {μ : Mu} {v : V} {o : OV} {ρ ρ' : Rho} {σ : L2.St} {Q : L2.St → Hp → Prop} (m : RM G H μ) (r : RO G v o) (w : RV G ρ σ) (h : t.put o ρ = some ρ') (q : ∀ σ', RV G ρ' σ' → Q σ' H) : TgtG K t v σ H Q := by
  cases t with
  | nm i =>
    cases h
    exact q _ (w.set r)
  | tp is =>
    cases o with
    | own a => cases h
    | scr K ns => cases h
    | pr p d => cases h
    | dic kvs => cases h
    | ob P => cases h
    | im d =>
      cases d with
      | tuple ds =>
        have h : (if ds.length = is.length then some (setAll ρ is ds) else none) = some ρ' := h
        split at h
        · rename_i hl
          cases h
          have r : Dv G v (.tuple ds) := r
          cases r with
          | tup h1 w1 => exact ⟨_, _, rfl, .inl (.inl (m.ex _ _ h1)), by rw [w1.length, hl], names_run is w w1 hl q⟩
        · cases h
      | _ => cases h
end Nx
namespace Nx
open PySem PySem.Spec PyProof.Rows L2
def Tgt.slots : Tgt → List Nat
  | .nm i => [i]
  | .tp is => is
theorem wipe_set {σ : L2.St} {x : Option V} {j : Nat} : ∀ {vs : List Nat}, j ∈ vs → L2.wipe (σ.set j x) vs = L2.wipe σ vs
  | [], h => nomatch h
  | v :: vs, h => by
    show (L2.wipe (σ.set j x) vs).set v none = (L2.wipe σ vs).set v none
    rcases List.mem_cons.mp h with e | e
    · subst e
      have comm : ∀ (ws : List Nat), (L2.wipe (σ.set j x) ws).set j none = (L2.wipe σ ws).set j none := by
        intro ws
        induction ws with
        | nil => exact List.set_set _
        | cons w ws ih =>
          show ((L2.wipe (σ.set j x) ws).set w none).set j none = ((L2.wipe σ ws).set w none).set j none
          by_cases hw : w = j
          · subst hw
            rw [List.set_set, List.set_set]
            exact ih
          · rw [List.set_comm _ _ hw, List.set_comm _ _ hw, ih]
      exact comm vs
    · rw [wipe_set e]
theorem wipe_idem (σ : L2.St) (vs : List Nat) : L2.wipe (L2.wipe σ vs) vs = L2.wipe σ vs := by
  have go : ∀ (ws : List Nat) (τ : L2.St), (∀ i ∈ ws, i ∈ vs) → L2.wipe (L2.wipe τ ws) vs = L2.wipe τ vs := by
    intro ws
    induction ws with
    | nil => intro τ _; rfl
    | cons w ws ih =>
      intro τ h
      show L2.wipe ((L2.wipe τ ws).set w none) vs = _
      rw [wipe_set (h w (List.mem_cons_self ..))]
      exact ih τ fun i hi => h i (List.mem_cons_of_mem _ hi)
  exact go vs σ fun _ h => h
theorem names_runW {G H : Hp} {Q : L2.St → Hp → Prop} (vs : List Nat) : ∀ (is : List Nat) {xs : List V} {ds : List PyData} {ρ : Rho} {σ : L2.St}, (∀ i ∈ is, i ∈ vs) → RV G ρ σ → DvA G xs ds → ds.length = is.length → (∀ σ', RV G (setAll ρ is ds) σ' → L2.wipe σ' vs = L2.wipe σ vs → Q σ' H) → gNames is xs σ H Q
  | [], _, _, _, _, _, w, .nil, _, q => ⟨rfl, q _ w rfl⟩
  | i :: is, _, _, _, _, hs, w, .cons hd tl, hl, q => ⟨_, _, rfl, names_runW vs is (fun j hj => hs j (List.mem_cons_of_mem _ hj)) (w.set (o := .im _) hd) tl (by simpa using hl) fun σ' r e => q σ' r (e.trans (wipe_set (hs i (List.mem_cons_self ..))))⟩
  | i :: is, _, _, _, _, _, w, .nil, hl, q => by cases hl
theorem tgt_runW {K : PySem.W.Frag} {t : Tgt} {G H : Hp} {μ : Mu} {v : V} {o : OV} {ρ ρ' : Rho} {σ : L2.St} {Q : L2.St → Hp → Prop} (vs : List Nat) (hs : ∀ i ∈ t.slots, i ∈ vs) (m : RM G H μ) (r : RO G v o) (w : RV G ρ σ) (h : t.put o ρ = some ρ') (q : ∀ σ', RV G ρ' σ' → L2.wipe σ' vs = L2.wipe σ vs → Q σ' H) : TgtG K t v σ H Q := by
  cases t with
  | nm i =>
    cases h
    exact q _ (w.set r) (wipe_set (hs i (List.mem_cons_self ..)))
  | tp is =>
    cases o with
    | own a => cases h
    | scr K ns => cases h
    | pr p d => cases h
    | dic kvs => cases h
    | ob P => cases h
    | im d =>
      cases d with
      | tuple ds =>
        have h : (if ds.length = is.length then some (setAll ρ is ds) else none) = some ρ' := h
        split at h
        · rename_i hl
          cases h
          have r : Dv G v (.tuple ds) := r
          cases r with
          | tup h1 w1 => exact ⟨_, _, rfl, .inl (.inl (m.ex _ _ h1)), by rw [w1.length, hl], names_runW vs is hs w w1 hl q⟩
        · cases h
      | _ => cases h
def wipeR (ρ : Rho) (vs : List Nat) : Rho := vs.foldr (fun v r => r.set v none) ρ
theorem RV.wipeV {G : Hp} {ρ : Rho} {σ : L2.St} (h : RV G ρ σ) (vs : List Nat) : RV G (wipeR ρ vs) (L2.wipe σ vs) := h.wipe vs
theorem del_put {μ : Mu} {a : Addr} {l : List OV} (h : μ a = none) : (μ.put a l).del a = μ := by
  refine mu_ext (fun b => ?_) rfl rfl
  show (if b = a then none else if b = a then some l else μ b) = μ b
  by_cases e : b = a
  · rw [if_pos e, e, h]
  · rw [if_neg e, if_neg e]
section
variable {X : Cx} {tg iter elt : Expr} {ifs : List Expr} {scope : Scope} {ρ : Rho} {μ : Mu} {Φ : OV → Mu → Prop} {pos : Pos}
abbrev Blk (X : Cx) (scope : Scope) (s : Shared) (H : Hp) (C : Addr) (cl : List (Str × Addr)) (fp : List Addr) : Cx := X.blk s H scope (compEnvC scope cl C X.env) fp
def DEb (X : Cx) (scope : Scope) (e : Expr) (ρ : Rho) (μ : Mu) (Φ : OV → Mu → Prop) : Prop := ∀ s H C cl fp, DE (Blk X scope s H C cl fp) e ρ μ Φ
def DTb (X : Cx) (scope : Scope) (ifs : List Expr) (ρ : Rho) (μ : Mu) (Φ : Bool → Mu → Prop) : Prop := match ifs with
  | [] => Φ true μ
  | [c] => ∀ s H C cl fp, DT (Blk X scope s H C cl fp) c ρ μ Φ
  | _ => False
def WTb (X : Cx) (scope : Scope) (ifs : List Expr) : TT := match ifs with
  | [] => tYes
  | [c] => fun σ H Q => ∀ s H0 C cl fp, WT (Blk X scope s H0 C cl fp) c σ H Q
  | _ => fun _ _ _ => False
theorem pwtb (s : Shared) (H : Hp) (C : Addr) (cl : List (Str × Addr)) (fp : List Addr) : PTs (Blk X scope s H C cl fp) ifs (WTb X scope ifs) := by
  match ifs with
  | [] => exact pts_nil
  | [c] => exact pts_one ⟨fun pins s' σ H' Q I h => h s H C cl fp pins s' I⟩
  | _ :: _ :: _ => exact ⟨fun _ _ _ _ _ _ h => h.elim⟩
theorem DTb.run {G H : Hp} {σ : L2.St} {Ψ : Bool → Mu → Prop} (h : DTb X scope ifs ρ μ Ψ) (m : RM G H μ) (v : RV G ρ σ) {Q : Bool → Hp → Prop} (f : ∀ b μ' G' H', Ψ b μ' → Ex G G' → RM G' H' μ' → Q b H') : WTb X scope ifs σ H Q := by
  match ifs, h with
  | [], h => exact f _ _ _ _ h (Ex.refl G) m
  | [c], h => exact fun s H0 C cl fp => h s H0 C cl fp G H σ m v Q f
def LcD (X : Cx) (scope : Scope) (ifs : List Expr) (elt : Expr) (t : Tgt) (vs : List Nat) (ρ : Rho) (D : Itd) (μ1 : Mu) (done : List OV → Mu → Prop) : Prop :=
  ∃ Pv : Nat → List OV → Mu → Prop, D.its.length ≤ 50000 ∧ Pv 0 [] μ1 ∧ (∀ i acc μ' Dl, Pv i acc μ' → μ' Dl = none → D.ok (μ'.put Dl acc)) ∧ (∀ acc μ', Pv D.its.length acc μ' → done acc μ') ∧
    ∀ i acc μ' o, D.its[i]? = some o → Pv i acc μ' → ∃ ρ', t.put o (wipeR ρ vs) = some ρ' ∧ ∀ Dl, μ' Dl = none →
      DTb X scope ifs ρ' (μ'.put Dl acc) fun k μ2 => if k = true then DEb X scope elt ρ' μ2 fun o' μ3 => ∃ μ4, μ3 = μ4.put Dl acc ∧ μ4 Dl = none ∧ Pv (i + 1) (acc ++ [o']) μ4 else ∃ μ4, μ2 = μ4.put Dl acc ∧ μ4 Dl = none ∧ Pv (i + 1) acc μ4
def WEb (X : Cx) (scope : Scope) (elt : Expr) : TE := fun σ H Q => ∀ s H0 C cl fp, WE (Blk X scope s H0 C cl fp) elt σ H Q
theorem lc_run {own : List (Str × Nat)} {t : Tgt} (hs : ∀ i ∈ t.slots, i ∈ own.map (·.2)) {G : Hp} {σ : L2.St} (v : RV G ρ σ) {J : It} {D : Itd} {μ1 : Mu} {G1 H1 : Hp} {done : List OV → Mu → Prop} {Qd : Addr → Hp → Prop}
    (h : LcD X scope ifs elt t (own.map (·.2)) ρ D μ1 done) (e1 : Ex G G1) (m1 : RM G1 H1 μ1) (gv : Gives J D G1) (fin : ∀ Dl acc μ' G' H', done acc μ' → μ' Dl = none → Ex G1 G' → RM G' H' (μ'.put Dl acc) → Qd Dl H') (Dl : Addr) (hD : H1 Dl = none) :
    ∃ W : Nat → Nat → Hp → Prop, (∃ m, W 0 m (upd H1 Dl (.lst []))) ∧ ∀ i m H, W i m H →
      (J.stop i H ∧ Qd Dl H) ∨ (J.go i H ∧ ∃ Nx : Hp → Prop, (∀ H', Nx H' → ∃ m', m' < m ∧ W (i + 1) m' H') ∧ ∀ x H', J.yld i H x H' → TgtG X.K t x (L2.wipe σ (own.map (·.2))) H' fun σ2 H2 => L2.wipe σ2 (own.map (·.2)) = L2.wipe σ (own.map (·.2)) ∧ WTb X scope ifs σ2 H2 fun b H3 =>
        if b = true then WEb X scope elt σ2 H3 fun y H4 => ∃ acc, H4 Dl = some (.lst acc) ∧ acc.length < sizeLine ∧ Nx (upd H4 Dl (.lst (acc ++ [y]))) else Nx H3) := by
  obtain ⟨Pv, hn, h0, hok, hdone, step⟩ := h
  obtain ⟨Gd, Y, wk, hG, hY⟩ := gv
  refine lc_it wk (Qd := Qd Dl) (fun i H => ∃ acc μ' G', acc.length ≤ i ∧ Pv i acc μ' ∧ μ' Dl = none ∧ Ex G1 G' ∧ RM G' H (μ'.put Dl acc)) ⟨[], μ1, G1, Nat.le_refl _, h0, m1.fresh hD, Ex.refl _, m1.new hD .nil⟩ ?_ ?_ ?_
  · rintro i H _ ⟨acc, μ', G', _, p, n, e, m⟩
    exact hG G' H _ e m (hok i acc μ' Dl p n)
  · rintro i x H H' hi ⟨acc, μ', G', hl, p, n, e, m⟩ y
    obtain ⟨G2, o, e2, m2, ho, r2⟩ := hY i H x H' G' _ e m (hok i acc μ' Dl p n) y hi
    obtain ⟨ρ', hp, hb⟩ := step i acc μ' o ho p
    have v2 : RV G2 (wipeR ρ (own.map (·.2))) (L2.wipe σ (own.map (·.2))) := (v.mono ((e1.trans e).trans e2)).wipeV _
    refine tgt_runW (own.map (·.2)) hs m2 r2 v2 hp fun σ' v3 hw => ⟨hw.trans (wipe_idem _ _), (hb Dl n).run m2 v3 fun b μ3 G3 H3 q3 e3 m3 => ?_⟩
    cases b with
    | true =>
      rw [if_pos rfl] at q3 ⊢
      intro s H0 C cl fp
      refine q3 s H0 C cl fp G3 H3 σ' m3 (v3.mono e3) _ fun vy o' μ4 G4 H4 q4 e4 m4 r4 => ?_
      obtain ⟨μ5, rfl, n5, p5⟩ := q4
      obtain ⟨g5, accv, h5, w5⟩ := m4.own Dl acc put_same
      refine ⟨accv, h5, by rw [w5.length]; exact Nat.lt_of_lt_of_le (show acc.length < 100000 by omega) (by decide), acc ++ [o'], μ5, G4, by rw [List.length_append]; exact Nat.succ_le_succ hl, p5, n5, ((e.trans e2).trans e3).trans e4, ?_⟩
      have m5 := m4.chg (p := Dl) put_same (w5.snoc r4)
      rw [put_put] at m5
      exact m5
    | false =>
      rw [if_neg (by decide)] at q3 ⊢
      obtain ⟨μ5, rfl, n5, p5⟩ := q3
      exact ⟨acc, μ5, G3, Nat.le_succ_of_le hl, p5, n5, (e.trans e2).trans e3, m3⟩
  · rintro H ⟨acc, μ', G', hl, p, n, e, m⟩
    exact fin Dl acc μ' G' H (hdone acc μ' p) n e m
theorem pweb (s : Shared) (H : Hp) (C : Addr) (cl : List (Str × Addr)) (fp : List Addr) : PE (Blk X scope s H C cl fp) elt (WEb X scope elt) := ⟨fun pins s' σ H' Q I h => h s H C cl fp pins s' I⟩
theorem de_lcO {own : List (Str × Nat)} (t : Tgt) (hc : X.calm = true) (hN : X.N.Nodup) (ok : BlkOk X.N X.env.scope scope own) (hs : ∀ i ∈ t.slots, i ∈ own.map (·.2))
    (hg : ∀ s H C cl fp, PG (Blk X scope s H C cl fp) tg (TgtG X.K t)) (h : DI X tg iter ρ μ fun D μ1 => LcD X scope ifs elt t (own.map (·.2)) ρ D μ1 fun acc μ' => ∀ p, μ' p = none → Φ (.own p) (μ'.put p acc))
    (hf : ∀ x, foldedSetIterable iter X.env x = pure x := by intro _; rfl) : DE X (.ListComp elt [⟨tg, iter, ifs, 0⟩] scope pos) ρ μ Φ := by
  obtain ⟨wi, pi, run⟩ := h
  intro G H σ m v Q f
  refine WE.of (pe_lc (own := own) hc hN pi ok hg (fun s H C cl fp => pwtb s H C cl fp) (fun s H C cl fp => pweb s H C cl fp) hf) (run G H σ m v _ fun J D μ1 G1 H1 q e1 m1 gv Dl hD => ?_)
  exact lc_run hs v q e1 m1 gv (Qd := fun Dl H => Q (.ref Dl) H) (fun Dl acc μ' G' H' d n e m' => f _ _ _ _ _ (d Dl n) (e1.trans e) m' rfl) Dl hD
theorem de_lc {own : List (Str × Nat)} (t : Tgt) (hc : X.calm = true) (hN : X.N.Nodup) (ok : BlkOk X.N X.env.scope scope own) (hs : ∀ i ∈ t.slots, i ∈ own.map (·.2))
    (hg : ∀ s H C cl fp, PG (Blk X scope s H C cl fp) tg (TgtG X.K t)) (h : DI X tg iter ρ μ fun D μ1 => LcD X scope ifs elt t (own.map (·.2)) ρ D μ1 fun acc μ' => ∃ ds, acc = ds.map .im ∧ Φ (.im (.list ds)) μ')
    (hf : ∀ x, foldedSetIterable iter X.env x = pure x := by intro _; rfl) : DE X (.ListComp elt [⟨tg, iter, ifs, 0⟩] scope pos) ρ μ Φ := by
  refine de_frz (ds := []) (p := 0) (de_lcO t hc hN ok hs hg (h.imp fun D μ1 hL => ?_) hf)
  obtain ⟨Pv, a, b, c, d, e⟩ := hL
  refine ⟨Pv, a, b, c, fun acc μ' p q hq => ?_, e⟩
  obtain ⟨ds, rfl, z⟩ := d acc μ' p
  exact ⟨q, ds, rfl, put_same, by rw [del_put hq]; exact z⟩
def Xt (μ μ' : Mu) : Prop := ∀ a l, μ a = some l → μ' a = some l
theorem Xt.put {μ : Mu} {p : Addr} {l : List OV} (h : μ p = none) : Xt μ (μ.put p l) := fun a m e => by
  rw [put_ne (fun z => by rw [z, h] at e; cases e)]
  exact e
end
end Nx
namespace Nx
open PySem PySem.Spec PyProof.Rows L2
section
variable {X : Cx} {a b c e o : Expr} {es : List Expr} {st : Stmt} {ss : List Stmt} {ρ : Rho} {μ : Mu} {D : DEnds} {Φ : OV → Mu → Prop} {pos : Pos}
theorem dss_nil (h : D.nx ρ μ) : DSs X [] ρ μ D := fun G H σ m v E f => WSs.of pss_nil (f.nx ρ μ G H σ h (Ex.refl G) m v)
theorem dss_one (h : DS X st ρ μ D) : DSs X [st] ρ μ D := fun G H σ m v E f => WSs.of (pss_one pws) (h G H σ m v E f)
theorem dss_cons (h : DS X st ρ μ { D with nx := fun ρ' μ' => DSs X ss ρ' μ' D }) : DSs X (st :: ss) ρ μ D := fun G H σ m v E f =>
  WSs.of (pss_cons pws pwss) (h G H σ m v _ ⟨fun ρ' μ' G' H' σ' q e m' v' => q G' H' σ' m' v' E (f.later e), f.rt, f.bk, f.ct⟩)
theorem ds_expr (h : DE X e ρ μ fun _ μ1 => D.nx ρ μ1) (hs : swapsWith e none pos.line X.env = pure false := by rfl) : DS X (.Expr e pos) ρ μ D := fun G H σ m v E f =>
  WS.of (ps_expr pwe hs) (h G H σ m v _ fun vx x μ1 G1 H1 q1 e1 m1 r1 => f.nx _ _ _ _ _ q1 e1 m1 (v.mono e1))
theorem ds_ret (h : DE X e ρ μ D.rt) : DS X (.Return (some e) pos) ρ μ D := fun G H σ m v E f => WS.of (ps_ret pwe) (h G H σ m v _ f.rt)
theorem ds_if {s1 s2 : List Stmt} (h : DT X c ρ μ fun k μ1 => if k = true then DSs X s1 ρ μ1 D else DSs X s2 ρ μ1 D) : DS X (.If c s1 s2 pos) ρ μ D := fun G H σ m v E f =>
  WS.of (ps_if pwt pwss pwss) (h G H σ m v _ fun k μ1 G1 H1 q e1 m1 => by
    dsimp only at q
    split at q
    · rename_i hk
      rw [if_pos hk]
      exact q G1 H1 σ m1 (v.mono e1) E (f.later e1)
    · rename_i hk
      rw [if_neg hk]
      exact q G1 H1 σ m1 (v.mono e1) E (f.later e1))
theorem ds_set (i : Nat) {x : Str} {p' : Pos} (hN : X.N.Nodup) (hi : X.N[i]? = some x) (hx : Loc X.env.scope x) (h : DE X e ρ μ fun z μ1 => D.nx (ρ.set i (some z)) μ1) (hs : swapsWith e (some (.Name x p')) pos.line X.env = pure false := by rfl)
    (hf : X.fn x = true ∨ X.env.scope.names.lookup x = some .local := by first | exact .inl rfl | exact .inr rfl | assumption) : DS X (.Assign [.Name x p'] e pos) ρ μ D := fun G H σ m v E f =>
  WS.of (ps_set hN hi hx pwe hs hf) (h G H σ m v _ fun vx z μ1 G1 H1 q1 e1 m1 r1 => f.nx _ _ _ _ _ q1 e1 m1 ((v.mono e1).set r1))
theorem ds_asg (t : Tgt) {tg : Expr} (hg : PG X tg (TgtG X.K t)) (h : DE X e ρ μ fun z μ1 => ∃ ρ', t.put z ρ = some ρ' ∧ D.nx ρ' μ1) (hs : swapsWithSole [tg] e pos.line X.env = pure false := by rfl) (hw : swappedStores [tg] e X.env = pure none := by rfl)
    (h1 : (assignEach [tg] X.env).map (·.2) = [assign tg X.env] := by rfl) : DS X (.Assign [tg] e pos) ρ μ D := fun G H σ m v E f =>
  WS.of (ps_asg pwe hg hs hw h1) (h G H σ m v _ fun vx z μ1 G1 H1 ⟨ρ', hp, q1⟩ e1 m1 r1 => tgt_run m1 r1 (v.mono e1) hp fun σ' v' => f.nx _ _ _ _ _ q1 e1 m1 v')
theorem ds_par (i j : Nat) {x y : Str} {px py pt : Pos} {kt k2 pt2} (hc : X.calm = true) (hN : X.N.Nodup) (hi : X.N[i]? = some x) (hj : X.N[j]? = some y) (hij : i ≠ j)
    (hx : X.env.scope.names.lookup x = some .local) (hy : X.env.scope.names.lookup y = some .local) (hw : swappedStores [.Tuple [.Name x px, .Name y py] kt pt] (.Tuple [a, b] k2 pt2) X.env = pure (some [x, y]))
    (h : DA X [a, b] ρ μ fun os μ1 => ∃ u v, os = [u, v] ∧ D.nx ((ρ.set i (some u)).set j (some v)) μ1)
    (hs : swapsWithSole [.Tuple [.Name x px, .Name y py] kt pt] (.Tuple [a, b] k2 pt2) pos.line X.env = pure false := by rfl) : DS X (.Assign [.Tuple [.Name x px, .Name y py] kt pt] (.Tuple [a, b] k2 pt2) pos) ρ μ D := fun G H σ m v E f =>
  WS.of (ps_par hc hN hi hj hij hx hy pwa hw hs) (h G H σ m v _ fun vs os μ1 G1 H1 q1 e1 m1 r1 => by
    obtain ⟨u, w, rfl, q⟩ := q1
    cases r1 with
    | cons r1 t1 =>
      obtain ⟨z, rfl, r2⟩ := ro1 t1
      exact ⟨_, _, rfl, f.nx _ _ _ _ _ q e1 m1 (((v.mono e1).set r1).set r2)⟩)
theorem ds_sub {p' : Pos} (h : DE X e ρ μ fun z μ1 => DE X a ρ μ1 fun x μ2 => DE X b ρ μ2 fun y μ3 => ∃ (p : Addr) (l : List OV) (i : Int) (j : Nat), x = .own p ∧ y = .im (.int i) ∧ μ3 p = some l ∧ ixN l.length i = some j ∧ D.nx ρ (μ3.put p (l.set j z))) (hs : swapsWithSole [.Subscript a b p'] e pos.line X.env = pure false := by rfl)
    (hw : swappedStores [.Subscript a b p'] e X.env = pure none := by rfl) (h1 : (assignEach [.Subscript a b p'] X.env).map (·.2) = [assign (.Subscript a b p') X.env] := by rfl) (hsub : PG X (.Subscript a b p') (gSub (WE X a) (WE X b) rSetL)) : DS X (.Assign [.Subscript a b p'] e pos) ρ μ D := fun G H σ m v E f =>
  WS.of (ps_asg pwe hsub hs hw h1) (h G H σ m v _ fun vz z μ1 G1 H1 q1 e1 m1 r1 => q1 G1 H1 σ m1 (v.mono e1) _ fun vx x μ2 G2 H2 q2 e2 m2 r2 => q2 G2 H2 σ m2 (v.mono (e1.trans e2)) _ fun vy y μ3 G3 H3 q3 e3 m3 r3 => by
    obtain ⟨p, l, i, j, rfl, rfl, hp, hj, q⟩ := q3
    have r2 : vx = .ref p := r2
    subst r2
    cases r3
    obtain ⟨g, vs, hv, w⟩ := m3.own _ _ hp
    refine ⟨p, vs, i, j, rfl, rfl, hv, by rw [w.length]; exact hj, ?_⟩
    exact f.nx _ _ _ _ _ q ((e1.trans e2).trans e3) (m3.chg hp (w.set (r1.mono (e2.trans e3)) j)) (v.mono ((e1.trans e2).trans e3)))
theorem ds_for (t : Tgt) {tg iter : Expr} {body : List Stmt} (hp : PassesOwn (model X.prog X.w) X.A X.env X.xe) (hc : X.calm = true) (hg : PG X tg (TgtG X.K t))
    (h : DI X tg iter ρ μ fun I μ1 => ∃ Pv : Nat → Rho → Mu → Prop, Pv 0 ρ μ1 ∧ (∀ i ρ' μ', Pv i ρ' μ' → I.ok μ') ∧ (∀ (i : Nat) (z : OV) ρ' μ', I.its[i]? = some z → Pv i ρ' μ' → ∃ ρ2, t.put z ρ' = some ρ2 ∧ DSs X body ρ2 μ' { D with nx := Pv (i + 1), ct := Pv (i + 1), bk := D.nx }) ∧ ∀ ρ' μ', Pv I.its.length ρ' μ' → D.nx ρ' μ')
    (hs : ∀ x, foldedSetIterable iter X.env x = pure x := by intro _; rfl) : DS X (.For tg iter body [] pos) ρ μ D := by
  obtain ⟨wi, pi, run⟩ := h
  intro G H σ m v E f
  refine WS.of (ps_for hp hc pi hg pwss hs) (run G H σ m v _ fun J I μ1 G1 H1 q e1 m1 gv => ?_)
  obtain ⟨Pv, h0, hok, step, hd⟩ := q
  obtain ⟨Gd, Y, wk, hG, hY⟩ := gv
  refine for_it wk (D := E) (fun i σ' H' => ∃ ρ' μ' G', Pv i ρ' μ' ∧ Ex G1 G' ∧ RM G' H' μ' ∧ RV G' ρ' σ') ⟨ρ, μ1, G1, h0, Ex.refl _, m1, v.mono e1⟩ ?_ ?_ ?_
  · rintro i σ' H' _ ⟨ρ', μ', G', p, e, m', v'⟩
    exact hG G' H' μ' e m' (hok _ _ _ p)
  · rintro i x σ' H' H2 hi ⟨ρ', μ', G', p, e, m', v'⟩ y
    obtain ⟨G2, z, e2, m2, hz, r2⟩ := hY i H' x H2 G' μ' e m' (hok _ _ _ p) y hi
    obtain ⟨ρ2, hp2, hb⟩ := step i z ρ' μ' hz p
    refine tgt_run m2 r2 (v'.mono e2) hp2 fun σ2 v2 => ?_
    have e02 := (e1.trans e).trans e2
    refine hb G2 H2 σ2 m2 v2 _ ⟨fun ρ3 μ3 G3 H3 σ3 p3 e3 m3 v3 => ⟨ρ3, μ3, G3, p3, (e.trans e2).trans e3, m3, v3⟩, f.rt.later e02, f.nx.later e02, fun ρ3 μ3 G3 H3 σ3 p3 e3 m3 v3 => ⟨ρ3, μ3, G3, p3, (e.trans e2).trans e3, m3, v3⟩⟩
  · rintro σ' H' ⟨ρ', μ', G', p, e, m', v'⟩
    exact f.nx _ _ _ _ _ (hd _ _ p) (e1.trans e) m' v'
variable {apos cpos : Pos}
theorem de_append (h : DE X o ρ μ fun x μ1 => ∃ p l, x = .own p ∧ μ1 p = some l ∧ DE X e ρ μ1 fun y μ2 => ∃ l2, μ2 p = some l2 ∧ l2.length < 100000 ∧ Φ (.im .none) (μ2.put p (l2 ++ [y])))
    (hbase : attributeBase o "append" X.env (eval o X.env) = eval o X.env := by rfl)
    (hfew : ((backTo cpos (starEach [e] X.env)).all (fun x => !x.1) && (backToKw cpos (keywordEach [] X.env)).all (fun x => x.1.isSome) && decide ([e].length + ([] : List Keyword).length + (if ([] : List Keyword).isEmpty then 0 else 1) < 30)) = true := by rfl)
    (hline : (apos.endLine == cpos.line) = true := by rfl) (hs : starEach [e] X.env = (false, eval e X.env) :: starEach [] X.env := by rfl) (hplain : (backTo cpos (starEach [] X.env)).any (·.1) = false := by rfl) :
    DE X (.Call (.Attribute o "append" apos) [e] [] cpos) ρ μ Φ := fun G H σ m v Q f =>
  WE.of (pe_bm PySem.F.plainAttrs_list PySem.F.slot_list_append PySem.F.type_list_append mt_append pwe pwa hbase hfew hline hs hplain) (h G H σ m v _ fun vx x μ1 G1 H1 q1 e1 m1 r1 => by
    obtain ⟨p, l, rfl, hp, q⟩ := q1
    have r1 : vx = .ref p := r1
    subst r1
    obtain ⟨_, vs1, hv1, _⟩ := m1.own _ _ hp
    refine ⟨.inl ⟨rfl, _, .inl (.inl hv1)⟩, ?_⟩
    refine (da_cons (Λ := fun os μ2 => ∃ y l2, os = [y] ∧ μ2 p = some l2 ∧ l2.length < 100000 ∧ Φ (.im .none) (μ2.put p (l2 ++ [y]))) (q.imp fun y μ2 ⟨l2, a1, a2, a3⟩ => da_nil ⟨y, l2, rfl, a1, a2, a3⟩) hs) G1 H1 σ m1 (v.mono e1) _ fun vs os μ2 G2 H2 q2 e2 m2 r2 => ?_
    obtain ⟨y, l2, rfl, hp2, hz, q⟩ := q2
    obtain ⟨u, rfl, ru⟩ := ro1 r2
    obtain ⟨_, ws, hw, ww⟩ := m2.own _ _ hp2
    exact ⟨p, ws, u, rfl, rfl, hw, by rw [ww.length]; exact Nat.lt_of_lt_of_le hz (by decide), f _ _ _ _ _ q (e1.trans e2) (m2.chg hp2 (ww.snoc ru)) Dv.non⟩)
theorem de_popAt (h : DE X o ρ μ fun x μ1 => ∃ p l, x = .own p ∧ μ1 p = some l ∧ DE X e ρ μ1 fun y μ2 => ∃ (l2 : List OV) (i : Nat) (z : OV), y = .im (.int (i : Int)) ∧ i < 100000 ∧ μ2 p = some l2 ∧ l2[i]? = some z ∧ Φ z (μ2.put p (l2.eraseIdx i)))
    (hbase : attributeBase o "pop" X.env (eval o X.env) = eval o X.env := by rfl)
    (hfew : ((backTo cpos (starEach [e] X.env)).all (fun x => !x.1) && (backToKw cpos (keywordEach [] X.env)).all (fun x => x.1.isSome) && decide ([e].length + ([] : List Keyword).length + (if ([] : List Keyword).isEmpty then 0 else 1) < 30)) = true := by rfl)
    (hline : (apos.endLine == cpos.line) = true := by rfl) (hs : starEach [e] X.env = (false, eval e X.env) :: starEach [] X.env := by rfl) (hplain : (backTo cpos (starEach [] X.env)).any (·.1) = false := by rfl) :
    DE X (.Call (.Attribute o "pop" apos) [e] [] cpos) ρ μ Φ := fun G H σ m v Q f =>
  WE.of (pe_bm PySem.F.plainAttrs_list PySem.F.slot_list_pop PySem.F.type_list_pop mt_popAt pwe pwa hbase hfew hline hs hplain) (h G H σ m v _ fun vx x μ1 G1 H1 q1 e1 m1 r1 => by
    obtain ⟨p, l, rfl, hp, q⟩ := q1
    have r1 : vx = .ref p := r1
    subst r1
    obtain ⟨_, vs1, hv1, _⟩ := m1.own _ _ hp
    refine ⟨.inl ⟨rfl, _, .inl (.inl hv1)⟩, ?_⟩
    refine (da_cons (Λ := fun os μ2 => ∃ (l2 : List OV) (i : Nat) (z : OV), os = [.im (.int (i : Int))] ∧ i < 100000 ∧ μ2 p = some l2 ∧ l2[i]? = some z ∧ Φ z (μ2.put p (l2.eraseIdx i))) (q.imp fun y μ2 ⟨l2, i, z, a0, a1, a2, a3, a4⟩ => da_nil ⟨l2, i, z, by rw [a0], a1, a2, a3, a4⟩) hs) G1 H1 σ m1 (v.mono e1) _ fun vs os μ2 G2 H2 q2 e2 m2 r2 => ?_
    obtain ⟨l2, i, z, rfl, hi, hp2, hz, q⟩ := q2
    obtain ⟨u, rfl, ru⟩ := ro1 r2
    cases ru
    obtain ⟨_, ws, hw, ww⟩ := m2.own _ _ hp2
    obtain ⟨y, hy, ry⟩ := ROs.get ww hz
    have hil : i < ws.length := (List.getElem?_eq_some_iff.mp hy).1
    refine ⟨p, ws, i, i, y, rfl, rfl, hw, by omega, by omega, ?_, hy, f _ _ _ _ _ q (e1.trans e2) (m2.chg hp2 (ww.erase i)) ry⟩
    exact (atI_get (i := (i : Int)) (xs := ws) (v := y) (atI_nat hy)).elim fun j hj => by
      have e3 : j = i := by
        have h1 := hj.1
        unfold seqIndex? at h1
        split at h1 <;> simp_all <;> omega
      rw [e3] at hj
      exact hj.1)
end
end Nx
namespace Nx
open PySem PySem.Spec PyProof.Rows L2
def ItO (k : Bool) (h : Heap) (it a : Addr) (i : Nat) : Prop := if k then h.IsListIter it a i else h.IsTupleIter it a i
def SrO (k : Bool) (h : Heap) (a : Addr) (its : Array Value) : Prop := if k then h.IsList a its else h.IsTuple a its
def SqK (k : Bool) (H : Hp) (a : Addr) (xs : List V) : Prop := H a = some (if k then HO.lst xs else HO.tup xs)
def itOb (k : Bool) (a : Addr) : Obj := { cls := .type (if k then "list_iterator" else "tuple_iterator"), data := .fields #[.ref a, .int 0 0] }
theorem draws (k : Bool) {prog : Program} {w : World} {A : Around} (hh : A.handled = none) (it a : Addr) (hne : a ≠ it) (its : Array Value) : Draws prog w A it [it, a] its.size (fun i v => its[i]? = some v) (fun i h => ItO k h it a i ∧ SrO k h a its) := by
  cases k
  · exact Draws.tuple hh it a hne its
  · exact Draws.list hh it a hne its
theorem begins (k : Bool) (a : Addr) (its : Array Value) : Begins (.ref a) (itOb k a) fun h => SrO k h a its := by
  cases k
  · exact begins_tuple a its
  · exact begins_list a its
theorem ItO.new {k : Bool} {h : Heap} {it a : Addr} (e : h.get? it = some (itOb k a)) : ItO k h it a 0 := by
  cases k
  · exact ⟨_, e, rfl, rfl⟩
  · exact ⟨_, e, rfl, rfl⟩
theorem ItO.keep {k : Bool} {h h' : Heap} {it a : Addr} {i : Nat} (x : ItO k h it a i) (e : ∀ o, h.get? it = some o → h'.get? it = some o) : ItO k h' it a i := by
  cases k
  · obtain ⟨o, h1, h2, h3⟩ := x
    exact ⟨o, e o h1, h2, h3⟩
  · obtain ⟨o, h1, h2, h3⟩ := x
    exact ⟨o, e o h1, h2, h3⟩
theorem ItO.obj {k : Bool} {h : Heap} {it a : Addr} {i : Nat} (x : ItO k h it a i) : ∃ o, h.get? it = some o ∧ ∀ v, o.data ≠ .cell v := by
  cases k
  · obtain ⟨o, h1, h2, h3⟩ := x
    exact ⟨o, h1, fun v q => by rw [h3] at q; cases q⟩
  · obtain ⟨o, h1, h2, h3⟩ := x
    exact ⟨o, h1, fun v q => by rw [h3] at q; cases q⟩
theorem SqK.at {X : Cx} {pins : List (Addr × Obj)} {σ : L2.St} {H : Hp} {s : Shared} {k : Bool} {a : Addr} {xs : List V} (I : Inv X pins σ H s) (h : SqK k H a xs) : ∃ its : List Value, Vals xs its ∧ SrO k s.heap a its.toArray := by
  cases k
  · obtain ⟨its, rv, t, _⟩ := I.tuple (X := X) (xs := xs) (a := a) (.inl (.inl h))
    exact ⟨its, rv, t⟩
  · obtain ⟨its, rv, p, _⟩ := I.list (X := X) (xs := xs) (a := a) (.inl (.inl h))
    exact ⟨its, rv, p.isList⟩
theorem mem2 {b e it : Addr} (h : b ∈ [e, it]) : b = e ∨ b = it := by simpa using h
def Jen (k : Bool) (a : Addr) (xs : List V) : It :=
  ⟨fun i H => i < xs.length ∧ SqK k H a xs, fun i H v H' => ∃ T x, v = .ref T ∧ H T = none ∧ H' = upd H T (.tup [.int (i : Nat), x]) ∧ xs[i]? = some x, fun i H => i = xs.length ∧ SqK k H a xs⟩
theorem turn_en {P : Program} {w : World} {K : PySem.W.Frag} {elts : List Expr} {kk : Nat} {tpos : Pos} (k : Bool) (a e it : Addr) (xs : List V) (hei : e ≠ it) :
    Turn P w K (.Tuple elts kk tpos) (Jen k a xs) [e, it] e (fun i h => (∃ old, IsEnum h e it ((i : Nat) : Int) old) ∧ ItO k h it a i) where
  mem := by simp
  obj := fun i h st b hb => by
    obtain ⟨⟨old, he⟩, hi⟩ := st
    rcases mem2 hb with z | z
    · rw [z]
      exact ⟨_, he, fun v q => nomatch q⟩
    · rw [z]
      exact hi.obj
  keep := fun i h h' st kp => by
    obtain ⟨⟨old, he⟩, hi⟩ := st
    exact ⟨⟨old, kp e (by simp) _ he⟩, hi.keep fun o q => kp it (by simp) o q⟩
  item := by
    intro X hP hw hK hc i pins s σ H E I hf st hg
    subst hP hw hK
    obtain ⟨⟨old, he⟩, hit⟩ := st
    obtain ⟨hi, hq⟩ := hg
    obtain ⟨its, rv, hs⟩ := hq.at I
    have na : ∀ b ∈ [e, it], a ≠ b := fun b hb => ne_of_none hq (hf b hb).1
    have W := GoesN.enumFrom (elts := elts) (x1 := kk) (pos := tpos) (A := X.A) 0 (draws (prog := X.prog) (w := X.w) (A := X.A.in1) k (I.ok.hd hc) it a (na it (by simp)) its.toArray) e hei (by
      intro hm
      rcases mem2 hm with z | z
      · exact hei z
      · exact na e (by simp) z.symm) (by simp)
    have hl := rv.length
    refine W.goes i s _ E (by simp; omega) ⟨⟨old, by rw [Int.zero_add]; exact he⟩, hit, hs⟩ fun v h' tk hY st' hk _ => ?_
    obtain ⟨T, t, x, rfl, hT, hx, hTu⟩ := hY
    obtain ⟨⟨old', he'⟩, hit', _⟩ := st'
    have hx' : its[i]? = some x := by simpa using hx
    obtain ⟨y, hy⟩ : ∃ y, xs[i]? = some y := ⟨_, List.getElem?_eq_getElem hi⟩
    obtain ⟨u, hu, ru⟩ := rv.get hy
    rw [hx'] at hu
    cases hu
    have new : ObjOk X.prog X.w (upd H T (.tup [.int (i : Nat), y])) h' T (.tup [.int (i : Nat), y]) :=
      ⟨by show 2 ≤ sizeLine; decide, [.int (0 + (i : Int)) t, x], .cons ⟨t, by rw [Int.zero_add]⟩ (.cons ru .nil), hTu⟩
    have hTn := I.hok.fresh hT
    refine ⟨.ref T, _, I.turnedNew (t' := tk) (ch := [e, it]) hk hf hT new, rfl, ⟨T, y, rfl, hTn, rfl, hy⟩, ⟨⟨old', ?_⟩, hit'⟩, fun b hb => ?_⟩
    · rw [Int.zero_add] at he'
      exact he'
    · have hb' : b ≠ T := fun z => by
        obtain ⟨o, ho, _⟩ : ∃ o, s.heap.get? b = some o ∧ ∀ v, o.data ≠ .cell v := by
          rcases mem2 hb with z | z
          · rw [z]
            exact ⟨_, he, fun v q => nomatch q⟩
          · rw [z]
            exact hit.obj
        have := Heap.lt_size ho
        rw [z] at this
        exact absurd hT (Nat.not_le.mpr this)
      rw [upd_ne hb']
      exact (hf b hb).1
  done := by
    intro X hP hw hK hc i pins s σ H E I hf st hg
    subst hP hw hK
    obtain ⟨⟨old, he⟩, hit⟩ := st
    obtain ⟨rfl, hq⟩ := hg
    obtain ⟨its, rv, hs⟩ := hq.at I
    have na : ∀ b ∈ [e, it], a ≠ b := fun b hb => ne_of_none hq (hf b hb).1
    have W := GoesN.enumFrom (elts := elts) (x1 := kk) (pos := tpos) (A := X.A) 0 (draws (prog := X.prog) (w := X.w) (A := X.A.in1) k (I.ok.hd hc) it a (na it (by simp)) its.toArray) e hei (by
      intro hm
      rcases mem2 hm with z | z
      · exact hei z
      · exact na e (by simp) z.symm) (by simp)
    have hl := rv.length
    have hn : its.toArray.size = xs.length := by simp; omega
    refine W.stops s _ E (by rw [hn]; exact ⟨⟨old, by rw [Int.zero_add]; exact he⟩, hit, hs⟩) fun h' tk hk _ => ?_
    exact I.turnedL hk hf
  self := fun A i s Q E st h => let ⟨⟨_, he⟩, _⟩ := st; wpAny_pyIter_enum he h
set_option maxHeartbeats 1000000 in
theorem meets_en {v : Value} {o : Obj} {Hs : Heap → Prop} (B : Begins v o Hs) :
    Meets (Builtin.«enumerate.__new__» ⟨[.type "enumerate", v], []⟩) (fun _ R s => Hs s.heap ∧
      R (.ok (.ret (.ref (s.heap.push o).objs.size))) { s with heap := (s.heap.push o).push { cls := .type "enumerate", data := .fields #[.none, .bool false, .ref s.heap.objs.size, rawInt 0, .none, .none] } }) :=
  .of_wp fun prog w A R s h => by
    obtain ⟨hp, g, d, tk, os⟩ := s
    obtain ⟨h1, h⟩ := h
    have sub := sub_enumerate
    have it1 : ∀ {A' : Around} {E : Value → Shared → Prop} {Q : Value → Shared → Prop}, Q (.ref hp.objs.size) ⟨hp.push o, g, d, tk, os⟩ → wpAny (model prog w) A' (pyIter v) Q E ⟨hp, g, d, tk, os⟩ := fun q => B.iter prog w _ _ ⟨hp, g, d, tk, os⟩ _ h1 q
    wp_walk using it1
    refine wpAny_stack_any fun st => wpAny_pure ?_
    split
    · rename_i c _ _ _ _ _
      cases (c == Value.type "enumerate") <;> (wp_walk using it1; exact ⟨_, rfl, h⟩)
    · wp_walk using it1
      exact ⟨_, rfl, h⟩
theorem call_en {prog : Program} {w : World} {A : Around} {E : Value → Shared → Prop} {s : Shared} {v : Value} {o : Obj} {Hs : Heap → Prop} {Q : Value → Shared → Prop} (B : Begins v o Hs) (h1 : Hs s.heap)
    (h : ∀ h', IsEnum h' (s.heap.objs.size + 1) s.heap.objs.size 0 .none → h'.get? s.heap.objs.size = some o → (∀ b o, s.heap.get? b = some o → h'.get? b = some o) → Q (.ref (s.heap.objs.size + 1)) { s with heap := h' }) : wpAny (model prog w) A (call (.type "enumerate") [v]) Q E s := by
  refine callType_new F.called_enumerate (by decide) (F.typeCall_enumerate_1 _) (F.newCall_enumerate_1 _) (fun obj => F.args_object_init_2 obj _) F.entry_enumerate_new (meets_en B) ⟨h1, ?_⟩
  have hz : (s.heap.push o).objs.size = s.heap.objs.size + 1 := Heap.size_push ..
  rw [hz]
  have he := Heap.get?_push_size (s.heap.push o) (o := { cls := .type "enumerate", data := .fields #[.none, .bool false, .ref s.heap.objs.size, rawInt 0, .none, .none] }) rfl
  rw [hz] at he
  exact ⟨⟨_, he, rfl⟩, h _ he (Heap.get?_push_of_some _ (Heap.get?_push_size _ B.free)) fun b o x => Heap.get?_push_of_some _ (Heap.get?_push_of_some _ x)⟩
def iEn (ta : TA) : TI := fun σ H R => ta σ H fun vs H1 => ∃ k a xs, vs = [.ref a] ∧ SqK k H1 a xs ∧ R (Jen k a xs) H1
theorem pi_en {X : Cx} {e : Expr} {ta : TA} {p pos tpos : Pos} {elts : List Expr} {kk : Nat} (hg : Gl X "enumerate") (hm : X.mg "enumerate" = none) (ha : PA X [e] ta) (hs : starEach [e] X.env = [(false, eval e X.env)]) :
    PI X (.Tuple elts kk tpos) (.Call (.Name "enumerate" p) [e] [] pos) (iEn ta) := by
  constructor
  intro pins s σ H R I h
  refine Call_ (ld_blt I hg hm boot_enumerate (PyProof.Rows.callWith_type1 (thn (ha.run pos pins s σ H _ I h) fun us s1 ⟨vs, H1, I1, r1, q1⟩ => ?_) hs rfl))
  obtain ⟨k, a, xs, rfl, hq, q⟩ := q1
  obtain rfl := r1.ref1
  obtain ⟨its, rv, hsr⟩ := hq.at I1
  refine call_en (begins k a its.toArray) hsr fun h' he hit hk => wpAny_pyIter_enum he ?_
  refine ⟨s1.heap.objs.size + 1, [s1.heap.objs.size + 1, s1.heap.objs.size], _, _, H1, rfl, I1.kept (t' := s1.toks) hk, turn_en k a (s1.heap.objs.size + 1) s1.heap.objs.size xs (Nat.succ_ne_self _), ⟨⟨.none, he⟩, ItO.new hit⟩, fun b hb => ?_, q⟩
  have hle : s1.heap.objs.size ≤ b := by
    rcases mem2 hb with z | z
    · rw [z]; exact Nat.le_add_right _ _
    · rw [z]; exact Nat.le_refl _
  exact I1.fpOk hle (I1.hok.fresh hle)
theorem walk_en {k : Bool} {a : Addr} {xs : List V} : Walk (Jen k a xs) xs.length (fun H => SqK k H a xs) (YPair (fun i => some (.int (i : Nat))) (fun i => xs[i]?)) :=
  ⟨fun i H hi q => ⟨hi, q⟩, fun H q => ⟨rfl, q⟩, fun i H v H' _ q ⟨T, x, h1, h2, h3, h4⟩ => ⟨T, .int (i : Nat), x, h1, h2, h3, rfl, h4⟩⟩
inductive Seq (ds : List PyData) : OV → Prop
  | lst : Seq ds (.im (.list ds))
  | tup : Seq ds (.im (.tuple ds))
theorem Seq.at {G : Hp} {v : V} {o : OV} {ds : List PyData} (h : Seq ds o) (r : RO G v o) : ∃ k a xs, v = .ref a ∧ SqK k G a xs ∧ DvA G xs ds := by
  cases h with
  | lst =>
    have r : Dv G v (.list ds) := r
    cases r with
    | lst h1 w => exact ⟨true, _, _, rfl, h1, w⟩
  | tup =>
    have r : Dv G v (.tuple ds) := r
    cases r with
    | tup h1 w => exact ⟨false, _, _, rfl, h1, w⟩
section
variable {X : Cx} {tg e e2 e3 : Expr} {ρ : Rho} {μ : Mu} {Ψ : Itd → Mu → Prop} {p pos : Pos}
theorem di_en {elts : List Expr} {kk : Nat} {tpos : Pos} (B : Bt X.mg) (hg : Gl X "enumerate") (h : DE X e ρ μ fun o μ1 => ∃ ds, Seq ds o ∧ Ψ ⟨(prs (nums ds.length) ds).map .im, fun _ => True⟩ μ1)
    (he : starEach [e] X.env = (false, eval e X.env) :: starEach [] X.env := by rfl) (he2 : starEach [e] X.env = [(false, eval e X.env)] := by rfl) : DI X (.Tuple elts kk tpos) (.Call (.Name "enumerate" p) [e] [] pos) ρ μ Ψ :=
  ⟨_, pi_en hg B.enumerate pwa he2, fun G H σ m v R f => (da_cons (Λ := fun os μ1 => ∃ o ds, os = [o] ∧ Seq ds o ∧ Ψ ⟨(prs (nums ds.length) ds).map .im, fun _ => True⟩ μ1)
      (h.imp fun o μ1 ⟨ds, ho, q⟩ => da_nil ⟨o, ds, rfl, ho, q⟩) he) G H σ m v _ fun vs os μ1 G1 H1 q1 e1 m1 r1 => by
    obtain ⟨o, ds, rfl, hd, q⟩ := q1
    obtain ⟨u, rfl, ru⟩ := ro1 r1
    obtain ⟨k, a, xs, rfl, hq, w⟩ := hd.at ru
    refine ⟨k, a, xs, rfl, m1.ex _ _ hq, f _ _ _ _ _ q e1 m1 ?_⟩
    have hlen : ((prs (nums ds.length) ds).map OV.im).length = ds.length := by simp [prs, nums]
    refine ⟨fun H => SqK k H a xs, YPair (fun i => some (.int (i : Nat))) (fun i => xs[i]?), ?_, fun G' H' μ' e m _ => m.ex _ _ (e _ _ hq), fun i H' x H2 G' μ' e m _ y hi => ?_⟩
    · show Walk _ ((prs (nums ds.length) ds).map OV.im).length _ _
      rw [hlen, ← w.length]
      exact walk_en
    · obtain ⟨T, x1, y1, rfl, hT, rfl, h1, h2⟩ := y
      cases h1
      obtain ⟨d, h3, h4⟩ := w.getV h2
      have hi : i < ds.length := by rw [← hlen]; exact hi
      obtain ⟨a1, a2, a3⟩ := pair_new m hT (Dv.int (i : Int)) (h4.mono e)
      exact ⟨_, .im (.tuple [.int (i : Int), d]), a1, a2, by rw [List.getElem?_map, prs_get (nums_get hi) h3]; rfl, a3⟩⟩
end
end Nx
namespace Nx
open PySem PySem.Spec PyProof.Rows L2
def Jz2 (k1 k2 : Bool) (a1 a2 : Addr) (xs ys : List V) : It :=
  ⟨fun i H => i < min xs.length ys.length ∧ SqK k1 H a1 xs ∧ SqK k2 H a2 ys, fun i H v H' => ∃ T x y, v = .ref T ∧ H T = none ∧ H' = upd H T (.tup [x, y]) ∧ xs[i]? = some x ∧ ys[i]? = some y, fun i H => i = min xs.length ys.length ∧ SqK k1 H a1 xs ∧ SqK k2 H a2 ys⟩
def tnz2 (k1 k2 : Bool) (z TI TO i1 i2 a1 a2 : Addr) (i : Nat) (h : Heap) : Prop := IsZip h z TI TO .none ∧ IsTupOf2 h TI (.ref i1) (.ref i2) ∧ (∃ x y, IsTupOf2 h TO x y) ∧ ItO k1 h i1 a1 i ∧ ItO k2 h i2 a2 i
theorem turn_z2 {P : Program} {w : World} {K : PySem.W.Frag} {elts : List Expr} {kk : Nat} {tpos : Pos} (k1 k2 : Bool) (a1 a2 z TI TO i1 i2 : Addr) (xs ys : List V) (hd : [z, TI, TO, i1, i2].Nodup) :
    Turn P w K (.Tuple elts kk tpos) (Jz2 k1 k2 a1 a2 xs ys) [z, TI, TO, i1, i2] z (tnz2 k1 k2 z TI TO i1 i2 a1 a2) := by
  have obj : ∀ i h, tnz2 k1 k2 z TI TO i1 i2 a1 a2 i h → ∀ b ∈ [z, TI, TO, i1, i2], ∃ o, h.get? b = some o ∧ ∀ v, o.data ≠ .cell v := by
    rintro i h ⟨h1, h2, ⟨x, y, h3⟩, h4, h5⟩ b hb
    simp only [List.mem_cons, List.not_mem_nil, or_false] at hb
    rcases hb with rfl | rfl | rfl | rfl | rfl
    · exact ⟨_, h1, fun v q => nomatch q⟩
    · exact ⟨_, h2, fun v q => nomatch q⟩
    · exact ⟨_, h3, fun v q => nomatch q⟩
    · exact h4.obj
    · exact h5.obj
  have goes : ∀ (X : Cx) (i : Nat) (pins : List (Addr × Obj)) (s : Shared) (σ : L2.St) (H : Hp), X.prog = P → X.w = w → X.calm = true → Inv X pins σ H s → (∀ b ∈ [z, TI, TO, i1, i2], FpOk X pins H b) → SqK k1 H a1 xs → SqK k2 H a2 ys →
      ∃ (its jts : List Value), Vals xs its ∧ Vals ys jts ∧ SrO k1 s.heap a1 its.toArray ∧ SrO k2 s.heap a2 jts.toArray ∧ GoesN P w X.A (.Tuple elts kk tpos) z (z :: TI :: TO :: ([i1, a1] ++ [i2, a2])) [z, TO, i1, i2] (min its.toArray.size jts.toArray.size)
        (fun i h₀ v h => ∃ T x y, v = .ref T ∧ h₀.objs.size ≤ T ∧ its.toArray[i]? = some x ∧ jts.toArray[i]? = some y ∧ h.IsTuple T #[x, y])
        (fun i h => IsZip h z TI TO .none ∧ IsTupOf2 h TI (.ref i1) (.ref i2) ∧ (∃ a1 a2, IsTupOf2 h TO a1 a2) ∧ (ItO k1 h i1 a1 i ∧ SrO k1 h a1 its.toArray) ∧ (ItO k2 h i2 a2 i ∧ SrO k2 h a2 jts.toArray)) := by
    intro X i pins s σ H hP hw hc I hf q1 q2
    subst hP hw
    obtain ⟨its, rv, hs1⟩ := q1.at I
    obtain ⟨jts, rw_, hs2⟩ := q2.at I
    have n1 : ∀ b ∈ [z, TI, TO, i1, i2], a1 ≠ b := fun b hb => ne_of_none q1 (hf b hb).1
    have n2 : ∀ b ∈ [z, TI, TO, i1, i2], a2 ≠ b := fun b hb => ne_of_none q2 (hf b hb).1
    have m1 := n1 z (by simp)
    have m3 := n1 TO (by simp)
    have m4 := n1 i1 (by simp)
    have m5 := n1 i2 (by simp)
    have l1 := n2 z (by simp)
    have l3 := n2 TO (by simp)
    have l4 := n2 i1 (by simp)
    have l5 := n2 i2 (by simp)
    simp only [List.nodup_cons, List.mem_cons, List.not_mem_nil, or_false, not_or, List.nodup_nil, and_true, not_false_eq_true] at hd
    obtain ⟨⟨d1, d2, d3, d4⟩, ⟨d5, d6, d7⟩, ⟨d8, d9⟩, d10⟩ := hd
    refine ⟨its, jts, rv, rw_, hs1, hs2, GoesN.zip2 ?_ (draws (A := X.A.in1) k1 (I.ok.hd hc) i1 a1 m4 its.toArray) (draws (A := X.A.in1) k2 (I.ok.hd hc) i2 a2 l5 jts.toArray)⟩
    exact { TIz := fun e => d1 e.symm, TOz := fun e => d2 e.symm, TITO := d5, TIi1 := d6, mem1 := by simp, zf1 := by simp; exact ⟨d3, fun e => m1 e.symm⟩, Tf1 := by simp; exact ⟨d8, fun e => m3 e.symm⟩, TIi2 := d7, mem2 := by simp,
            zf2 := by simp; exact ⟨d4, fun e => l1 e.symm⟩, Tf2 := by simp; exact ⟨d9, fun e => l3 e.symm⟩, sep1_2 := by simp; exact ⟨d10, fun e => l4 e.symm⟩, sep2_1 := by simp; exact ⟨fun e => d10 e.symm, fun e => m5 e.symm⟩ }
  have keepF : ∀ {h h' : Heap} {b : Addr}, b ∉ [z, TI, TO, i1, i2] → b ∉ [z, TO, i1, i2] := fun {h h' b} hb hm => hb (by
    simp only [List.mem_cons, List.not_mem_nil, or_false] at hm ⊢
    rcases hm with e | e | e | e
    · exact .inl e
    · exact .inr (.inr (.inl e))
    · exact .inr (.inr (.inr (.inl e)))
    · exact .inr (.inr (.inr (.inr e))))
  constructor
  · simp
  · exact obj
  · rintro i h h' ⟨h1, h2, ⟨x, y, h3⟩, h4, h5⟩ kp
    exact ⟨kp z (by simp) _ h1, kp TI (by simp) _ h2, ⟨x, y, kp TO (by simp) _ h3⟩, h4.keep (kp i1 (by simp)), h5.keep (kp i2 (by simp))⟩
  · intro X hP hw hK hc i pins s σ H E I hf st hg
    obtain ⟨hi, q1, q2⟩ := hg
    obtain ⟨its, jts, rv, rw_, hs1, hs2, W⟩ := goes X i pins s σ H hP hw hc I hf q1 q2
    subst hP hw hK
    obtain ⟨h1, h2, h3, h4, h5⟩ := id st
    have hl := rv.length
    have hl2 := rw_.length
    refine W.goes i s _ E (by simp; omega) ⟨h1, h2, h3, ⟨h4, hs1⟩, h5, hs2⟩ fun v h' tk hY st' hk _ => ?_
    obtain ⟨T, x, y, rfl, hT, hx, hy, hTu⟩ := hY
    obtain ⟨g1, g2, g3, ⟨g4, _⟩, g5, _⟩ := st'
    obtain ⟨x', hx'⟩ : ∃ y, xs[i]? = some y := ⟨_, List.getElem?_eq_getElem (by omega)⟩
    obtain ⟨y', hy'⟩ : ∃ y, ys[i]? = some y := ⟨_, List.getElem?_eq_getElem (by omega)⟩
    obtain ⟨u, hu, ru⟩ := rv.get hx'
    obtain ⟨u2, hu2, ru2⟩ := rw_.get hy'
    have ex : u = x := by
      have : its[i]? = some x := by simpa using hx
      rw [this] at hu
      exact (Option.some.inj hu).symm
    have ey : u2 = y := by
      have : jts[i]? = some y := by simpa using hy
      rw [this] at hu2
      exact (Option.some.inj hu2).symm
    subst ex ey
    have new : ObjOk X.prog X.w (upd H T (.tup [x', y'])) h' T (.tup [x', y']) := ⟨by show 2 ≤ sizeLine; decide, [u, u2], .cons ru (.cons ru2 .nil), hTu⟩
    refine ⟨.ref T, _, I.turnedNew (t' := tk) (ch := [z, TI, TO, i1, i2]) (fun b o hb => hk b o (keepF (h := h') (h' := h') hb)) hf hT new, rfl, ⟨T, x', y', rfl, I.hok.fresh hT, rfl, hx', hy'⟩, ⟨g1, g2, g3, g4, g5⟩, fun b hb => ?_⟩
    obtain ⟨o, ho, _⟩ := obj i _ st b hb
    have hb' : b ≠ T := fun e => by
      have := Heap.lt_size ho
      rw [e] at this
      exact absurd hT (Nat.not_le.mpr this)
    rw [upd_ne hb']
    exact (hf b hb).1
  · intro X hP hw hK hc i pins s σ H E I hf st hg
    obtain ⟨rfl, q1, q2⟩ := hg
    obtain ⟨its, jts, rv, rw_, hs1, hs2, W⟩ := goes X 0 pins s σ H hP hw hc I hf q1 q2
    subst hP hw hK
    obtain ⟨h1, h2, h3, h4, h5⟩ := id st
    have hl := rv.length
    have hl2 := rw_.length
    have hn : min its.toArray.size jts.toArray.size = min xs.length ys.length := by simp; omega
    refine W.stops s _ E (by rw [hn]; exact ⟨h1, h2, h3, ⟨h4, hs1⟩, h5, hs2⟩) fun h' tk hk _ => ?_
    exact I.turnedL (fun b o hb => hk b o (keepF (h := h') (h' := h') hb)) hf
  · rintro A i s Q E ⟨h1, _⟩ h
    exact wpAny_pyIter_zip h1 h
def iZ2 (ta : TA) : TI := fun σ H R => ta σ H fun vs H1 => ∃ k1 k2 a1 a2 xs ys, vs = [.ref a1, .ref a2] ∧ SqK k1 H1 a1 xs ∧ SqK k2 H1 a2 ys ∧ R (Jz2 k1 k2 a1 a2 xs ys) H1
theorem pi_z2 {X : Cx} {e e2 : Expr} {ta : TA} {p pos tpos : Pos} {elts : List Expr} {kk : Nat} (hg : Gl X "zip") (hm : X.mg "zip" = none) (ha : PA X [e, e2] ta) (hs : starEach [e, e2] X.env = (false, eval e X.env) :: starEach [e2] X.env) (hs2 : (backTo pos (starEach [e2] X.env)).any (·.1) = false) :
    PI X (.Tuple elts kk tpos) (.Call (.Name "zip" p) [e, e2] [] pos) (iZ2 ta) := by
  constructor
  intro pins s σ H R I h
  refine Call_ (ld_blt I hg hm boot_zip (PyProof.Rows.callWith_type1 (thn (ha.run pos pins s σ H _ I h) fun us s1 ⟨vs, H1, I1, r1, q1⟩ => ?_) hs hs2))
  obtain ⟨k1, k2, a1, a2, xs, ys, rfl, hq1, hq2, q⟩ := q1
  obtain ⟨u, u2, rfl, ru, ru2⟩ := r1.two
  cases ru
  cases ru2
  obtain ⟨its, rv, hs1⟩ := hq1.at I1
  obtain ⟨jts, rw_, hs2⟩ := hq2.at I1
  refine zip_begins2 (begins k1 a1 its.toArray) (begins k2 a2 jts.toArray) hs1 hs2 fun h' hz hTI hTO ho1 ho2 _ hk => wpAny_pyIter_zip hz ?_
  refine ⟨s1.heap.objs.size + 4, [s1.heap.objs.size + 4, s1.heap.objs.size + 2, s1.heap.objs.size + 3, s1.heap.objs.size, s1.heap.objs.size + 1], _, _, H1, rfl, I1.kept (t' := s1.toks) hk, turn_z2 k1 k2 a1 a2 _ _ _ _ _ xs ys ?_, ⟨hz, hTI, ⟨_, _, hTO⟩, ItO.new ho1, ItO.new ho2⟩, fun b hb => ?_, q⟩
  · simp only [List.nodup_cons, List.mem_cons, List.not_mem_nil, or_false, not_or, List.nodup_nil, and_true, not_false_eq_true]
    refine ⟨⟨?_, ?_, ?_, ?_⟩, ⟨?_, ?_, ?_⟩, ⟨?_, ?_⟩, ?_⟩ <;> (intro e; have e : (_ : Nat) = _ := e; omega)
  · have hle : s1.heap.objs.size ≤ b := by
      simp only [List.mem_cons, List.not_mem_nil, or_false] at hb
      rcases hb with z | z | z | z | z <;> (subst z; first | exact Nat.le_refl _ | exact Nat.le_add_right _ _)
    exact I1.fpOk hle (I1.hok.fresh hle)
theorem walk_z2 {k1 k2 : Bool} {a1 a2 : Addr} {xs ys : List V} : Walk (Jz2 k1 k2 a1 a2 xs ys) (min xs.length ys.length) (fun H => SqK k1 H a1 xs ∧ SqK k2 H a2 ys) (YPair (fun i => xs[i]?) (fun i => ys[i]?)) :=
  ⟨fun i H hi q => ⟨hi, q⟩, fun H q => ⟨rfl, q⟩, fun i H v H' _ q y => y⟩
section
variable {X : Cx} {tg e e2 e3 : Expr} {ρ : Rho} {μ : Mu} {Ψ : Itd → Mu → Prop} {p pos : Pos}
theorem di_zip2 {elts : List Expr} {kk : Nat} {tpos : Pos} (B : Bt X.mg) (hg : Gl X "zip") (h : DE X e ρ μ fun o μ1 => DE X e2 ρ μ1 fun o2 μ2 => ∃ ds es, Seq ds o ∧ Seq es o2 ∧ Ψ ⟨(prs ds es).map .im, fun _ => True⟩ μ2)
    (he : starEach [e, e2] X.env = (false, eval e X.env) :: starEach [e2] X.env := by rfl) (he2 : starEach [e2] X.env = (false, eval e2 X.env) :: starEach [] X.env := by rfl) (hpl : (backTo pos (starEach [e2] X.env)).any (·.1) = false := by rfl) : DI X (.Tuple elts kk tpos) (.Call (.Name "zip" p) [e, e2] [] pos) ρ μ Ψ :=
  ⟨_, pi_z2 hg B.zip pwa he hpl, fun G H σ m v R f => (da_cons (Λ := fun os μ1 => ∃ o o2 ds es, os = [o, o2] ∧ Seq ds o ∧ Seq es o2 ∧ Ψ ⟨(prs ds es).map .im, fun _ => True⟩ μ1)
      (h.imp fun o μ1 h2 => da_cons (h2.imp fun o2 μ2 ⟨ds, es, h3, h4, q⟩ => da_nil ⟨o, o2, ds, es, rfl, h3, h4, q⟩) he2) he) G H σ m v _ fun vs os μ1 G1 H1 q1 e1 m1 r1 => by
    obtain ⟨o, o2, ds, es, rfl, hd, hd2, q⟩ := q1
    cases r1 with
    | cons r1 t1 =>
      obtain ⟨u, rfl, ru⟩ := ro1 t1
      obtain ⟨k1, a1, xs, rfl, hq1, w1⟩ := hd.at r1
      obtain ⟨k2, a2, ys, rfl, hq2, w2⟩ := hd2.at ru
      refine ⟨k1, k2, a1, a2, xs, ys, rfl, m1.ex _ _ hq1, m1.ex _ _ hq2, f _ _ _ _ _ q e1 m1 ?_⟩
      have hlen : ((prs ds es).map OV.im).length = min xs.length ys.length := by simp [prs, w1.length, w2.length]
      refine ⟨fun H => SqK k1 H a1 xs ∧ SqK k2 H a2 ys, YPair (fun i => xs[i]?) (fun i => ys[i]?), (by show Walk _ ((prs ds es).map OV.im).length _ _; rw [hlen]; exact walk_z2), fun G' H' μ' e m _ => ⟨m.ex _ _ (e _ _ hq1), m.ex _ _ (e _ _ hq2)⟩, fun i H' x H2 G' μ' e m _ y hi => ?_⟩
      obtain ⟨T, x1, y1, rfl, hT, rfl, h1, h2⟩ := y
      obtain ⟨d, h3, h4⟩ := w1.getV h1
      obtain ⟨d2, h5, h6⟩ := w2.getV h2
      obtain ⟨b1, b2, b3⟩ := pair_new m hT (h4.mono e) (h6.mono e)
      exact ⟨_, .im (.tuple [d, d2]), b1, b2, by rw [List.getElem?_map, prs_get h3 h5]; rfl, b3⟩⟩
end
end Nx
namespace Nx
open PySem PySem.Spec PyProof.Rows L2
def trs (xs ys zs : List PyData) : List PyData := (xs.zip (ys.zip zs)).map fun q => .tuple [q.1, q.2.1, q.2.2]
section
variable {X : Cx} {tg e e2 e3 : Expr} {ρ : Rho} {μ : Mu} {Ψ : Itd → Mu → Prop} {Φ : OV → Mu → Prop} {p pos : Pos}
theorem dv_list {G H : Hp} {μ : Mu} {v : V} {o : OV} {ds : List PyData} (m : RM G H μ) (hd : RdD μ o (.list ds)) (r : RO G v o) : ∃ a xs, v = .ref a ∧ H a = some (.lst xs) ∧ DvA H xs ds := by
  have d := hd.at m r
  generalize hdd : PyData.list ds = dd at d
  cases d with
  | lst h1 w => cases hdd; exact ⟨_, _, rfl, h1, w⟩
  | _ => cases hdd
theorem DvA.bls {H : Hp} : ∀ (bs : List Bool) {vs : List V}, DvA H vs (bs.map PyData.bool) → vs = bs.map V.bl
  | [], _, .nil => rfl
  | n :: ns, _, .cons (.bl _) t => by rw [DvA.bls ns t]; rfl
theorem de_all (B : Bt X.mg) (hc : X.calm = true) (hg : Gl X "all") (h : DE X e ρ μ fun o μ1 => ∃ bs : List Bool, RdD μ1 o (.list (bs.map .bool)) ∧ Φ (.im (.bool (bs.all id))) μ1) (he : starEach [e] X.env = (false, eval e X.env) :: starEach [] X.env := by rfl) (hpl : (backTo pos (starEach [] X.env)).any (·.1) = false := by rfl) : DE X (.Call (.Name "all" p) [e] [] pos) ρ μ Φ :=
  de_callB (cr_all hc) hg B.all PyProof.Rows.boot_all (he := he) (hpl := hpl) (da_cons (hs := he) (h.imp fun o μ1 ⟨bs, hd, q⟩ => da_nil fun G H vs m r Q f => by
    obtain ⟨v, rfl, r1⟩ := ro1 r
    obtain ⟨a, xs, rfl, h1, w⟩ := dv_list m hd r1
    exact ⟨a, bs, rfl, .inl (.inl (by rw [← w.bls]; exact h1)), f _ _ _ _ _ q (Ex.refl G) m (Dv.bl _)⟩))
end
end Nx
namespace Nx
open PySem PySem.Spec PyProof.Rows L2
theorem law_core {P : Program} {w : World} {K : PySem.W.Frag} {mg mb : Str → Option Value} {k : Nat} {fa a : Addr} {fd : FuncData} {x : Str} {sp : Sp} {s : Shared}
    (KX : K.In s.heap) (hns : s.heap.Ns mainGlobals mg) (hb : s.heap.Ns builtinsNs mb) (hbb : ∀ x : Str, x ≠ "__name__" → mb x = bootBuiltins x) (hlim : s.heap.NoLimit) (hgn : s.gens = #[]) (hr : Rm k callerA)
    (F : ∀ base : Heap, K.In base → base.Ns mainGlobals mg → FnG P w K mg base CX0 k fa fd [x] sp) (bind : ∀ (s : Shared) (u : Value), BindsTo s fd ⟨[u], []⟩ [(x, u)])
    (H : Hp) (hO : Only H) (nd : ∀ b o, H b ≠ none → s.heap.get? b = some o → ∀ es ep, o.data ≠ .dict es ep) (hok : HOk P w H s.heap) (hK : ∀ b, H b ≠ none → K.lookup b = none) (hsp : sp [.ref a] H (fun v _ => v = .bl true) fun _ _ _ => False) :
    codeAny (model P w) callerA (.call (.ref fa) ⟨[.ref a], []⟩) (fun r s' => r = .ok (.ret (.bool true)) ∧ OldK s.heap s'.heap ∧ s'.os = s.os ∧ AllBare s'.gens) s := by
  have up : ∀ {b : Addr} {o : Obj}, s.heap.get? b = some o → H b = none → (hidT s.heap H).get? b = some o := fun e n => hidT_get e n
  have nsUp : ∀ {b : Addr} {m : Str → Option Value}, s.heap.Ns b m → (hidT s.heap H).Ns b m := by
    rintro b m ⟨o, es, ep, e, d, r⟩
    refine ⟨o, es, ep, up e ?_, d, r⟩
    cases q : H b with
    | none => rfl
    | some u => exact absurd d (nd b o (by rw [q]; simp) e es ep)
  have inK : K.In (hidT s.heap H) := by
    intro b o e
    refine up (KX b o e) ?_
    cases q : H b with
    | none => rfl
    | some u =>
      have := hK b (by rw [q]; simp)
      rw [e] at this
      cases this
  have lim : (hidT s.heap H).NoLimit := by
    obtain ⟨mc, h1, h2⟩ := hlim
    exact ⟨mc, nsUp h1, h2⟩
  have env0 : Env0 P w K mg (hidT s.heap H) callerA [] s H :=
    { frames := rfl, mod := ⟨inK, nsUp hns, ⟨mb, nsUp hb, hbb⟩, lim⟩, bs := fun b o e => of_hidT e, bsz := Nat.le_of_eq (hidT_size _ _), funs := trivial, frf := (fun b hb => absurd (show b ∈ ([] : List Addr) from hb) (by simp)), hok := hok, bare := .of_eq hgn }
  have run := (F _ inK (nsUp hns)).run callerA [] s H ⟨[.ref a], []⟩ [.ref a] [.ref a] _ _ hr env0 (bind s (.ref a)) (.cons rfl .nil) hsp
  refine codeAny_mono run fun r s' h => ?_
  match r, h with
  | .error e, h => exact h.elim
  | .ok (.ret u), h =>
    obtain ⟨v, H', os, bare, un, hok', r', q⟩ := h
    have q : v = .bl true := q
    subst q
    have r' : u = Value.bool true := r'
    subst r'
    refine ⟨rfl, OldK.of_keep fun b o e => ?_, os, bare⟩
    cases q : H b with
    | none => exact un.keep b o e q (fun z => nomatch z) (by simp)
    | some u =>
      obtain z | ⟨ob, xs, z⟩ := hO b
      · rw [q] at z
        cases z
      · have e1 := (hok b _ z).1
        have e2 := (hok' b _ (un.frzs b ob _ z)).1
        rw [e] at e1
        cases e1
        exact e2
theorem law_end {P : Program} {w : World} {K : PySem.W.Frag} {mg mb : Str → Option Value} {k : Nat} {fa a : Addr} {fd : FuncData} {x : Str} {sp : Sp} {s : Shared} {vs : List Value} {ns : List Int}
    (KX : K.In s.heap) (hns : s.heap.Ns mainGlobals mg) (hb : s.heap.Ns builtinsNs mb) (hbb : ∀ x : Str, x ≠ "__name__" → mb x = bootBuiltins x) (hlim : s.heap.NoLimit) (hgn : s.gens = #[]) (hr : Rm k callerA)
    (F : ∀ base : Heap, K.In base → base.Ns mainGlobals mg → FnG P w K mg base CX0 k fa fd [x] sp) (bind : ∀ (s : Shared) (u : Value), BindsTo s fd ⟨[u], []⟩ [(x, u)])
    (ha : s.heap.get? a = some { cls := .type "list", data := .seq vs.toArray }) (hi : IntsAre vs ns) (hl : ns.length ≤ sizeLine) (hsp : ∀ H : Hp, Only H → SqL K H a (ns.map V.int) → sp [.ref a] H (fun v _ => v = .bl true) fun _ _ _ => False) :
    codeAny (model P w) callerA (.call (.ref fa) ⟨[.ref a], []⟩) (fun r s' => r = .ok (.ret (.bool true)) ∧ OldK s.heap s'.heap ∧ s'.os = s.os ∧ AllBare s'.gens) s := by
  have rv := vals_ints hi
  have lv := hi.length
  cases hk : K.lookup a with
  | some o =>
    have e := KX a o hk
    rw [ha] at e
    cases e
    have hS : SqL K (fun _ => none) a (ns.map V.int) := .inr ⟨_, vs.toArray, _, hk, rfl, rfl, rfl, by rw [List.size_toArray, lv]; exact hl, by simpa using rv⟩
    exact law_core KX hns hb hbb hlim hgn hr F bind (fun _ => none) (fun _ => .inl rfl) (fun b o z => absurd rfl z) (fun b u z => nomatch z) (fun b z => absurd rfl z) (hsp _ (fun _ => .inl rfl) hS)
  | none =>
    let fz : HO := .frz { cls := .type "list", data := .seq vs.toArray } (.lst (ns.map V.int))
    have at_ : ∀ b u, upd (fun _ => none) a fz b = some u → b = a ∧ u = fz := by
      intro b u z
      by_cases e : b = a
      · subst e
        rw [upd_same] at z
        exact ⟨rfl, (Option.some.inj z).symm⟩
      · rw [upd_ne e] at z
        cases z
    have isA : ∀ b, upd (fun _ => none) a fz b ≠ none → b = a := fun b z => by
      cases q : upd (fun _ => none) a fz b with
      | none => exact absurd q z
      | some u => exact (at_ b u q).1
    have hO : Only (upd (fun _ => none) a fz) := fun b => by
      cases q : upd (fun _ => none) a fz b with
      | none => exact .inl rfl
      | some u => exact .inr ⟨_, _, by rw [(at_ b u q).2]⟩
    refine law_core KX hns hb hbb hlim hgn hr F bind (upd (fun _ => none) a fz) hO (fun b o z e es ep d => ?_) (fun b u z => ?_) (fun b z => ?_) (hsp _ hO (.inl (.inr ⟨_, upd_same⟩)))
    · rw [isA b z, ha] at e
      cases e
      cases d
    · obtain ⟨rfl, rfl⟩ := at_ b u z
      exact ⟨ha, by rw [List.length_map]; exact hl, vs, _, rv, ha⟩
    · rw [isA b z]
      exact hk
theorem walk_G {l : PySem.W.OpenLaw} {n k : Nat} {q : Program} {loose : List Str} {XP : (Str → Option Value) → Heap → Prop} {YP : World → Heap → Prop} {d : DefRec} {K : Params → PySem.W.Frag} {sp : PySem.W.Frag → Sp} {x : Str}
    (hn : l.most = some n) (hn2 : n ≤ sizeLine) (hdf : d.params.defaults = []) (hr : Rm k callerA) (hY : ∀ (w : World) (h : Heap), YP w h → (K w.params).In h)
    (F : ∀ (w : World) (mg : Str → Option Value) (fa : Addr) (h : Heap), (K w.params).In h → h.Ns mainGlobals mg → mg d.name = some (.ref fa) →
      ∃ fd : FuncData, (∀ (s : Shared) (u : Value), BindsTo s fd ⟨[u], []⟩ [(x, u)]) ∧ ∀ base : Heap, (K w.params).In base → base.Ns mainGlobals mg → FnG l.prog w (K w.params) mg base CX0 k fa fd [x] (sp (K w.params)))
    (hsp : ∀ (K : PySem.W.Frag) (H : Hp) (a : Addr) (ns : List Int), ns.length ≤ n → Only H → SqL K H a (ns.map V.int) → sp K [.ref a] H (fun v _ => v = .bl true) fun _ _ _ => False) :
    PySem.W.WalkO q loose XP YP l.row.toRowW d [] (fun f vs => PySem.call f vs) := by
  apply Att.attach_call hn hdf
  intro w s₀ s₁ mg mb fa o pm cd doc a vs ns G Y ho hd hcd hmg hobj hints hlen hgn
  have KX := hY w _ Y
  obtain ⟨fd, hb, hF⟩ := F w mg fa _ KX G.T.g hmg
  exact law_end KX G.T.g G.T.b G.T.builtins G.T.nolimit hgn hr hF hb hobj hints (Nat.le_trans hlen hn2) fun H hO hS => hsp _ H a ns hlen hO hS
end Nx
namespace Nx
open PySem PySem.Spec PyProof.Rows L2
def Sub (μ' μ : Mu) : Prop := (∀ a l, μ' a = some l → μ a = some l) ∧ μ'.d = μ.d ∧ μ'.C = μ.C
theorem Sub.refl (μ : Mu) : Sub μ μ := ⟨fun _ _ h => h, rfl, rfl⟩
section
variable {X : Cx} {e : Expr} {st : Stmt} {ss : List Stmt} {ρ : Rho} {μ μ' : Mu} {D : DEnds} {Φ : OV → Mu → Prop}
theorem dss_drop (h : Sub μ' μ) (k : DSs X ss ρ μ' D) : DSs X ss ρ μ D := fun G H σ m v E f => k G H σ (m.drop h.1 h.2.1 h.2.2) v E f
theorem dss_frz {i : Nat} {p : Addr} {ds : List PyData} (hi : ρ[i]? = some (some (.own p))) (hp : μ p = some (ds.map .im)) (k : DSs X ss (ρ.set i (some (.im (.list ds)))) (μ.del p) D) : DSs X ss ρ μ D := fun G H σ m v E f => by
  obtain ⟨vs, e0, g0, w, m'⟩ := m.frz hp
  have v2 := (v.mono (Ex.new (o := .lst vs) g0)).set (i := i) (v := .ref p) (o := .im (.list ds)) (Dv.lst upd_same (w.mono (Ex.new g0)))
  obtain ⟨u, hu, ru⟩ := v.get i _ hi
  have ru : u = .ref p := ru
  subst ru
  have e1 : σ.set i (some (.ref p)) = σ := by
    apply List.ext_getElem?
    intro j
    by_cases hj : i = j
    · subst hj
      rw [List.getElem?_set_self (List.getElem?_eq_some_iff.mp hu).1, hu]
    · rw [List.getElem?_set_ne hj]
  rw [e1] at v2
  exact k _ H σ m' v2 E (f.later (Ex.new g0))
end
theorem put_get {μ : Mu} {a b : Addr} {l : List OV} : μ.put a l b = if b = a then some l else μ b := rfl
theorem put_back {μ : Mu} {a : Addr} {l : List OV} (h : μ a = some l) : μ = (μ.del a).put a l ∧ (μ.del a) a = none := by
  refine ⟨mu_ext (fun b => ?_) rfl rfl, if_pos rfl⟩
  rw [put_get]
  by_cases e : b = a
  · rw [if_pos e, e, h]
  · rw [if_neg e]
    exact (if_neg e).symm
theorem ne_own {μ : Mu} {a b : Addr} {l : List OV} (h : μ.l a = some l) (n : μ b = none) : a ≠ b := fun e => by
  rw [e, n] at h
  cases h
theorem lz {n : Nat} (h : Nat.ble n 100000 = true) : n ≤ 100000 := Nat.le_of_ble_eq_true h
theorem c01 {k : Bool} : -(2 ^ 64 : Int) < (if k = true then 1 else 0) ∧ (if k = true then (1 : Int) else 0) < 2 ^ 64 := by cases k <;> decide
theorem ixN_nat {n j : Nat} (h : j < n) : ixN n (j : Int) = some j := by
  unfold ixN
  rw [if_pos (by omega), if_pos (by omega), Int.toNat_natCast]
theorem cutI_to (ns : List Int) (u : Nat) : cutI ns none (some (u : Int)) = ns.take u := by
  unfold cutI
  rw [HT.sIx_none, HT.sIx_nat, List.drop_zero, Nat.sub_zero]
  exact List.take_eq_take_iff.mpr (by omega)
theorem cutI_len (ns : List Int) (u v : Nat) : (cutI ns (some (u : Int)) (some (v : Int))).length ≤ ns.length - u := by
  unfold cutI
  rw [HT.sIx_nat, HT.sIx_nat, List.length_take, List.length_drop]
  omega
theorem cutD_to (ns : List PyData) (u : Nat) : cutD ns none (some (u : Int)) = ns.take u := by
  unfold cutD
  rw [HT.sIx_none, HT.sIx_nat, List.drop_zero, Nat.sub_zero]
  exact List.take_eq_take_iff.mpr (by omega)
theorem cutD_from (ns : List PyData) (u : Nat) : cutD ns (some (u : Int)) none = ns.drop u := by
  unfold cutD
  rw [HT.sIx_none, HT.sIx_nat]
  by_cases h : u ≤ ns.length
  · rw [Nat.min_eq_left h]
    exact List.take_of_length_le (by rw [List.length_drop]; omega)
  · rw [Nat.min_eq_right (by omega), List.drop_length, List.drop_of_length_le (by omega)]
    simp
theorem prs_at {ds : List PyData} {i : Nat} {z : OV} (h : ((prs (nums ds.length) ds).map OV.im)[i]? = some z) : ∃ d, ds[i]? = some d ∧ z = .im (.tuple [.int (i : Int), d]) := by
  have hi : i < ds.length := by
    have := (List.getElem?_eq_some_iff.mp h).1
    simpa [prs, nums] using this
  rw [List.getElem?_map, prs_get (nums_get hi) (List.getElem?_eq_getElem hi)] at h
  cases h
  exact ⟨_, List.getElem?_eq_getElem hi, rfl⟩
theorem erase_map {α β : Type} (f : α → β) : ∀ (l : List α) (j : Nat), (l.map f).eraseIdx j = (l.eraseIdx j).map f
  | [], _ => rfl
  | _ :: _, 0 => rfl
  | a :: l, j + 1 => by
    show f a :: (l.map f).eraseIdx j = f a :: (l.eraseIdx j).map f
    rw [erase_map f l j]
theorem erase_perm {α : Type} : ∀ (l : List α) (j : Nat) (h : j < l.length), ([l[j]] ++ l.eraseIdx j).Perm l
  | [], _, h => nomatch h
  | _ :: _, 0, _ => List.Perm.refl _
  | a :: l, j + 1, h => by
    have ih := erase_perm l j (by simpa using h)
    show (l[j]'(by simpa using h) :: a :: l.eraseIdx j).Perm (a :: l)
    exact (List.Perm.swap _ _ _).trans (ih.cons a)
theorem fg_of {P : Program} {w : World} {K : PySem.W.Frag} {mg : Str → Option Value} {base : Heap} {k : Nat} {f : Addr} {x : Str} {st : Stmt} {fd : FuncData} {N ps : List Str} {C : Ct} (F : Fun K x x st f fd) (S : FnScope N ps (defScope st)) (len : ∀ os μ Φ, C os μ Φ → os.length = ps.length)
    (body : ∀ (cdv : Value) A outer s H E os μ Φ, Rm k (A.deeper (envOfC x (defScope st) s.heap.objs.size f cdv)) → C os μ Φ →
      DSs (cxOf CX0 P w K mg base N x (defScope st) f cdv A outer s H E).nox (defBody st) (os.map some ++ List.replicate (N.length - os.length) none) μ { nx := fun _ μ' => Φ (.im .none) μ', rt := Φ }) : FnG P w K mg base CX0 (k + 1) f fd ps (spOf C) := by
  refine fng_of F S (fun vs H Q E h => ?_) fun cdv A outer s H vs Q E hr h => ?_
  · obtain ⟨os, μ, G, Φ, _, r, c, _⟩ := h
    rw [r.length]
    exact len _ _ _ c
  · obtain ⟨os, μ, G, Φ, m, r, c, fin⟩ := h
    refine WSs.of (PSs.nox pwss) (body cdv A outer s H E os μ Φ hr c G H _ m (rv_start r) _ ⟨fun ρ' μ' G' H' σ' q e m' _ => fin _ _ _ _ _ q e m' Dv.non, fin, fun _ _ _ _ _ q => q.elim, fun _ _ _ _ _ q => q.elim⟩)
def c_law (K : PySem.W.Frag) : Ct := fun os μ Φ => ∃ ns : List Int, os = [.scr K ns] ∧ ns.length ≤ 63 ∧ ∀ μ', Φ (.im (.bool true)) μ'
theorem law_sp (K : PySem.W.Frag) (H : Hp) (a : Addr) (ns : List Int) (hn : ns.length ≤ 63) (hS : SqL K H a (ns.map V.int)) : spOf (c_law K) [.ref a] H (fun v _ => v = .bl true) fun _ _ _ => False :=
  ⟨[.scr K ns], ⟨fun _ => none, fun _ => none, 0⟩, H, fun o _ => o = .im (.bool true), RM.zero 0, .cons ⟨a, rfl, hS⟩ .nil, ⟨ns, rfl, hn, fun _ => rfl⟩, fun v o μ' G' H' h e m r => by
    subst h
    cases r
    rfl⟩
abbrev iL (ns : List Int) : List PyData := ns.map .int
theorem lay_ints : ∀ ns : List Int, PyData.canLayAll0 (iL ns) = true
  | [] => by simp [PyData.canLayAll0]
  | n :: ns => by simp [PyData.canLayAll0, PyData.canLay0, lay_ints ns]
theorem depth_ints : ∀ ns : List Int, PyData.depthAll (iL ns) ≤ 1
  | [] => by simp [PyData.depthAll]
  | n :: ns => by
    have := depth_ints ns
    simp [PyData.depthAll, PyData.depth]
    omega
theorem atI_iL {cs : List Int} {k : Nat} (h : k < cs.length) : atI ((iL cs).map OV.im) (k : Int) = some (.im (.int cs[k])) := by
  apply atI_nat
  rw [List.getElem?_map, List.getElem?_map, List.getElem?_eq_getElem h]
  rfl
theorem iL_get {cs : List Int} {k : Nat} {d : PyData} (h : (iL cs)[k]? = some d) : ∃ c, cs[k]? = some c ∧ d = .int c := by
  rw [List.getElem?_map] at h
  cases q : cs[k]? with
  | none =>
    rw [q] at h
    cases h
  | some c =>
    rw [q] at h
    cases h
    exact ⟨c, rfl, rfl⟩
end Nx
namespace Nx
open PySem PySem.Spec PyProof.Rows L2
def pile : List Str → Nat
  | [] => 0
  | t :: ts => t.length + 2 + pile ts
theorem textFrom_le : ∀ (ts : List Str) (k : Nat) (acc : Str), (textFrom k acc ts).length ≤ acc.length + pile ts
  | [], k, acc => by
    show acc.length ≤ _
    exact Nat.le_add_right _ _
  | t :: r, k, acc => by
    have ih := textFrom_le r (k + 1) (acc ++ (if k > 0 then ", " else "" : String) ++ t)
    have h2 : (Str.ofString (if k > 0 then ", " else "" : String)).length ≤ 2 := by split <;> decide
    rw [Str.length_append, Str.length_append] at ih
    show (textFrom (k + 1) (acc ++ (if k > 0 then ", " else "" : String) ++ t) r).length ≤ acc.length + (t.length + 2 + pile r)
    omega
theorem listText_le (ts : List Str) : (listText ts).length ≤ pile ts + 2 := by
  have h := textFrom_le ts 0 (Str.ofString "[")
  have e1 : (Str.ofString "[").length = 1 := by decide
  have e2 : (Str.ofString "]").length = 1 := by decide
  show (textFrom 0 (Str.ofString "[") ts ++ Str.ofString "]").length ≤ _
  rw [Str.length_append, e2]
  omega
theorem join_le : ∀ ts : List Str, (Str.join ", " ts).length ≤ pile ts
  | [] => by decide
  | [x] => by
    show x.length ≤ x.length + 2 + 0
    omega
  | x :: y :: r => by
    have ih := join_le (y :: r)
    have e : (Str.ofString ", ").length = 2 := by decide
    show (x ++ Str.ofString ", " ++ Str.join ", " (y :: r)).length ≤ x.length + 2 + pile (y :: r)
    rw [Str.length_append, Str.length_append, e]
    omega
theorem tupleText_le (ts : List Str) : (tupleText ts).length ≤ pile ts + 3 := by
  have h := join_le ts
  have e1 : (Str.ofString "(").length = 1 := by decide
  have e2 : (Str.ofString (if ts.length == 1 then ",)" else ")" : String)).length ≤ 2 := by split <;> decide
  show (Str.ofString "(" ++ Str.join ", " ts ++ Str.ofString (if ts.length == 1 then ",)" else ")" : String)).length ≤ _
  rw [Str.length_append, Str.length_append, e1]
  omega
structure Sd (k w : Nat) (d : PyData) : Prop where
  sh : d.showable = true
  nd : d.hasDict = false
  dp : d.depth ≤ k
  ln : d.shown.length ≤ w
structure SdA (k w : Nat) (ds : List PyData) : Prop where
  sh : PyData.showableAll ds = true
  nd : PyData.hasDictAll ds = false
  dp : PyData.depthAll ds ≤ k
  ln : pile (PyData.shownAll ds) ≤ w
theorem Sd.mono {k w k' w' : Nat} {d : PyData} (h : Sd k w d) (hk : k ≤ k') (hw : w ≤ w') : Sd k' w' d := ⟨h.sh, h.nd, Nat.le_trans h.dp hk, Nat.le_trans h.ln hw⟩
theorem SdA.mono {k w k' w' : Nat} {d : List PyData} (h : SdA k w d) (hk : k ≤ k') (hw : w ≤ w') : SdA k' w' d := ⟨h.sh, h.nd, Nat.le_trans h.dp hk, Nat.le_trans h.ln hw⟩
theorem Sd.none : Sd 0 4 .none := ⟨by simp [PyData.showable], by simp [PyData.hasDict], by simp [PyData.depth], by simp only [PyData.shown]; decide⟩
theorem Sd.bool (b : Bool) : Sd 0 5 (.bool b) := ⟨by simp [PyData.showable], by simp [PyData.hasDict], by simp [PyData.depth], by simp only [PyData.shown]; cases b <;> decide⟩
theorem log_small {n : Nat} (h : n < 10 ^ 60) : n.log2 < 1920 := by
  by_cases h0 : n = 0
  · subst h0
    decide
  · exact (Nat.log2_lt h0).mpr (Nat.lt_of_lt_of_le h (Nat.le_trans (show 10 ^ 60 ≤ 2 ^ 200 by decide) (Nat.pow_le_pow_right (by decide) (by decide))))
theorem Sd.int {i : Int} (h : i.natAbs < 10 ^ 60) : Sd 0 61 (.int i) := by
  refine ⟨by simp only [PyData.showable]; exact decide_eq_true (log_small h), by simp [PyData.hasDict], by simp [PyData.depth], ?_⟩
  simp only [PyData.shown]
  have := int_text_length_le10 (a := i) (k := 60) (by decide) h
  show (Str.ofString (toString i)).length ≤ 61
  rw [PySem.ofString_length]
  exact this
theorem SdA.nil : SdA 0 0 [] := ⟨by simp [PyData.showableAll], by simp [PyData.hasDictAll], by simp [PyData.depthAll], by simp [PyData.shownAll, pile]⟩
theorem SdA.cons {k w k' w' : Nat} {d : PyData} {ds : List PyData} (h : Sd k w d) (t : SdA k' w' ds) : SdA (max k k') (w + 2 + w') (d :: ds) := by
  refine ⟨by simp [PyData.showableAll, h.sh, t.sh], by simp [PyData.hasDictAll, h.nd, t.nd], ?_, ?_⟩
  · have := h.dp
    have := t.dp
    simp only [PyData.depthAll]
    omega
  · have := h.ln
    have := t.ln
    simp only [PyData.shownAll, pile]
    omega
theorem Sd.list {k w : Nat} {ds : List PyData} (h : SdA k w ds) : Sd (k + 1) (w + 2) (.list ds) := by
  refine ⟨by simp only [PyData.showable]; exact h.sh, by simp only [PyData.hasDict]; exact h.nd, by simp only [PyData.depth]; exact Nat.succ_le_succ h.dp, ?_⟩
  simp only [PyData.shown]
  exact Nat.le_trans (listText_le _) (Nat.add_le_add_right h.ln 2)
theorem Sd.tuple {k w : Nat} {ds : List PyData} (h : SdA k w ds) : Sd (k + 1) (w + 3) (.tuple ds) := by
  refine ⟨by simp only [PyData.showable]; exact h.sh, by simp only [PyData.hasDict]; exact h.nd, by simp only [PyData.depth]; exact Nat.succ_le_succ h.dp, ?_⟩
  simp only [PyData.shown]
  exact Nat.le_trans (tupleText_le _) (Nat.add_le_add_right h.ln 3)
theorem SdA.all {k w : Nat} : ∀ {ds : List PyData}, (∀ d ∈ ds, Sd k w d) → SdA k ((w + 2) * ds.length) ds
  | [], _ => SdA.nil.mono (Nat.zero_le _) (Nat.zero_le _)
  | d :: ds, h => by
    have t := SdA.all fun d hd => h d (List.mem_cons_of_mem _ hd)
    refine (SdA.cons (h d (List.mem_cons_self ..)) t).mono (by omega) ?_
    rw [List.length_cons, Nat.mul_add, Nat.mul_one]
    omega
theorem SdA.ints {ns : List Int} (h : ∀ i ∈ ns, i.natAbs < 10 ^ 60) : SdA 0 (63 * ns.length) (iL ns) := by
  have := SdA.all (k := 0) (w := 61) (ds := iL ns) fun d hd => by
    obtain ⟨i, hi, rfl⟩ := List.mem_map.mp hd
    exact Sd.int (h i hi)
  rw [List.length_map] at this
  exact this
theorem Sd.shw {k w : Nat} {d : PyData} (h : Sd k w d) (hd : isDisplay d = true) (hk : k ≤ 60) (hw : w ≤ 16777216) : Shw d := ⟨h.sh, h.nd, hd, Nat.le_trans h.dp hk, Nat.le_trans h.ln hw⟩
theorem shaped_of {k w : Nat} {d : PyData} (hl : d.canLay0 = true) (h : d.depth ≤ 64) : SeqAt.shaped d = true := by
  show (d.canLay0 && decide (d.depth ≤ 64)) = true
  rw [hl, decide_eq_true h]
  rfl
theorem shaped_list_ints (ns : List Int) : SeqAt.shaped (.list (iL ns)) = true := by
  refine shaped_of (k := 0) (w := 0) (by simp only [PyData.canLay0]; exact lay_ints ns) ?_
  have := depth_ints ns
  simp only [PyData.depth]
  omega
theorem eqvAll_ints : ∀ ns ms : List Int, PyData.eqvAll (iL ns) (iL ms) = decide (ns = ms)
  | [], [] => by simp [PyData.eqvAll]
  | [], m :: ms => by simp [PyData.eqvAll]
  | n :: ns, [] => by simp [PyData.eqvAll]
  | n :: ns, m :: ms => by
    have ih := eqvAll_ints ns ms
    show (PyData.eqv (.int n) (.int m) && PyData.eqvAll (iL ns) (iL ms)) = _
    rw [ih]
    show ((n == m) && _) = _
    by_cases h1 : n = m
    · subst h1
      simp
    · simp [h1]
theorem eqv_list_ints (ns ms : List Int) : PyData.eqv (.list (iL ns)) (.list (iL ms)) = decide (ns = ms) := by
  simp only [PyData.eqv]
  exact eqvAll_ints ns ms
end Nx
namespace Nx
open PySem PySem.Spec PyProof.Rows L2
def Jsq (K : PySem.W.Frag) (k : Bool) (a : Addr) : It := if k then Itl K a else Itt K a
def iSq (K : PySem.W.Frag) (tl : TE) : TI := fun σ H R => tl σ H fun x H1 => ∃ k a xs, x = .ref a ∧ SqK k H1 a xs ∧ R (Jsq K k a) H1
theorem pi_sq {X : Cx} {tg l : Expr} {tl : TE} (hl : PE X l tl) : PI X tg l (iSq X.K tl) := by
  constructor
  intro pins s σ H R I h
  refine thn (hl.run pins s σ H _ I h) fun v s1 ⟨x, H1, I1, r1, k, a, xs, e, hq, q⟩ => ?_
  subst e
  cases r1
  obtain ⟨its, rv, hs⟩ := hq.at I1
  refine (begins k a its.toArray).iter _ _ _ _ s1 _ hs ?_
  have fp : ∀ b ∈ [s1.heap.objs.size], FpOk X pins H1 b := fun b hb => by
    rw [List.mem_singleton.mp hb]
    exact I1.fpOk (Nat.le_refl _) (I1.hok.fresh (Nat.le_refl _))
  have I2 : Inv X pins σ H1 { s1 with heap := s1.heap.push (itOb k a) } := I1.kept (t' := s1.toks) fun b o e => Heap.get?_push_of_some _ e
  cases k with
  | true => exact ⟨s1.heap.objs.size, [s1.heap.objs.size], _, _, H1, rfl, I2, turn_list a _, ⟨_, Heap.get?_push_size _ rfl, rfl, rfl⟩, fp, q⟩
  | false => exact ⟨s1.heap.objs.size, [s1.heap.objs.size], _, _, H1, rfl, I2, turn_tuple a _, ⟨_, Heap.get?_push_size _ rfl, rfl, rfl⟩, fp, q⟩
theorem di_seq {X : Cx} {tg e : Expr} {ρ : Rho} {μ : Mu} {Ψ : Itd → Mu → Prop} (h : DE X e ρ μ fun o μ1 => ∃ ds, Seq ds o ∧ Ψ ⟨ds.map .im, fun _ => True⟩ μ1) : DI X tg e ρ μ Ψ :=
  ⟨_, pi_sq pwe, fun G H σ m v R f => h G H σ m v _ fun vx x μ1 G1 H1 q1 e1 m1 r1 => by
    obtain ⟨ds, hd, q⟩ := q1
    obtain ⟨k, a, xs, rfl, hq, w⟩ := hd.at r1
    refine ⟨k, a, xs, rfl, m1.ex _ _ hq, f _ _ _ _ _ q e1 m1 ?_⟩
    cases k with
    | true => exact gives_list hq w
    | false => exact gives_tup hq w⟩
theorem ll {n : Nat} (h : Nat.ble (n + 1) 100000 = true) : n < 100000 := Nat.le_of_ble_eq_true h
theorem Seq.sq {μ : Mu} {ds : List PyData} {o : OV} (h : Seq ds o) : SqD μ o (ds.map .im) := by
  cases h with
  | lst => exact .lst ds
  | tup => exact .tup ds
end Nx
namespace Nx
open PySem PySem.Spec PyProof.Rows L2
theorem Gives.ok {J : It} {its : List OV} {ok1 ok2 : Mu → Prop} {G : Hp} (h : Gives J ⟨its, ok1⟩ G) (hi : ∀ μ, ok2 μ → ok1 μ) : Gives J ⟨its, ok2⟩ G := by
  obtain ⟨Gd, Y, wk, h1, h2⟩ := h
  exact ⟨Gd, Y, wk, fun G' H' μ' e m o => h1 G' H' μ' e m (hi _ o), fun i H' x H2 G' μ' e m o y hl => h2 i H' x H2 G' μ' e m (hi _ o) y hl⟩
theorem SqD.sub {μ μ' : Mu} {o : OV} {l : List OV} (h : SqD μ o l) (s : ∀ (a : Addr) (l : List OV), μ a = some l → μ' a = some l) : SqD μ' o l := by
  cases h with
  | lst => exact .lst _
  | tup => exact .tup _
  | own h => exact .own (s _ _ h)
theorem SqD.put {μ : Mu} {o : OV} {l l' : List OV} {p : Addr} (h : SqD μ o l) (hp : μ p = none) : SqD (μ.put p l') o l := h.sub fun a m e => (put_ne (ne_own (μ := μ) e hp)).trans e
end Nx
namespace Nx
open PySem PySem.Spec PyProof.Rows L2
def dTy : PyData → String
  | .none => "NoneType"
  | .bool _ => "bool"
  | .int _ => "int"
  | .str _ => "str"
  | .list _ => "list"
  | .tuple _ => "tuple"
  | .dict _ => "dict"
inductive TyD (μ : Mu) : OV → String → Prop
  | im (d : PyData) : TyD μ (.im d) (dTy d)
  | own {a : Addr} {l : List OV} : μ a = some l → TyD μ (.own a) "list"
theorem TyD.at {K : PySem.W.Frag} {G H : Hp} {μ : Mu} {o : OV} {T : String} {v : V} (h : TyD μ o T) (m : RM G H μ) (r : RO G v o) : TyX K H v (.type T) := by
  cases h with
  | im d =>
    cases r with
    | non => exact .base .non
    | bl b => exact .base (.bl b)
    | int i => exact .base (.int i)
    | str x => exact .base (.str x)
    | lst h1 w => exact .base (.lst (m.ex _ _ h1))
    | tup h1 w => exact .base (.tup (m.ex _ _ h1))
  | own h =>
    have r : v = .ref _ := r
    subst r
    obtain ⟨_, vs, e, w⟩ := m.own _ _ h
    exact .base (.lst e)
section
variable {X : Cx} {e : Expr} {ρ : Rho} {μ : Mu} {Φ : OV → Mu → Prop} {pos p p2 : Pos} {x : Str}
theorem de_isi {T : String} (B : Bt X.mg) (hg : Gl X "isinstance") (hg2 : Gl X x) (hm : X.mg x = none) (hv : bootBuiltins x = some (.type T)) (h : DE X e ρ μ fun o μ1 => ∃ n b, TyD μ1 o n ∧ kitB n T = some b ∧ Φ (.im (.bool b)) μ1)
    (hn : x ≠ "__name__" := by decide) (hdb : (x == ("__debug__" : Str)) = false := by decide) (he : starEach [e, .Name x p2] X.env = (false, eval e X.env) :: starEach [.Name x p2] X.env := by rfl) (he2 : starEach [.Name x p2] X.env = (false, eval (.Name x p2) X.env) :: starEach [] X.env := by rfl)
    (hpl : (backTo pos (starEach [.Name x p2] X.env)).any (·.1) = false := by rfl) : DE X (.Call (.Name "isinstance" p) [e, .Name x p2] [] pos) ρ μ Φ := fun G H σ m v Q f =>
  WE.of (pe_callB call_isi hg B.isinstance rfl (pa_cons pwe (pa_cons (pe_bltn (v := .ty T) hg2 hm hv rfl hn hdb) pa_nil he2) he) (by decide) (by decide) he hpl) (h G H σ m v _ fun vx o μ1 G1 H1 q1 e1 m1 r1 => by
    obtain ⟨n, b, ht, hk, q⟩ := q1
    exact ⟨vx, .ty T, .type n, .type T, b, rfl, .ty T, ht.at m1 r1, kit_ty hk, f _ _ _ _ _ q e1 m1 (Dv.bl b)⟩)
variable {a b : Expr}
end
end Nx
namespace Nx
open PySem PySem.Spec PyProof.Rows L2
end Nx
namespace Nx
open PySem PySem.Spec PyProof.Rows L2
section
variable {G H : Hp} {μ : Mu} {p : Addr} {kvs kvs0 : List (List Int × OV)} {xs : List V} {ρ : Rho} {σ : L2.St}
def kvV (kvs : List (List Int × OV)) (xs : List V) : List (List Key × V) := (kvs.map fun p => keyT p.1).zip xs
theorem ThOk.who {C : Addr} {who who' : Addr → Option Addr} {a : Addr} (hw : ∀ x, who x = some a → who' x = some a) : ∀ {t : Th}, ThOk C who G H a t → ThOk C who' G H a t
  | .dT kvs, h => h
  | .cir c, ⟨dx, q, r, vb, xs, ys, h1, h2, h3, h4, h5, h6, h7, h8, h9, h10, h11⟩ => ⟨dx, q, r, vb, xs, ys, h1, h2, h3, h4, hw _ h5, hw _ h6, hw _ h7, h8, h9, h10, h11⟩
theorem RM.atD (m : RM G H μ) (h : μ.d p = some (.dT kvs)) : G p = none ∧ μ p = none ∧ ∃ xs, H p = some (.dT (kvV kvs xs)) ∧ ROs G xs (kvs.map (·.2)) := by
  obtain ⟨who, t⟩ := m.thg
  obtain ⟨t1, xs, t2, t3⟩ := t.ok p _ h
  exact ⟨(t.of p p t1).1, (t.of p p t1).2.1, xs, t2, t3⟩
end
end Nx
namespace L2
open PySem PySem.Spec PyProof.Rows
theorem tuple_mulOne (l : Addr) (items : Array Value) (n : Nat) (dd : Option Addr) (sl : Array (Option Value)) (u : Tok) :
    Meets (Builtin.«tuple.__mul__» ⟨[.ref l, .int 1 u], []⟩) (fun _ R s => s.heap.get? l = some { cls := .type "tuple", dict := dd, data := .seq items n, slots := sl } ∧ R (.ok (.ret (Value.ref l))) s) :=
  .of_wp fun prog w A R s h => by
    obtain ⟨hp, g, d, tk, os⟩ := s
    obtain ⟨hl, h⟩ := h
    have f1 := AutoSeq1.idx_int
    have c1 : (items.isEmpty || (1 : Int) == 1) = true := by simp
    have hT : (⟨hp, g, d, tk, os⟩ : Shared).TypeIs (.ref l) "tuple" := ⟨_, hl, rfl⟩
    wp_walk using wpAny_loadPart' hl
    exact ⟨_, rfl, h⟩
def rRepT1 (K : PySem.W.Frag) : R2 := fun x y H Q => ∃ l xs, x = .ref l ∧ y = .int 1 ∧ SqT K H l xs ∧ Q (.ref l) H
theorem op_repT1 {X : Cx} : OpR X (binaryOp .Mult) (rRepT1 X.K) := by
  intro pins s σ H x y v u Q I rx ry h
  obtain ⟨l, xs, rfl, rfl, hT, q⟩ := h
  cases rx
  obtain ⟨t, rfl⟩ := ry
  obtain ⟨its, r, ⟨⟨cls, dd, data, sl⟩, ho, hc, n, hd⟩, hs⟩ := I.tuple hT
  simp only at hc hd
  subst hc hd
  exact wpAny_binaryOp_repeat_ref (T := "tuple") (U := "int") (by decide) ⟨_, ho, rfl⟩ (fun s' => typeIs_int s' 1 t) noFill_tuple_mul F.fills_int_mul F.slot_int_rmul repeat_tuple F.slot_int_index.lookup
    (call_meets F.slot_int_rmul (typeIs_int s 1 t) F.entry_int_rmul (F.args_int_rmul_2 _ _) (int_rmul_tuple 1 t l its.toArray n dd sl)
      ⟨ho, rfl, ⟨_, ho, rfl⟩, call_meets F.slot_tuple_mul ⟨_, ho, rfl⟩ F.entry_tuple_mul (F.args_tuple_mul_2 _ _) (tuple_mulOne l its.toArray n dd sl t) ⟨ho, ⟨.ref l, H, I, rfl, q⟩⟩⟩)
end L2
namespace Nx
open PySem PySem.Spec PyProof.Rows L2
inductive Tree (α : Type) where
  | ret (a : α) | fail | draw (n : Nat) (k : Nat → Tree α)
namespace Tree
variable {α β γ : Type}
def bind : Tree α → (α → Tree β) → Tree β
  | ret a, f => f a
  | fail, _ => fail
  | draw n k, f => draw n fun r => bind (k r) f
def All : Tree α → (α → Prop) → Prop
  | ret a, Q => Q a
  | fail, _ => False
  | draw n k, Q => ∀ r, r < n → All (k r) Q
theorem all_bind {f : α → Tree β} {Q : β → Prop} : ∀ {t : Tree α}, (bind t f).All Q ↔ t.All fun a => (f a).All Q
  | ret a => Iff.rfl
  | fail => Iff.rfl
  | draw n k => ⟨fun h r hr => all_bind.mp (h r hr), fun h r hr => all_bind.mpr (h r hr)⟩
theorem All.imp {Q R : α → Prop} (k : ∀ a, Q a → R a) : ∀ {t : Tree α}, t.All Q → t.All R
  | ret a, h => k a h
  | fail, h => h
  | draw n f, h => fun r hr => All.imp k (h r hr)
theorem bind_assoc (f : α → Tree β) (g : β → Tree γ) (t : Tree α) : bind (bind t f) g = bind t fun a => bind (f a) g := by
  induction t with
  | ret a => rfl
  | fail => rfl
  | draw n k ih => exact congrArg (draw n) (funext ih)
end Tree
def liftO {α : Type} : Option α → Tree α
  | some a => .ret a
  | none => .fail
theorem lift_all {α : Type} {Q : α → Prop} : ∀ {o : Option α}, (liftO o).All Q → ∃ a, o = some a ∧ Q a
  | some a, h => ⟨a, rfl, h⟩
  | none, h => h.elim
section
variable {α β σ : Type}
def mapT (f : α → Tree β) : List α → Tree (List β)
  | [] => .ret []
  | x :: xs => (f x).bind fun y => (mapT f xs).bind fun ys => .ret (y :: ys)
def pickT (f : α → Tree (Option β)) : List α → Tree (List β)
  | [] => .ret []
  | x :: xs => (f x).bind fun o => (pickT f xs).bind fun ys => .ret (match o with | some y => y :: ys | none => ys)
theorem mapT_ret {f : α → Tree β} {g : α → β} : ∀ {xs : List α}, (∀ x ∈ xs, f x = .ret (g x)) → mapT f xs = .ret (xs.map g)
  | [], _ => rfl
  | x :: xs, h => by
    rw [mapT, h x (List.mem_cons_self ..), mapT_ret (g := g) fun y hy => h y (List.mem_cons_of_mem _ hy)]
    rfl
theorem mapT_map {γ : Type} (f : β → Tree γ) (g : α → β) : ∀ xs : List α, mapT f (xs.map g) = mapT (fun x => f (g x)) xs
  | [] => rfl
  | x :: xs => by rw [List.map_cons, mapT, mapT, mapT_map f g xs]
end
def bx (p q t : Int) : List OV := [.im (.int p), .im (.int q), .im (.int t)]
abbrev TD := List (List Int × PyData)
def imD (kvs : TD) : List (List Int × OV) := kvs.map fun p => (p.1, .im p.2)
def dttP (kvs : TD) : ObP := ⟨fun G v => ∃ a o xs, v = .ref a ∧ G a = some (.frz o (.dT (kvV (imD kvs) xs))) ∧ DvA G xs (kvs.map (·.2)),
  fun e ⟨a, o, xs, h1, h2, h3⟩ => ⟨a, o, xs, h1, e _ _ h2 (fun _ z => nomatch z), h3.ez e⟩, fun ⟨a, _, _, h, _⟩ => ⟨a, h⟩⟩
def excO (oe : Obj) (C dx : Addr) : Prop := oe.cls = .ref C ∧ oe.dict = some dx ∧ ∃ vs, oe.data = .fields vs
def exnP (C : Addr) (f : Str) (d : PyData) : ObP := ⟨fun G v => ∃ a oe u dx y, v = .ref a ∧ G a = some (.frz oe u) ∧ excO oe C dx ∧ G dx = some (.xd [(f, y)]) ∧ Dv G y d,
  fun e ⟨a, oe, u, dx, y, h1, h2, h3, h4, h5⟩ => ⟨a, oe, u, dx, y, h1, e _ _ h2 (fun _ z => nomatch z), h3, e _ _ h4 (fun _ z => nomatch z), h5.ez e⟩, fun ⟨a, _, _, _, _, h, _⟩ => ⟨a, h⟩⟩
abbrev Exs := List (Addr × Str × PyData)
def exsP (l : Exs) : ObP := ⟨fun G v => ∃ a vs, v = .ref a ∧ G a = some (.lst vs) ∧ Paired (fun v x => (exnP x.1 x.2.1 x.2.2).p G v) vs l,
  fun e ⟨a, vs, h1, h2, h3⟩ => ⟨a, vs, h1, e _ _ h2 (fun _ z => nomatch z), Paired.mono (fun _ x h => (exnP x.1 x.2.1 x.2.2).mono e h) h3⟩, fun ⟨a, _, h, _⟩ => ⟨a, h⟩⟩
inductive W where
  | d (x : PyData) | own (ds : List PyData) | bx | dic (kvs : List (PyData × PyData)) | odc (kvs : List (List Int × PyData)) | cir (c : Cir) | lc (c : Cir) | dtt (kvs : TD) | exn (C : Addr) (f : Str) (d : PyData) | exs (l : Exs) | ll (ls : List (List PyData))
def thW : W → Option Th
  | .odc kvs => some (.dT (kvs.map fun p => (p.1, .im p.2)))
  | .cir c => some (.cir c)
  | _ => none
abbrev Env := List (Option W)
inductive Out where
  | nx (E : Env) | rt (v : PyData) | bk (E : Env) | ct (E : Env)
structure Bs (b : Addr) (μ μ' : Mu) : Prop where
  old : ∀ a l, a ≠ b → μ a = some l → μ' a = some l
  box : ∀ p q t, μ b = some (bx p q t) → ∃ p' q' t', μ' b = some (bx p' q' t')
  thg : ∀ a t, μ.d a = some t → μ'.d a = some t
  cls : μ'.C = μ.C
theorem Bs.refl (b : Addr) (μ : Mu) : Bs b μ μ := ⟨fun _ _ _ h => h, fun p q t h => ⟨p, q, t, h⟩, fun _ _ h => h, rfl⟩
theorem Bs.trans {b : Addr} {μ μ1 μ2 : Mu} (h : Bs b μ μ1) (k : Bs b μ1 μ2) : Bs b μ μ2 :=
  ⟨fun a l n e => k.old a l n (h.old a l n e), fun p q t e => let ⟨p1, q1, t1, e1⟩ := h.box p q t e; k.box p1 q1 t1 e1, fun a t e => k.thg a t (h.thg a t e), k.cls.trans h.cls⟩
theorem Bs.put {b p : Addr} {μ : Mu} {l : List OV} (h : μ p = none) : Bs b μ (μ.put p l) :=
  ⟨fun a m _ e => (put_ne (ne_own e h)).trans e, fun u q t e => ⟨u, q, t, (put_ne (ne_own e h)).trans e⟩, fun _ _ e => e, rfl⟩
theorem Bs.set {b : Addr} {μ : Mu} {p q t : Int} : Bs b μ (μ.put b (bx p q t)) := ⟨fun a l n e => (put_ne n).trans e, fun _ _ _ _ => ⟨p, q, t, put_same⟩, fun _ _ e => e, rfl⟩
theorem Bs.sub {b : Addr} {μ μ' μ2 : Mu} (h : Bs b μ μ') (k : ∀ (a : Addr) (l : List OV), μ' a = some l → (μ a).isSome = true ∨ a = b → μ2 a = some l) (kd : ∀ a t, μ'.d a = some t → (μ.d a).isSome = true → μ2.d a = some t) (kC : μ2.C = μ'.C) : Bs b μ μ2 :=
  ⟨fun a l n e => k a l (h.old a l n e) (.inl (by rw [e]; rfl)), fun p q t e => let ⟨p', q', t', e'⟩ := h.box p q t e; ⟨p', q', t', k b _ e' (.inr rfl)⟩, fun a t e => kd a t (h.thg a t e) (by rw [e]; rfl), kC.trans h.cls⟩
def LlAt (b : Addr) (μ0 : Mu) (p : Addr) (ls : List (List PyData)) : Prop := ∃ ps : List Addr, p ≠ b ∧ μ0 p = some (ps.map .own) ∧ (p :: ps).Nodup ∧ Paired (fun q ds => q ≠ b ∧ μ0 q = some (ds.map .im)) ps ls
def RW (b : Addr) (μ0 μ : Mu) : W → OV → Prop
  | .d x, o => o = .im x
  | .bx, o => o = .own b
  | .own ds, o => ∃ p, o = .own p ∧ p ≠ b ∧ μ0 p = none ∧ μ p = some (ds.map .im)
  | .dic kvs, o => o = .dic kvs
  | .odc kvs, o => ∃ p, o = .own p ∧ μ0.d p = none ∧ μ.d p = some (.dT (kvs.map fun p => (p.1, .im p.2)))
  | .cir c, o => ∃ p, o = .own p ∧ μ0.d p = none ∧ μ.d p = some (.cir c)
  | .lc c, o => ∃ p, o = .own p ∧ μ0.d p = some (.cir c)
  | .dtt kvs, o => o = .ob (dttP kvs)
  | .exn C f d, o => o = .ob (exnP C f d)
  | .exs l, o => o = .ob (exsP l)
  | .ll ls, o => ∃ p, o = .own p ∧ LlAt b μ0 p ls
def perW : W → Option OV
  | .dic kvs => some (.dic kvs)
  | .dtt kvs => some (.ob (dttP kvs))
  | .exn C f d => some (.ob (exnP C f d))
  | .exs l => some (.ob (exsP l))
  | _ => none
theorem RW.th {b : Addr} {μ0 μ : Mu} {w : W} {t : Th} (h : thW w = some t) {o : OV} : RW b μ0 μ w o ↔ ∃ p, o = .own p ∧ μ0.d p = none ∧ μ.d p = some t := by
  cases w <;> cases h <;> exact Iff.rfl
theorem RW.per {b : Addr} {μ0 μ : Mu} {w : W} {o o' : OV} (h : perW w = some o) : RW b μ0 μ w o' ↔ o' = o := by
  cases w <;> cases h <;> exact Iff.rfl
def InjT (E : Env) (ρ : Rho) : Prop := ∀ (i j : Nat) w w' p, E[i]? = some (some w) → E[j]? = some (some w') → (thW w).isSome = true → (thW w').isSome = true → ρ[i]? = some (some (.own p)) → ρ[j]? = some (some (.own p)) → i = j
structure Rel (b : Addr) (μ0 : Mu) (E : Env) (ρ : Rho) (μ : Mu) : Prop where
  len : ρ.length = E.length
  bxs : ∃ p q t, μ b = some (bx p q t)
  bx0 : ∃ p q t, μ0 b = some (bx p q t)
  ext : Bs b μ0 μ
  get : ∀ (i : Nat) w, E[i]? = some (some w) → ∃ o, ρ[i]? = some (some o) ∧ RW b μ0 μ w o
  inj : ∀ (i j : Nat) ds es p, E[i]? = some (some (.own ds)) → E[j]? = some (some (.own es)) → ρ[i]? = some (some (.own p)) → ρ[j]? = some (some (.own p)) → i = j
  injT : InjT E ρ
section
variable {b : Addr} {μ0 μ μ' : Mu} {E : Env} {ρ : Rho}
theorem RW.upto {w : W} {o : OV} (h : RW b μ0 μ w o) (kl : ∀ ds p, w = .own ds → o = .own p → p ≠ b → μ0 p = none → μ p = some (ds.map .im) → μ' p = some (ds.map .im)) (kd : ∀ p t, thW w = some t → o = .own p → μ0.d p = none → μ.d p = some t → μ'.d p = some t) : RW b μ0 μ' w o := by
  cases w with
  | d x => exact h
  | bx => exact h
  | dic kvs => exact h
  | lc c => exact h
  | dtt kvs => exact h
  | exn C f d => exact h
  | exs l => exact h
  | ll ls => exact h
  | own ds =>
    obtain ⟨p, a1, a2, a3, a4⟩ := h
    exact ⟨p, a1, a2, a3, kl ds p rfl a1 a2 a3 a4⟩
  | odc kvs =>
    obtain ⟨p, a1, a2, a3⟩ := h
    exact ⟨p, a1, a2, kd p _ rfl a1 a2 a3⟩
  | cir c =>
    obtain ⟨p, a1, a2, a3⟩ := h
    exact ⟨p, a1, a2, kd p _ rfl a1 a2 a3⟩
theorem get_set {α : Type} {l : List (Option α)} {i j : Nat} {x y : α} (h : (l.set i (some x))[j]? = some (some y)) : (i = j ∧ x = y ∧ i < l.length) ∨ (i ≠ j ∧ l[j]? = some (some y)) := by
  by_cases e : i = j
  · subst e
    by_cases hl : i < l.length
    · rw [List.getElem?_set_self hl] at h
      cases h
      exact .inl ⟨rfl, rfl, hl⟩
    · rw [List.getElem?_eq_none (by rw [List.length_set]; omega)] at h
      cases h
  · rw [List.getElem?_set_ne e] at h
    exact .inr ⟨e, h⟩
theorem get_setN {α : Type} {l : List (Option α)} {v j : Nat} {w : α} (e : (l.set v none)[j]? = some (some w)) : v ≠ j ∧ l[j]? = some (some w) := by
  by_cases h : v = j
  · subst h
    by_cases hl : v < l.length
    · rw [List.getElem?_set_self hl] at e
      cases e
    · rw [List.getElem?_eq_none (by rw [List.length_set]; omega)] at e
      cases e
  · rw [List.getElem?_set_ne h] at e
    exact ⟨h, e⟩
theorem InjT.setN (h : InjT E ρ) {i : Nat} {w : W} {o : Option OV} (hw : thW w = none) : InjT (E.set i (some w)) (ρ.set i o) := fun j k u v p e1 e2 t1 t2 h1 h2 => by
  rcases get_set e1 with ⟨_, rfl, _⟩ | ⟨n1, e1⟩
  · rw [hw] at t1
    cases t1
  rcases get_set e2 with ⟨_, rfl, _⟩ | ⟨n2, e2⟩
  · rw [hw] at t2
    cases t2
  rw [List.getElem?_set_ne n1] at h1
  rw [List.getElem?_set_ne n2] at h2
  exact h j k u v p e1 e2 t1 t2 h1 h2
theorem InjT.none (h : InjT E ρ) {i : Nat} {o : Option OV} : InjT (E.set i .none) (ρ.set i o) := fun j k u v p e1 e2 t1 t2 h1 h2 => by
  obtain ⟨n1, e1⟩ := get_setN e1
  obtain ⟨n2, e2⟩ := get_setN e2
  rw [List.getElem?_set_ne n1] at h1
  rw [List.getElem?_set_ne n2] at h2
  exact h j k u v p e1 e2 t1 t2 h1 h2
theorem InjT.chg (h : InjT E ρ) {i : Nat} {w w0 : W} (h0 : E[i]? = some (some w0)) (hw : (thW w).isSome = true → (thW w0).isSome = true) : InjT (E.set i (some w)) ρ := fun j k u v p e1 e2 t1 t2 h1 h2 => by
  have key : ∀ (j : Nat) u, (E.set i (some w))[j]? = some (some u) → (thW u).isSome = true → ∃ u', E[j]? = some (some u') ∧ (thW u').isSome = true := fun j u e t => by
    rcases get_set e with ⟨rfl, rfl, _⟩ | ⟨_, e⟩
    · exact ⟨w0, h0, hw t⟩
    · exact ⟨u, e, t⟩
  obtain ⟨u', f1, t1⟩ := key j u e1 t1
  obtain ⟨v', f2, t2⟩ := key k v e2 t2
  exact h j k u' v' p f1 f2 t1 t2 h1 h2
theorem InjT.new (h : InjT E ρ) (hl : ρ.length = E.length) {i : Nat} {w : W} {p : Addr} (no : ∀ (j : Nat) u, E[j]? = some (some u) → (thW u).isSome = true → ρ[j]? ≠ some (some (.own p))) : InjT (E.set i (some w)) (ρ.set i (some (.own p))) := fun j k u v q e1 e2 t1 t2 h1 h2 => by
  rcases get_set e1 with ⟨rfl, _, l1⟩ | ⟨n1, e1⟩
  · rcases get_set e2 with ⟨rfl, _, _⟩ | ⟨n2, e2⟩
    · rfl
    · rw [List.getElem?_set_self (by rw [hl]; exact l1)] at h1
      cases h1
      rw [List.getElem?_set_ne n2] at h2
      exact absurd h2 (no k v e2 t2)
  · rw [List.getElem?_set_ne n1] at h1
    rcases get_set e2 with ⟨rfl, _, l2⟩ | ⟨n2, e2⟩
    · rw [List.getElem?_set_self (by rw [hl]; exact l2)] at h2
      cases h2
      exact absurd h1 (no j u e1 t1)
    · rw [List.getElem?_set_ne n2] at h2
      exact h j k u v q e1 e2 t1 t2 h1 h2
theorem Rel.step (R : Rel b μ0 E ρ μ) (s : Bs b μ μ') : Rel b μ0 E ρ μ' := by
  obtain ⟨p, q, t, hb⟩ := R.bxs
  refine ⟨R.len, s.box p q t hb, R.bx0, R.ext.trans s, fun i w e => ?_, R.inj, R.injT⟩
  obtain ⟨o, h1, h2⟩ := R.get i w e
  exact ⟨o, h1, h2.upto (fun ds p _ _ nb _ e => s.old _ _ nb e) fun p t _ _ _ e => s.thg _ _ e⟩
theorem Rel.setP (R : Rel b μ0 E ρ μ) (i : Nat) {w : W} {o : OV} (hw : thW w = none) (hn : ∀ ds, w ≠ .own ds) (r : RW b μ0 μ w o) : Rel b μ0 (E.set i (some w)) (ρ.set i (some o)) μ := by
  refine ⟨by rw [List.length_set, List.length_set, R.len], R.bxs, R.bx0, R.ext, fun j w' e => ?_, fun j k ds es p e1 e2 h1 h2 => ?_, R.injT.setN hw⟩
  · rcases get_set e with ⟨rfl, rfl, hl⟩ | ⟨n, e⟩
    · exact ⟨_, List.getElem?_set_self (by rw [R.len]; exact hl), r⟩
    · obtain ⟨o, a1, a2⟩ := R.get j w' e
      exact ⟨o, by rw [List.getElem?_set_ne n]; exact a1, a2⟩
  · rcases get_set e1 with ⟨_, h, _⟩ | ⟨n1, e1⟩
    · exact absurd h (hn _)
    rcases get_set e2 with ⟨_, h, _⟩ | ⟨n2, e2⟩
    · exact absurd h (hn _)
    rw [List.getElem?_set_ne n1] at h1
    rw [List.getElem?_set_ne n2] at h2
    exact R.inj j k ds es p e1 e2 h1 h2
theorem Rel.setD (R : Rel b μ0 E ρ μ) (i : Nat) (x : PyData) : Rel b μ0 (E.set i (some (.d x))) (ρ.set i (some (.im x))) μ := R.setP i rfl (fun _ h => nomatch h) rfl
theorem Rel.setO (R : Rel b μ0 E ρ μ) (i : Nat) {p : Addr} {ds : List PyData} (hp : μ p = none) : Rel b μ0 (E.set i (some (.own ds))) (ρ.set i (some (.own p))) (μ.put p (ds.map .im)) := by
  obtain ⟨u, q, t, hb⟩ := R.bxs
  have nb : p ≠ b := fun e => by rw [e, hb] at hp; cases hp
  have h0 : μ0 p = none := by
    cases z : μ0 p with
    | none => rfl
    | some l =>
      rw [R.ext.old p l nb z] at hp
      cases hp
  have R' := R.step (Bs.put (b := b) (l := ds.map .im) hp)
  refine ⟨by rw [List.length_set, List.length_set, R.len], R'.bxs, R.bx0, R'.ext, fun j w e => ?_, fun j k xs es u e1 e2 h1 h2 => ?_, R.injT.setN rfl⟩
  · rcases get_set e with ⟨rfl, rfl, hl⟩ | ⟨n, e⟩
    · exact ⟨_, List.getElem?_set_self (by rw [R.len]; exact hl), p, rfl, nb, h0, put_same⟩
    · obtain ⟨o, a1, a2⟩ := R'.get j w e
      exact ⟨o, by rw [List.getElem?_set_ne n]; exact a1, a2⟩
  · have other : ∀ (j : Nat) xs, E[j]? = some (some (.own xs)) → ρ[j]? ≠ some (some (.own p)) := fun j xs e h => by
      obtain ⟨o, a1, u', a2, _, _, a3⟩ := R.get j _ e
      rw [a1, a2] at h
      cases h
      rw [a3] at hp
      cases hp
    rcases get_set e1 with ⟨hj, _, hl⟩ | ⟨n1, e1⟩
    · rcases get_set e2 with ⟨hk, _, _⟩ | ⟨n2, e2⟩
      · exact hj.symm.trans hk
      · rw [← hj, List.getElem?_set_self (by rw [R.len]; exact hl)] at h1
        cases h1
        rw [List.getElem?_set_ne n2] at h2
        exact absurd h2 (other k es e2)
    · rw [List.getElem?_set_ne n1] at h1
      rcases get_set e2 with ⟨hk, _, hl⟩ | ⟨n2, e2⟩
      · rw [← hk, List.getElem?_set_self (by rw [R.len]; exact hl)] at h2
        cases h2
        exact absurd h1 (other j xs e1)
      · rw [List.getElem?_set_ne n2] at h2
        exact R.inj j k xs es u e1 e2 h1 h2
theorem Rel.chg (R : Rel b μ0 E ρ μ) {i : Nat} {p : Addr} {ds es : List PyData} (hi : E[i]? = some (some (.own ds))) (hp : ρ[i]? = some (some (.own p))) : Rel b μ0 (E.set i (some (.own es))) ρ (μ.put p (es.map .im)) := by
  obtain ⟨o, a1, p', a2, nb, h0, hμ⟩ := R.get i _ hi
  rw [hp] at a1
  cases a1
  cases a2
  obtain ⟨u, q, t, hb⟩ := R.bxs
  refine ⟨by rw [List.length_set, R.len], ⟨u, q, t, (put_ne fun e => nb e.symm).trans hb⟩, R.bx0, ⟨fun a l n e => ?_, fun u q t e => ?_, R.ext.thg, R.ext.cls⟩, fun j w e => ?_, fun j k xs ys u e1 e2 h1 h2 => ?_, R.injT.chg hi fun h => nomatch h⟩
  · rw [put_ne (fun z => by rw [z, h0] at e; cases e)]
    exact R.ext.old a l n e
  · obtain ⟨u', q', t', e'⟩ := R.ext.box u q t e
    exact ⟨u', q', t', (put_ne fun e => nb e.symm).trans e'⟩
  · rcases get_set e with ⟨rfl, rfl, hl⟩ | ⟨n, e⟩
    · exact ⟨_, hp, p, rfl, nb, h0, put_same⟩
    · obtain ⟨o, a1, a2⟩ := R.get j w e
      refine ⟨o, a1, a2.upto (fun xs u hw c1 _ _ c4 => ?_) fun _ _ _ _ _ e => e⟩
      subst hw
      rw [put_ne]
      · exact c4
      · intro z
        rw [c1, z] at a1
        exact n (R.inj i j ds xs p hi e hp a1)
  · have back : ∀ (j : Nat) xs, (E.set i (some (.own es)))[j]? = some (some (.own xs)) → ∃ ys, E[j]? = some (some (.own ys)) := fun j xs e => by
      rcases get_set e with ⟨rfl, _, _⟩ | ⟨n, e⟩
      · exact ⟨ds, hi⟩
      · exact ⟨xs, e⟩
    obtain ⟨xs', f1⟩ := back j xs e1
    obtain ⟨ys', f2⟩ := back k ys e2
    exact R.inj j k xs' ys' u f1 f2 h1 h2
theorem Rel.frz (R : Rel b μ0 E ρ μ) {i : Nat} {p : Addr} {ds : List PyData} (hi : E[i]? = some (some (.own ds))) (hp : ρ[i]? = some (some (.own p))) : Rel b μ0 (E.set i (some (.d (.list ds)))) (ρ.set i (some (.im (.list ds)))) (μ.del p) := by
  obtain ⟨o, a1, p', a2, nb, h0, hμ⟩ := R.get i _ hi
  rw [hp] at a1
  cases a1
  cases a2
  have dl : ∀ a, a ≠ p → μ.del p a = μ a := fun a n => if_neg n
  obtain ⟨u, q, t, hb⟩ := R.bxs
  refine ⟨by rw [List.length_set, List.length_set, R.len], ⟨u, q, t, (dl b fun e => nb e.symm).trans hb⟩, R.bx0, ⟨fun a l n e => ?_, fun u q t e => ?_, R.ext.thg, R.ext.cls⟩, fun j w e => ?_, fun j k xs ys u e1 e2 h1 h2 => ?_, R.injT.setN rfl⟩
  · rw [dl a (fun z => by rw [z, h0] at e; cases e)]
    exact R.ext.old a l n e
  · obtain ⟨u', q', t', e'⟩ := R.ext.box u q t e
    exact ⟨u', q', t', (dl b fun e => nb e.symm).trans e'⟩
  · rcases get_set e with ⟨rfl, rfl, hl⟩ | ⟨n, e⟩
    · exact ⟨_, List.getElem?_set_self (by rw [R.len]; exact hl), rfl⟩
    · obtain ⟨o, a1, a2⟩ := R.get j w e
      refine ⟨o, by rw [List.getElem?_set_ne n]; exact a1, a2.upto (fun xs u hw c1 _ _ c4 => ?_) fun _ _ _ _ _ e => e⟩
      subst hw
      rw [dl]
      · exact c4
      · intro z
        rw [c1, z] at a1
        exact n (R.inj i j ds xs p hi e hp a1)
  · rcases get_set e1 with ⟨_, h, _⟩ | ⟨n1, e1⟩
    · cases h
    rcases get_set e2 with ⟨_, h, _⟩ | ⟨n2, e2⟩
    · cases h
    rw [List.getElem?_set_ne n1] at h1
    rw [List.getElem?_set_ne n2] at h2
    exact R.inj j k xs ys u e1 e2 h1 h2
def NoTh (E : Env) (ρ : Rho) (d : Addr) : Prop := ∀ (j : Nat) w, E[j]? = some (some w) → (thW w).isSome = true → ρ[j]? ≠ some (some (.own d))
theorem NoTh.setN {d : Addr} (h : NoTh E ρ d) {i : Nat} {w : W} {o : Option OV} (hw : thW w = none) : NoTh (E.set i (some w)) (ρ.set i o) d := fun j u e t => by
  rcases get_set e with ⟨_, rfl, _⟩ | ⟨n, e⟩
  · rw [hw] at t
    cases t
  · rw [List.getElem?_set_ne n]
    exact h j u e t
def wipeE (E : Env) (vs : List Nat) : Env := vs.foldr (fun v r => r.set v none) E
theorem Rel.wipeO (R : Rel b μ0 E ρ μ) (v : Nat) (o : Option OV) : Rel b μ0 (E.set v none) (ρ.set v o) μ := by
  refine ⟨by rw [List.length_set, List.length_set, R.len], R.bxs, R.bx0, R.ext, fun j w e => ?_, fun j k xs ys u e1 e2 h1 h2 => ?_, R.injT.none⟩
  · obtain ⟨n, e⟩ := get_setN e
    obtain ⟨o, a1, a2⟩ := R.get j w e
    exact ⟨o, by rw [List.getElem?_set_ne n]; exact a1, a2⟩
  · obtain ⟨n1, e1⟩ := get_setN e1
    obtain ⟨n2, e2⟩ := get_setN e2
    rw [List.getElem?_set_ne n1] at h1
    rw [List.getElem?_set_ne n2] at h2
    exact R.inj j k xs ys u e1 e2 h1 h2
theorem Rel.wipe (R : Rel b μ0 E ρ μ) (v : Nat) : Rel b μ0 (E.set v none) (ρ.set v none) μ := R.wipeO v none
theorem Rel.wipes (R : Rel b μ0 E ρ μ) : ∀ vs : List Nat, Rel b μ0 (wipeE E vs) (wipeR ρ vs) μ
  | [] => R
  | v :: vs => (R.wipes vs).wipe v
def putsE (E : Env) : List Nat → List PyData → Env
  | i :: is, x :: xs => putsE (E.set i (some (.d x))) is xs
  | _, _ => E
def putE : Tgt → PyData → Env → Option Env
  | .nm i, x, E => some (E.set i (some (.d x)))
  | .tp is, .tuple xs, E => if xs.length = is.length then some (putsE E is xs) else none
  | .tp _, _, _ => none
theorem Rel.puts : ∀ (is : List Nat) (xs : List PyData) {E : Env} {ρ : Rho}, Rel b μ0 E ρ μ → Rel b μ0 (putsE E is xs) (setAll ρ is xs) μ
  | [], _, _, _, R => R
  | _ :: _, [], _, _, R => R
  | i :: is, x :: xs, _, _, R => Rel.puts is xs (R.setD i x)
theorem Rel.putT (R : Rel b μ0 E ρ μ) {t : Tgt} {x : PyData} {E' : Env} (h : putE t x E = some E') : ∃ ρ', t.put (.im x) ρ = some ρ' ∧ Rel b μ0 E' ρ' μ := by
  cases t with
  | nm i =>
    cases h
    exact ⟨_, rfl, R.setD i x⟩
  | tp is =>
    cases x with
    | tuple xs =>
      simp only [putE] at h
      split at h
      · rename_i hl
        cases h
        exact ⟨_, if_pos hl, R.puts is xs⟩
      · cases h
    | _ => cases h
end
end Nx
namespace Nx
open PySem PySem.Spec PyProof.Rows L2
abbrev DenE := Env → Tree PyData
abbrev DenB := Env → Tree Bool
abbrev DenL := Env → Tree (List PyData)
abbrev DenS := Env → Tree Out
def wo (b : Addr) : W → OV
  | .d x => .im x
  | .bx => .own b
  | .dic kvs => .dic kvs
  | .own _ => .im .none
  | .odc _ => .im .none
  | .cir _ => .im .none
  | .lc _ => .im .none
  | .dtt kvs => .ob (dttP kvs)
  | .exn C f d => .ob (exnP C f d)
  | .exs l => .ob (exsP l)
  | .ll _ => .im .none
structure SE (b : Addr) (X : Cx) (e : Expr) (f : DenE) : Prop where
  run : ∀ μ0 E ρ μ Φ, Rel b μ0 E ρ μ → (f E).All (fun d => ∀ μ', Bs b μ μ' → Φ (.im d) μ') → DE X e ρ μ Φ
structure ST (b : Addr) (X : Cx) (e : Expr) (f : DenB) : Prop where
  run : ∀ μ0 E ρ μ Φ, Rel b μ0 E ρ μ → (f E).All (fun d => ∀ μ', Bs b μ μ' → Φ d μ') → DT X e ρ μ Φ
structure SW (b : Addr) (X : Cx) (e : Expr) (f : DenB) : Prop where
  run : ∀ μ0 E ρ μ Φ, Rel b μ0 E ρ μ → (f E).All (fun d => ∀ μ', Bs b μ μ' → Φ d μ') → DW X e ρ μ Φ
structure SD (b : Addr) (X : Cx) (es : List Expr) (f : DenL) : Prop where
  run : ∀ μ0 E ρ μ Λ, Rel b μ0 E ρ μ → (f E).All (fun ds => ∀ μ', Bs b μ μ' → Λ (ds.map .im) μ') → DA X es ρ μ Λ
structure SA (b : Addr) (X : Cx) (es : List Expr) (f : Env → Tree (List W)) : Prop where
  run : ∀ μ0 E ρ μ Λ, Rel b μ0 E ρ μ → (f E).All (fun ws => ∀ μ', Bs b μ μ' → Λ (ws.map (wo b)) μ') → DA X es ρ μ Λ
structure SK (b : Addr) (X : Cx) (ks : List Keyword) (f : Env → Tree (List W)) : Prop where
  run : ∀ μ0 E ρ μ Λ, Rel b μ0 E ρ μ → (f E).All (fun ws => ∀ μ', Bs b μ μ' → Λ (ws.map (wo b)) μ') → DK X ks ρ μ Λ
structure SI (b : Addr) (X : Cx) (tg e : Expr) (f : DenL) : Prop where
  run : ∀ μ0 E ρ μ Ψ, Rel b μ0 E ρ μ → (f E).All (fun ds => ∀ μ', Bs b μ μ' → Ψ ⟨ds.map .im, fun _ => True⟩ μ') → DI X tg e ρ μ Ψ
def OutOk (b : Addr) (μ0 : Mu) (D : DEnds) : Out → Prop
  | .nx E => ∀ ρ μ, Rel b μ0 E ρ μ → D.nx ρ μ
  | .bk E => ∀ ρ μ, Rel b μ0 E ρ μ → D.bk ρ μ
  | .ct E => ∀ ρ μ, Rel b μ0 E ρ μ → D.ct ρ μ
  | .rt v => ∀ μ, Bs b μ0 μ → D.rt (.im v) μ
structure SS (b : Addr) (X : Cx) (s : Stmt) (f : DenS) : Prop where
  run : ∀ μ0 E ρ μ D, Rel b μ0 E ρ μ → (f E).All (OutOk b μ0 D) → DS X s ρ μ D
structure SSs (b : Addr) (X : Cx) (ss : List Stmt) (f : DenS) : Prop where
  run : ∀ μ0 E ρ μ D, Rel b μ0 E ρ μ → (f E).All (OutOk b μ0 D) → DSs X ss ρ μ D
def dV (i : Nat) : DenE := fun E => match E[i]? with | some (some (.d x)) => .ret x | _ => .fail
def dC (x : PyData) : DenE := fun _ => .ret x
def d1 (g : PyData → Option PyData) (f : DenE) : DenE := fun E => (f E).bind fun x => liftO (g x)
def d2 (g : PyData → PyData → Option PyData) (f h : DenE) : DenE := fun E => (f E).bind fun x => (h E).bind fun y => liftO (g x y)
def t2 (g : PyData → PyData → Option Bool) (f h : DenE) : DenB := fun E => (f E).bind fun x => (h E).bind fun y => liftO (g x y)
def l0 : DenL := fun _ => .ret []
def lC (f : DenE) (fs : DenL) : DenL := fun E => (f E).bind fun x => (fs E).bind fun xs => .ret (x :: xs)
def small (n : Nat) : Option Unit := if n ≤ 100000 then some () else none
def dL (fs : DenL) : DenE := fun E => (fs E).bind fun xs => (liftO (small xs.length)).bind fun _ => .ret (.list xs)
def dT (fs : DenL) : DenE := fun E => (fs E).bind fun xs => (liftO (small xs.length)).bind fun _ => .ret (.tuple xs)
def aV (i : Nat) : Env → Tree W := fun E => match E[i]? with | some (some (.d x)) => .ret (.d x) | some (some .bx) => .ret .bx | some (some (.dic k)) => .ret (.dic k) | some (some (.dtt k)) => .ret (.dtt k) | some (some (.exn C f d)) => .ret (.exn C f d) | some (some (.exs l)) => .ret (.exs l) | _ => .fail
def aE (f : DenE) : Env → Tree W := fun E => (f E).bind fun x => .ret (.d x)
def a0 : Env → Tree (List W) := fun _ => .ret []
def aC (f : Env → Tree W) (fs : Env → Tree (List W)) : Env → Tree (List W) := fun E => (f E).bind fun x => (fs E).bind fun xs => .ret (x :: xs)
def dCall (F : List W → Tree PyData) (fs : Env → Tree (List W)) : DenE := fun E => (fs E).bind F
def dIf (c : DenB) (f g : DenE) : DenE := fun E => (c E).bind fun k => match k with | true => f E | false => g E
def asB : PyData → Option Bool
  | .bool k => some k
  | _ => none
def truth : PyData → Option Bool
  | .none => some false
  | .bool k => some k
  | .int i => some (i != 0)
  | .list xs => some !xs.isEmpty
  | .tuple xs => some !xs.isEmpty
  | _ => none
def tV (f : DenE) : DenB := fun E => (f E).bind fun x => liftO (asB x)
def tTr (f : DenE) : DenB := fun E => (f E).bind fun x => liftO (truth x)
def tNot (f : DenB) : DenB := fun E => (f E).bind fun k => .ret (!k)
def tAnd (f g : DenB) : DenB := fun E => (f E).bind fun k => match k with | true => g E | false => .ret false
def tOr (f g : DenB) : DenB := fun E => (f E).bind fun k => match k with | true => .ret true | false => g E
def dAnd (f g : DenE) : DenE := fun E => (f E).bind fun x => match x with | .bool true => g E | .bool false => .ret (.bool false) | _ => .fail
def dOr (f g : DenE) : DenE := fun E => (f E).bind fun x => match x with | .bool true => .ret (.bool true) | .bool false => g E | _ => .fail
def few (n : Nat) : Option Unit := if n ≤ 50000 then some () else none
def dLc (t : Tgt) (vs : List Nat) (it : DenL) (elt : DenE) : DenE := fun E => (it E).bind fun xs => (liftO (few xs.length)).bind fun _ =>
  (mapT (fun x => (liftO (putE t x (wipeE E vs))).bind elt) xs).bind fun ys => .ret (.list ys)
def dLf (t : Tgt) (vs : List Nat) (it : DenL) (c : DenB) (elt : DenE) : DenE := fun E => (it E).bind fun xs => (liftO (few xs.length)).bind fun _ =>
  (pickT (fun x => (liftO (putE t x (wipeE E vs))).bind fun E' => (c E').bind fun k => match k with | true => (elt E').bind fun y => .ret (some y) | false => .ret none) xs).bind fun ys => .ret (.list ys)
def sSet (i : Nat) (f : DenE) : DenS := fun E => (f E).bind fun x => .ret (.nx (E.set i (some (.d x))))
def sAsg (t : Tgt) (f : DenE) : DenS := fun E => (f E).bind fun x => (liftO (putE t x E)).bind fun E' => .ret (.nx E')
def sPar (is : List Nat) (fs : DenL) : DenS := fun E => (fs E).bind fun xs => .ret (.nx (putsE E is xs))
def sRet (f : DenE) : DenS := fun E => (f E).bind fun x => .ret (.rt x)
def s0 : DenS := fun E => .ret (.nx E)
def sC (s ss : DenS) : DenS := fun E => (s E).bind fun o => match o with | .nx E' => ss E' | o => .ret o
def sIf (c : DenB) (s1 s2 : DenS) : DenS := fun E => (c E).bind fun k => match k with | true => s1 E | false => s2 E
def sX (f : DenE) : DenS := fun E => (f E).bind fun _ => .ret (.nx E)
def forT (t : Tgt) (body : DenS) : List PyData → Env → Tree Out
  | [], E => .ret (.nx E)
  | x :: xs, E => (liftO (putE t x E)).bind fun E' => (body E').bind fun o => match o with
    | .nx E2 => forT t body xs E2
    | .ct E2 => forT t body xs E2
    | .bk E2 => .ret (.nx E2)
    | .rt v => .ret (.rt v)
def sFor (t : Tgt) (it : DenL) (body : DenS) : DenS := fun E => (it E).bind fun xs => forT t body xs E
def sOwn (i : Nat) (f : DenE) : DenS := fun E => (f E).bind fun x => match x with | .list xs => .ret (.nx (E.set i (some (.own xs)))) | _ => .fail
def sApp (i : Nat) (f : DenE) : DenS := fun E => match E[i]? with | some (some (.own l)) => (f E).bind fun y => (liftO (small (l.length + 1))).bind fun _ => .ret (.nx (E.set i (some (.own (l ++ [y]))))) | _ => .fail
def frzE (i : Nat) (E : Env) : Env := match E[i]? with | some (some (.own l)) => E.set i (some (.d (.list l))) | _ => E
def sFrz (i : Nat) (ss : DenS) : DenS := fun E => ss (frzE i E)
def outV : Out → Tree PyData
  | .rt v => .ret v
  | .nx _ => .ret .none
  | _ => .fail
def noOwn : W → Bool
  | .own _ => false
  | .odc _ => false
  | .cir _ => false
  | .lc _ => false
  | .ll _ => false
  | _ => true
section
variable {b : Addr} {X : Cx} {e x y : Expr} {es : List Expr} {f fx fy fz : DenE} {fs : DenL} {pos : Pos}
open Tree
theorem dV_all {i : Nat} {E : Env} {Q : PyData → Prop} (h : (dV i E).All Q) : ∃ d, E[i]? = some (some (.d d)) ∧ Q d := by
  unfold dV at h
  split at h
  · rename_i d hd
    exact ⟨d, hd, h⟩
  · exact h.elim
theorem se_v (i : Nat) {n : Str} (hN : X.N[i]? = some n := by rfl) (hv : Vis X.env.scope n := by first | exact Or.inl rfl | exact Or.inr (Or.inl rfl) | exact Or.inr (Or.inr rfl)) (hd : (n == ("__debug__" : Str)) = false := by decide) (hcd : (n == ("__classdict__" : Str)) = false := by decide) : SE b X (.Name n pos) (dV i) := .mk fun μ0 E ρ μ Φ R h => by
  obtain ⟨d, hd', q⟩ := dV_all h
  obtain ⟨o, h1, h2⟩ := R.get i _ hd'
  cases h2
  exact de_var i hN hv h1 (q μ (Bs.refl b μ)) hd hcd
theorem se_int {i : Int} {j : Nat} : SE b X (.Constant (.int i) j pos) (dC (.int i)) := .mk fun μ0 E ρ μ Φ R h => de_int (h μ (Bs.refl b μ))
theorem se_bl {i : Bool} {j : Nat} : SE b X (.Constant (.bool i) j pos) (dC (.bool i)) := .mk fun μ0 E ρ μ Φ R h => de_bl (h μ (Bs.refl b μ))
theorem se_non {j : Nat} : SE b X (.Constant .none j pos) (dC .none) := .mk fun μ0 E ρ μ Φ R h => de_non (h μ (Bs.refl b μ))
theorem se_str {i : Str} {j : Nat} : SE b X (.Constant (.str i) j pos) (dC (.str i)) := .mk fun μ0 E ρ μ Φ R h => de_str (h μ (Bs.refl b μ))
def G1 (g : PyData → Option PyData) (u : OV) (μ : Mu) (Φ : OV → Mu → Prop) : Prop := ∃ d r, u = .im d ∧ g d = some r ∧ Φ (.im r) μ
theorem se_1 {g : PyData → Option PyData} (hx : SE b X x fx) (hop : ∀ ρ μ Φ, (DE X x ρ μ fun u μ1 => G1 g u μ1 Φ) → DE X e ρ μ Φ) : SE b X e (d1 g fx) := .mk fun μ0 E ρ μ Φ R h =>
  hop ρ μ Φ (hx.run μ0 E ρ μ _ R ((all_bind.mp h).imp fun d q μ1 s1 => let ⟨r, hr, q⟩ := lift_all q; ⟨d, r, rfl, hr, q μ1 s1⟩))
def G2 (g : PyData → PyData → Option PyData) (u v : OV) (μ : Mu) (Φ : OV → Mu → Prop) : Prop := ∃ d d' r, u = .im d ∧ v = .im d' ∧ g d d' = some r ∧ Φ (.im r) μ
theorem se_2 {g : PyData → PyData → Option PyData} (hx : SE b X x fx) (hy : SE b X y fy) (hop : ∀ ρ μ Φ, (DE X x ρ μ fun u μ1 => DE X y ρ μ1 fun v μ2 => G2 g u v μ2 Φ) → DE X e ρ μ Φ) : SE b X e (d2 g fx fy) := .mk fun μ0 E ρ μ Φ R h =>
  hop ρ μ Φ (hx.run μ0 E ρ μ _ R ((all_bind.mp h).imp fun d q μ1 s1 => hy.run μ0 E ρ μ1 _ (R.step s1) ((all_bind.mp q).imp fun d' q μ2 s2 => let ⟨r, hr, q⟩ := lift_all q; ⟨d, d', r, rfl, rfl, hr, q μ2 (s1.trans s2)⟩)))
def OkOp (r : R2) (g : PyData → PyData → Option PyData) : Prop := ∀ d d' v μ Φ, g d d' = some v → Φ (.im v) μ → OpD r (.im d) (.im d') μ Φ
theorem se_op {op : Operator} {r : R2} {g : PyData → PyData → Option PyData} (ho : OpR X (binaryOp op) r) (hk : OkOp r g) (hx : SE b X x fx) (hy : SE b X y fy) : SE b X (.BinOp x op y pos) (d2 g fx fy) :=
  se_2 hx hy fun ρ μ Φ h => de_op ho (h.imp fun u μ1 h1 => h1.imp fun v μ2 ⟨d, d', r, e1, e2, hr, q⟩ => by subst e1 e2; exact hk d d' r μ2 Φ hr q)
def OkCmp (r : R2) (g : PyData → PyData → Option Bool) : Prop := ∀ d d' v μ Φ, g d d' = some v → Φ (.im (.bool v)) μ → OpD r (.im d) (.im d') μ Φ
def bD (g : PyData → PyData → Option Bool) (d d' : PyData) : Option PyData := match g d d' with | some k => some (.bool k) | none => none
theorem bD_some {g : PyData → PyData → Option Bool} {d d' r : PyData} (h : bD g d d' = some r) : ∃ k, g d d' = some k ∧ r = .bool k := by
  unfold bD at h
  split at h
  · cases h
    exact ⟨_, ‹_›, rfl⟩
  · cases h
theorem se_cmp {op : CmpOp} {r : R2} {g : PyData → PyData → Option Bool} (ho : OpR X (compareOp op) r) (hm : behindInMarks op y = false) (hk : OkCmp r g) (hx : SE b X x fx) (hy : SE b X y fy) : SE b X (.Compare x [op] [y] pos) (d2 (bD g) fx fy) :=
  se_2 hx hy fun ρ μ Φ h => de_cmp ho hm (h.imp fun u μ1 h1 => h1.imp fun v μ2 ⟨d, d', r, e1, e2, hr, q⟩ => by
    subst e1 e2
    obtain ⟨k, hk', rfl⟩ := bD_some hr
    exact hk d d' k μ2 Φ hk' q)
theorem st_cmp {op : CmpOp} {r : R2} {g : PyData → PyData → Option Bool} (ho : OpR X (compareOp op) r) (hm : behindInMarks op y = false) (hk : OkCmp r g) (hx : SE b X x fx) (hy : SE b X y fy) : ST b X (.Compare x [op] [y] pos) (t2 g fx fy) := .mk fun μ0 E ρ μ Φ R h =>
  dt_cmp ho hm (hx.run μ0 E ρ μ _ R ((all_bind.mp h).imp fun d q μ1 s1 => hy.run μ0 E ρ μ1 _ (R.step s1) ((all_bind.mp q).imp fun d' q μ2 s2 => let ⟨r, hr, q⟩ := lift_all q; hk d d' r μ2 _ hr ⟨r, rfl, q μ2 (s1.trans s2)⟩)))
theorem dt_tru {ρ : Rho} {μ : Mu} {Φ : Bool → Mu → Prop} (h : DE X x ρ μ fun u μ1 => ∃ d k, u = .im d ∧ truth d = some k ∧ Φ k μ1) (he : ∀ whole, isTrue x X.env whole = (do let v ← whole; standAt x.pos; holding [v] (truthy v)) := by intro _; rfl) : DT X x ρ μ Φ := fun G H σ m v Q f =>
  WT.of (pt_truth pwe he) (h G H σ m v _ fun vx u μ1 G1 H1 q1 e1 m1 r1 => by
    obtain ⟨d, k, rfl, hk, q⟩ := q1
    refine ⟨k, ?_, f _ _ _ _ q e1 m1⟩
    have r1 : Dv G1 vx d := r1
    cases r1 with
    | non => cases hk; rfl
    | bl k => cases hk; rfl
    | int i => cases hk; rfl
    | str x => cases hk
    | lst h1 w =>
      cases hk
      exact .inl ⟨_, .inl (.inl (m1.ex _ _ h1)), by cases w <;> rfl⟩
    | tup h1 w =>
      cases hk
      exact .inr (.inl ⟨_, .inl (.inl (m1.ex _ _ h1)), by cases w <;> rfl⟩))
theorem st_tru (hx : SE b X x fx) (he : ∀ whole, isTrue x X.env whole = (do let v ← whole; standAt x.pos; holding [v] (truthy v)) := by intro _; rfl) : ST b X x (tTr fx) := .mk fun μ0 E ρ μ Φ R h =>
  dt_tru (hx.run μ0 E ρ μ _ R ((all_bind.mp h).imp fun d q μ1 s1 => let ⟨k, hk, q⟩ := lift_all q; ⟨d, k, rfl, hk, q μ1 s1⟩)) he
variable {fb gb : DenB} {rest : List Expr}
theorem st_not (hx : ST b X x fb) : ST b X (.UnaryOp .Not x pos) (tNot fb) := .mk fun μ0 E ρ μ Φ R h => dt_not (hx.run μ0 E ρ μ _ R ((all_bind.mp h).imp fun k q => q))
theorem st_w (h : SW b X e fb) : ST b X e fb := .mk fun μ0 E ρ μ Φ R q => (h.run μ0 E ρ μ Φ R q).dt
theorem sw_and1 (h : ST b X x fb) : SW b X (.BoolOp .And [x] pos) fb := .mk fun μ0 E ρ μ Φ R q => dw_and1 (h.run μ0 E ρ μ Φ R q)
theorem sw_or1 (h : ST b X x fb) : SW b X (.BoolOp .Or [x] pos) fb := .mk fun μ0 E ρ μ Φ R q => dw_or1 (h.run μ0 E ρ μ Φ R q)
theorem sw_and (h : ST b X x fb) (k : SW b X (.BoolOp .And (y :: rest) pos) gb) : SW b X (.BoolOp .And (x :: y :: rest) pos) (tAnd fb gb) := .mk fun μ0 E ρ μ Φ R q =>
  dw_and (h.run μ0 E ρ μ _ R ((all_bind.mp q).imp fun v q μ1 s1 => by
    cases v with
    | true =>
      rw [if_pos rfl]
      exact k.run μ0 E ρ μ1 _ (R.step s1) (All.imp (fun v q μ2 s2 => q μ2 (s1.trans s2)) q)
    | false =>
      rw [if_neg (by decide)]
      exact q μ1 s1))
theorem sw_or (h : ST b X x fb) (k : SW b X (.BoolOp .Or (y :: rest) pos) gb) : SW b X (.BoolOp .Or (x :: y :: rest) pos) (tOr fb gb) := .mk fun μ0 E ρ μ Φ R q =>
  dw_or (h.run μ0 E ρ μ _ R ((all_bind.mp q).imp fun v q μ1 s1 => by
    cases v with
    | true =>
      rw [if_pos rfl]
      exact q μ1 s1
    | false =>
      rw [if_neg (by decide)]
      exact k.run μ0 E ρ μ1 _ (R.step s1) (All.imp (fun v q μ2 s2 => q μ2 (s1.trans s2)) q)))
theorem se_one {op} (h : SE b X x fx) : SE b X (.BoolOp op [x] pos) fx := .mk fun μ0 E ρ μ Φ R q => de_one (h.run μ0 E ρ μ Φ R q)
theorem se_and (h : SE b X x fx) (k : SE b X (.BoolOp .And (y :: rest) pos) fy) : SE b X (.BoolOp .And (x :: y :: rest) pos) (dAnd fx fy) := .mk fun μ0 E ρ μ Φ R q =>
  de_and (h.run μ0 E ρ μ _ R ((all_bind.mp q).imp fun v q μ1 s1 => by
    split at q
    · exact ⟨true, rfl, by rw [if_pos rfl]; exact k.run μ0 E ρ μ1 _ (R.step s1) (All.imp (fun v q μ2 s2 => q μ2 (s1.trans s2)) q)⟩
    · exact ⟨false, rfl, by rw [if_neg (by decide)]; exact q μ1 s1⟩
    · exact q.elim))
def pNot (d : PyData) : Option PyData := match d with | .bool k => some (.bool !k) | _ => none
theorem se_if (hc : ST b X e fb) (hx : SE b X x fx) (hy : SE b X y fy) : SE b X (.IfExp e x y pos) (dIf fb fx fy) := .mk fun μ0 E ρ μ Φ R q =>
  de_ifExp (hc.run μ0 E ρ μ _ R ((all_bind.mp q).imp fun k q μ1 s1 => by
    cases k with
    | true =>
      rw [if_pos rfl]
      exact hx.run μ0 E ρ μ1 _ (R.step s1) (All.imp (fun v q μ2 s2 => q μ2 (s1.trans s2)) q)
    | false =>
      rw [if_neg (by decide)]
      exact hy.run μ0 E ρ μ1 _ (R.step s1) (All.imp (fun v q μ2 s2 => q μ2 (s1.trans s2)) q)))
theorem sd_nil : SD b X [] l0 := .mk fun μ0 E ρ μ Λ R h => da_nil (h μ (Bs.refl b μ))
theorem sd_cons (hx : SE b X x fx) (ht : SD b X es fs) (hs : starEach (x :: es) X.env = (false, eval x X.env) :: starEach es X.env := by rfl) : SD b X (x :: es) (lC fx fs) := .mk fun μ0 E ρ μ Λ R h =>
  da_cons (hx.run μ0 E ρ μ _ R ((all_bind.mp h).imp fun d q μ1 s1 => ht.run μ0 E ρ μ1 _ (R.step s1) ((all_bind.mp q).imp fun ds q μ2 s2 => q μ2 (s1.trans s2)))) hs
theorem small_le {n : Nat} {Q : Unit → Prop} (h : (liftO (small n)).All Q) : n ≤ 100000 ∧ Q () := by
  obtain ⟨a, h1, h2⟩ := lift_all h
  unfold small at h1
  split at h1
  · exact ⟨‹_›, h2⟩
  · cases h1
theorem few_le {n : Nat} {Q : Unit → Prop} (h : (liftO (few n)).All Q) : n ≤ 50000 ∧ Q () := by
  obtain ⟨a, h1, h2⟩ := lift_all h
  unfold few at h1
  split at h1
  · exact ⟨‹_›, h2⟩
  · cases h1
theorem se_lst (h : SD b X es fs) : SE b X (.List es pos) (dL fs) := .mk fun μ0 E ρ μ Φ R q =>
  de_lst (h.run μ0 E ρ μ _ R ((all_bind.mp q).imp fun ds q μ1 s1 => let ⟨hz, q⟩ := small_le (all_bind.mp q); ⟨ds, rfl, hz, q μ1 s1⟩))
theorem se_tup {k : Nat} (h : SD b X es fs) : SE b X (.Tuple es k pos) (dT fs) := .mk fun μ0 E ρ μ Φ R q =>
  de_tup (h.run μ0 E ρ μ _ R ((all_bind.mp q).imp fun ds q μ1 s1 => let ⟨hz, q⟩ := small_le (all_bind.mp q); ⟨ds, rfl, hz, q μ1 s1⟩))
variable {ga : Env → Tree W} {gs : Env → Tree (List W)}
structure SV (b : Addr) (X : Cx) (e : Expr) (f : Env → Tree W) : Prop where
  run : ∀ μ0 E ρ μ Φ, Rel b μ0 E ρ μ → (f E).All (fun w => ∀ μ', Bs b μ μ' → Φ (wo b w) μ') → DE X e ρ μ Φ
theorem sv_v (i : Nat) {n : Str} (hN : X.N[i]? = some n := by rfl) (hv : Vis X.env.scope n := by first | exact Or.inl rfl | exact Or.inr (Or.inl rfl) | exact Or.inr (Or.inr rfl)) (hd : (n == ("__debug__" : Str)) = false := by decide) (hcd : (n == ("__classdict__" : Str)) = false := by decide) : SV b X (.Name n pos) (aV i) := .mk fun μ0 E ρ μ Φ R h => by
  unfold aV at h
  split at h
  · rename_i d hd'
    obtain ⟨o, h1, h2⟩ := R.get i _ hd'
    cases h2
    exact de_var i hN hv h1 (h μ (Bs.refl b μ)) hd hcd
  · rename_i hd'
    obtain ⟨o, h1, h2⟩ := R.get i _ hd'
    cases h2
    exact de_var i hN hv h1 (h μ (Bs.refl b μ)) hd hcd
  · rename_i hd'
    obtain ⟨o, h1, h2⟩ := R.get i _ hd'
    cases h2
    exact de_var i hN hv h1 (h μ (Bs.refl b μ)) hd hcd
  · rename_i hd'
    obtain ⟨o, h1, h2⟩ := R.get i _ hd'
    cases h2
    exact de_var i hN hv h1 (h μ (Bs.refl b μ)) hd hcd
  · rename_i hd'
    obtain ⟨o, h1, h2⟩ := R.get i _ hd'
    cases h2
    exact de_var i hN hv h1 (h μ (Bs.refl b μ)) hd hcd
  · rename_i hd'
    obtain ⟨o, h1, h2⟩ := R.get i _ hd'
    cases h2
    exact de_var i hN hv h1 (h μ (Bs.refl b μ)) hd hcd
  · exact h.elim
theorem sv_e (h : SE b X x fx) : SV b X x (aE fx) := .mk fun μ0 E ρ μ Φ R q => h.run μ0 E ρ μ Φ R ((all_bind.mp q).imp fun d q => q)
theorem sa_nil : SA b X [] a0 := .mk fun μ0 E ρ μ Λ R h => da_nil (h μ (Bs.refl b μ))
theorem sa_cons (hx : SV b X x ga) (ht : SA b X es gs) (hs : starEach (x :: es) X.env = (false, eval x X.env) :: starEach es X.env := by rfl) : SA b X (x :: es) (aC ga gs) := .mk fun μ0 E ρ μ Λ R h =>
  da_cons (hx.run μ0 E ρ μ _ R ((all_bind.mp h).imp fun d q μ1 s1 => ht.run μ0 E ρ μ1 _ (R.step s1) ((all_bind.mp q).imp fun ds q μ2 s2 => q μ2 (s1.trans s2)))) hs
theorem sk_nil : SK b X [] a0 := .mk fun μ0 E ρ μ Λ R h => dk_nil (h μ (Bs.refl b μ))
theorem sk_cons {nm : Option Str} {kp : Pos} {ks : List Keyword} (hx : SV b X x ga) (ht : SK b X ks gs) : SK b X (⟨nm, x, kp⟩ :: ks) (aC ga gs) := .mk fun μ0 E ρ μ Λ R h =>
  dk_cons (hx.run μ0 E ρ μ _ R ((all_bind.mp h).imp fun d q μ1 s1 => ht.run μ0 E ρ μ1 _ (R.step s1) ((all_bind.mp q).imp fun ds q μ2 s2 => q μ2 (s1.trans s2))))
end
end Nx
namespace Nx
open PySem PySem.Spec PyProof.Rows L2
open Tree
def ent : W → W
  | .own _ => .d .none
  | .odc _ => .d .none
  | .cir _ => .d .none
  | .lc _ => .d .none
  | .ll _ => .d .none
  | w => w
def lenIs {α : Type} (n : Nat) (ws : List α) : Option Unit := if ws.length = n then some () else none
theorem lenIs_all {α : Type} {n : Nat} {ws : List α} {Q : Unit → Prop} (h : (liftO (lenIs n ws)).All Q) : ws.length = n ∧ Q () := by
  obtain ⟨a, h1, h2⟩ := lift_all h
  unfold lenIs at h1
  split at h1
  · exact ⟨‹_›, h2⟩
  · cases h1
def fnF (a n : Nat) (body : DenS) : List W → Tree PyData := fun ws => (liftO (lenIs a ws)).bind fun _ => (body (ws.map (fun w => some (ent w)) ++ List.replicate (n - a) none)).bind outV
def cF (F : List W → Tree PyData) : Ct := fun os μ Φ => ∃ b ws, os = ws.map (wo b) ∧ (∃ p q t, μ b = some (bx p q t)) ∧ (F ws).All (fun d => ∀ μ', Bs b μ μ' → Φ (.im d) μ')
section
variable {P : Program} {w : World} {K : PySem.W.Frag} {mg : Str → Option Value} {base : Heap}
theorem Fc.imp {k : Nat} {x : Str} {st : Stmt} {ps : List Str} {C C' : Ct} (F : Fc P w K mg base x st ps k C) (h : ∀ os μ Φ, C' os μ Φ → C os μ Φ) : Fc P w K mg base x st ps k C' := by
  obtain ⟨f, fd, a, b, c⟩ := F.ex
  refine ⟨⟨f, fd, a, b, ⟨fun vs H Q E ⟨os, μ, G, Φ, m, r, q, fi⟩ => c.len vs H Q E ⟨os, μ, G, Φ, m, r, h _ _ _ q, fi⟩, fun A outer s H args us vs Q E r e b v ⟨os, μ, G, Φ, m, r', q, fi⟩ => c.run A outer s H args us vs Q E r e b v ⟨os, μ, G, Φ, m, r', h _ _ _ q, fi⟩⟩⟩⟩
theorem rel_start {b : Addr} {μ : Mu} {ws : List W} (n : Nat) (hb : ∃ p q t, μ b = some (bx p q t)) : Rel b μ (ws.map (fun w => some (ent w)) ++ List.replicate n none) ((ws.map (wo b)).map some ++ List.replicate n none) μ := by
  have key : ∀ (i : Nat) v, (ws.map (fun w => some (ent w)) ++ List.replicate n none)[i]? = some (some v) → ∃ u, ws[i]? = some u ∧ v = ent u ∧ ((ws.map (wo b)).map some ++ List.replicate n none)[i]? = some (some (wo b u)) := fun i v h => by
    by_cases hi : i < ws.length
    · rw [List.getElem?_append_left (by simpa using hi), List.getElem?_map, List.getElem?_eq_getElem hi] at h
      cases h
      refine ⟨_, List.getElem?_eq_getElem hi, rfl, ?_⟩
      rw [List.getElem?_append_left (by simpa using hi), List.getElem?_map, List.getElem?_map, List.getElem?_eq_getElem hi]
      rfl
    · rw [List.getElem?_append_right (by simpa using hi), List.getElem?_replicate] at h
      split at h <;> cases h
  refine ⟨by simp, hb, hb, Bs.refl b μ, fun i v h => ?_, fun i j ds es p h _ _ _ => ?_, fun i j w w' p h _ t _ _ _ => ?_⟩
  · obtain ⟨u, hu, rfl, h2⟩ := key i v h
    refine ⟨_, h2, ?_⟩
    cases u <;> rfl
  · obtain ⟨u, hu, e, h2⟩ := key i _ h
    cases u <;> cases e
  · obtain ⟨u, hu, e, h2⟩ := key i _ h
    subst e
    cases u <;> cases t
theorem fc_body0 {k : Nat} {f : Addr} {x : Str} {st : Stmt} {fd : FuncData} {N ps : List Str} {body : DenS} (F : Fun K x x st f fd) (hm : mg x = some (.ref f)) (S : FnScope N ps (defScope st))
    (hB : ∀ (b : Addr) (cdv : Value) A outer s H E, Rm k (A.deeper (envOfC x (defScope st) s.heap.objs.size f cdv)) → SSs b (cxOf CX0 P w K mg base N x (defScope st) f cdv A outer s H E).nox (defBody st) body) : Fc P w K mg base x st ps (k + 1) (cF (fnF ps.length N.length body)) := by
  refine fc_of F hm S (fun os μ Φ h => ?_) fun cdv A outer s H E os μ Φ hr h => ?_
  · obtain ⟨b, ws, rfl, _, h⟩ := h
    rw [List.length_map]
    exact (lenIs_all (all_bind.mp h)).1
  · obtain ⟨b, ws, rfl, hb, h⟩ := h
    obtain ⟨hl, h⟩ := lenIs_all (all_bind.mp h)
    rw [List.length_map, hl]
    refine (hB b cdv A outer s H E hr).run μ _ _ μ _ (rel_start _ hb) ((all_bind.mp h).imp fun o q => ?_)
    cases o with
    | nx E' => exact fun ρ' μ' R => q μ' R.ext
    | rt v => exact fun μ' s => q μ' s
    | bk E' => exact q.elim
    | ct E' => exact q.elim
theorem fc_body {k a n : Nat} {f : Addr} {x : Str} {st : Stmt} {fd : FuncData} {N ps : List Str} (body : DenS) {m : List W → Tree PyData} (hM : m = fnF a n body) (F : Fun K x x st f fd) (hm : mg x = some (.ref f)) (S : FnScope N ps (defScope st)) (ha : ps.length = a) (hn : N.length = n)
    (hB : ∀ (b : Addr) (cdv : Value) A outer s H E, Rm k (A.deeper (envOfC x (defScope st) s.heap.objs.size f cdv)) → SSs b (cxOf CX0 P w K mg base N x (defScope st) f cdv A outer s H E).nox (defBody st) body) : Fc P w K mg base x st ps (k + 1) (cF m) := by
  subst hM ha hn
  exact fc_body0 F hm S hB
end
section
variable {b : Addr} {X : Cx} {e x y z : Expr} {es : List Expr} {f fx fy fz : DenE} {fs : DenL} {pos p : Pos} {ga : Env → Tree W} {gs : Env → Tree (List W)}
theorem se_call {F : List W → Tree PyData} {nm : Str} {st : Stmt} {ps : List Str} {k : Nat} (FC : Fc X.prog X.w X.K X.mg X.base nm st ps k (cF F)) (hr : Rm k X.A) (hg : Gl X nm)
    (hb : ∀ (kV doc pm : Value) (an : Option Addr) (cdv ct : Value) (us : List Value), us.length = ps.length → bindArgs (PySem.W.fnOf nm nm (defArgs st) (defBody st) (defScope st) .none kV doc pm an cdv ct) ⟨us, []⟩ = pure (ps.zip us))
    (ha : SA b X (x :: es) gs) (hdb : (nm == ("__debug__" : Str)) = false := by decide) (he : starEach (x :: es) X.env = (false, eval x X.env) :: starEach es X.env := by rfl) (hpl : (backTo pos (starEach es X.env)).any (·.1) = false := by rfl) : SE b X (.Call (.Name nm p) (x :: es) [] pos) (dCall F gs) := .mk fun μ0 E ρ μ Φ R h =>
  de_call FC hr hg hb (ha.run μ0 E ρ μ _ R ((all_bind.mp h).imp fun ws q μ1 s1 => ⟨b, ws, rfl, (R.step s1).bxs, q.imp fun d q μ2 s2 => q μ2 (s1.trans s2)⟩)) hdb he hpl
def dCallK (m : Nat) (ix : List Nat) (F : List W → Tree PyData) (fs : Env → Tree (List W)) : DenE := fun E => (fs E).bind fun ws => (liftO (lenIs m ws)).bind fun _ => F (pick ix ws)
theorem pick_map {α β : Type} (g : α → β) (l : List α) (ix : List Nat) : pick ix (l.map g) = (pick ix l).map g := by
  unfold pick
  rw [List.map_filterMap]
  congr 1
  funext i
  rw [List.getElem?_map]
theorem se_callK {F : List W → Tree PyData} {nm : Str} {st : Stmt} {ps : List Str} {k : Nat} {kws : List Keyword} (ks : List Str) (ix : List Nat) (FC : Fc X.prog X.w X.K X.mg X.base nm st ps k (cF F)) (hr : Rm k X.A) (hg : Gl X nm)
    (hb : ∀ (kV doc pm : Value) (an : Option Addr) (cdv ct : Value) (us : List Value), us.length = ks.length → bindArgs (PySem.W.fnOf nm nm (defArgs st) (defBody st) (defScope st) .none kV doc pm an cdv ct) ⟨[], ks.zip us⟩ = pure (ps.zip (pick ix us)))
    (ha : SK b X kws gs) (hall : (backToKw pos (keywordEach kws X.env)).all (·.1.isSome) = true := by rfl) (hks : (backToKw pos (keywordEach kws X.env)).filterMap (·.1) = ks := by rfl)
    (hpl : ((backTo pos (starEach [] X.env)).any (·.1) || (backToKw pos (keywordEach kws X.env)).any (·.1.isNone)) = false := by rfl) (hdb : (nm == ("__debug__" : Str)) = false := by decide) : SE b X (.Call (.Name nm p) [] kws pos) (dCallK ks.length ix F gs) := .mk fun μ0 E ρ μ Φ R h =>
  de_callK ks ix FC hr hg hb (ha.run μ0 E ρ μ _ R ((all_bind.mp h).imp fun ws q μ1 s1 => by
    obtain ⟨hl, q⟩ := lenIs_all (all_bind.mp q)
    exact ⟨by rw [List.length_map]; exact hl, b, pick ix ws, pick_map _ _ _, (R.step s1).bxs, q.imp fun d q μ2 s2 => q μ2 (s1.trans s2)⟩)) hall hks hpl hdb
def items : PyData → Option (List PyData)
  | .list xs => some xs
  | .tuple xs => some xs
  | _ => none
theorem items_seq {d : PyData} {xs : List PyData} (h : items d = some xs) : Seq xs (.im d) := by
  cases d <;> cases h
  · exact .lst
  · exact .tup
def rg1 : PyData → Option (List PyData)
  | .int j => if -100000 ≤ j ∧ j ≤ 100000 then some (nums j.toNat) else none
  | _ => none
def numsF (i : Int) (n : Nat) : List PyData := (List.range n).map fun (k : Nat) => .int (i + (k : Int))
def rg2 : PyData → PyData → Option (List PyData)
  | .int i, .int j => if -100000 ≤ i ∧ i ≤ 100000 ∧ -100000 ≤ j ∧ j ≤ 100000 then some (numsF i (j - i).toNat) else none
  | _, _ => none
def iS (f : DenE) : DenL := fun E => (f E).bind fun x => liftO (items x)
def iR1 (f : DenE) : DenL := fun E => (f E).bind fun x => liftO (rg1 x)
def iR2 (f g : DenE) : DenL := fun E => (f E).bind fun x => (g E).bind fun y => liftO (rg2 x y)
def wEn (f : DenE) : DenL := fun E => (f E).bind fun x => (liftO (items x)).bind fun xs => .ret (prs (nums xs.length) xs)
def wZ2 (f g : DenE) : DenL := fun E => (f E).bind fun x => (g E).bind fun y => (liftO (items x)).bind fun xs => (liftO (items y)).bind fun ys => .ret (prs xs ys)
def wZ3 (f g h : DenE) : DenL := fun E => (f E).bind fun x => (g E).bind fun y => (h E).bind fun z => (liftO (items x)).bind fun xs => (liftO (items y)).bind fun ys => (liftO (items z)).bind fun zs => .ret (trs xs ys zs)
variable {tg : Expr}
theorem si_seq (hx : SE b X x fx) : SI b X tg x (iS fx) := .mk fun μ0 E ρ μ Ψ R h =>
  di_seq (hx.run μ0 E ρ μ _ R ((all_bind.mp h).imp fun d q μ1 s1 => let ⟨xs, hxs, q⟩ := lift_all q; ⟨xs, items_seq hxs, q μ1 s1⟩))
theorem si_r1 (B : Bt X.mg) (hg : Gl X "range") (hx : SE b X x fx) (he : starEach [x] X.env = (false, eval x X.env) :: starEach [] X.env := by rfl) : SI b X tg (.Call (.Name "range" p) [x] [] pos) (iR1 fx) := .mk fun μ0 E ρ μ Ψ R h =>
  di_range1 B hg (hx.run μ0 E ρ μ _ R ((all_bind.mp h).imp fun d q μ1 s1 => by
    obtain ⟨xs, hxs, q⟩ := lift_all q
    cases d with
    | int j =>
      simp only [rg1] at hxs
      split at hxs
      · rename_i hj
        cases hxs
        refine ⟨j, rfl, hj.1, hj.2, ?_⟩
        have := q μ1 s1
        unfold nums at this
        rw [List.map_map] at this
        exact this
      · cases hxs
    | _ => cases hxs)) he
theorem si_r2 (B : Bt X.mg) (hg : Gl X "range") (hx : SE b X x fx) (hy : SE b X y fy) (he : starEach [x, y] X.env = (false, eval x X.env) :: starEach [y] X.env := by rfl) (he2 : starEach [y] X.env = (false, eval y X.env) :: starEach [] X.env := by rfl) : SI b X tg (.Call (.Name "range" p) [x, y] [] pos) (iR2 fx fy) := .mk fun μ0 E ρ μ Ψ R h =>
  di_range2 B hg (hx.run μ0 E ρ μ _ R ((all_bind.mp h).imp fun d q μ1 s1 => hy.run μ0 E ρ μ1 _ (R.step s1) ((all_bind.mp q).imp fun d' q μ2 s2 => by
    obtain ⟨xs, hxs, q⟩ := lift_all q
    cases d with
    | int i =>
      cases d' with
      | int j =>
        simp only [rg2] at hxs
        split at hxs
        · rename_i hj
          cases hxs
          refine ⟨i, j, rfl, rfl, hj.1, hj.2.1, hj.2.2.1, hj.2.2.2, ?_⟩
          have := q μ2 (s1.trans s2)
          unfold numsF at this
          rw [List.map_map] at this
          exact this
        · cases hxs
      | _ => cases hxs
    | _ => cases hxs))) he he2
theorem si_z2 {elts : List Expr} {kk : Nat} {tpos : Pos} (B : Bt X.mg) (hg : Gl X "zip") (hx : SE b X x fx) (hy : SE b X y fy) (he : starEach [x, y] X.env = (false, eval x X.env) :: starEach [y] X.env := by rfl) (he2 : starEach [y] X.env = (false, eval y X.env) :: starEach [] X.env := by rfl) (hpl : (backTo pos (starEach [y] X.env)).any (·.1) = false := by rfl) : SI b X (.Tuple elts kk tpos) (.Call (.Name "zip" p) [x, y] [] pos) (wZ2 fx fy) := .mk fun μ0 E ρ μ Ψ R h =>
  di_zip2 B hg (hx.run μ0 E ρ μ _ R ((all_bind.mp h).imp fun d q μ1 s1 => hy.run μ0 E ρ μ1 _ (R.step s1) ((all_bind.mp q).imp fun d' q μ2 s2 => by
    obtain ⟨xs, hxs, q⟩ := lift_all (all_bind.mp q)
    obtain ⟨ys, hys, q⟩ := lift_all (all_bind.mp q)
    exact ⟨xs, ys, items_seq hxs, items_seq hys, q μ2 (s1.trans s2)⟩))) he he2 hpl
theorem Bs.del {μ μ' : Mu} {D : Addr} (h : Bs b μ μ') (hD : μ D = none) (hb : D ≠ b) : Bs b μ (μ'.del D) :=
  ⟨fun a l n e => (if_neg (ne_own e hD)).trans (h.old a l n e), fun p q t e => let ⟨p', q', t', e'⟩ := h.box p q t e; ⟨p', q', t', (if_neg fun z => hb z.symm).trans e'⟩, h.thg, h.cls⟩
variable {iter elt c : Expr} {scope : Scope} {fi : DenL} {fb : DenB}
theorem lc_sound {t : Tgt} {vs : List Nat} {E : Env} {ρ : Rho} {μ μ1 μ0 : Mu} {xs : List PyData} {done : List OV → Mu → Prop} (R : Rel b μ0 E ρ μ) (s1 : Bs b μ μ1) (he : ∀ s H C cl fp, SE b (Blk X scope s H C cl fp) elt fx) (hz : xs.length ≤ 50000)
    (q : (mapT (fun x => (liftO (putE t x (wipeE E vs))).bind fx) xs).All fun ys => ∀ μ', Bs b μ μ' → done (ys.map .im) μ') : LcD X scope [] elt t vs ρ ⟨xs.map .im, fun _ => True⟩ μ1 done := by
  refine ⟨fun i acc μ' => Bs b μ μ' ∧ ∃ ds : List PyData, acc = ds.map .im ∧ (mapT (fun x => (liftO (putE t x (wipeE E vs))).bind fx) (xs.drop i)).All fun ys => ∀ μ'', Bs b μ μ'' → done ((ds ++ ys).map .im) μ'', by simpa using hz, ⟨s1, [], rfl, q⟩, fun _ _ _ _ _ _ => trivial, fun acc μ' ⟨s, ds, ha, h⟩ => ?_, fun i acc μ' o ho ⟨s, ds, ha, h⟩ => ?_⟩
  · rw [List.drop_eq_nil_of_le (by simp)] at h
    have := h μ' s
    rw [List.append_nil] at this
    rw [ha]
    exact this
  · dsimp only at ho
    rw [List.getElem?_map] at ho
    cases hx : xs[i]? with
    | none =>
      rw [hx] at ho
      cases ho
    | some x =>
      rw [hx] at ho
      cases ho
      obtain ⟨hi, rfl⟩ := List.getElem?_eq_some_iff.mp hx
      rw [List.drop_eq_getElem_cons hi, mapT] at h
      obtain ⟨E', hE, h⟩ := lift_all (all_bind.mp (all_bind.mp h))
      obtain ⟨ρ', hp, _⟩ := ((R.step s).wipes vs).putT hE
      refine ⟨ρ', hp, fun Dl hD => ?_⟩
      dsimp only [DTb]
      rw [if_pos rfl]
      intro s' H C cl fp
      have s2 : Bs b μ (μ'.put Dl acc) := s.trans (Bs.put hD)
      obtain ⟨ρ2, hp2, R2⟩ := ((R.step s2).wipes vs).putT hE
      rw [hp] at hp2
      cases hp2
      have nb : Dl ≠ b := fun z => by
        obtain ⟨u, q, t, e⟩ := (R.step s).bxs
        rw [z, e] at hD
        cases hD
      refine (he s' H C cl fp).run μ0 E' ρ' _ _ R2 (h.imp fun y h μ3 s3 => ?_)
      obtain ⟨pb1, pb2⟩ := put_back (s3.old Dl acc nb put_same)
      refine ⟨μ3.del Dl, pb1, pb2, (s2.trans s3).del ?_ nb, ds ++ [y], by rw [ha, List.map_append]; rfl, (all_bind.mp h).imp fun ys h => ?_⟩
      · cases z : μ Dl with
        | none => rfl
        | some l =>
          rw [s.old Dl l nb z] at hD
          cases hD
      · rw [List.append_assoc]
        exact h
theorem se_lc {own : List (Str × Nat)} (t : Tgt) (hc : X.calm = true) (hN : X.N.Nodup) (ok : BlkOk X.N X.env.scope scope own) (hs : ∀ i ∈ t.slots, i ∈ own.map (·.2))
    (hg : ∀ s H C cl fp, PG (Blk X scope s H C cl fp) tg (TgtG X.K t)) (hi : SI b X tg iter fi) (he : ∀ s H C cl fp, SE b (Blk X scope s H C cl fp) elt fx) (hf : ∀ x, foldedSetIterable iter X.env x = pure x := by intro _; rfl) : SE b X (.ListComp elt [⟨tg, iter, [], 0⟩] scope pos) (dLc t (own.map (·.2)) fi fx) := .mk fun μ0 E ρ μ Φ R h =>
  de_lc t hc hN ok hs hg (hi.run μ0 E ρ μ _ R ((all_bind.mp h).imp fun xs q μ1 s1 => by
    obtain ⟨hz, q⟩ := few_le (all_bind.mp q)
    exact lc_sound R s1 he hz ((all_bind.mp q).imp fun ys q μ' s => ⟨ys, rfl, q μ' s⟩))) hf
end
end Nx
namespace Nx
open PySem PySem.Spec PyProof.Rows L2
open Tree
section
variable {b : Addr} {X : Cx} {e x y z tg iter elt c : Expr} {es : List Expr} {f fx fy fz : DenE} {fs fi : DenL} {fb : DenB} {pos p : Pos} {st : Stmt} {ss : List Stmt} {g h : DenS} {scope : Scope}
theorem ss_nil : SSs b X [] s0 := .mk fun μ0 E ρ μ D R q => dss_nil (q ρ μ R)
theorem ss_one (hs : SS b X st g) : SSs b X [st] g := .mk fun μ0 E ρ μ D R q => dss_one (hs.run μ0 E ρ μ D R q)
theorem ss_cons (hs : SS b X st g) (ht : SSs b X ss h) : SSs b X (st :: ss) (sC g h) := .mk fun μ0 E ρ μ D R q =>
  dss_cons (hs.run μ0 E ρ μ _ R ((all_bind.mp q).imp fun o q => by
    cases o with
    | nx E' => exact fun ρ' μ' R' => ht.run μ0 E' ρ' μ' D R' q
    | rt v => exact q
    | bk E' => exact q
    | ct E' => exact q))
theorem ss_frz (i : Nat) (ht : SSs b X ss h) : SSs b X ss (sFrz i h) := .mk fun μ0 E ρ μ D R q => by
  unfold sFrz frzE at q
  split at q
  · rename_i l hl
    obtain ⟨o, h1, p, rfl, _, _, hp⟩ := R.get i _ hl
    exact dss_frz h1 hp (ht.run μ0 _ _ _ D (R.frz hl h1) q)
  · exact ht.run μ0 E ρ μ D R q
theorem ss_ret (hx : SE b X x fx) : SS b X (.Return (some x) pos) (sRet fx) := .mk fun μ0 E ρ μ D R q =>
  ds_ret (hx.run μ0 E ρ μ _ R ((all_bind.mp q).imp fun d q μ1 s1 => q μ1 (R.ext.trans s1)))
theorem ss_if {s1 s2 : List Stmt} (hc : ST b X c fb) (h1 : SSs b X s1 g) (h2 : SSs b X s2 h) : SS b X (.If c s1 s2 pos) (sIf fb g h) := .mk fun μ0 E ρ μ D R q =>
  ds_if (hc.run μ0 E ρ μ _ R ((all_bind.mp q).imp fun k q μ1 s1 => by
    cases k with
    | true =>
      rw [if_pos rfl]
      exact h1.run μ0 E ρ μ1 D (R.step s1) q
    | false =>
      rw [if_neg (by decide)]
      exact h2.run μ0 E ρ μ1 D (R.step s1) q))
theorem ss_set (i : Nat) {n : Str} {p' : Pos} (hN : X.N.Nodup) (hi : X.N[i]? = some n) (hl : Loc X.env.scope n) (hx : SE b X x fx) (hs : swapsWith x (some (.Name n p')) pos.line X.env = pure false := by rfl)
    (hf : X.fn n = true ∨ X.env.scope.names.lookup n = some .local := by first | exact .inl rfl | exact .inr rfl | assumption) : SS b X (.Assign [.Name n p'] x pos) (sSet i fx) := .mk fun μ0 E ρ μ D R q =>
  ds_set i hN hi hl (hx.run μ0 E ρ μ _ R ((all_bind.mp q).imp fun d q μ1 s1 => q _ μ1 ((R.step s1).setD i d))) hs hf
theorem ss_asg (t : Tgt) (hg : PG X tg (TgtG X.K t)) (hx : SE b X x fx) (hs : swapsWithSole [tg] x pos.line X.env = pure false := by rfl) (hw : swappedStores [tg] x X.env = pure none := by rfl)
    (h1 : (assignEach [tg] X.env).map (·.2) = [assign tg X.env] := by rfl) : SS b X (.Assign [tg] x pos) (sAsg t fx) := .mk fun μ0 E ρ μ D R q =>
  ds_asg t hg (hx.run μ0 E ρ μ _ R ((all_bind.mp q).imp fun d q μ1 s1 => by
    obtain ⟨E', hE, q⟩ := lift_all (all_bind.mp q)
    obtain ⟨ρ', hp, R'⟩ := (R.step s1).putT hE
    exact ⟨ρ', hp, q ρ' μ1 R'⟩)) hs hw h1
theorem lC_all {fx : DenE} {fs : DenL} {E : Env} {Q : List PyData → Prop} (h : (lC fx fs E).All Q) : (fx E).All fun d => (fs E).All fun ds => Q (d :: ds) := (all_bind.mp h).imp fun d q => (all_bind.mp q).imp fun ds q => q
theorem lC_mk {fx : DenE} {fs : DenL} {E : Env} {Q : List PyData → Prop} (h : (fx E).All fun d => (fs E).All fun ds => Q (d :: ds)) : (lC fx fs E).All Q := all_bind.mpr (h.imp fun d q => all_bind.mpr (q.imp fun ds q => q))
theorem ss_par (i j : Nat) {n m : Str} {px py pt : Pos} {kt k2 pt2} (hc : X.calm = true) (hN : X.N.Nodup) (hi : X.N[i]? = some n) (hj : X.N[j]? = some m) (hij : i ≠ j)
    (hx : X.env.scope.names.lookup n = some .local) (hy : X.env.scope.names.lookup m = some .local) (hw : swappedStores [.Tuple [.Name n px, .Name m py] kt pt] (.Tuple [x, y] k2 pt2) X.env = pure (some [n, m]))
    (ha : SD b X [x, y] (lC fx (lC fy l0)))
    (hs : swapsWithSole [.Tuple [.Name n px, .Name m py] kt pt] (.Tuple [x, y] k2 pt2) pos.line X.env = pure false := by rfl) : SS b X (.Assign [.Tuple [.Name n px, .Name m py] kt pt] (.Tuple [x, y] k2 pt2) pos) (sPar [i, j] (lC fx (lC fy l0))) := .mk fun μ0 E ρ μ D R q =>
  ds_par i j hc hN hi hj hij hx hy hw (ha.run μ0 E ρ μ _ R (by
    have q := lC_all (all_bind.mp q)
    refine lC_mk (q.imp fun d q => lC_mk ((lC_all q).imp fun d' q => fun μ1 s1 => ?_))
    exact ⟨_, _, rfl, q _ μ1 (((R.step s1).setD i d).setD j d')⟩)) hs
theorem ss_for {body : List Stmt} (t : Tgt) (hp : PassesOwn (model X.prog X.w) X.A X.env X.xe) (hc : X.calm = true) (hg : PG X tg (TgtG X.K t)) (hi : SI b X tg iter fi) (hb : SSs b X body g)
    (hs : ∀ x, foldedSetIterable iter X.env x = pure x := by intro _; rfl) : SS b X (.For tg iter body [] pos) (sFor t fi g) := .mk fun μ0 E ρ μ D R q =>
  ds_for t hp hc hg (hi.run μ0 E ρ μ _ R ((all_bind.mp q).imp fun xs q μ1 s1 => by
    refine ⟨fun i ρ' μ' => ∃ E', Rel b μ0 E' ρ' μ' ∧ (forT t g (xs.drop i) E').All (OutOk b μ0 D), ⟨E, R.step s1, q⟩, fun _ _ _ _ => trivial, fun i z ρ' μ' hz hP => ?_, fun ρ' μ' hP => ?_⟩
    · obtain ⟨E', R', q⟩ := hP
      dsimp only at hz
      rw [List.getElem?_map] at hz
      cases hx : xs[i]? with
      | none =>
        rw [hx] at hz
        cases hz
      | some x =>
        rw [hx] at hz
        cases hz
        obtain ⟨hi, rfl⟩ := List.getElem?_eq_some_iff.mp hx
        rw [List.drop_eq_getElem_cons hi, forT] at q
        obtain ⟨E2, hE, q⟩ := lift_all (all_bind.mp q)
        obtain ⟨ρ2, hp2, R2⟩ := R'.putT hE
        refine ⟨ρ2, hp2, hb.run μ0 E2 ρ2 μ' _ R2 ((all_bind.mp q).imp fun o q => ?_)⟩
        cases o with
        | nx E3 => exact fun ρ3 μ3 R3 => ⟨E3, R3, q⟩
        | ct E3 => exact fun ρ3 μ3 R3 => ⟨E3, R3, q⟩
        | bk E3 => exact fun ρ3 μ3 R3 => q ρ3 μ3 R3
        | rt v => exact q
    · obtain ⟨E', R', q⟩ := hP
      dsimp only at q
      rw [List.length_map, List.drop_length] at q
      exact q ρ' μ' R')) hs
structure SO (b : Addr) (X : Cx) (e : Expr) (f : DenE) : Prop where
  run : ∀ μ0 E ρ μ Φ, Rel b μ0 E ρ μ → (f E).All (fun d => ∃ ds, d = .list ds ∧ ∀ μ' p, Bs b μ μ' → μ' p = none → Φ (.own p) (μ'.put p (ds.map .im))) → DE X e ρ μ Φ
theorem so_lst (h : SD b X es fs) : SO b X (.List es pos) (dL fs) := .mk fun μ0 E ρ μ Φ R q =>
  de_lstO (h.run μ0 E ρ μ _ R ((all_bind.mp q).imp fun ds q μ1 s1 => by
    obtain ⟨hz, xs, e, q⟩ := small_le (all_bind.mp q)
    cases e
    exact ⟨by rw [List.length_map]; exact hz, fun p hp => q μ1 p s1 hp⟩))
theorem ss_own (i : Nat) {n : Str} {p' : Pos} (hN : X.N.Nodup) (hi : X.N[i]? = some n) (hl : Loc X.env.scope n) (hx : SO b X x fx) (hs : swapsWith x (some (.Name n p')) pos.line X.env = pure false := by rfl)
    (hf : X.fn n = true ∨ X.env.scope.names.lookup n = some .local := by first | exact .inl rfl | exact .inr rfl | assumption) : SS b X (.Assign [.Name n p'] x pos) (sOwn i fx) := .mk fun μ0 E ρ μ D R q =>
  ds_set i hN hi hl (hx.run μ0 E ρ μ _ R ((all_bind.mp q).imp fun d q => by
    cases d with
    | list xs => exact ⟨xs, rfl, fun μ' p s hp => q _ _ ((R.step s).setO i hp)⟩
    | _ => exact q.elim)) hs hf
theorem ss_app (i : Nat) {n : Str} {np apos cpos : Pos} (hN : X.N[i]? = some n) (hv : Vis X.env.scope n) (hx : SE b X x fx) (hd : (n == ("__debug__" : Str)) = false := by decide) (hcd : (n == ("__classdict__" : Str)) = false := by decide)
    (hbase : attributeBase (.Name n np) "append" X.env (eval (.Name n np) X.env) = eval (.Name n np) X.env := by rfl)
    (hfew : ((backTo cpos (starEach [x] X.env)).all (fun x => !x.1) && (backToKw cpos (keywordEach [] X.env)).all (fun x => x.1.isSome) && decide ([x].length + ([] : List Keyword).length + (if ([] : List Keyword).isEmpty then 0 else 1) < 30)) = true := by rfl)
    (hline : (apos.endLine == cpos.line) = true := by rfl) (hst : starEach [x] X.env = (false, eval x X.env) :: starEach [] X.env := by rfl) (hplain : (backTo cpos (starEach [] X.env)).any (·.1) = false := by rfl)
    (hs : swapsWith (.Call (.Attribute (.Name n np) "append" apos) [x] [] cpos) none pos.line X.env = pure false := by rfl) : SS b X (.Expr (.Call (.Attribute (.Name n np) "append" apos) [x] [] cpos) pos) (sApp i fx) := .mk fun μ0 E ρ μ D R q => by
  unfold sApp at q
  split at q
  · rename_i l hl
    obtain ⟨o, h1, p, rfl, nb, h0, hp⟩ := R.get i _ hl
    refine ds_expr (de_append (de_var i hN hv h1 ⟨p, _, rfl, hp, hx.run μ0 E ρ μ _ R ((all_bind.mp q).imp fun y q μ2 s2 => ?_)⟩ hd hcd) hbase hfew hline hst hplain) hs
    obtain ⟨hz, q⟩ := small_le (all_bind.mp q)
    refine ⟨_, s2.old p _ nb hp, by rw [List.length_map]; omega, ?_⟩
    have := q ρ _ ((R.step s2).chg (es := l ++ [y]) hl h1)
    rw [List.map_append] at this
    exact this
  · exact q.elim
end
end Nx
namespace Nx
open PySem PySem.Spec PyProof.Rows L2
open Tree
instance {i j : Int} : Decidable (CMul i j) := by unfold CMul; infer_instance
instance {i j : Int} : Decidable (CDiv i j) := by unfold CDiv; infer_instance
instance {i j : Int} : Decidable (CPow i j) := by unfold CPow; infer_instance
def pAdd : PyData → PyData → Option PyData
  | .int i, .int j => some (.int (i + j))
  | .list xs, .list ys => if xs.length + ys.length ≤ 100000 then some (.list (xs ++ ys)) else none
  | .tuple xs, .tuple ys => if xs.length + ys.length ≤ 100000 then some (.tuple (xs ++ ys)) else none
  | .str x, .str y => if x.length + y.length ≤ 100000 then some (.str (x ++ y)) else none
  | _, _ => none
def pSub : PyData → PyData → Option PyData
  | .int i, .int j => some (.int (i - j))
  | _, _ => none
def pMod : PyData → PyData → Option PyData
  | .int i, .int j => if 0 < j then some (.int (i % j)) else none
  | _, _ => none
def pMul : PyData → PyData → Option PyData
  | .int i, .int j => if CMul i j then some (.int (i * j)) else none
  | .list xs, .int k => if -100000 ≤ k ∧ k ≤ 100000 ∧ xs.length * k.toNat ≤ 100000 then some (.list (List.replicate k.toNat xs).flatten) else none
  | .tuple xs, .int k => if xs ≠ [] ∧ 1 ≤ k ∧ k ≤ 1000 ∧ xs.length ≤ 1000 then some (.tuple (List.replicate k.toNat xs).flatten) else none
  | _, _ => none
def pNeg : PyData → Option PyData
  | .int i => some (.int (-i))
  | _ => none
section
variable {b : Addr} {X : Cx} {e x y z : Expr} {es : List Expr} {f fx fy fz : DenE} {fs fi : DenL} {fb : DenB} {pos p : Pos}
theorem od_catT {xs ys : List PyData} {μ : Mu} {Φ : OV → Mu → Prop} (hz : xs.length + ys.length ≤ 100000) (h : Φ (.im (.tuple (xs ++ ys))) μ) : OpD (rCatA X.K) (.im (.tuple xs)) (.im (.tuple ys)) μ Φ := fun G H vx vy m rx ry Q f => by
  cases rx with
  | tup h1 w1 =>
    cases ry with
    | tup h2 w2 =>
      refine ⟨_, _, _, _, rfl, rfl, .inl (.inl (m.ex _ _ h1)), .inl (.inl (m.ex _ _ h2)), by rw [w1.length, w2.length]; exact Nat.le_trans hz (by decide), fun e => ?_, fun _ e => ?_, fun _ _ p hp => ?_⟩
      · subst e
        cases w1
        exact f _ _ _ _ _ h (Ex.refl G) m (Dv.tup h2 w2)
      · subst e
        cases w2
        rw [List.append_nil] at h
        exact f _ _ _ _ _ h (Ex.refl G) m (Dv.tup h1 w1)
      · have n := m.ex.free hp
        exact f _ _ _ _ _ h (Ex.new n) (m.lay hp) (Dv.tup upd_same ((w1.append w2).mono (Ex.new n)))
theorem se_add (hx : SE b X x fx) (hy : SE b X y fy) : SE b X (.BinOp x .Add y pos) (d2 pAdd fx fy) := by
  refine se_op (((op_add.or op_cat).or op_add_str).or op_catA) (fun d d' v μ Φ hg q => ?_) hx hy
  unfold pAdd at hg
  split at hg
  · cases hg
    exact .or (.inl (.or (.inl (.or (.inl (od_I0 q))))))
  · split at hg
    · rename_i hz
      cases hg
      exact .or (.inl (.or (.inl (.or (.inr (od_cat hz q))))))
    · cases hg
  · split at hg
    · rename_i hz
      cases hg
      exact .or (.inr (od_catT hz q))
    · cases hg
  · split at hg
    · rename_i hz
      cases hg
      refine .or (.inl (.or (.inr fun G H vx vy m rx ry Q f => ?_)))
      cases rx
      cases ry
      exact ⟨_, _, rfl, rfl, Nat.le_trans hz (by decide), f _ _ _ _ _ q (Ex.refl G) m (Dv.str _)⟩
    · cases hg
  · cases hg
theorem se_sub (hx : SE b X x fx) (hy : SE b X y fy) : SE b X (.BinOp x .Sub y pos) (d2 pSub fx fy) := by
  refine se_op op_sub (fun d d' v μ Φ hg q => ?_) hx hy
  unfold pSub at hg
  split at hg
  · cases hg
    exact od_I0 q
  · cases hg
theorem se_mod (hx : SE b X x fx) (hy : SE b X y fy) : SE b X (.BinOp x .Mod y pos) (d2 pMod fx fy) := by
  refine se_op op_mod (fun d d' v μ Φ hg q => ?_) hx hy
  unfold pMod at hg
  split at hg
  · split at hg
    · rename_i hj
      cases hg
      exact od_I hj q
    · cases hg
  · cases hg
theorem rep_dv {G : Hp} {ds : List PyData} : ∀ (n : Nat) {xs : List V}, DvA G xs ds → DvA G (List.replicate n xs).flatten (List.replicate n ds).flatten := by
  intro n xs w
  induction n with
  | zero => exact .nil
  | succ n ih =>
    rw [List.replicate_succ, List.replicate_succ, List.flatten_cons, List.flatten_cons]
    exact w.append ih
theorem se_mul (hx : SE b X x fx) (hy : SE b X y fy) : SE b X (.BinOp x .Mult y pos) (d2 pMul fx fy) := by
  refine se_op (((op_mul.or op_rep).or op_repT).or op_repT1) (fun d d' v μ Φ hg q => ?_) hx hy
  unfold pMul at hg
  split at hg
  · split at hg
    · rename_i hj
      cases hg
      exact .or (.inl (.or (.inl (.or (.inl (od_I hj q))))))
    · cases hg
  · split at hg
    · rename_i hj
      cases hg
      refine .or (.inl (.or (.inl (.or (.inr fun G H vx vy m rx ry Q f => ?_)))))
      cases ry
      cases rx with
      | lst h1 w1 =>
        refine ⟨_, _, _, rfl, rfl, m.ex _ _ h1, by omega, by omega, by rw [w1.length]; exact Nat.le_trans hj.2.2 (by decide), fun p hp => ?_⟩
        have n := m.ex.free hp
        exact f _ _ _ _ _ q (Ex.new n) (m.lay hp) (Dv.lst upd_same ((rep_dv _ w1).mono (Ex.new n)))
    · cases hg
  · split at hg
    · rename_i xs k hj
      cases hg
      by_cases hk : k = 1
      · subst hk
        refine .or (.inr fun G H vx vy m rx ry Q f => ?_)
        have e1 : (List.replicate (1 : Int).toNat xs).flatten = xs := by
          show [xs].flatten = xs
          simp
        rw [e1] at q
        have rx : Dv G vx (.tuple xs) := rx
        cases ry
        cases rx with
        | tup h1 w1 => exact ⟨_, _, rfl, rfl, .inl (.inl (m.ex _ _ h1)), f _ _ _ _ _ q (Ex.refl G) m (Dv.tup h1 w1)⟩
      · refine .or (.inl (.or (.inr fun G H vx vy m rx ry Q f => ?_)))
        cases ry
        cases rx with
        | tup h1 w1 =>
          refine ⟨_, _, _, rfl, rfl, .inl (.inl (m.ex _ _ h1)), fun e => hj.1 (by have := w1.length; rw [e] at this; exact List.length_eq_zero_iff.mp this.symm), by omega, hj.2.2.1, by rw [w1.length]; exact hj.2.2.2, fun p hp => ?_⟩
          have n := m.ex.free hp
          exact f _ _ _ _ _ q (Ex.new n) (m.lay hp) (Dv.tup upd_same ((rep_dv _ w1).mono (Ex.new n)))
    · cases hg
  · cases hg
theorem se_neg (hx : SE b X x fx) : SE b X (.UnaryOp .USub x pos) (d1 pNeg fx) := se_1 hx fun ρ μ Φ h => de_neg (h.imp fun u μ1 ⟨d, r, e1, hr, q⟩ => by
  subst e1
  cases d <;> cases hr
  exact ⟨_, rfl, q⟩)
def cI (g : Int → Int → Bool) : PyData → PyData → Option Bool
  | .int i, .int j => some (g i j)
  | _, _ => none
theorem okI {g : Int → Int → Bool} : OkCmp (rI0 fun i j => .bl (g i j)) (cI g) := fun d d' v μ Φ hg q => by
  unfold cI at hg
  split at hg
  · cases hg
    exact od_B0 q
  · cases hg
def pEq (d e : PyData) : Option Bool := match d, e with
  | .int i, .int j => some (decide (i = j))
  | .str i, .str j => some (decide (i = j))
  | d, e => if SeqAt.shaped d && SeqAt.shaped e then some (PyData.eqv d e) else none
def pNe (d e : PyData) : Option Bool := match pEq d e with
  | some k => some !k
  | none => none
theorem ok_eq : OkCmp (fun x y H Q => (rI0 (fun i j => .bl (decide (i = j))) x y H Q ∨ rEqD X.K x y H Q) ∨ rEq x y H Q) pEq := fun d d' v μ Φ hg q => by
  unfold pEq at hg
  split at hg
  · cases hg
    exact .or (.inl (.or (.inl (od_B0 q))))
  · cases hg
    exact .or (.inr (od_eqS q))
  · split at hg
    · rename_i hs
      cases hg
      obtain ⟨h1, h2⟩ := Bool.and_eq_true_iff.mp hs
      exact .or (.inl (.or (.inr (od_eq (.im _) (.im _) h1 h2 q))))
    · cases hg
theorem ok_ne : OkCmp (fun x y H Q => (rI0 (fun i j => .bl (!decide (i = j))) x y H Q ∨ rNeD X.K x y H Q) ∨ rNe x y H Q) pNe := fun d d' v μ Φ hg q => by
  unfold pNe at hg
  split at hg
  · rename_i k hk
    cases hg
    unfold pEq at hk
    split at hk
    · cases hk
      exact .or (.inl (.or (.inl (od_B0 q))))
    · cases hk
      exact .or (.inr (od_neS q))
    · split at hk
      · rename_i hs
        cases hk
        obtain ⟨h1, h2⟩ := Bool.and_eq_true_iff.mp hs
        exact .or (.inl (.or (.inr (od_ne (.im _) (.im _) h1 h2 q))))
      · cases hk
  · cases hg
def asI : List PyData → Option (List Int)
  | [] => some []
  | .int i :: ds => match asI ds with
    | some is => some (i :: is)
    | none => none
  | _ :: _ => none
theorem asI_some : ∀ {ds : List PyData} {is : List Int}, asI ds = some is → ds = iL is
  | [], _, h => by cases h; rfl
  | .int i :: ds, is, h => by
    rw [asI] at h
    split at h
    · rename_i js hj
      cases h
      rw [asI_some hj]
      rfl
    · cases h
  | .none :: _, _, h => by cases h
  | .bool _ :: _, _, h => by cases h
  | .str _ :: _, _, h => by cases h
  | .list _ :: _, _, h => by cases h
  | .tuple _ :: _, _, h => by cases h
  | .dict _ :: _, _, h => by cases h
theorem asI_iL : ∀ is : List Int, asI (iL is) = some is
  | [] => rfl
  | i :: is => by
    show (match asI (iL is) with | some is => some (i :: is) | none => none) = _
    rw [asI_iL is]
def pIsN (d : PyData) : Option PyData := some (.bool (match d with | .none => true | _ => false))
def pNotN (d : PyData) : Option PyData := some (.bool (match d with | .none => false | _ => true))
theorem isNon_im (d : PyData) : isNon (.im d) = (match d with | .none => true | _ => false) := by cases d <;> rfl
def t1 (g : PyData → Option Bool) (f : DenE) : DenB := fun E => (f E).bind fun x => liftO (g x)
def qIsN (d : PyData) : Option Bool := some (match d with | .none => true | _ => false)
def qNotN (d : PyData) : Option Bool := some (match d with | .none => false | _ => true)
theorem st_isN {j : Nat} {p' : Pos} (hx : SE b X x fx) : ST b X (.Compare x [.Is] [.Constant .none j p'] pos) (t1 qIsN fx) := .mk fun μ0 E ρ μ Φ R h =>
  dt_isN (hx.run μ0 E ρ μ _ R ((all_bind.mp h).imp fun d q μ1 s1 => by rw [isNon_im]; exact q μ1 s1))
def dCh (p p' : Int → Int → Bool) (f g h : DenE) : DenE := fun E => (f E).bind fun x => (g E).bind fun y => match x, y with
  | .int i, .int j => (match p i j with
    | true => (h E).bind fun z => match z with | .int k => .ret (.bool (p' j k)) | _ => .fail
    | false => .ret (.bool false))
  | _, _ => .fail
theorem se_chain {op op' : CmpOp} {p p' : Int → Int → Bool} (ho : OpR X (compareOp op) (rI0 fun i j => .bl (p i j))) (ho' : OpR X (compareOp op') (rI0 fun i j => .bl (p' i j))) (hx : SE b X x fx) (hy : SE b X y fy) (hz : SE b X z fz)
    (hm : lastMarks [op, op'] [y, z] = false := by with_unfolding_all rfl) : SE b X (.Compare x [op, op'] [y, z] pos) (dCh p p' fx fy fz) := .mk fun μ0 E ρ μ Φ R h =>
  de_chain ho ho' (hx.run μ0 E ρ μ _ R ((all_bind.mp h).imp fun d q μ1 s1 => hy.run μ0 E ρ μ1 _ (R.step s1) ((all_bind.mp q).imp fun d' q μ2 s2 => by
    split at q
    · refine ⟨_, _, rfl, rfl, ?_⟩
      split at q
      · rename_i hp
        rw [if_pos hp]
        refine hz.run μ0 E ρ μ2 _ ((R.step s1).step s2) ((all_bind.mp q).imp fun d3 q μ3 s3 => ?_)
        split at q
        · exact ⟨_, rfl, q μ3 ((s1.trans s2).trans s3)⟩
        · exact q.elim
      · rename_i hp
        rw [if_neg (by rw [hp]; decide)]
        exact q μ2 (s1.trans s2)
    · exact q.elim))) hm
end
end Nx
namespace Nx
open PySem PySem.Spec PyProof.Rows L2
open Tree
def pLen (d : PyData) : Option PyData := match items d with | some xs => some (.int (xs.length : Nat)) | none => none
def pInt : PyData → Option PyData
  | .int i => some (.int i)
  | .bool k => some (.int (if k then 1 else 0))
  | _ => none
def pStr : PyData → Option PyData
  | .int i => if i.natAbs.log2 < 1920 then some (.str (toString i)) else none
  | _ => none
def pList (d : PyData) : Option PyData := match items d with | some xs => some (.list xs) | none => none
def pTup (d : PyData) : Option PyData := match items d with | some xs => some (.tuple xs) | none => none
def ins (i : Int) : List Int → List Int
  | [] => [i]
  | j :: js => if i ≤ j then i :: j :: js else j :: ins i js
def isrt : List Int → List Int
  | [] => []
  | i :: is => ins i (isrt is)
theorem ins_perm (i : Int) : ∀ js : List Int, (ins i js).Perm (i :: js)
  | [] => List.Perm.refl _
  | j :: js => by
    rw [ins]
    split
    · exact List.Perm.refl _
    · exact ((ins_perm i js).cons j).trans (List.Perm.swap i j js)
theorem ins_pw (i : Int) : ∀ {js : List Int}, js.Pairwise (· ≤ ·) → (ins i js).Pairwise (· ≤ ·)
  | [], _ => by simp [ins]
  | j :: js, h => by
    obtain ⟨h1, h2⟩ := List.pairwise_cons.mp h
    rw [ins]
    split
    · rename_i hij
      exact List.pairwise_cons.mpr ⟨fun x hx => by
        rcases List.mem_cons.mp hx with rfl | hx
        · exact hij
        · exact Int.le_trans hij (h1 x hx), h⟩
    · rename_i hij
      refine List.pairwise_cons.mpr ⟨fun x hx => ?_, ins_pw i h2⟩
      rcases List.mem_cons.mp ((ins_perm i js).mem_iff.mp hx) with rfl | hx
      · omega
      · exact h1 x hx
theorem isrt_perm : ∀ is : List Int, (isrt is).Perm is
  | [] => List.Perm.refl _
  | i :: is => (ins_perm i (isrt is)).trans ((isrt_perm is).cons i)
theorem isrt_pw : ∀ is : List Int, (isrt is).Pairwise (· ≤ ·)
  | [] => .nil
  | i :: is => ins_pw i (isrt_pw is)
theorem isrt_eq (is : List Int) : isrt is = srt is := srt_eq (isrt_perm is) (isrt_pw is)
def onI (g : List Int → Option PyData) : PyData → Option PyData
  | .list ds => match asI ds with | some ns => g ns | none => none
  | _ => none
theorem onI_some {g : List Int → Option PyData} {d r : PyData} (h : onI g d = some r) : ∃ ns, d = .list (iL ns) ∧ g ns = some r := by
  unfold onI at h
  split at h
  · split at h
    · rename_i ns hs
      exact ⟨ns, by rw [asI_some hs], h⟩
    · cases h
  · cases h
def pSrt : PyData → Option PyData := onI fun ns => some (.list (iL (isrt ns)))
def asBs : List PyData → Option (List Bool)
  | [] => some []
  | .bool i :: ds => match asBs ds with
    | some is => some (i :: is)
    | none => none
  | _ :: _ => none
theorem asBs_some : ∀ {ds : List PyData} {is : List Bool}, asBs ds = some is → ds = is.map .bool
  | [], _, h => by cases h; rfl
  | .bool i :: ds, is, h => by
    rw [asBs] at h
    split at h
    · rename_i js hj
      cases h
      rw [asBs_some hj]
      rfl
    · cases h
  | .none :: _, _, h => by cases h
  | .int _ :: _, _, h => by cases h
  | .str _ :: _, _, h => by cases h
  | .list _ :: _, _, h => by cases h
  | .tuple _ :: _, _, h => by cases h
  | .dict _ :: _, _, h => by cases h
theorem asBs_map : ∀ is : List Bool, asBs (is.map .bool) = some is
  | [] => rfl
  | i :: is => by
    show (match asBs (is.map .bool) with | some is => some (i :: is) | none => none) = _
    rw [asBs_map is]
def onB (g : List Bool → Bool) : PyData → Option PyData
  | .list ds => match asBs ds with | some ns => some (.bool (g ns)) | none => none
  | _ => none
theorem onB_some {g : List Bool → Bool} {d r : PyData} (h : onB g d = some r) : ∃ ns, d = .list (ns.map .bool) ∧ .bool (g ns) = r := by
  unfold onB at h
  split at h
  · split at h
    · rename_i ns hs
      cases h
      exact ⟨ns, by rw [asBs_some hs], rfl⟩
    · cases h
  · cases h
def pAll : PyData → Option PyData := onB fun bs => bs.all id
def pIsi (T : String) (d : PyData) : Option PyData := match kitB (dTy d) T with | some k => some (.bool k) | none => none
def pIx (d i : PyData) : Option PyData := match items d, i with | some xs, .int i => atI xs i | _, _ => none
section
variable {b : Addr} {X : Cx} {e x y z : Expr} {es : List Expr} {f fx fy fz : DenE} {fs fi : DenL} {fb : DenB} {pos p p2 pos2 : Pos}
theorem items_sq {μ : Mu} {d : PyData} {xs : List PyData} (h : items d = some xs) : SqD μ (.im d) (xs.map .im) := (items_seq h).sq
theorem se_len (B : Bt X.mg) (hg : Gl X "len") (hx : SE b X x fx) (he : starEach [x] X.env = (false, eval x X.env) :: starEach [] X.env := by rfl) (hpl : (backTo pos (starEach [] X.env)).any (·.1) = false := by rfl) : SE b X (.Call (.Name "len" p) [x] [] pos) (d1 pLen fx) := se_1 hx fun ρ μ Φ h => de_len B hg (h.imp fun u μ1 ⟨d, r, e1, hr, q⟩ => by
  subst e1
  unfold pLen at hr
  split at hr
  · rename_i xs hxs
    cases hr
    exact ⟨_, items_sq hxs, by rw [List.length_map]; exact q⟩
  · cases hr) he hpl
theorem se_int1 (B : Bt X.mg) (hg : Gl X "int") (hx : SE b X x fx) (he : starEach [x] X.env = (false, eval x X.env) :: starEach [] X.env := by rfl) (hpl : (backTo pos (starEach [] X.env)).any (·.1) = false := by rfl) : SE b X (.Call (.Name "int" p) [x] [] pos) (d1 pInt fx) := se_1 hx fun ρ μ Φ h => de_int1 B hg (h.imp fun u μ1 ⟨d, r, e1, hr, q⟩ => by
  subst e1
  cases d <;> cases hr
  · exact .inr ⟨_, rfl, q⟩
  · exact .inl ⟨_, rfl, q⟩) he hpl
theorem se_str1 (B : Bt X.mg) (hg : Gl X "str") (hx : SE b X x fx) (he : starEach [x] X.env = (false, eval x X.env) :: starEach [] X.env := by rfl) (hpl : (backTo pos (starEach [] X.env)).any (·.1) = false := by rfl) : SE b X (.Call (.Name "str" p) [x] [] pos) (d1 pStr fx) := se_1 hx fun ρ μ Φ h => de_str1 B hg (h.imp fun u μ1 ⟨d, r, e1, hr, q⟩ => by
  subst e1
  unfold pStr at hr
  split at hr
  · split at hr
    · rename_i hl
      cases hr
      exact ⟨_, rfl, hl, q⟩
    · cases hr
  · cases hr) he hpl
theorem se_list (B : Bt X.mg) (hg : Gl X "list") (hx : SE b X x fx) (he : starEach [x] X.env = (false, eval x X.env) :: starEach [] X.env := by rfl) (hpl : (backTo pos (starEach [] X.env)).any (·.1) = false := by rfl) : SE b X (.Call (.Name "list" p) [x] [] pos) (d1 pList fx) := se_1 hx fun ρ μ Φ h => de_list B hg (h.imp fun u μ1 ⟨d, r, e1, hr, q⟩ => by
  subst e1
  unfold pList at hr
  split at hr
  · rename_i xs hxs
    cases hr
    exact ⟨_, items_sq hxs, q⟩
  · cases hr) he hpl
theorem se_tuple (B : Bt X.mg) (hg : Gl X "tuple") (hx : SE b X x fx) (he : starEach [x] X.env = (false, eval x X.env) :: starEach [] X.env := by rfl) (hpl : (backTo pos (starEach [] X.env)).any (·.1) = false := by rfl) : SE b X (.Call (.Name "tuple" p) [x] [] pos) (d1 pTup fx) := se_1 hx fun ρ μ Φ h => de_tuple B hg (h.imp fun u μ1 ⟨d, r, e1, hr, q⟩ => by
  subst e1
  unfold pTup at hr
  split at hr
  · rename_i xs hxs
    cases hr
    exact ⟨_, items_sq hxs, q⟩
  · cases hr) he hpl
theorem se_sorted (B : Bt X.mg) (hg : Gl X "sorted") (hx : SE b X x fx) (he : starEach [x] X.env = (false, eval x X.env) :: starEach [] X.env := by rfl) (hpl : (backTo pos (starEach [] X.env)).any (·.1) = false := by rfl) : SE b X (.Call (.Name "sorted" p) [x] [] pos) (d1 pSrt fx) := se_1 hx fun ρ μ Φ h => de_sorted B hg (h.imp fun u μ1 ⟨d, r, e1, hr, q⟩ => by
  subst e1
  obtain ⟨ns, rfl, h2⟩ := onI_some hr
  cases h2
  refine ⟨ns, .im _, ?_⟩
  rw [← isrt_eq]
  exact q) he hpl
theorem se_all (B : Bt X.mg) (hc : X.calm = true) (hg : Gl X "all") (hx : SE b X x fx) (he : starEach [x] X.env = (false, eval x X.env) :: starEach [] X.env := by rfl) (hpl : (backTo pos (starEach [] X.env)).any (·.1) = false := by rfl) : SE b X (.Call (.Name "all" p) [x] [] pos) (d1 pAll fx) := se_1 hx fun ρ μ Φ h => de_all B hc hg (h.imp fun u μ1 ⟨d, r, e1, hr, q⟩ => by
  subst e1
  obtain ⟨ns, rfl, rfl⟩ := onB_some hr
  exact ⟨ns, .im _, q⟩) he hpl
theorem se_isi {T : String} {n : Str} (B : Bt X.mg) (hg : Gl X "isinstance") (hg2 : Gl X n) (hm : X.mg n = none) (hv : bootBuiltins n = some (.type T)) (hx : SE b X x fx)
    (hn : n ≠ "__name__" := by decide) (hdb : (n == ("__debug__" : Str)) = false := by decide) (he : starEach [x, .Name n p2] X.env = (false, eval x X.env) :: starEach [.Name n p2] X.env := by rfl) (he2 : starEach [.Name n p2] X.env = (false, eval (.Name n p2) X.env) :: starEach [] X.env := by rfl)
    (hpl : (backTo pos (starEach [.Name n p2] X.env)).any (·.1) = false := by rfl) : SE b X (.Call (.Name "isinstance" p) [x, .Name n p2] [] pos) (d1 (pIsi T) fx) := se_1 hx fun ρ μ Φ h => de_isi B hg hg2 hm hv (h.imp fun u μ1 ⟨d, r, e1, hr, q⟩ => by
  subst e1
  unfold pIsi at hr
  split at hr
  · rename_i k hk
    cases hr
    exact ⟨_, k, .im d, hk, q⟩
  · cases hr) hn hdb he he2 hpl
theorem se_ix (hs : PlainIx y) (hx : SE b X x fx) (hy : SE b X y fy) : SE b X (.Subscript x y pos) (d2 pIx fx fy) := se_2 hx hy fun ρ μ Φ h => de_ix hs (h.imp fun u μ1 h1 => h1.imp fun v μ2 ⟨d, d', r, e1, e2, hr, q⟩ => by
  subst e1 e2
  unfold pIx at hr
  cases hxs : items d with
  | none =>
    rw [hxs] at hr
    cases hr
  | some xs =>
    rw [hxs] at hr
    cases d' with
    | int i => exact ⟨_, i, _, items_sq hxs, rfl, atI_im hr, q⟩
    | _ => cases hr)
def oN : Env → Tree (Option Int) := fun _ => .ret none
def oS (f : DenE) : Env → Tree (Option Int) := fun E => (f E).bind fun x => match x with | .int i => .ret (some i) | _ => .fail
structure SOp (b : Addr) (X : Cx) (e : Option Expr) (f : Env → Tree (Option Int)) : Prop where
  run : ∀ μ0 E ρ μ Φ, Rel b μ0 E ρ μ → (f E).All (fun d => ∀ μ', Bs b μ μ' → Φ d μ') → DO X e ρ μ Φ
theorem so_n : SOp b X none oN := .mk fun μ0 E ρ μ Φ R h => h μ (Bs.refl b μ)
theorem so_s (hx : SE b X x fx) : SOp b X (some x) (oS fx) := .mk fun μ0 E ρ μ Φ R h => hx.run μ0 E ρ μ _ R ((all_bind.mp h).imp fun d q μ1 s1 => by
  split at q
  · exact ⟨_, rfl, q μ1 s1⟩
  · exact q.elim)
def pCut (d : PyData) (lo hi : Option Int) : Option PyData := match d with
  | .list xs => some (.list (cutD xs lo hi))
  | .tuple xs => some (.tuple (cutD xs lo hi))
  | _ => none
def dSl (f : DenE) (lo hi : Env → Tree (Option Int)) : DenE := fun E => (f E).bind fun x => (lo E).bind fun l => (hi E).bind fun u => liftO (pCut x l u)
variable {lo hi : Option Expr} {fl fu : Env → Tree (Option Int)}
theorem se_sl (hx : SE b X x fx) (hl : SOp b X lo fl) (hu : SOp b X hi fu) : SE b X (.Subscript x (.Slice lo hi none p2) pos) (dSl fx fl fu) := .mk fun μ0 E ρ μ Φ R h => by
  have hD : DE X x ρ μ fun u μ1 => DO X lo ρ μ1 fun l μ2 => DO X hi ρ μ2 fun v μ3 => ∃ d r, u = .im d ∧ pCut d l v = some r ∧ Φ (.im r) μ3 :=
    hx.run μ0 E ρ μ _ R ((all_bind.mp h).imp fun d q μ1 s1 => hl.run μ0 E ρ μ1 (fun l μ2 => DO X hi ρ μ2 fun v μ3 => ∃ d' r, OV.im d = .im d' ∧ pCut d' l v = some r ∧ Φ (.im r) μ3) (R.step s1) ((all_bind.mp q).imp fun l q μ2 s2 => hu.run μ0 E ρ μ2 (fun v μ3 => ∃ d' r, OV.im d = .im d' ∧ pCut d' l v = some r ∧ Φ (.im r) μ3) ((R.step s1).step s2) ((all_bind.mp q).imp fun u q μ3 s3 => by
      obtain ⟨r, hr, q⟩ := lift_all q
      exact ⟨d, r, rfl, hr, q μ3 ((s1.trans s2).trans s3)⟩)))
  intro G H σ m v Q f
  refine WE.of (pe_slice (SlR.or sl_list sl_tupA) pwe pwo pwo) (hD G H σ m v _ fun vx x μ1 G1 H1 q1 e1 m1 r1 => q1.run m1 (v.mono e1) fun l μ2 G2 H2 q2 e2 m2 => q2.run m2 (v.mono (e1.trans e2)) fun u μ3 G3 H3 q3 e3 m3 => ?_)
  obtain ⟨d, r, rfl, hr, q⟩ := q3
  have r3 : Dv G3 vx d := r1.mono (e2.trans e3)
  cases r3 with
  | @lst a xs ds h1 w =>
    cases hr
    refine .inl ⟨_, _, rfl, .inl (.inl (m3.ex _ _ h1)), fun p hp => ?_⟩
    have n := m3.ex.free hp
    have w2 := (ROs.of_ims w).cut l u
    rw [cutO_im] at w2
    exact f _ _ _ _ _ q (((e1.trans e2).trans e3).trans (Ex.new n)) (m3.lay hp) (Dv.lst upd_same (w2.ims.mono (Ex.new n)))
  | @tup a xs ds h1 w =>
    cases hr
    have wl := w.length
    refine .inr ⟨a, xs, rfl, .inl (.inl (m3.ex _ _ h1)), fun ⟨z1, z2⟩ => ?_, fun _ p hp => ?_⟩
    · have ec : cutD ds l u = ds := by
        unfold cutD
        rw [wl] at z1 z2
        rw [z1, z2, List.drop_zero, Nat.sub_zero, List.take_length]
      rw [ec] at q
      exact f _ _ _ _ _ q ((e1.trans e2).trans e3) m3 (Dv.tup h1 w)
    · have n := m3.ex.free hp
      have w2 := (ROs.of_ims w).cut l u
      rw [cutO_im] at w2
      exact f _ _ _ _ _ q (((e1.trans e2).trans e3).trans (Ex.new n)) (m3.lay hp) (Dv.tup upd_same (w2.ims.mono (Ex.new n)))
  | _ => cases hr
def lrg (f : List PyData → PyData) (o : Option (List PyData)) : Option PyData := match o with | some xs => some (f xs) | none => none
theorem rgv_dv {H : Hp} (i j : Int) : DvA H (rgV i j) (numsF i (j - i).toNat) := by
  unfold rgV numsF
  generalize (j - i).toNat = n
  have go : ∀ l : List Nat, DvA H (l.map fun (k : Nat) => V.int (i + (k : Int))) (l.map fun (k : Nat) => PyData.int (i + (k : Int))) := by
    intro l
    induction l with
    | nil => exact .nil
    | cons k l ih => exact .cons (.int _) ih
  exact go _
theorem rg1_some {d : PyData} {xs : List PyData} (h : rg1 d = some xs) : ∃ j : Int, d = .int j ∧ -100000 ≤ j ∧ j ≤ 100000 ∧ xs = nums j.toNat := by
  cases d with
  | int j =>
    simp only [rg1] at h
    split at h
    · next hj =>
      cases h
      exact ⟨j, rfl, hj.1, hj.2, rfl⟩
    · cases h
  | _ => cases h
theorem rg1_dv {H : Hp} (j : Int) : DvA H (rgV 0 j) (nums j.toNat) := by
  have h := rgv_dv (H := H) 0 j
  have e : numsF 0 (j - 0).toNat = nums j.toNat := by
    unfold numsF nums
    rw [show j - 0 = j by omega]
    congr 1
    funext k
    rw [Int.zero_add]
  rw [e] at h
  exact h
theorem se_listRg (B : Bt X.mg) (hc : X.calm = true) (hg : Gl X "list") (hg2 : Gl X "range") (hx : SE b X x fx) (he : starEach [x] X.env = (false, eval x X.env) :: starEach [] X.env := by rfl) (he2 : starEach [.Call (.Name "range" p2) [x] [] pos2] X.env = (false, eval (.Call (.Name "range" p2) [x] [] pos2) X.env) :: starEach [] X.env := by rfl) : SE b X (.Call (.Name "list" p) [.Call (.Name "range" p2) [x] [] pos2] [] pos) (d1 (fun d => lrg .list (rg1 d)) fx) := se_1 hx fun ρ μ Φ h G H σ m v Q f =>
  WE.of (pe_listRg hc hg B.list (prg_1 hg2 B.range pwe he) he2) (h G H σ m v _ fun vx u μ1 G1 H1 q1 e1 m1 r1 => by
    obtain ⟨d, r, rfl, hr, q⟩ := q1
    simp only [lrg] at hr
    split at hr
    · next xs hxs =>
      cases hr
      obtain ⟨j, rfl, j1, j2, rfl⟩ := rg1_some hxs
      cases r1
      refine ⟨_, rfl, ⟨by omega, by omega, by omega, by omega, by omega⟩, fun l hl => ?_⟩
      have fr := m1.ex.free hl
      exact f _ _ _ _ _ q (e1.trans (Ex.new fr)) (m1.lay hl) (Dv.lst upd_same (rg1_dv j))
    · cases hr)
end
end Nx
namespace Nx
open PySem PySem.Spec PyProof.Rows L2
open Tree
section
variable {b : Addr} {X : Cx} {e x y z tg iter elt c : Expr} {es : List Expr} {f fx fy fz : DenE} {fs fi : DenL} {fb : DenB} {pos p : Pos} {st : Stmt} {ss : List Stmt}
def sNo : DenS := fun _ => .fail
theorem ss_no : SS b X st sNo := .mk fun _ _ _ _ _ _ h => h.elim
end
theorem de_fdivW {X : Cx} {a b : Expr} {ρ : Rho} {μ : Mu} {Φ : OV → Mu → Prop} {pos : Pos} (h : DE X a ρ μ fun x μ1 => DE X b ρ μ1 fun y μ2 => ∃ i j, x = .im (.int i) ∧ y = .im (.int j) ∧ CDivW i j ∧ Φ (.im (.int (i / j))) μ2) : DE X (.BinOp a .FloorDiv b pos) ρ μ Φ := by
  refine de_op op_fdivW (h.imp fun x μ1 h1 => h1.imp fun y μ2 h2 => ?_)
  obtain ⟨i, j, rfl, rfl, hj, q⟩ := h2
  exact od_I hj q
def takeF : List W → Tree PyData
  | [.bx, .d (.int n)] => if 0 < n ∧ n < 4611686018427387904 then .draw n.toNat fun r => .ret (.int (r : Int)) else .fail
  | _ => .fail
def c_take : Ct := fun os μ Φ => ∃ b n p q t, os = [.own b, .im (.int n)] ∧ μ b = some (bx p q t) ∧ 0 < n ∧ n < 4611686018427387904 ∧ ∀ r p' t', 0 ≤ r → r < n → Φ (.im (.int r)) (μ.put b (bx p' q t'))
theorem take_ok : ∀ os μ Φ, cF takeF os μ Φ → c_take os μ Φ := fun os μ Φ h => by
  obtain ⟨b, ws, rfl, ⟨p, q, t, hb⟩, h⟩ := h
  unfold takeF at h
  split at h
  · rename_i n
    split at h
    · next hn =>
      refine ⟨b, n, p, q, t, rfl, hb, hn.1, hn.2, fun r p' t' r0 r1 => ?_⟩
      have := h r.toNat (by omega) _ (Bs.set (b := b) (μ := μ) (p := p') (q := q) (t := t'))
      rw [Int.toNat_of_nonneg r0] at this
      exact this
    · exact h.elim
  · exact h.elim
def strewnT : Nat → List PyData → Tree (List PyData)
  | 0, _ => .ret []
  | n + 1, l => .draw l.length fun r => match l[r]? with
    | some x => (strewnT n (l.eraseIdx r)).bind fun xs => .ret (x :: xs)
    | none => .fail
def strewnF : List W → Tree PyData
  | [.bx, .d (.list ds)] => if ds.length ≤ 1000 then (strewnT ds.length ds).bind fun xs => .ret (.list xs) else .fail
  | _ => .fail
theorem strewn_perm {Q : List PyData → Prop} : ∀ (n : Nat) (ds es : List PyData), ds.length = n → es.Perm ds → (strewnT n ds).All Q → Q es
  | 0, ds, es, hl, hp, h => by
    have : ds = [] := List.length_eq_zero_iff.mp hl
    subst this
    rw [hp.eq_nil]
    exact h
  | n + 1, ds, es, hl, hp, h => by
    cases es with
    | nil =>
      have := hp.length_eq
      simp at this
      omega
    | cons x es =>
      have hx : x ∈ ds := hp.mem_iff.mp (List.mem_cons_self ..)
      obtain ⟨r, hr, e⟩ := List.mem_iff_getElem.mp hx
      have h := h r hr
      dsimp only at h
      rw [List.getElem?_eq_getElem hr, e] at h
      have h := all_bind.mp h
      have pp := erase_perm ds r hr
      rw [e] at pp
      refine strewn_perm (Q := fun xs => Q (x :: xs)) n (ds.eraseIdx r) es (by rw [List.length_eraseIdx]; simp [hr]; omega) ?_ h
      exact (List.perm_cons x).mp (hp.trans pp.symm)
theorem strewn_all {Q : List PyData → Prop} : ∀ (n : Nat) (ds : List PyData), ds.length = n → (∀ es : List PyData, es.Perm ds → Q es) → (strewnT n ds).All Q
  | 0, ds, hl, h => h [] (by rw [List.length_eq_zero_iff.mp hl])
  | n + 1, ds, hl, h => fun r hr => by
    dsimp only
    rw [List.getElem?_eq_getElem hr]
    refine all_bind.mpr (strewn_all n _ (by rw [List.length_eraseIdx]; simp [hr]; omega) fun es hp => h _ ?_)
    exact (hp.cons _).trans (erase_perm ds r hr)
def c_strewn : Ct := fun os μ Φ => ∃ (b : Addr) (ds : List PyData) (p q t : Int), os = [.own b, .im (.list ds)] ∧ μ b = some (bx p q t) ∧ ds.length ≤ 1000 ∧ ∀ es p' t', es.Perm ds → Φ (.im (.list es)) (μ.put b (bx p' q t'))
theorem strewn_ok : ∀ os μ Φ, cF strewnF os μ Φ → c_strewn os μ Φ := fun os μ Φ h => by
  obtain ⟨b, ws, rfl, ⟨p, q, t, hb⟩, h⟩ := h
  unfold strewnF at h
  split at h
  · rename_i ds
    split at h
    · next hn => exact ⟨b, ds, p, q, t, rfl, hb, hn, fun es p' t' hp => strewn_perm _ ds es rfl hp (all_bind.mp h) _ Bs.set⟩
    · exact h.elim
  · exact h.elim
mutual
def okR : PyData → Bool
  | .none => true
  | .bool _ => true
  | .int i => decide (i.natAbs < 10 ^ 60)
  | .str x => PyData.strOk x && decide ((reprText x).length ≤ 61)
  | .list ds => okRs ds
  | .tuple ds => okRs ds
  | _ => false
def okRs : List PyData → Bool
  | [] => true
  | d :: ds => okR d && okRs ds
end
mutual
def wdR : PyData → Nat
  | .list ds => wdRs ds + 3
  | .tuple ds => wdRs ds + 3
  | _ => 61
def wdRs : List PyData → Nat
  | [] => 0
  | d :: ds => wdR d + 2 + wdRs ds
end
mutual
def dpR : PyData → Nat
  | .list ds => dpRs ds + 1
  | .tuple ds => dpRs ds + 1
  | _ => 0
def dpRs : List PyData → Nat
  | [] => 0
  | d :: ds => max (dpR d) (dpRs ds)
end
mutual
theorem okR_sd : ∀ {d : PyData}, okR d = true → Sd (dpR d) (wdR d) d
  | .none, _ => Sd.none.mono (Nat.le_refl _) (by simp [wdR])
  | .bool b, _ => (Sd.bool b).mono (Nat.le_refl _) (by simp [wdR])
  | .int i, h => (Sd.int (of_decide_eq_true (by simpa only [okR] using h))).mono (Nat.le_refl _) (by simp [wdR])
  | .list ds, h => (Sd.list (okRs_sd (ds := ds) (by simpa only [okR] using h))).mono (by simp [dpR]) (by simp [wdR])
  | .tuple ds, h => (Sd.tuple (okRs_sd (ds := ds) (by simpa only [okR] using h))).mono (by simp [dpR]) (by simp [wdR])
  | .str x, h => by
    have h : (PyData.strOk x && decide ((reprText x).length ≤ 61)) = true := by simpa only [okR] using h
    have h2 := of_decide_eq_true (Bool.and_eq_true_iff.mp h).2
    exact ⟨by simp [PyData.showable], by simp [PyData.hasDict], by simp [PyData.depth, dpR], by simp only [PyData.shown, wdR]; exact h2⟩
  | .dict _, h => by simp [okR] at h
theorem okRs_sd : ∀ {ds : List PyData}, okRs ds = true → SdA (dpRs ds) (wdRs ds) ds
  | [], _ => by simpa [dpRs, wdRs] using SdA.nil
  | d :: ds, h => by
    have h : (okR d && okRs ds) = true := by simpa only [okRs] using h
    obtain ⟨h1, h2⟩ := Bool.and_eq_true_iff.mp h
    simpa only [dpRs, wdRs] using SdA.cons (okR_sd h1) (okRs_sd h2)
end
def isLT : PyData → Bool
  | .dict _ => false
  | _ => true
def ShwA (d : PyData) : Prop := Shw d ∨ d = .none ∨ (∃ b, d = .bool b) ∨ (∃ i : Int, d = .int i ∧ i.natAbs.log2 < 1920) ∨ ∃ x, d = .str x ∧ (reprText x).length ≤ 61
section
variable {X : Cx} {e : Expr} {ρ : Rho} {μ : Mu} {Φ : OV → Mu → Prop} {pos p : Pos}
theorem call_reprA (hr : Room 0 X.A) (hgd : X.A.guards = some []) : CallR X (.builtin "repr") (fun xs H Q => ∃ v d, xs = [v] ∧ Dv H v d ∧ ShwA d ∧ Q (.str d.shown) H) := by
  intro pins s σ H xs us Q I r h
  obtain ⟨v, d, rfl, hd, hs, q⟩ := h
  rcases hs with hs | rfl | ⟨b, rfl⟩ | ⟨i, rfl, hi⟩ | ⟨x, rfl, hx⟩
  · exact call_reprD hr hgd pins s σ H [v] us Q I r ⟨v, d, rfl, hd.dp, hs, q⟩
  · cases hd
    obtain ⟨u, rfl, ru⟩ := vals1 r
    cases ru
    exact PySem.P.repr_of_none ⟨.str _, H, I.tok _, ⟨_, rfl⟩, by simpa only [PyData.shown] using q⟩
  · cases hd
    obtain ⟨u, rfl, ru⟩ := vals1 r
    cases ru
    exact PySem.P.repr_of_bool ⟨.str _, H, I.tok _, ⟨_, rfl⟩, by simpa only [PyData.shown] using q⟩
  · cases hd
    obtain ⟨u, rfl, t, rfl⟩ := vals1 r
    exact PySem.P.repr_of_int hi ⟨.str _, H, I.tok _, ⟨_, rfl⟩, by simpa only [PyData.shown] using q⟩
  · cases hd
    obtain ⟨u, rfl, t, rfl⟩ := vals1 r
    exact PySem.P.repr_of_str ⟨.str _, H, I.tok _, ⟨_, rfl⟩, by simpa only [PyData.shown] using q⟩ (Nat.le_trans hx (by rw [sizeLine_eq]; omega))
theorem de_reprA {k : Nat} (B : Bt X.mg) (hr : Rm k X.A) (hg : Gl X "repr") (h : DE X e ρ μ fun o μ1 => ∃ d, DR μ1 o d ∧ ShwA d ∧ Φ (.im (.str d.shown)) μ1) (he : starEach [e] X.env = (false, eval e X.env) :: starEach [] X.env := by rfl) (hpl : (backTo pos (starEach [] X.env)).any (·.1) = false := by rfl) : DE X (.Call (.Name "repr" p) [e] [] pos) ρ μ Φ :=
  de_callB (call_reprA (hr.room.mono (Nat.zero_le _)) hr.gds) hg B.repr PyProof.Rows.boot_repr (he := he) (hpl := hpl) (da_cons (hs := he) (h.imp fun o μ1 ⟨d, hd, hs, q⟩ => da_nil fun G H vs m r Q f => by
    obtain ⟨v, rfl, r1⟩ := ro1 r
    exact ⟨v, d, rfl, DR.at m hd r1, hs, f _ _ _ _ _ q (Ex.refl G) m (Dv.str _)⟩))
end
def shwB (d : PyData) : Bool := isLT d && okR d && decide (dpR d ≤ 60) && decide (wdR d ≤ 16777216)
theorem shwB_ok {d : PyData} (h : shwB d = true) : ShwA d := by
  unfold shwB at h
  obtain ⟨h, h4⟩ := Bool.and_eq_true_iff.mp h
  obtain ⟨h, h3⟩ := Bool.and_eq_true_iff.mp h
  obtain ⟨h1, h2⟩ := Bool.and_eq_true_iff.mp h
  cases d with
  | none => exact .inr (.inl rfl)
  | bool b => exact .inr (.inr (.inl ⟨b, rfl⟩))
  | int i => exact .inr (.inr (.inr (.inl ⟨i, rfl, log_small (of_decide_eq_true (by simpa only [okR] using h2))⟩)))
  | list ds => exact .inl ((okR_sd h2).shw rfl (of_decide_eq_true h3) (of_decide_eq_true h4))
  | tuple ds => exact .inl ((okR_sd h2).shw rfl (of_decide_eq_true h3) (of_decide_eq_true h4))
  | str x =>
    have h2 : (PyData.strOk x && decide ((reprText x).length ≤ 61)) = true := by simpa only [okR] using h2
    exact .inr (.inr (.inr (.inr ⟨x, rfl, of_decide_eq_true (Bool.and_eq_true_iff.mp h2).2⟩)))
  | dict _ => cases h1
end Nx
namespace Nx
open PySem PySem.Spec PyProof.Rows L2
open Tree
mutual
def eqP : PyData → PyData → Bool
  | .none, .none => true
  | .bool a, .bool b => a == b
  | .int a, .int b => decide (a = b)
  | .str a, .str b => decide (a = b)
  | .list as, .list bs => eqPs as bs
  | .tuple as, .tuple bs => eqPs as bs
  | _, _ => false
def eqPs : List PyData → List PyData → Bool
  | [], [] => true
  | a :: as, b :: bs => eqP a b && eqPs as bs
  | _, _ => false
end
mutual
theorem eqP_eq : ∀ {a b : PyData}, eqP a b = true → a = b
  | .none, .none, _ => rfl
  | .bool a, .bool b, h => congrArg PyData.bool (eq_of_beq (by simpa only [eqP] using h))
  | .int a, .int b, h => congrArg PyData.int (of_decide_eq_true (by simpa only [eqP] using h))
  | .str a, .str b, h => congrArg PyData.str (of_decide_eq_true (by simpa only [eqP] using h))
  | .list as, .list bs, h => congrArg PyData.list (eqPs_eq (by simpa only [eqP] using h))
  | .tuple as, .tuple bs, h => congrArg PyData.tuple (eqPs_eq (by simpa only [eqP] using h))
  | .none, .bool _, h => by simp [eqP] at h
  | .none, .int _, h => by simp [eqP] at h
  | .none, .str _, h => by simp [eqP] at h
  | .none, .list _, h => by simp [eqP] at h
  | .none, .tuple _, h => by simp [eqP] at h
  | .none, .dict _, h => by simp [eqP] at h
  | .bool _, .none, h => by simp [eqP] at h
  | .bool _, .int _, h => by simp [eqP] at h
  | .bool _, .str _, h => by simp [eqP] at h
  | .bool _, .list _, h => by simp [eqP] at h
  | .bool _, .tuple _, h => by simp [eqP] at h
  | .bool _, .dict _, h => by simp [eqP] at h
  | .int _, .none, h => by simp [eqP] at h
  | .int _, .bool _, h => by simp [eqP] at h
  | .int _, .str _, h => by simp [eqP] at h
  | .int _, .list _, h => by simp [eqP] at h
  | .int _, .tuple _, h => by simp [eqP] at h
  | .int _, .dict _, h => by simp [eqP] at h
  | .list _, .none, h => by simp [eqP] at h
  | .list _, .bool _, h => by simp [eqP] at h
  | .list _, .int _, h => by simp [eqP] at h
  | .list _, .str _, h => by simp [eqP] at h
  | .list _, .tuple _, h => by simp [eqP] at h
  | .list _, .dict _, h => by simp [eqP] at h
  | .tuple _, .none, h => by simp [eqP] at h
  | .tuple _, .bool _, h => by simp [eqP] at h
  | .tuple _, .int _, h => by simp [eqP] at h
  | .tuple _, .str _, h => by simp [eqP] at h
  | .tuple _, .list _, h => by simp [eqP] at h
  | .tuple _, .dict _, h => by simp [eqP] at h
  | .str _, .none, h => by simp [eqP] at h
  | .str _, .bool _, h => by simp [eqP] at h
  | .str _, .int _, h => by simp [eqP] at h
  | .str _, .list _, h => by simp [eqP] at h
  | .str _, .tuple _, h => by simp [eqP] at h
  | .str _, .dict _, h => by simp [eqP] at h
  | .dict _, _, h => by simp [eqP] at h
theorem eqPs_eq : ∀ {as bs : List PyData}, eqPs as bs = true → as = bs
  | [], [], _ => rfl
  | a :: as, b :: bs, h => by
    have h : (eqP a b && eqPs as bs) = true := by simpa only [eqPs] using h
    obtain ⟨h1, h2⟩ := Bool.and_eq_true_iff.mp h
    rw [eqP_eq h1, eqPs_eq h2]
  | [], _ :: _, h => by simp [eqPs] at h
  | _ :: _, [], h => by simp [eqPs] at h
end
mutual
theorem eqP_refl : ∀ {a : PyData}, okR a = true → eqP a a = true
  | .none, _ => by simp [eqP]
  | .bool _, _ => by simp [eqP]
  | .int _, _ => by simp [eqP]
  | .list as, h => by simpa only [eqP] using eqPs_refl (as := as) (by simpa only [okR] using h)
  | .tuple as, h => by simpa only [eqP] using eqPs_refl (as := as) (by simpa only [okR] using h)
  | .str _, _ => by simp [eqP]
  | .dict _, h => by simp [okR] at h
theorem eqPs_refl : ∀ {as : List PyData}, okRs as = true → eqPs as as = true
  | [], _ => by simp [eqPs]
  | a :: as, h => by
    have h : (okR a && okRs as) = true := by simpa only [okRs] using h
    obtain ⟨h1, h2⟩ := Bool.and_eq_true_iff.mp h
    simp [eqPs, eqP_refl h1, eqPs_refl h2]
end
def okS (d : PyData) : Option Unit := if shwB d then some () else none
def pSame (a b : PyData) : Option PyData := if eqP a b then some (.bool true) else none
def dSame (f g : DenE) : DenE := fun E => (f E).bind fun x => (liftO (okS x)).bind fun _ => (g E).bind fun y => liftO (pSame x y)
section
variable {b : Addr} {X : Cx} {e x y : Expr} {fx fy : DenE} {pos p p2 pos2 pos3 : Pos} {k : Nat}
theorem se_same (B : Bt X.mg) (hr : Rm k X.A) (hg : Gl X "repr") (hx : SE b X x fx) (hy : SE b X y fy) (he : starEach [x] X.env = (false, eval x X.env) :: starEach [] X.env := by rfl) (he2 : starEach [y] X.env = (false, eval y X.env) :: starEach [] X.env := by rfl) (hpl : (backTo pos (starEach [] X.env)).any (·.1) = false := by rfl) (hpl2 : (backTo pos2 (starEach [] X.env)).any (·.1) = false := by rfl) :
    SE b X (.Compare (.Call (.Name "repr" p) [x] [] pos) [.Eq] [.Call (.Name "repr" p2) [y] [] pos2] pos3) (dSame fx fy) := .mk fun μ0 E ρ μ Φ R h => by
  refine de_eq hr.room (de_reprA B hr hg (hx.run μ0 E ρ μ _ R ((all_bind.mp h).imp fun d q μ1 s1 => ?_)) he hpl)
  obtain ⟨u, hu, q⟩ := lift_all (all_bind.mp q)
  unfold okS at hu
  split at hu
  · next hs =>
    refine ⟨d, .im d, shwB_ok hs, de_reprA B hr hg (hy.run μ0 E ρ μ1 _ (R.step s1) ((all_bind.mp q).imp fun d' q μ2 s2 => ?_)) he2 hpl2⟩
    obtain ⟨r, hr', q2⟩ := lift_all q
    unfold pSame at hr'
    split at hr'
    · next hq =>
      cases hr'
      have := eqP_eq hq
      subst this
      exact ⟨d, .im d, shwB_ok hs, .inr (.inr ⟨_, _, rfl, rfl, by simpa using q2 μ2 (s1.trans s2)⟩)⟩
    · cases hr'
  · cases hu
end
end Nx
namespace Nx
open PySem PySem.Spec PyProof.Rows L2
open Tree
abbrev cLt := cI fun i j => decide (i < j)
def cR : Ct := fun os μ Φ => ∃ b p q t, os = [.own b] ∧ μ b = some (bx p q t) ∧ ∀ μ', Bs b μ μ' → Φ (.im (.bool true)) μ'
theorem cR_of {F : List W → Tree PyData} (h : (F [.bx]).All fun d => d = .bool true) : ∀ os μ Φ, cR os μ Φ → cF F os μ Φ := fun os μ Φ ⟨b, p, q, t, e, hb, k⟩ => ⟨b, [.bx], e, ⟨p, q, t, hb⟩, h.imp fun d e μ' s => by rw [e]; exact k μ' s⟩
end Nx
namespace Nx
open PySem PySem.Spec PyProof.Rows L2
open Tree
def in1 (t1 : Tgt) (vs1 : List Nat) (c : DenB) (elt : DenE) (E1 : Env) : PyData → Tree (Option PyData) := fun y => (liftO (putE t1 y (wipeE E1 vs1))).bind fun E2 => (c E2).bind fun k => match k with | true => (elt E2).bind fun z => .ret (some z) | false => .ret none
end Nx
namespace Nx
open PySem PySem.Spec PyProof.Rows L2
open Tree
section
variable {b : Addr} {X : Cx} {x y o e tg : Expr} {fx fy : DenE} {pos p p2 pos2 apos cpos : Pos} {k : Nat}
def sAsgL (is : List Nat) (f : DenE) : DenS := fun E => (f E).bind fun d => match d with
  | .list ds => if ds.length = is.length then .ret (.nx (putsE E is ds)) else .fail
  | _ => .fail
def pIdx (d y : PyData) : Option PyData := match d with
  | .list ds => if SeqAt.shaped (.list ds) = true ∧ SeqAt.shaped y = true then (match ds.findIdx? fun z => PyData.eqv z y with | some j => some (.int (j : Nat)) | none => none) else none
  | _ => none
def dIdx (fx fy : DenE) : DenE := fun E => (fx E).bind fun d => match d with
  | .list ds => (fy E).bind fun y => liftO (pIdx (.list ds) y)
  | _ => .fail
end
end Nx
namespace Nx
open PySem PySem.Spec PyProof.Rows L2
open Tree
end Nx
namespace Nx
open PySem PySem.Spec PyProof.Rows L2
open Tree
def asT : PyData → Option (List Int)
  | .tuple ds => asI ds
  | _ => none
def tpl (t : List Int) : PyData := .tuple (iL t)
def kT (t : List Int) : Int := TS.code 1000 t
def insT (t : List Int) : List (List Int) → List (List Int)
  | [] => [t]
  | u :: us => if kT t ≤ kT u then t :: u :: us else u :: insT t us
def srtT : List (List Int) → List (List Int)
  | [] => []
  | t :: ts => insT t (srtT ts)
def bdT (d : Nat) (t : List Int) : Bool := decide (t.length = d) && t.all fun x => decide (0 ≤ x) && decide (x < 1000)
def hdLen : List (List Int) → Nat
  | [] => 1
  | t :: _ => t.length
end Nx
namespace Nx
open PySem PySem.Spec PyProof.Rows L2
open Tree
end Nx
namespace Nx
open PySem PySem.Spec PyProof.Rows L2
open Tree
section
variable {b : Addr} {X : Cx} {x y tg : Expr} {fx fy : DenE} {pos q1 q2 q3 : Pos} {k3 : Nat}
def sPar4 (i1 i2 i3 i4 : Nat) (fx fy : DenE) : DenS := fun E => (fx E).bind fun u => (fy E).bind fun w => .ret (.nx ((((E.set i1 (some (.d u))).set i2 (some (.d w))).set i3 (some (.own []))).set i4 (some (.own []))))
end
end Nx
namespace Nx
open PySem PySem.Spec PyProof.Rows L2
open Tree
def pInD (d e : PyData) : Option Bool := match e with
  | .list ds => if SeqAt.shaped d = true ∧ SeqAt.shaped (.list ds) = true then some (ds.any fun z => PyData.eqv z d) else none
  | _ => none
theorem ok_inD {K : PySem.W.Frag} : OkCmp (rInD K) pInD := fun d d' v μ Φ h q G H vx vy m rx ry Q f => by
  unfold pInD at h
  split at h
  · rename_i ds
    split at h
    · rename_i c
      cases h
      have rx : Dv G vx d := rx
      have ry : Dv G vy (.list ds) := ry
      exact ⟨d, ds, (rx.mono m.ex).dp, (ry.mono m.ex).dp, c.1, c.2, f _ _ _ _ _ q (Ex.refl G) m (Dv.bl _)⟩
    · cases h
  · cases h
end Nx
namespace Nx
open PySem PySem.Spec PyProof.Rows L2
open Tree
theorem units65 {k : Nat} {A : Around} (r : Room k A) : A.units + 65 < cLine := by have := r.un; omega
end Nx
namespace Nx
open PySem PySem.Spec PyProof.Rows L2
open Tree
def dOIx (i : Nat) (fy : DenE) : DenE := fun E => match E[i]? with
  | some (some (.own l)) => (fy E).bind fun y => match y with | .int j => liftO (atI l j) | _ => .fail
  | _ => .fail
end Nx
namespace Nx
open PySem PySem.Spec PyProof.Rows L2
open Tree
section
variable {b : Addr} {X : Cx} {x y : Expr} {fx fy : DenE} {pos : Pos}
def sOPar (i j : Nat) (fx fy : DenE) : DenS := fun E => (fx E).bind fun d => match d with | .list xs => (fy E).bind fun e => .ret (.nx ((E.set i (some (.own xs))).set j (some (.d e)))) | _ => .fail
def sOOPar (i j : Nat) (fx fy : DenE) : DenS := fun E => (fx E).bind fun d => match d with | .list xs => (fy E).bind (fun e => match e with | .list ys => .ret (.nx ((E.set i (some (.own xs))).set j (some (.own ys)))) | _ => .fail) | _ => .fail
end
end Nx
namespace Nx
open PySem PySem.Spec PyProof.Rows L2
open Tree
end Nx
namespace Nx
open PySem PySem.Spec PyProof.Rows L2
open Tree
section
variable {b : Addr} {X : Cx} {x y z : Expr} {fx fy fz : DenE} {pos : Pos} {ρ : Rho} {μ : Mu}
theorem dt_chain {op op' : CmpOp} {p p' : Int → Int → Bool} {Φ : Bool → Mu → Prop} (ho : OpR X (compareOp op) (rI0 fun i j => .bl (p i j))) (ho' : OpR X (compareOp op') (rI0 fun i j => .bl (p' i j)))
    (h : DE X x ρ μ fun u μ1 => DE X y ρ μ1 fun w μ2 => ∃ i j, u = .im (.int i) ∧ w = .im (.int j) ∧ if p i j = true then DE X z ρ μ2 fun t μ3 => ∃ k, t = .im (.int k) ∧ Φ (p' j k) μ3 else Φ false μ2)
    (hm : lastMarks [op, op'] [y, z] = false := by with_unfolding_all rfl) : DT X (.Compare x [op, op'] [y, z] pos) ρ μ Φ := fun G H σ m v Q f =>
  WT.of (pt_chain ho ho' pwe pwe pwe hm) (h G H σ m v _ fun vx u μ1 G1 H1 q1 e1 m1 r1 => q1 G1 H1 σ m1 (v.mono e1) _ fun vy w μ2 G2 H2 q2 e2 m2 r2 => by
    obtain ⟨i, j, rfl, rfl, q⟩ := q2
    cases r1
    cases r2
    refine ⟨i, j, rfl, rfl, _, rfl, ?_⟩
    by_cases hp : p i j = true
    · rw [if_pos hp] at q ⊢
      refine q G2 H2 σ m2 (v.mono (e1.trans e2)) _ fun vz t μ3 G3 H3 q3 e3 m3 r3 => ?_
      obtain ⟨k, rfl, q⟩ := q3
      cases r3
      exact ⟨j, k, rfl, rfl, _, rfl, f _ _ _ _ q ((e1.trans e2).trans e3) m3⟩
    · rw [if_neg hp] at q ⊢
      exact ⟨_, rfl, f _ _ _ _ q (e1.trans e2) m2⟩)
def tCh (p p' : Int → Int → Bool) (f g h : DenE) : DenB := fun E => (f E).bind fun x => (g E).bind fun y => match x, y with
  | .int i, .int j => (match p i j with
    | true => (h E).bind fun z => match z with | .int k => .ret (p' j k) | _ => .fail
    | false => .ret false)
  | _, _ => .fail
theorem st_chain {op op' : CmpOp} {p p' : Int → Int → Bool} (ho : OpR X (compareOp op) (rI0 fun i j => .bl (p i j))) (ho' : OpR X (compareOp op') (rI0 fun i j => .bl (p' i j))) (hx : SE b X x fx) (hy : SE b X y fy) (hz : SE b X z fz)
    (hm : lastMarks [op, op'] [y, z] = false := by with_unfolding_all rfl) : ST b X (.Compare x [op, op'] [y, z] pos) (tCh p p' fx fy fz) := .mk fun μ0 E ρ μ Φ R h =>
  dt_chain ho ho' (hx.run μ0 E ρ μ _ R ((all_bind.mp h).imp fun d q μ1 s1 => hy.run μ0 E ρ μ1 _ (R.step s1) ((all_bind.mp q).imp fun d' q μ2 s2 => by
    cases d with
    | int i =>
      cases d' with
      | int j =>
        refine ⟨i, j, rfl, rfl, ?_⟩
        dsimp only at q
        cases hp : p i j with
        | true =>
          rw [hp] at q
          rw [if_pos rfl]
          refine hz.run μ0 E ρ μ2 _ ((R.step s1).step s2) ((all_bind.mp q).imp fun d3 q μ3 s3 => ?_)
          cases d3 with
          | int k => exact ⟨k, rfl, q μ3 ((s1.trans s2).trans s3)⟩
          | _ => exact q.elim
        | false =>
          rw [hp] at q
          rw [if_neg (by decide)]
          exact q μ2 (s1.trans s2)
      | _ => exact q.elim
    | _ => exact q.elim))) hm
end
end Nx
namespace Nx
open PySem PySem.Spec PyProof.Rows L2
open Tree
section
variable {b : Addr} {X : Cx} {e x y tg : Expr} {fx fy : DenE} {pos : Pos}
def sNest (i j k : Nat) (fx fy : DenE) : DenS := fun E => (fx E).bind fun u => (fy E).bind fun w => match w with | .tuple [a, c] => .ret (.nx (((E.set i (some (.d u))).set j (some (.d a))).set k (some (.d c)))) | _ => .fail
end
end Nx
namespace Nx
open PySem PySem.Spec PyProof.Rows L2
open Tree
def dPr (i : Nat) (f : DenE) : DenE := fun E => match E[i]? with | some (some (.own ds)) => (f E).bind fun x => .ret (.tuple [.list ds, x]) | _ => .fail
def pC (g : DenS) (h : DenE) : DenE := fun E => (g E).bind fun o => match o with | .nx E' => h E' | _ => .fail
def pFrz (i : Nat) (h : DenE) : DenE := fun E => h (frzE i E)
def fnP (a n : Nat) (body : DenE) : List W → Tree PyData := fun ws => (liftO (lenIs a ws)).bind fun _ => body (ws.map (fun w => some (ent w)) ++ List.replicate (n - a) none)
section
variable {b : Addr} {X : Cx} {e x y : Expr} {es : List Expr} {fx : DenE} {g : DenS} {h : DenE} {st : Stmt} {ss : List Stmt} {pos : Pos} {ρ : Rho} {μ : Mu} {Φ : OV → Mu → Prop}
def sCallP (i j : Nat) (F : List W → Tree PyData) (fs : Env → Tree (List W)) : DenS := fun E => (fs E).bind fun ws => (F ws).bind fun d => match d with | .tuple [.list ds, x] => .ret (.nx ((E.set i (some (.own ds))).set j (some (.d x)))) | _ => .fail
def dOLen (i : Nat) : DenE := fun E => match E[i]? with | some (some (.own l)) => .ret (.int l.length) | _ => .fail
end
end Nx
namespace Nx
open PySem PySem.Spec PyProof.Rows L2
open Tree
end Nx
namespace Nx
open PySem PySem.Spec PyProof.Rows L2
open Tree
end Nx
namespace Nx
open PySem PySem.Spec PyProof.Rows L2
open Tree
end Nx
namespace Nx
open PySem PySem.Spec PyProof.Rows L2
open Tree
end Nx
namespace Nx
open PySem PySem.Spec PyProof.Rows L2
open Tree
section
variable {b : Addr} {X : Cx} {x y z : Expr} {fx fy fz : DenE} {pos : Pos}
def pCat : PyData → PyData → Option PyData
  | .list xs, .list ys => if xs.length + ys.length ≤ 100000 then some (.list (xs ++ ys)) else none
  | _, _ => none
theorem pCat_some {d d' r : PyData} (h : pCat d d' = some r) : ∃ xs ys, d = .list xs ∧ d' = .list ys ∧ xs.length + ys.length ≤ 100000 ∧ r = .list (xs ++ ys) := by
  unfold pCat at h
  split at h
  · split at h
    · rename_i hz
      cases h
      exact ⟨_, _, rfl, rfl, hz, rfl⟩
    · cases h
  · cases h
theorem so_cat (hx : SE b X x fx) (hy : SE b X y fy) : SO b X (.BinOp x .Add y pos) (d2 pCat fx fy) := .mk fun μ0 E ρ μ Φ R q =>
  de_op op_cat (hx.run μ0 E ρ μ _ R ((all_bind.mp q).imp fun d q μ1 s1 => hy.run μ0 E ρ μ1 _ (R.step s1) ((all_bind.mp q).imp fun d' q μ2 s2 => by
    obtain ⟨r, hr, q⟩ := lift_all q
    obtain ⟨xs, ys, rfl, rfl, hz, rfl⟩ := pCat_some hr
    obtain ⟨ds, e, q⟩ := q
    cases e
    intro G H vx vy m rx ry Q f
    have rx : Dv G vx (.list xs) := rx
    have ry : Dv G vy (.list ys) := ry
    cases rx with
    | lst h1 w1 =>
      cases ry with
      | lst h2 w2 =>
        refine ⟨_, _, _, _, rfl, rfl, m.ex _ _ h1, m.ex _ _ h2, by rw [w1.length, w2.length]; exact Nat.le_trans hz (by decide), fun p hp => ?_⟩
        have w := (ROs.of_ims w1).append (ROs.of_ims w2)
        rw [← List.map_append] at w
        exact f _ _ _ _ _ (q μ2 p (s1.trans s2) (m.fresh hp)) (Ex.refl G) (m.new hp w) rfl)))
def sIx (i : Nat) (fy fz : DenE) : DenS := fun E => (fz E).bind fun z => match E[i]? with
  | some (some (.own l)) => (fy E).bind fun y => match y with | .int j => (match ixN l.length j with | some m => .ret (.nx (E.set i (some (.own (l.set m z))))) | none => .fail) | _ => .fail
  | _ => .fail
end
end Nx
namespace Nx
open PySem PySem.Spec PyProof.Rows L2
open Tree
mutual
inductive Ld (b : Addr) (μ : Mu) : OV → PyData → Prop
  | im (d : PyData) : Ld b μ (.im d) d
  | own {q : Addr} {os : List OV} {ds : List PyData} : q ≠ b → μ q = some os → LdA b μ os ds → Ld b μ (.own q) (.list ds)
inductive LdA (b : Addr) (μ : Mu) : List OV → List PyData → Prop
  | nil : LdA b μ [] []
  | cons {o : OV} {os : List OV} {d : PyData} {ds : List PyData} : Ld b μ o d → LdA b μ os ds → LdA b μ (o :: os) (d :: ds)
end
section
variable {b : Addr} {μ : Mu} {G H : Hp} {who : Addr → Option Addr}
theorem LdA.ims : ∀ ds : List PyData, LdA b μ (ds.map .im) ds
  | [] => .nil
  | d :: ds => .cons (.im d) (LdA.ims ds)
end
theorem LlAt.ld {b : Addr} {μ0 μ : Mu} {p : Addr} {ls : List (List PyData)} (h : LlAt b μ0 p ls) (s : Bs b μ0 μ) : Ld b μ (.own p) (.list (ls.map .list)) := by
  obtain ⟨ps, pb, hp, nd, hP⟩ := h
  refine .own pb (s.old _ _ pb hp) ?_
  clear hp nd
  induction hP with
  | nil => exact .nil
  | cons r _ ih => exact .cons (.own r.1 (s.old _ _ r.1 r.2) (LdA.ims _)) ih
section
variable {b : Addr} {X : Cx} {e x y : Expr} {es : List Expr} {f : DenB} {fx fy : DenE} {st : Stmt} {ss : List Stmt} {pos p apos cpos rp : Pos} {gs : Env → Tree (List W)}
structure Nst (b : Addr) (μ0 : Mu) (E : Env) (ρ : Rho) (μ : Mu) (h i : Nat) (q p : Addr) (l es : List PyData) : Prop where
  rel : Rel b μ0 E ρ μ
  rh : ρ[h]? = some (some (.own q))
  mq : μ q = some ((l.map .im).set i (.own p))
  li : l[i]? = some (.list es)
  mp : μ p = some (es.map .im)
  pb : p ≠ b
  qb : q ≠ b
  pq : p ≠ q
  p0 : μ0 p = none
  q0 : μ0 q = none
  np : ∀ (j : Nat) ds c, E[j]? = some (some (.own ds)) → ρ[j]? = some (some (.own c)) → c ≠ p
  nq : ∀ (j : Nat) ds c, E[j]? = some (some (.own ds)) → ρ[j]? = some (some (.own c)) → c ≠ q
theorem Nst.step {μ0 μ μ' : Mu} {E : Env} {ρ : Rho} {h i : Nat} {q p : Addr} {l es : List PyData} (N : Nst b μ0 E ρ μ h i q p l es) (s : Bs b μ μ') : Nst b μ0 E ρ μ' h i q p l es :=
  ⟨N.rel.step s, N.rh, s.old _ _ N.qb N.mq, N.li, s.old _ _ N.pb N.mp, N.pb, N.qb, N.pq, N.p0, N.q0, N.np, N.nq⟩
def nApp (fx : DenE) (f : List PyData → DenS) : List PyData → DenS := fun l E => (fx E).bind fun y => (liftO (small (l.length + 1))).bind fun _ => f (l ++ [y]) E
def frzW : Option W → Option W
  | some (.own l) => some (.d (.list l))
  | some (.odc _) => none
  | some (.cir _) => none
  | some (.lc _) => none
  | some (.ll ls) => some (.d (.list (ls.map .list)))
  | w => w
def lendE (h : Nat) (l : List PyData) (E : Env) : Env := (E.set h (some (.d (.list l)))).map frzW
def nIf (h : Nat) (ft : DenB) (f : List PyData → DenS) : List PyData → DenS := fun l E => (ft (lendE h l E)).bind fun k => match k with | true => .ret (.rt (.bool false)) | false => f l E
def nEnd (i : Nat) (fx : DenE) (g : DenS) : List PyData → DenS := fun l E => match l[i]? with | some (.list es) => (liftO (small (es.length + 1))).bind fun _ => (fx E).bind fun _ => g E | _ => .fail
def sN0 (h : Nat) (F : DenE) (fy : DenE) (f : List PyData → DenS) : DenS := fun E => (liftO (if h < E.length then some () else none)).bind fun _ => (F E).bind fun d => match d with | .list es => (fy E).bind fun y => f [.list es, y] (E.set h none) | _ => .fail
def sN1 (h : Nat) (fx : DenE) (F : DenE) (f : List PyData → DenS) : DenS := fun E => (liftO (if h < E.length then some () else none)).bind fun _ => (fx E).bind fun x => (F E).bind fun d => match d with | .list es => f [x, .list es] (E.set h none) | _ => .fail
end
end Nx
namespace Nx
open PySem PySem.Spec PyProof.Rows L2
open Tree
end Nx
namespace Nxz
open PySem
open PySem.Sem (wp)
end Nxz
namespace Nx
open PySem PySem.Spec PyProof.Rows L2
open Tree
def zipDic : PyData → PyData → Option (List (PyData × PyData))
  | .tuple ks, .list ds => match asI ks with
    | some is => if is.Nodup ∧ is.length = ds.length ∧ is.length ≤ 1000 then some ((iL is).zip ds) else none
    | none => none
  | _, _ => none
def asP : List PyData → Option (List (Int × PyData))
  | [] => some []
  | .tuple [.int k, d] :: r => match asP r with
    | some ps => some ((k, d) :: ps)
    | none => none
  | _ => none
def pairDic : PyData → Option (List (PyData × PyData))
  | .list ps => match asP ps with
    | some qs => if (qs.map (·.1)).Nodup ∧ qs.length ≤ 1000 then some (qs.map fun q => (.int q.1, q.2)) else none
    | none => none
  | _ => none
inductive DK' where
  | i (n : Int) | t (ns : List Int)
  deriving DecidableEq
def keyD : PyData → Option DK'
  | .int n => some (.i n)
  | .tuple ds => match asI ds with | some ns => some (.t ns) | none => none
  | _ => none
def lookD : List (PyData × PyData) → DK' → Option PyData
  | [], _ => none
  | (k, v) :: r, x => if keyD k = some x then some v else lookD r x
def dZipD (f g : DenE) : Env → Tree (List (PyData × PyData)) := fun E => (f E).bind fun x => (g E).bind fun y => liftO (zipDic x y)
def dPairD (f : DenE) : Env → Tree (List (PyData × PyData)) := fun E => (f E).bind fun x => liftO (pairDic x)
section
variable {b : Addr} {X : Cx} {e x y : Expr} {fx fy : DenE} {pos pos2 p p2 : Pos} {st : Stmt}
def sSetK (i : Nat) (f : Env → Tree (List (PyData × PyData))) : DenS := fun E => (f E).bind fun kvs => .ret (.nx (E.set i (some (.dic kvs))))
def dGet (i : Nat) (f : DenE) : DenE := fun E => match E[i]? with
  | some (some (.dic kvs)) => (f E).bind fun k => (liftO (keyD k)).bind fun k => liftO (lookD kvs k)
  | _ => .fail
end
end Nx
namespace Nx
open PySem PySem.Spec PyProof.Rows L2
open Tree
section
variable {b : Addr} {X : Cx} {e x y : Expr} {fx fy : DenE} {pos pos2 p p2 : Pos}
def pMax2 : PyData → PyData → Option PyData
  | .int i, .int j => some (.int (max i j))
  | _, _ => none
end
end Nx
namespace Nx
open PySem PySem.Spec PyProof.Rows L2
open Tree
end Nx
namespace Nx
open PySem PySem.Spec PyProof.Rows L2
open Tree
section
variable {G G' : Hp}
theorem RO.ez (e : Ez G G') {v : V} : ∀ {o : OV}, RO G v o → RO G' v o
  | .im _, h => Dv.ez e h
  | .own _, h => h
  | .scr _ _, ⟨a, h1, h2⟩ => ⟨a, h1, by
    rcases h2 with (h | ⟨o, h⟩) | h
    · exact .inl (.inl (e _ _ h fun _ z => nomatch z))
    · exact .inl (.inr ⟨o, e _ _ h fun _ z => nomatch z⟩)
    · exact .inr h⟩
  | .pr _ _, ⟨t, v2, h1, h2, h3⟩ => ⟨t, v2, h1, e _ _ h2 (fun _ z => nomatch z), Dv.ez e h3⟩
  | .dic _, ⟨a, xs, h1, h2, h3⟩ => ⟨a, xs, h1, by
    rcases h2 with ⟨is, h2, h4⟩ | ⟨iss, o, h2, h4⟩
    · exact .inl ⟨is, h2, e _ _ h4 (fun _ z => nomatch z)⟩
    · exact .inr ⟨iss, o, h2, e _ _ h4 (fun _ z => nomatch z)⟩, DvA.ez e h3⟩
  | .ob P, h => P.mono e h
theorem ROs.ez (e : Ez G G') : ∀ {vs : List V} {os : List OV}, ROs G vs os → ROs G' vs os
  | _, _, .nil => .nil
  | _, _, .cons h t => .cons (RO.ez e h) (ROs.ez e t)
theorem ThOk.ez {C : Addr} {who : Addr → Option Addr} {H : Hp} {a : Addr} (e : Ez G G') : ∀ {t : Th}, ThOk C who G H a t → ThOk C who G' H a t
  | .dT kvs, ⟨xs, h1, h2⟩ => ⟨xs, h1, h2.ez e⟩
  | .cir c, ⟨dx, q, r, vb, xs, ys, h1, h2, h3, h4, h5, h6, h7, h8, h9, h10, h11⟩ => ⟨dx, q, r, vb, xs, ys, h1, h2, h3, h4, h5, h6, h7, h8, h9.ez e, h10.ez e, h11.ez e⟩
theorem ez_upd {p : Addr} {f g : Heap → Prop} (h : G p = some (.ext f)) : Ez G (upd G p (.ext g)) := fun a o e n => by
  rw [upd_ne (fun z => by rw [z, h] at e; cases e; exact n f rfl)]
  exact e
theorem RM.ext {H : Hp} {μ : Mu} (r : RM G H μ) {p : Addr} {f g : Heap → Prop} (h : G p = some (.ext f)) : RM (upd G p (.ext g)) (upd H p (.ext g)) μ := by
  refine ⟨fun a u e => ?_, fun a l q => ?_, ?_⟩
  · by_cases ha : a = p
    · subst ha
      rw [upd_same] at e ⊢
      exact e
    · rw [upd_ne ha] at e ⊢
      exact r.ex a u e
  · obtain ⟨g0, vs, e, w⟩ := r.own a l q
    have ha : a ≠ p := fun z => by rw [z, h] at g0; cases g0
    exact ⟨by rw [upd_ne ha]; exact g0, vs, by rw [upd_ne ha]; exact e, w.ez (ez_upd h)⟩
  · obtain ⟨who, t⟩ := r.thg
    have ne : ∀ x a, who x = some a → x ≠ p := fun x a hx z => by
      have := (t.of x a hx).1
      rw [z, h] at this
      cases this
    refine ⟨who, fun a th q => ?_, fun x a hx => ?_⟩
    · obtain ⟨h1, h2⟩ := t.ok a th q
      exact ⟨h1, (h2.ez (ez_upd h)).keep h1 fun x hx => upd_ne (ne x a hx)⟩
    · obtain ⟨h1, h2, h3, h4⟩ := t.of x a hx
      exact ⟨by rw [upd_ne (ne x a hx)]; exact h1, h2, by rw [upd_ne (ne x a hx)]; exact h3, h4⟩
end
end Nx
namespace Nx
open PySem PySem.Spec PyProof.Rows L2
open Tree
def lookT : TD → List Int → Option PyData
  | [], _ => none
  | (k, v) :: r, t => if k = t then some v else lookT r t
def putT : TD → List Int → PyData → TD
  | [], t, d => [(t, d)]
  | (k, v) :: r, t, d => if k = t then (k, d) :: r else (k, v) :: putT r t d
theorem imD_snd (kvs : TD) : (imD kvs).map (·.2) = (kvs.map (·.2)).map OV.im := by
  unfold imD
  rw [List.map_map, List.map_map]
  rfl
def odcE (E : Env) (i : Nat) : Option TD := match E[i]? with | some (some (.odc kvs)) => some kvs | _ => none
theorem odcE_some {E : Env} {i : Nat} {kvs : TD} (h : odcE E i = some kvs) : E[i]? = some (some (.odc kvs)) := by
  unfold odcE at h
  split at h
  · rename_i e
    cases h
    exact e
  · cases h
def tdE (E : Env) (i : Nat) : Option TD := match E[i]? with | some (some (.odc kvs)) => some kvs | some (some (.dtt kvs)) => some kvs | _ => none
def TdO (kvs : TD) (μ : Mu) (o : OV) : Prop := (∃ p, o = .own p ∧ μ.d p = some (.dT (imD kvs))) ∨ o = .ob (dttP kvs)
theorem TdO.step {b : Addr} {kvs : TD} {μ μ' : Mu} {o : OV} (s : Bs b μ μ') (h : TdO kvs μ o) : TdO kvs μ' o := h.imp (fun ⟨p, e, h⟩ => ⟨p, e, s.thg _ _ h⟩) id
theorem TdO.at {G H : Hp} {μ : Mu} {kvs : TD} {o : OV} {v : V} (m : RM G H μ) (h : TdO kvs μ o) (r : RO G v o) : ∃ a xs, v = .ref a ∧ Rd H a (.dT (kvV (imD kvs) xs)) ∧ DvA G xs (kvs.map (·.2)) := by
  rcases h with ⟨p, rfl, h⟩ | rfl
  · have r : v = .ref p := r
    obtain ⟨_, _, xs, h1, h2⟩ := m.atD h
    rw [imD_snd] at h2
    exact ⟨p, xs, r, .inl h1, ROs.ims h2⟩
  · obtain ⟨a, o, xs, h1, h2, h3⟩ := r
    exact ⟨a, xs, h1, .inr ⟨o, m.ex _ _ h2⟩, h3⟩
def isNd (kvs : TD) : Option Unit := if (kvs.map (·.1)).Nodup then some () else none
def tDen (f : DenE) : Env → Tree (List Int) := fun E => (f E).bind fun x => liftO (asT x)
section
variable {b : Addr} {X : Cx} {e x y z : Expr} {fx fy fz : DenE} {pos p apos cpos : Pos} {st : Stmt} {k : Nat}
theorem Rel.odc {μ0 μ : Mu} {E : Env} {ρ : Rho} {i : Nat} {kvs : TD} (R : Rel b μ0 E ρ μ) (h : odcE E i = some kvs) : ∃ p, ρ[i]? = some (some (.own p)) ∧ μ0.d p = none ∧ μ.d p = some (.dT (imD kvs)) := by
  obtain ⟨o, h1, p, rfl, h2, h3⟩ := R.get i _ (odcE_some h)
  exact ⟨p, h1, h2, h3⟩
def sNewD (i : Nat) : DenS := fun E => .ret (.nx (E.set i (some (.odc []))))
def dGetO (i : Nat) (fk fz : DenE) : DenE := fun E => match tdE E i with
  | some kvs => (tDen fk E).bind fun t => (fz E).bind fun z => .ret ((lookT kvs t).getD z)
  | none => .fail
def dIdxO (i : Nat) (fk : DenE) : DenE := fun E => match tdE E i with
  | some kvs => (tDen fk E).bind fun t => liftO (lookT kvs t)
  | none => .fail
def tNinD (i : Nat) (fk : DenE) : DenB := fun E => match tdE E i with
  | some kvs => (tDen fk E).bind fun t => .ret (lookT kvs t).isNone
  | none => .fail
def sPutO (i : Nat) (fk fv : DenE) : DenS := fun E => match odcE E i with
  | some kvs => (liftO (isNd kvs)).bind fun _ => (liftO (small kvs.length)).bind fun _ => (fv E).bind fun d => (tDen fk E).bind fun t => .ret (.nx (E.set i (some (.odc (putT kvs t d)))))
  | none => .fail
end
end Nx
namespace Nx
open PySem PySem.Spec PyProof.Rows L2
open Tree
end Nx
namespace Nx
open PySem PySem.Spec PyProof.Rows L2
open Tree
def lockE (i : Nat) (E : Env) : Env := match odcE E i with | some kvs => E.set i (some (.dtt kvs)) | none => E
def sLock (i : Nat) (g : DenS) : DenS := fun E => g (lockE i E)
def dttE (E : Env) (i : Nat) : Option TD := match E[i]? with | some (some (.dtt kvs)) => some kvs | _ => none
def keysT (kvs : TD) : List (List Int) := kvs.map (·.1)
section
variable {b : Addr} {X : Cx} {e x y z tg : Expr} {es : List Expr} {fx fy fz : DenE} {pos p apos cpos : Pos} {st : Stmt} {ss : List Stmt} {k : Nat} {g : DenS} {gs : Env → Tree (List W)}
def pSrtD (kvs : TD) : Option PyData := if 1 ≤ hdLen (keysT kvs) ∧ kvs.length ≤ 1000 ∧ (keysT kvs).all (bdT (hdLen (keysT kvs))) = true then some (.list ((srtT (keysT kvs)).map tpl)) else none
def dSrtD (i : Nat) : DenE := fun E => match tdE E i with | some kvs => liftO (pSrtD kvs) | none => .fail
def iDtt (i : Nat) : DenL := fun E => match dttE E i with | some kvs => .ret ((keysT kvs).map tpl) | none => .fail
def tC (g : DenS) (h : Env → Tree TD) : Env → Tree TD := fun E => (g E).bind fun o => match o with | .nx E' => h E' | _ => .fail
def tRet (i : Nat) : Env → Tree TD := fun E => match odcE E i with | some kvs => .ret kvs | none => .fail
def tCall2 (F : List W → Tree TD) (gs : Env → Tree (List W)) : Env → Tree TD := fun E => (gs E).bind F
def sParDt (i j : Nat) (ft : Env → Tree TD) (fy : DenE) : DenS := fun E => (ft E).bind fun kvs => (fy E).bind fun d => .ret (.nx ((E.set i (some (.dtt kvs))).set j (some (.d d))))
end
section
variable {P : Program} {w : World} {K : PySem.W.Frag} {mg : Str → Option Value} {base : Heap}
def fnT (a n : Nat) (body : Env → Tree TD) : List W → Tree TD := fun ws => (liftO (lenIs a ws)).bind fun _ => body (ws.map (fun w => some (ent w)) ++ List.replicate (n - a) none)
end
end Nx
namespace Nx
open PySem PySem.Spec PyProof.Rows L2
open Tree
end Nx
namespace Nx
open PySem PySem.Spec PyProof.Rows L2
open Tree
def putAll (kvs : TD) (qs : TD) : TD := qs.foldl (fun acc p => putT acc p.1 p.2) kvs
def asTP : List PyData → Option TD
  | [] => some []
  | .tuple [k, d] :: r => match asT k, asTP r with
    | some t, some ps => some ((t, d) :: ps)
    | _, _ => none
  | _ => none
def lTP (x : PyData) : Option TD := match x with | .list ds => asTP ds | _ => none
def sUpd (i : Nat) (fx : DenE) : DenS := fun E => match odcE E i with
  | some kvs => (liftO (isNd kvs)).bind fun _ => (liftO (if kvs.isEmpty then none else some ())).bind fun _ => (fx E).bind fun x => (liftO (lTP x)).bind fun qs => (liftO (isNd qs)).bind fun _ => (liftO (small (kvs.length + qs.length))).bind fun _ => .ret (.nx (E.set i (some (.odc (putAll kvs qs)))))
  | none => .fail
end Nx
namespace Nx
open PySem PySem.Spec PyProof.Rows L2
open Tree
section
variable {b : Addr} {X : Cx} {x y z e tg kx vx : Expr} {es : List Expr} {fx fy fz fk fv : DenE} {pos p q1 : Pos} {k kt : Nat} {st : Stmt} {ρ : Rho} {μ μ0 : Mu} {E : Env}
def sDD (i j l : Nat) (fk fx fk2 fy fz : DenE) : DenS := fun E => (tDen fk E).bind fun t => (fx E).bind fun d => (tDen fk2 E).bind fun t' => (fy E).bind fun d' => (fz E).bind fun c => .ret (.nx (((E.set i (some (.odc [(t, d)]))).set j (some (.odc [(t', d')]))).set l (some (.d c))))
def sND (i j : Nat) (fy : DenE) : DenS := fun E => (fy E).bind fun c => .ret (.nx ((E.set i (some (.odc []))).set j (some (.d c))))
def tNeN (i : Nat) : DenB := fun E => match tdE E i with | some kvs => .ret (!kvs.isEmpty) | none => .fail
def sCpT (i j : Nat) : DenS := fun E => match dttE E j with | some kvs => .ret (.nx (E.set i (some (.dtt kvs)))) | none => .fail
def sParDt3 (i j l : Nat) (ft : Env → Tree TD) (fy fz : DenE) : DenS := fun E => (ft E).bind fun kvs => (fy E).bind fun d => (fz E).bind fun d' => .ret (.nx (((E.set i (some (.dtt kvs))).set j (some (.d d))).set l (some (.d d'))))
end
section
variable {b : Addr} {X : Cx} {ss : List Stmt}
def tLock (i : Nat) (h : Env → Tree TD) : Env → Tree TD := fun E => h (lockE i E)
end
end Nx
set_option maxHeartbeats 4000000
namespace PySem
namespace HandSPX
open PySem.W PySem.Calls PyProof.Rows
open Builtin Builtin.ObjectAttr
section
variable {prog : Program} {w : World} {A : Around} {E : Value → Shared → Prop} {R : Result → Shared → Prop} {hp : Heap} {g : Array GenState} {d : Drawn} {t : Nat} {os : OsState}
theorem exc_osaB {B : String} {bm : List Value} {K : W.Frag} {name : Str} {tk : Tok} {v : Value} {x C : Addr} {fv : Array Value} {cd : ClassData} (ST : StoreFacts B bm "object.__setattr__" "object")
    (X : K.In hp) (hx : hp.get? x = some { cls := .ref C, data := .fields fv }) (hcd : W.clsIn K C = some cd) (hm : cd.mro = .ref C :: bm) (hh : cd.hasDict = true) (ha : W.findIn K (.ref C) name = some none)
    (hq : ∀ h' tk' dx, (∀ b o, b ≠ x → hp.get? b = some o → h'.get? b = some o) → hp.objs.size ≤ dx → dx ≠ x → h'.get? x = some { cls := .ref C, dict := some dx, data := .fields fv } →
      h'.Ns1 dx (fun y => if y = name then some v else none) → R (.ok (.ret .none)) ⟨h', g, d, tk', os⟩) :
    codeAny (model prog w) A (.call (.builtin "object.__setattr__") ⟨[.ref x, .str name tk, v], []⟩) R ⟨hp, g, d, t, os⟩ := by
  have I : W.InstAt hp x { cls := .ref C, data := .fields fv } C none := ⟨hx, rfl, rfl, trivial⟩
  have SF := F.store_object
  have ne : cd.mro.isEmpty = false := by rw [hm]; rfl
  have hob : cd.mro.contains (.type "object") = true := by rw [hm, List.contains_cons, ST.hasOwner, Bool.or_true]
  have hxs : x ≠ hp.objs.size := Nat.ne_of_lt (Heap.lt_size hx)
  have sub : W.Looks (model prog w) hp (isInstance (.ref x) (.type "object")) true := I.type.andThen (W.looks_mroIn X (by unfold W.mroIn; rw [hcd, Option.bind_some, if_neg (by rw [ne]; decide), hob]))
  refine codeAny_call_builtin SF.slot.plain SF.entry (@W.check_slot (model prog w) _ _ ⟨hp, g, d, t, os⟩ "object.__setattr__" "object" "__setattr__" (.ref x) [.str name tk, v] [] _ SF.kind SF.split sub (SF.args (.ref x) (.str name tk) v) ?_)
  have hmr : W.Looks (model prog w) hp (mroOf (.ref C)) cd.mro := (W.looks_clsIn X hcd).andThen .now
  have L3 : W.Looks (model prog w) hp (storeTaker? none) none := .now
  have hcls : W.Looks (model prog w) hp (classData C) cd := W.looks_clsIn X hcd
  rw [W.osa_eq, refuse_eq]
  refine wpAny_bind (wpAny_bind (I.type.at (wpAny_bind (hmr.at ?_))))
  rw [show refuseLoop (.ref x) "__setattr__" cd.mro = pure () by rw [hm, refuseLoop_ref]; exact ST.passes _]
  refine wpAny_pure (wpAny_bind (I.type.at (wpAny_bind ((W.looks_findIn X ha).at (wpAny_bind (L3.at ?_))))))
  show wpAny _ _ (storeInOwnDict (.ref x) (.ref C) (.str name tk) name v false) _ _ _
  obtain ⟨nm, bs, mro, ns, qn, hd, sn, sb, ab, col, del⟩ := cd
  dsimp only at hh
  subst hh
  unfold storeInOwnDict ownDictForStores
  repeat (first | with_reducible refine store_in_new ?_ ?_ | with_reducible refine wpAny_loadPart_at hx ?_ | with_reducible refine hcls.at ?_ | wp_step)
  · exact ⟨_, #[], _, (Heap.get?_update_ne _ _ _ _ hxs.symm).trans (Heap.get?_push_at rfl rfl), rfl, fun e he => absurd he (by simp), fun _ => rfl⟩
  · intro h' tk' hn' hs
    have hx₁ : (hp.push { cls := .type "dict", data := .dict #[] }).get? x = some { cls := .ref C, data := .fields fv } := Heap.get?_push_of_some _ hx
    refine hq h' tk' hp.objs.size (fun b o hb ho => ?_) (Nat.le_refl _) hxs.symm ?_ hn'
    · exact (hs.2 b (Nat.ne_of_lt (Heap.lt_size ho))).trans ((Heap.get?_update_ne _ _ _ _ hb).trans (Heap.get?_push_of_some _ ho))
    · exact (hs.2 x hxs).trans (Heap.get?_update_self _ hx₁ rfl)
end
end HandSPX
end PySem
namespace Nx
open PySem PySem.Spec PyProof.Rows L2
structure BsF (B newId initId : String) (bm : List Value) : Prop where
  ex : ExcBaseFacts B newId initId bm
  st : StoreFacts B bm "object.__setattr__" "object"
  ty : typeOf (.type B) = pure (.type "type")
  stub : Manifest.isStub B = false
  hand : PySem.W.handedIn (.builtin initId) = true
theorem bsVE : BsF "ValueError" "ValueError.__new__" "ValueError.__init__" [.type "ValueError", .type "Exception", .type "BaseException", .type "object"] := ⟨F.excBase_ValueError, F.store_ValueError, by kernel_rfl, by decide +kernel, by decide +kernel⟩
structure ExB (K : PySem.W.Frag) (C : Addr) (newId : String) (bm : List Value) : Prop where
  cls : ∃ nm q N bs sn sub ab col dd k0 k1 k2 k3 k5, K.lookup C = some (excClassObj nm q C N bs bm true sn sub ab col dd k0 k1 k2 k3 k5 newId)
  sa : PySem.W.findIn K (.ref C) "__setattr__" = some (some (.builtin "object.__setattr__"))
  kC : PySem.W.keepIn K (.ref C) = true
section
variable {X : Cx} {pins : List (Addr × Obj)} {σ : L2.St} {H : Hp} {s : Shared} {a C dx : Addr} {f : Str} {y : V} {u : Value} {fs : List (Str × V)} {E : Value → Shared → Prop} {A : Around} {B newId initId : String} {bm : List Value}
theorem ost_newB {Q : Unit → Shared → Prop} (Z : BsF B newId initId bm) (T : ExB X.K C newId bm) (I : Inv X pins σ H s) (e : H a = some (exo a C none)) (hno : PySem.W.findIn X.K (.ref C) f = some none) (ry : RelV y u)
    (h : ∀ dx s', H dx = none → dx ≠ a → Inv X pins σ (upd (upd H dx (exd dx [(f, y)])) a (exo a C (some dx))) s' → Q () s') : wpAny (model X.prog X.w) A (setAttr (.ref a) f u) Q E s := by
  obtain ⟨nm, q, N, bs, sn, sub, ab, col, dd, k0, k1, k2, k3, k5, hC⟩ := T.cls
  have hcl : PySem.W.clsIn X.K C = some { name := nm, bases := bs, mro := .ref C :: bm, ns := N, qualname := q, hasDict := true, slotNames := sn, subclasses := sub, abstract := ab, collection := col, hasDel := false } := by unfold PySem.W.clsIn; rw [hC] <;> rfl
  obtain ⟨t1, ho⟩ := exo_at I.hok e
  obtain ⟨hp, g, d, t, os⟩ := s
  refine PySem.W.set_plain I.kIn (ox := { cls := .ref C, dict := none, data := .fields #[.ref t1, .none, .none, .none, .bool false, .none] }) (od := none) ⟨ho, rfl, rfl, trivial⟩ T.sa ?_
  refine PySem.HandSPX.exc_osaB Z.st I.kIn ho hcl rfl rfl hno (fun h' tk' dx k dn dne hx hn => ?_)
  have hnd : H dx = none := I.hok.fresh dn
  have nd : ∀ {b : Addr} {o : Obj}, hp.get? b = some o → b ≠ dx := fun {b o} q => Nat.ne_of_lt (Nat.lt_of_lt_of_le (Heap.lt_size q) dn)
  have na : ∀ {b : Addr}, H b = none → b ≠ a := fun {b} n z => by
    rw [z, e] at n
    cases n
  have Un1 : Un X.fs [] H (upd (upd H dx (exd dx [(f, y)])) a (exo a C (some dx))) hp h' := {
    keep := fun b o q n _ _ => k b o (na n) q
    slot := fun b o q n _ _ => ⟨o.slots, k b o (na n) q⟩
    free := fun b o q n _ => by rw [upd_ne (na n), upd_ne (nd q)]; exact n
    there := fun b o q _ => by
      by_cases hb : b = a
      · exact ⟨_, by rw [hb]; exact hx⟩
      · exact ⟨o, k b o hb q⟩
    tups := fun b xs q => by rw [upd_ne (at_ne e q exo_tup), upd_ne (ne_of_none q hnd)]; exact q
    frzs := fun b o v q => by rw [upd_ne (at_ne e q exo_frz), upd_ne (ne_of_none q hnd)]; exact q
    tbls := fun b ps q => ⟨#[], by rw [upd_ne (at_ne e q exo_tbl), upd_ne (ne_of_none q hnd), q]; simp⟩ }
  refine h dx _ hnd dne (I.un (t' := tk') Un1 fun b o q => ?_)
  by_cases hb : b = a
  · subst hb
    rw [upd_same] at q
    cases q
    exact exo_ok hx
  · rw [upd_ne hb] at q
    by_cases hd : b = dx
    · subst hd
      rw [upd_same] at q
      cases q
      exact exd_ok hn (relO_put (fs := []) ry fun g => True.intro)
    · rw [upd_ne hd] at q
      exact (I.hok b o q).stay (fun c v hc z => k c v (by
          rcases hc with hc | hc
          · rw [hc]
            exact hb
          · exact at_ne e hc exo_own) z)
        (fun c hc => by rw [upd_ne (at_ne e hc exo_own), upd_ne (ne_of_none hc hnd)]; exact hc) (fun c xs hc => by rw [upd_ne (at_ne e hc exo_tup), upd_ne (ne_of_none hc hnd)]; exact hc)
theorem oinit_okB {us : List Value} {Q : Value → Shared → Prop} (Z : BsF B newId initId bm) (T : ExB X.K C newId bm) (I : Inv X pins σ H s) (e : H a = some (exo a C none)) (hl : us.length ≤ sizeLine) (h : ∀ s', Inv X pins σ H s' → Q .none s') :
    wpAny (model X.prog X.w) A (call (.builtin initId) (.ref a :: us)) Q E s := by
  obtain ⟨nm, q, N, bs, sn, sub, ab, col, dd, k0, k1, k2, k3, k5, hC⟩ := T.cls
  obtain ⟨t1, ho⟩ := exo_at I.hok e
  obtain ⟨hp, g, d, t, os⟩ := s
  refine wpAny_call (PySem.HandSPX.init_base Z.ex (fun Y => rfl) (I.kIn _ _ hC) ho hl fun h' t2 k hx => ?_)
  have J := I.write (t' := t) (x := a) (e := a) (o := exo a C none) (by rw [e]; exact True.intro) (.inl rfl) k ⟨_, hx⟩ (exo_ok hx)
  have eu : upd H a (exo a C none) = H := by
    funext b
    by_cases hb : b = a
    · rw [hb, upd_same, e]
    · rw [upd_ne hb]
  rw [eu] at J
  exact h _ J
end
def tBI (K : PySem.W.Frag) (newId : String) (bm : List Value) (ta : TA) : TE := fun σ H Q => ta σ H fun vs H1 => ∃ (a C : Addr) (ws : List V), vs = .ref a :: ws ∧ ws.length ≤ 1000 ∧ ExB K C newId bm ∧ H1 a = some (exo a C none) ∧ Q .non H1
def tOs1 (K : PySem.W.Frag) (newId : String) (bm : List Value) (f : Str) (to te : TE) : TS := fun D σ H => te σ H fun y H1 => to σ H1 fun x H2 => ∃ a C : Addr, x = .ref a ∧ ExB K C newId bm ∧ PySem.W.findIn K (.ref C) f = some none ∧
  H2 a = some (exo a C none) ∧ ∀ dx, H2 dx = none → dx ≠ a → D.nx σ (upd (upd H2 dx (exd dx [(f, y)])) a (exo a C (some dx)))
section
variable {X : Cx} {o e : Expr} {es : List Expr} {to te : TE} {ta : TA} {f : Str} {p p' p1 p2 pos : Pos} {B newId initId : String} {bm : List Value} {nB : Str}
theorem pe_binit {pl : Sem Bool} (Z : BsF B newId initId bm) (hg : Gl X nB) (hm : X.mg nB = none) (hv : bootBuiltins nB = some (.type B)) (vV : PySem.W.findCls X.K (.type B) (.type "type") "__init__" = some (.val (.builtin initId))) (ha : PA X (e :: es) ta)
    (hc : eval (.Call (.Attribute (.Name nB p1) "__init__" p2) (e :: es) [] pos) X.env = (do
      let ov ← eval (.Name nB p1) X.env
      standAt p2.atName
      let (f, first) ← holding [ov] (getMethod ov "__init__" pl)
      callWith pos f first (backTo pos (starEach (e :: es) X.env)) (backToKw pos (keywordEach [] X.env))) := by rfl)
    (he : starEach (e :: es) X.env = (false, eval e X.env) :: starEach es X.env := by rfl) (hpl : (backTo pos (starEach es X.env)).any (·.1) = false := by rfl) (hn : nB ≠ "__name__" := by decide) (hd : (nB == ("__debug__" : Str)) = false := by decide) :
    PE X (.Call (.Attribute (.Name nB p1) "__init__" p2) (e :: es) [] pos) (tBI X.K newId bm ta) := by
  refine ⟨fun pins s σ H Q I h => ?_⟩
  refine PySem.W.methodCall_KW (ld_blt I hg hm hv ?_ hn hd) hc
  obtain ⟨m, fr⟩ := I.fr
  refine PySem.W.method_type fr I.ok.mod.kin Z.ty Z.stub vV Z.hand ?_
  show wpAny _ _ (callWith pos (Value.builtin initId) [] (backTo pos (starEach (e :: es) X.env)) []) _ _ _
  refine PyProof.Rows.callWith_method1 (thn (ha.run pos pins _ σ H _ (I.tok _) h) fun us s1 ⟨vs, H1, I1, r1, a, C, ws, ev, hl, T, ea, q⟩ => ?_) he hpl
  subst ev
  cases r1 with
  | @cons _ u0 _ ur ra rw' =>
    obtain rfl : u0 = Value.ref a := ra
    have hlen : ur.length ≤ sizeLine := by
      rw [← Paired.length rw', sizeLine_eq]
      omega
    exact oinit_okB Z T I1 ea hlen fun s' J => ⟨.non, H1, J, rfl, q⟩
theorem ps_os1 (Z : BsF B newId initId bm) (ho : PE X o to) (he : PE X e te) (hs : swapsWith e (some (.Attribute o f p')) pos.line X.env = pure false := by rfl) : PS X (.Assign [.Attribute o f p'] e pos) (tOs1 X.K newId bm f to te) := by
  refine ⟨fun pins s σ H D I h => ?_⟩
  refine plainObj_wpAny_Assign_Attribute (thn (he.run pins s σ H _ I h) fun v s1 ⟨y, H1, I1, r1, q1⟩ => thn (ho.run pins s1 σ H1 _ I1 q1) fun u s2 ⟨x, H2, I2, r2, a, C, ex, T, hno, ea, q⟩ => ?_) hs
  subst ex
  obtain rfl : u = Value.ref a := r2
  exact ost_newB Z T I2 ea hno r1 fun dx s' n ne J => ⟨σ, _, J, q dx n ne⟩
end
def spInit (K : PySem.W.Frag) (C : Addr) (f : Str) : Sp := fun vs H Q _ => ∃ (a : Addr) (y : V), vs = [.ref a, y] ∧ H a = some (exo a C none) ∧ ∀ dx, H dx = none → dx ≠ a → Q .non (upd (upd H dx (exd dx [(f, y)])) a (exo a C (some dx)))
end Nx
set_option maxHeartbeats 4000000
namespace Nx
open PySem PySem.Spec PyProof.Rows L2
structure ExT (P : Program) (w : World) (K : PySem.W.Frag) (mg : Str → Option Value) (base : Heap) (x : Str) (C : Addr) (f : Str) : Prop where
  bs : ∃ B newId initId bm, BsF B newId initId bm ∧ ExB K C newId bm ∧ bm.contains (.type "BaseException") = true
  gC : mg x = some (.ref C)
  exC : PySem.W.subIn K (.ref C) (.type "BaseException") = some true
  tyC : PySem.W.typeIn K (.ref C) = some (.type "type")
  ini : ∃ fI fd, PySem.W.findIn K (.ref C) "__init__" = some (some (.ref fI)) ∧ PySem.W.typeIn K (.ref fI) = some (.type "function") ∧ FnOk P w K mg base CX0 2 fI fd ["self", f] (spInit K C f) ∧ Binds K fd ["self", f] []
def tMk1 (C : Addr) (f : Str) (ta : TA) : L2.St → Hp → XK → Prop := fun σ H Q => ta σ H fun vs H1 => ∃ y, vs = [y] ∧ ∀ dx, H1 dx = none → Q (.ref C) (some dx) (upd H1 dx (.xd [(f, y)]))
section
variable {X : Cx} {e : Expr} {es : List Expr} {te : TE} {ta : TA} {f x : Str} {p pos : Pos} {C : Addr}
theorem upd_del {H1 : Hp} {a dx : Addr} {u v w : HO} (ha : H1 a = none) (hd : dx ≠ a) : upd (del (upd (upd (upd H1 a u) dx v) a w) a) dx (.xd [(f, y)]) = upd H1 dx (.xd [(f, y)]) := by
  funext b
  by_cases h1 : b = dx
  · rw [h1, upd_same, upd_same]
  · rw [upd_ne h1, upd_ne h1]
    by_cases h2 : b = a
    · rw [h2, del_same, ha]
    · rw [del_ne h2, upd_ne h2, upd_ne h1, upd_ne h2]
theorem pmk_one (T : ExT X.prog X.w X.K X.mg X.base x C f) (hr : Rm 3 X.A) (hx : Passes CX0 X (fun _ _ _ => False)) (hg : Gl X x) (ha : PA X [e] ta)
    (hdb : (x == ("__debug__" : Str)) = false := by decide) (he : starEach [e] X.env = (false, eval e X.env) :: starEach [] X.env := by rfl) (hpl : (backTo pos (starEach [] X.env)).any (·.1) = false := by rfl) :
    PMk X (.Call (.Name x p) [e] [] pos) (tMk1 C f ta) := by
  intro pins s σ H Q I h
  obtain ⟨B, newId, initId, bm, Z, T1, _⟩ := T.bs
  obtain ⟨fI, fd, iC, tI, F1, hb⟩ := T.ini
  obtain ⟨nm, q, N, bs, sn, sub, ab, col, dd, k0, k1, k2, k3, k5, hC⟩ := T1.cls
  refine wpAny_Call_Name_kw (ld_glob I hg T.gC ?_ hdb)
  refine PySem.W.callWith_K (h₀ := X.base) I.ok.mod.kin T1.kC (thn (ha.run pos pins s σ H _ I h) fun us s1 ⟨vs, H1, I1, r1, y, ev, q1⟩ => ⟨I1.kIn, ?_⟩) he hpl
  subst ev
  show wpAny _ _ (call (.ref C) us) _ _ _
  obtain ⟨hp, g, dr, tk, os⟩ := s1
  have hsz : hp.objs.size ≤ hp.objs.size + 1 := Nat.le_succ _
  have hn : H1 (hp.objs.size + 1) = none := I1.hok.fresh hsz
  have kk : ∀ b o, hp.get? b = some o → ((hp.push (PySem.W.kdv_tup us)).push (PySem.HandSPX.excO C hp.objs.size)).get? b = some o := fun b o e => Heap.get?_push_of_some _ (Heap.get?_push_of_some _ e)
  have hget : ((hp.push (PySem.W.kdv_tup us)).push (PySem.HandSPX.excO C hp.objs.size)).get? (hp.objs.size + 1) = some (PySem.HandSPX.excO C hp.objs.size) := by heap_get
  have I2 : Inv X pins σ (upd H1 (hp.objs.size + 1) (exo (hp.objs.size + 1) C none)) ⟨(hp.push (PySem.W.kdv_tup us)).push (PySem.HandSPX.excO C hp.objs.size), g, dr, tk, os⟩ :=
    I1.laid (t' := tk) (a := hp.objs.size + 1) (o := exo (hp.objs.size + 1) C none) (h' := (hp.push (PySem.W.kdv_tup us)).push (PySem.HandSPX.excO C hp.objs.size)) kk hsz (exo_ok hget)
  have hq : spInit X.K C f [.ref (hp.objs.size + 1), y] (upd H1 (hp.objs.size + 1) (exo (hp.objs.size + 1) C none)) (fun v H2 => v = .non ∧ ∃ (d : Addr) (fs : List (Str × V)), H2 (hp.objs.size + 1) = some (exo (hp.objs.size + 1) C (some d)) ∧ H2 d = some (exd d fs) ∧ H1 d = none ∧ Q (.ref C) (some d) (upd (del H2 (hp.objs.size + 1)) d (.xd fs))) (fun _ _ _ => False) := by
    refine ⟨_, y, rfl, upd_same, fun dx hdx dne => ⟨rfl, dx, [(f, y)], upd_same, ?_, ?_, ?_⟩⟩
    · rw [upd_ne dne, upd_same]
    · rw [upd_ne dne] at hdx
      exact hdx
    · rw [upd_del hn dne]
      rw [upd_ne dne] at hdx
      exact q1 dx hdx
  have r2 : Vals [V.ref (hp.objs.size + 1), y] (Value.ref (hp.objs.size + 1) :: us) := .cons rfl r1
  have hl : (Value.ref (hp.objs.size + 1) :: us ++ []).length = (["self", f] : List Str).length := by
    have e := r1.length
    simp only [List.length_cons, List.length_nil, List.append_nil] at e ⊢
    omega
  have hb2 := hb _ (Value.ref (hp.objs.size + 1) :: us) I2.kIn hl
  rw [List.append_nil] at hb2
  have hus : us.length ≤ sizeLine := by
    rw [← Paired.length r1, sizeLine_eq]
    show 1 ≤ 16777216
    decide
  refine wpAny_call (PySem.HandSPX.call_own Z.ex (fun Y => rfl) (I1.kIn _ _ hC) (PySem.W.looks_findIn I1.kIn iC) (fun self => PySem.W.bind_fn I1.kIn self tI) hus
    (codeAny_mono (F1.run _ X.stack _ _ ⟨Value.ref (hp.objs.size + 1) :: us, []⟩ (Value.ref (hp.objs.size + 1) :: us) _ _ (fun _ _ _ => False) (hr.room.make C us []) (I2.env0.make C us []) hb2 r2 hq) fun r s' hq' => ?_))
  cases r with
  | error er => exact hx pins σ _ _ er s' I2 hq'
  | ok fl =>
    cases fl with
    | ret u =>
      obtain ⟨v, H2, os2, bare2, un2, hok2, rv, ev, d, fs, ea, ed, hd1, q2⟩ := hq'
      subst ev
      obtain ⟨h2, g2, d2, t2, os'⟩ := s'
      exact ⟨rv, mk_end (raises_own T.exC T.tyC) I1 hsz kk un2 hok2 os2 bare2 ea ed hd1 q2⟩
    | next => exact False.elim hq'
    | brk => exact False.elim hq'
    | cont => exact False.elim hq'
end
structure Thr where
  C : Addr
  f : Str
  d : PyData
def Wsh (P : Rho → Prop) (W : WX) (b : Addr) (x : Thr) (G : Hp) (μ : Mu) : Prop := ∀ ρ' μ' G' H' σ' dx y, P ρ' → Bs b μ μ' → Ex G G' → RM G' H' μ' → RV G' ρ' σ' → G' dx = some (.xd [(x.f, y)]) → Dv G' y x.d → W (.ref x.C) (some dx) σ' H'
theorem Wsh.later {P : Rho → Prop} {W : WX} {b : Addr} {x : Thr} {G G1 : Hp} {μ μ1 : Mu} (h : Wsh P W b x G μ) (e : Ex G G1) (s : Bs b μ μ1) : Wsh P W b x G1 μ1 := fun ρ' μ' G' H' σ' dx y p s' e' => h ρ' μ' G' H' σ' dx y p (s.trans s') (e.trans e')
def DZe (P : Rho → Prop) (X : Cx) (b : Addr) (e : Expr) (ρ : Rho) (μ0 μ : Mu) (x : Thr) : Prop := ∀ G H σ, RM G H μ → RV G ρ σ → ∀ W Q, Takes X W → Wsh P W b x G μ0 → WE X e σ H Q
def DZ (P : Rho → Prop) (X : Cx) (b : Addr) (st : Stmt) (ρ : Rho) (μ0 μ : Mu) (x : Thr) : Prop := ∀ G H σ, RM G H μ → RV G ρ σ → ∀ W E, Takes X W → Wsh P W b x G μ0 → WS X st E σ H
def DZs (P : Rho → Prop) (X : Cx) (b : Addr) (ss : List Stmt) (ρ : Rho) (μ0 μ : Mu) (x : Thr) : Prop := ∀ G H σ, RM G H μ → RV G ρ σ → ∀ W E, Takes X W → Wsh P W b x G μ0 → WSs X ss E σ H
section
variable {P : Rho → Prop} {X : Cx} {b : Addr} {st : Stmt} {ss s1 s2 : List Stmt} {e c : Expr} {es : List Expr} {ρ : Rho} {μ0 μ : Mu} {x : Thr} {pos p p2 : Pos} {n : Str}
theorem dzs_here (h : DZ P X b st ρ μ0 μ x) : DZs P X b (st :: ss) ρ μ0 μ x := fun G H σ m v W E tk w => WSs.of (pss_cons pws pwss) (h G H σ m v W _ tk w)
theorem dzs_next (h : DS X st ρ μ ⟨fun ρ' μ' => DZs P X b ss ρ' μ0 μ' x, fun _ _ => False, fun _ _ => False, fun _ _ => False⟩) : DZs P X b (st :: ss) ρ μ0 μ x := fun G H σ m v W E tk w =>
  WSs.of (pss_cons pws pwss) (h G H σ m v _ ⟨fun ρ' μ' G' H' σ' q e m' v' => q G' H' σ' m' v' W E tk (w.later e (Bs.refl b μ0)), fun _ _ _ _ _ q => q.elim, fun _ _ _ _ _ q => q.elim, fun _ _ _ _ _ q => q.elim⟩)
theorem dz_set (i : Nat) {y : Str} {p' : Pos} (hN : X.N.Nodup) (hi : X.N[i]? = some y) (hx : Loc X.env.scope y) (h : DZe P X b e ρ μ0 μ x) (hs : swapsWith e (some (.Name y p')) pos.line X.env = pure false := by rfl)
    (hf : X.fn y = true ∨ X.env.scope.names.lookup y = some .local := by first | exact .inl rfl | exact .inr rfl | assumption) : DZ P X b (.Assign [.Name y p'] e pos) ρ μ0 μ x := fun G H σ m v W E tk w =>
  WS.of (ps_set hN hi hx pwe hs hf) (h G H σ m v W _ tk w)
abbrev Cz := List OV → Mu → Addr → Thr → Prop
def spZ (C : Cz) : Sp := fun vs H _ E => ∃ os μ G b x, RM G H μ ∧ ROs G vs os ∧ C os μ b x ∧ ∀ μ' G' H' dx y, Bs b μ μ' → Ex G G' → RM G' H' μ' → G' dx = some (.xd [(x.f, y)]) → Dv G' y x.d → E (.ref x.C) (some dx) H'
structure FcZ (P : Program) (w : World) (K : PySem.W.Frag) (mg : Str → Option Value) (base : Heap) (n : Str) (st : Stmt) (ps : List Str) (k : Nat) (C : Cz) : Prop where
  ex : ∃ f fd, Fun K n n st f fd ∧ mg n = some (.ref f) ∧ FnG P w K mg base (L2.CX P w) k f fd ps (spZ C)
theorem FcZ.mono {P : Program} {w : World} {K : PySem.W.Frag} {mg : Str → Option Value} {base : Heap} {j k : Nat} {n : Str} {st : Stmt} {ps : List Str} {C : Cz} (F : FcZ P w K mg base n st ps j C) (h : j ≤ k) : FcZ P w K mg base n st ps k C := by
  obtain ⟨f, fd, a, b, c⟩ := F.ex
  exact ⟨⟨f, fd, a, b, c.mono h⟩⟩
theorem fcz_of {Pr : Program} {w : World} {K : PySem.W.Frag} {mg : Str → Option Value} {base : Heap} {k : Nat} {f : Addr} {n : Str} {st : Stmt} {fd : FuncData} {N ps : List Str} {C : Cz} (F : Fun K n n st f fd) (hm : mg n = some (.ref f)) (S : FnScope N ps (defScope st)) (len : ∀ os μ b x, C os μ b x → os.length = ps.length)
    (body : ∀ (cdv : Value) A outer s H E os μ b x, Rm k (A.deeper (envOfC n (defScope st) s.heap.objs.size f cdv)) → C os μ b x →
      DZs (fun _ => True) (cxOf (L2.CX Pr w) Pr w K mg base N n (defScope st) f cdv A outer s H E) b (defBody st) (os.map some ++ List.replicate (N.length - os.length) none) μ μ x) : FcZ Pr w K mg base n st ps (k + 1) C := by
  refine ⟨⟨f, fd, F, hm, fng_of F S (fun vs H Q E h => ?_) fun cdv A outer s H vs Q E hr h => ?_⟩⟩
  · obtain ⟨os, μ, G, b, x, _, r, c, _⟩ := h
    rw [r.length]
    exact len _ _ _ _ c
  · obtain ⟨os, μ, G, b, x, m, r, c, fin⟩ := h
    exact body cdv A outer s H E os μ b x hr c G H _ m (rv_start r) (fun cls d _ H => E cls d H) _ (takes_of rfl rfl rfl rfl) fun ρ' μ' G' H' σ' dx y _ s e m' _ h1 h2 => fin μ' G' H' dx y s e m' h1 h2
theorem dze_call {C : Cz} {ps : List Str} {k : Nat} {st : Stmt} (F : FcZ X.prog X.w X.K X.mg X.base n st ps k C) (hr : Rm k X.A) (hg : Gl X n) (hp : P ρ)
    (hb : ∀ (kV doc pm : Value) (an : Option Addr) (cdv ct : Value) (us : List Value), us.length = ps.length → bindArgs (PySem.W.fnOf n n (defArgs st) (defBody st) (defScope st) .none kV doc pm an cdv ct) ⟨us, []⟩ = pure (ps.zip us))
    (h : DA X (e :: es) ρ μ fun os μ1 => Bs b μ0 μ1 ∧ C os μ1 b x) (hdb : (n == ("__debug__" : Str)) = false := by decide) (he : starEach (e :: es) X.env = (false, eval e X.env) :: starEach es X.env := by rfl) (hpl : (backTo pos (starEach es X.env)).any (·.1) = false := by rfl) :
    DZe P X b (.Call (.Name n p) (e :: es) [] pos) ρ μ0 μ x := fun G H σ m v W Q tk w pins s I => by
  obtain ⟨fa, fd, FF, hm, FG⟩ := F.ex
  refine wpAny_Call_Name_kw (ld_glob I hg hm ?_ hdb)
  have hargs : WA X (e :: es) σ H fun vs H1 => spZ C vs H1 Q (L2.WE W σ) := h G H σ m v _ fun vs os μ1 G1 H1 ⟨s1, q1⟩ e1 m1 r1 => ⟨os, μ1, G1, b, x, m1, r1, q1, fun μ' G' H' dx y s2 e2 m2 h1 h2 => w ρ μ' G' H' σ dx y hp (s1.trans s2) (e1.trans e2) m2 ((v.mono e1).mono e2) h1 h2⟩
  refine PySem.W.callWith_K (h₀ := X.base) I.ok.mod.kin FF.kp (thn (hargs pos pins s I) fun us s1 ⟨vs, H1, I1, r, q⟩ => ⟨I1.kIn, ?_⟩) he hpl
  have hbt : BindsTo s1 fd ⟨us, []⟩ (ps.zip us) := by
    obtain ⟨oc, od, kV, doc, pm, an, cdv, ct, osl, rfl, lk, hcd⟩ := FF.ex
    exact .of_eq (hb kV doc pm an cdv ct us (by rw [← r.length]; exact FG.len _ _ _ _ q))
  refine wpAny_call (codeAny_mono (FG.run X.A X.stack s1 H1 ⟨us, []⟩ us vs Q (L2.WE W σ) hr I1.env0 hbt r q) fun z s' hq => ?_)
  match z, hq with
  | .error e, hq => exact passAt tk σ pins H1 s1 e s' I1 hq
  | .ok (.ret u), hq => exact I1.after hq
end
end Nx
set_option maxHeartbeats 8000000
namespace PySem.W
open PySem PySem.Spec PySem.Calls PyProof.Rows
end PySem.W
set_option maxHeartbeats 4000000
namespace Nx
open PySem PySem.Spec PyProof.Rows L2
inductive Nms (X : Cx) : List Expr → List Value → Prop
  | nil : Nms X [] []
  | cons {x : Str} {p : Pos} {c : Value} {es : List Expr} {cs : List Value} (hg : Gl X x) (hd : (x == ("__debug__" : Str)) = false) (hm : X.mg x = some c) (he : starEach (.Name x p :: es) X.env = (false, eval (.Name x p) X.env) :: starEach es X.env) (r : Nms X es cs) : Nms X (.Name x p :: es) (c :: cs)
section
variable {X : Cx} {pins : List (Addr × Obj)} {σ : L2.St} {H : Hp} {s : Shared}
theorem nms_ev {pos : Pos} {E : Value → Shared → Prop} (I : Inv X pins σ H s) : ∀ {es : List Expr} {cs : List Value}, Nms X es cs → ∀ {Q : List Value → Shared → Prop}, Q cs s → wpAny (model X.prog X.w) X.A (spliced (backTo pos (starEach es X.env))) Q E s
  | _, _, .nil, Q, q => by
    show wpAny _ _ (spliced []) Q E s
    exact Calls.spliced_nil q
  | _, _, .cons (x := x) (p := p) (c := c) (es := es) hg hd hm he r, Q, q => by
    rw [he]
    show wpAny _ _ (spliced ((false, eval (.Name x p) X.env) :: backTo pos (starEach es X.env))) Q E s
    exact Calls.spliced_cons (ld_glob I hg hm (nms_ev I r q) hd)
theorem Nms.len : ∀ {es : List Expr} {cs : List Value}, Nms X es cs → es.length = cs.length
  | _, _, .nil => rfl
  | _, _, .cons _ _ _ _ r => congrArg (· + 1) r.len
theorem Inv.track {a : Addr} {oe : Obj} {vs : Array Value} (I : Inv X pins σ H s) (ho : s.heap.get? a = some oe) (hd : oe.data = .fields vs) (hn : H a = none) (h0 : X.s_0.heap.get? a = none) (hl : a ≠ X.env.locals) (hp : ∀ p ∈ X.pn ++ pins, p.1 ≠ a) :
    Inv X pins σ (upd H a (.frz oe (.ext fun h => h.get? a = some oe))) s := by
  have hc : ∀ x c, X.env.cells.lookup x = some c → c ≠ a := fun x c e z => by
    obtain ⟨w, q⟩ := I.cell x c e
    rw [z] at q
    obtain ⟨o, q1, q2⟩ := q
    rw [ho] at q1
    cases q1
    first
      | (rw [hd] at q2; cases q2)
      | (rw [q2] at hd; cases hd)
      | cases hd
  refine ⟨I.ok, I.os, I.bare, ⟨I.base.keep, I.base.slot, fun b o e n x => ?_, I.base.there, fun b xs q => ?_, fun b o v q => ?_, fun b ps q => ?_⟩, I.loc, I.cell, ?_, fun x c e => ?_, fun p q => ?_, fun b o q => ?_, I.len⟩
  · have : b ≠ a := fun z => by rw [z, h0] at e; cases e
    rw [upd_ne this]
    exact I.base.free b o e n x
  · have q := I.base.tups b xs q
    rw [upd_ne (ne_of_none q hn)]
    exact q
  · have q := I.base.frzs b o v q
    rw [upd_ne (ne_of_none q hn)]
    exact q
  · obtain ⟨ps', q⟩ := I.base.tbls b ps q
    exact ⟨ps', by rw [upd_ne (ne_of_none q hn)]; exact q⟩
  · rw [upd_ne (Ne.symm hl)]
    exact I.free
  · rw [upd_ne (hc x c e)]
    exact I.freeC x c e
  · obtain ⟨e, n, ne, nf, d⟩ := I.pin p q
    exact ⟨e, by rw [upd_ne (hp p q)]; exact n, ne, nf, d⟩
  · by_cases hb : b = a
    · subst hb
      rw [upd_same] at q
      cases q
      exact ⟨ho, ho, ⟨_, ho⟩, fun h1 h2 z k => k _ z⟩
    · rw [upd_ne hb] at q
      exact (I.hok b o q).stay (fun _ _ _ q => q) (fun c q => by rw [upd_ne (ne_of_none q hn)]; exact q) fun c xs q => by rw [upd_ne (ne_of_none q hn)]; exact q
end
def wKeep (K : PySem.W.Frag) (cs : List Value) (i j : Nat) (E : Ends) : WX := fun cls d σ H => PySem.W.exmAny K cls cs = some true ∧
  ∀ (a : Addr) (oe : Obj), H a = none → Zc cls d oe → (∃ vs, oe.data = .fields vs) → E.nx (((σ.set i (some (.ref a))).set j (some (.ref a))).set i none) (upd H a (.frz oe (.ext fun h => h.get? a = some oe)))
section
variable {X : Cx} {n m : Str} {i j : Nat} {body : List Stmt} {es : List Expr} {cs : List Value} {np mp ap pos pos' tpos : Pos} {kt : Nat}
theorem flying_keep {B h h' : Heap} {l : List PySem.Env} {a : Addr} {Z : Obj → Prop} (k : ∀ b o, h.get? b = some o → h'.get? b = some o) (f : HandSPX.FlyingZ B l a Z h) : HandSPX.FlyingZ B l a Z h' := by
  obtain ⟨f1, f2, f3, oe, vs, T, oT, ts, h1, h2, h3, h4, h5, h6, h7, h8, h9⟩ := f
  exact ⟨fun b o e => k b o (f1 b o e), f2, f3.of_keeps fun b o e _ => ⟨o, k b o e, rfl⟩, oe, vs, T, oT, ts, k _ _ h1, h2, h3, h4, h5, h6, k _ _ h7, h8, h9⟩
theorem ws_catch {σ : L2.St} {H : Hp} {E : Ends} (hs : X.stack = X.env :: X.outer) (hf : X.env.frame = some X.env.locals) (hex : X.ex = []) (hN : X.N.Nodup) (hi : X.N[i]? = some n) (hln : X.env.kindOf n = some .local) (hj : X.N[j]? = some m) (hlm : X.env.kindOf m = some .local)
    (hes : ∀ a pn, Nms (X.suite a pn) es cs) (hz : cs.length ≤ 1000)
    (hm : ∀ {h : Heap} {cls : Value} {e tp : Addr} {o : Obj} {k : Nat}, X.K.In h → PySem.W.Looks (model X.prog X.w) h (typeOf (.ref e)) cls → h.get? tp = some o → o.cls = .type "tuple" → o.data = .seq cs.toArray k → PySem.W.exmAny X.K cls cs = some true → PySem.W.Looks (model X.prog X.w) h (excMatches (.ref e) (.ref tp)) true)
    (hd : (n == ("__debug__" : Str)) = false) (hcd : (n == ("__classdict__" : Str)) = false)
    (hb : ∀ (pn : List (Addr × Obj)) (xe : Value → Shared → Prop), Takes (X.tr pn xe) (wKeep X.K cs i j E) → WSs (X.tr pn xe) body E σ H)
    (hsw : ∀ a pn, swapsWith (.Name n np) (some (.Name m mp)) ap.line (X.suite a pn).env = pure false := by intro _ _; rfl) :
    WS X (.Try body [.ExceptHandler (some (.Tuple es kt tpos)) (some n) [.Assign [.Name m mp] (.Name n np) ap] pos'] [] [] pos) E σ H := by
  intro pins s I
  have ok := I.ok
  have hfr : X.A.frames = some (X.env :: X.outer) := by rw [ok.frames, hs]
  have hloc : Loc X.env.scope n := .inl hln
  refine wpAny_Try_except ?_
  refine wpAny_mono (hb (X.pn ++ pins) (fun e s₁ => wpAny (model X.prog X.w) X.A (noteFrame e X.env) (fun _ s₂ => wpAny (model X.prog X.w) X.A (setFlight e none) (fun _ s₃ =>
    wpAny (model X.prog X.w) X.A (handleBy e X.env [.ExceptHandler (some (.Tuple es kt tpos)) (some n) [.Assign [.Name m mp] (.Name n np) ap] pos']) (SP X pins E) X.xe s₃) X.xe s₂) X.xe s₁) (fun u s' xx => ?_) [] s (I.toTry _)) (fun f s1 hsp => ?_) (fun e s1 he => he)
  · -- the catch
    obtain ⟨a, B, sI, pins', σ', H', cls, d, rfl, J', nb, up, sky, na, os, ag, hyes, hq⟩ := xx
    have J : Inv X pins σ' H' sI := J'.ofTry ok
    have sky' : Sky B (X.env :: X.outer) a (Zc cls d) X.env.locals s'.heap := by rw [← hs]; exact sky
    show wpAny (model X.prog X.w) X.A (noteFrame (.ref a) X.env) _ _ _
    refine Sky.land Zc.steady hfr hf sky' fun h3 fl3 up3 => ?_
    have J3 : Inv X pins σ' H' { s' with heap := h3 } := J.landed nb fl3.1 (up.trans up3) os ag
    obtain ⟨oe3, vs3, he3, hz3, hd3⟩ := fl3.there
    have notFr : ∀ {h : Heap} {o : Obj} {vs : Array Value}, h.FunFrames B (X.env :: X.outer) → h.get? a = some o → o.data = .fields vs → a ∉ frs (X.env :: X.outer) := fun {h o vs} ff e dd hm => by
      obtain ⟨_, o', e', hnf⟩ := ff.mem hm
      rw [e] at e'; cases e'
      exact hnf _ dd
    have nfr := notFr fl3.2.2.1 he3 hd3
    have nL : a ≠ X.env.locals := fun z => nfr (List.mem_filterMap.mpr ⟨X.env, List.mem_cons_self, by rw [hf, z]⟩)
    have nF : a ∉ X.fs := fun hm => by
      obtain ⟨e, he, q⟩ := List.mem_filterMap.mp hm
      exact nfr (List.mem_filterMap.mpr ⟨e, List.mem_cons_of_mem _ he, q⟩)
    have n0 : X.s_0.heap.get? a = none := by
      cases q : X.s_0.heap.get? a with
      | none => rfl
      | some o =>
        exfalso
        obtain ⟨o', q'⟩ := J.base.there a o q (by rw [hex]; simp)
        have := nb a o' q' (by rw [hs]; exact nfr)
        rw [fl3.2.1] at this
        cases this
    have S3 := J3.suite he3 hd3 na nL nF
    refine wpAny_handleBy_cons (codeAny_handlers_test ?_) (by intro q; cases q)
    refine wpAny_Tuple_spliced (nms_ev (X := X.suite a ((a, oe3) :: (X.pn ++ pins))) S3 (hes _ _) ⟨Nat.le_trans hz (by decide), ?_⟩)
    have kp : ∀ b o, h3.get? b = some o → (h3.push { cls := .type "tuple", data := .seq cs.toArray }).get? b = some o := fun b o e => Heap.get?_push_of_some _ e
    have fl5 := flying_keep kp fl3
    have LT : PySem.W.Looks (model X.prog X.w) (h3.push { cls := .type "tuple", data := .seq cs.toArray }) (typeOf (.ref a)) cls := fun A Q E s k q => wpAny_typeOf_ref (k _ _ (kp _ _ he3)) (by rw [hz3.1]; exact q)
    have LM := hm (k := 0) (J3.kIn.keeps kp) LT (Heap.get?_push_size _ rfl) rfl rfl hyes
    refine LM.here ?_
    refine codeAny_handlers_suite_as ?_
    refine HandSPX.lands_againZ fl5 fun h4 fl4 up4 => ?_
    have up5 : sI.heap.UpToSlots (h3.push { cls := .type "tuple", data := .seq cs.toArray }) := (up.trans up3).trans (Heap.UpToSlots.of_keeps kp)
    have J4 : Inv X pins σ' H' { s' with heap := h4 } := J.landed nb fl4.1 (up5.trans up4) os ag
    obtain ⟨oe4, vs4, he4, hz4, hd4⟩ := fl4.there
    have S4 := J4.suite he4 hd4 na nL nF
    refine store_ok (X := X.suite a ((a, oe4) :: (X.pn ++ pins))) (v := .ref a) S4 hN hi hloc rfl (fun s5 S5 => ?_) (.inr hln)
    have hst : PSs (X.suite a ((a, oe4) :: (X.pn ++ pins))) [.Assign [.Name m mp] (.Name n np) ap] _ := pss_one (ps_set (i := j) hN hj (.inl hlm) (pe_var (i := i) hi (.inl hln) hd hcd) (hsw _ _) (.inr hlm))
    have hil : i < σ'.length := by rw [J.len]; exact (List.getElem?_eq_some_iff.mp hi).1
    refine wpAny_mono (hst.run [] s5 _ H' { nx := fun σ6 H6 => σ6 = (σ'.set i (some (.ref a))).set j (some (.ref a)) ∧ H6 = H', rt := fun _ _ => False, bk := fun _ _ => False, ct := fun _ _ => False } S5 ?_) (fun f s6 hsp => ?_) (fun _ _ z => False.elim z)
    · exact ⟨.ref a, List.getElem?_set_self hil, rfl, rfl⟩
    cases f with
    | next =>
      obtain ⟨σ6, H6, S6, rfl, rfl⟩ := hsp
      have pa := S6.pin (a, oe4) (List.mem_append_left _ List.mem_cons_self)
      have T6 : Inv X pins _ _ s6 := Inv.track (S6.unsuite ok) pa.1 hd4 na n0 nL fun p hp z => ?_
      · exact gone_ok T6 hN hi hln fun s7 J7 => ⟨_, _, J7, hq a oe4 na hz4 ⟨_, hd4⟩⟩
      · obtain ⟨e1, _, e3, e4, _⟩ := J.pin p hp
        have hst2 : p.1 ∉ frs X.stack := fun hm2 => by
          rw [hs] at hm2
          obtain ⟨ev, he, q⟩ := List.mem_filterMap.mp hm2
          rcases List.mem_cons.mp he with rfl | he
          · rw [hf] at q
            exact e3 (Option.some.inj q).symm
          · exact e4 (List.mem_filterMap.mpr ⟨ev, he, q⟩)
        have := nb _ _ e1 hst2
        rw [z, fl3.2.1] at this
        cases this
    | brk =>
      obtain ⟨_, _, _, q⟩ := hsp
      exact q.elim
    | cont =>
      obtain ⟨_, _, _, q⟩ := hsp
      exact q.elim
    | ret u =>
      obtain ⟨_, _, _, _, _, q⟩ := hsp
      exact q.elim
  · cases f with
    | next =>
      obtain ⟨σ', H', J', q⟩ := hsp
      exact wpAny_execs_nil ⟨σ', H', J'.ofTry ok, q⟩
    | brk =>
      obtain ⟨σ', H', J', q⟩ := hsp
      exact ⟨σ', H', J'.ofTry ok, q⟩
    | cont =>
      obtain ⟨σ', H', J', q⟩ := hsp
      exact ⟨σ', H', J'.ofTry ok, q⟩
    | ret u =>
      obtain ⟨v, σ', H', J', r, q⟩ := hsp
      exact ⟨v, σ', H', J'.ofTry ok, r, q⟩
end
end Nx
set_option maxHeartbeats 4000000
namespace Nx
open PySem PySem.Spec PyProof.Rows L2
structure ExK (K : PySem.W.Frag) (C : Addr) : Prop where
  cl : (PySem.W.clsIn K C).isSome = true
  ga : PySem.W.findIn K (.ref C) "__getattribute__" = some (some (.builtin "BaseException.__getattribute__"))
  gg : PySem.W.findIn K (.ref C) "__getattr__" = some none
  su : PySem.W.subIn K (.ref C) (.type "BaseException") = some true
  cc : PySem.W.findIn K (.ref C) "__class__" = some (some (.builtin "object.__class__"))
  gs : PySem.W.specialIn K (.builtin "object.__class__") "__get__" = some (some (.builtin "getset_descriptor.__get__"))
  tk : PySem.W.takesIn K (.builtin "object.__class__") = some true
  ob : PySem.W.mroIn K C (.type "object") = some true
  hd : PySem.W.hasDictIn K C = true
def ExAt (H : Hp) (a C dx : Addr) (f : Str) (y : V) : Prop := ∃ oe u, H a = some (.frz oe u) ∧ excO oe C dx ∧ H dx = some (.xd [(f, y)])
section
variable {X : Cx} {pins : List (Addr × Obj)} {σ : L2.St} {H : Hp} {s : Shared} {a C dx : Addr} {f : Str} {y : V}
theorem exat_inst (I : Inv X pins σ H s) (h : ExAt H a C dx f y) : ∃ oe od v, PySem.W.InstAt s.heap a oe C (some od) ∧ PySem.W.lookIn f od = some (some v) ∧ RelV y v := by
  obtain ⟨oe, u, h1, ⟨c1, c2, vs, c3⟩, h3⟩ := h
  have ho : s.heap.get? a = some oe := (show s.heap.get? a = some oe ∧ ObjOk X.prog X.w H s.heap a u from I.hok a _ h1).1
  obtain ⟨mA, hns, hr⟩ := (show ∃ mA, s.heap.Ns1 dx mA ∧ ∀ f', RelO (List.lookup f' [(f, y)]) (mA f') from I.hok dx _ h3)
  obtain ⟨od, hod, hl⟩ := lookIn_ns hns
  have l : List.lookup f [(f, y)] = some y := by simp [List.lookup]
  obtain ⟨v, hv, rv⟩ := RelO.some_of (v := y) (o := mA f) (by rw [← l]; exact hr f)
  exact ⟨oe, od, v, ⟨ho, c1, by unfold PySem.W.notCls; rw [c3] <;> rfl, by rw [c2]; exact hod⟩, by rw [hl, hv], rv⟩
theorem call_isiE : CallR X (.builtin "isinstance") (fun xs H Q => ∃ a C dx f y c u b, xs = [.ref a, c] ∧ ExAt H a C dx f y ∧ ExK X.K C ∧ ClsV c u ∧ PySem.W.kitOne X.K (.ref C) u = some b ∧ Q (.bl b) H) := by
  intro pins s σ H xs us Q I r h
  obtain ⟨a, C, dx, f, y, c, u, b, rfl, hE, T, k, e, q⟩ := h
  obtain ⟨u1, u2, rfl, r1, r2⟩ := vals2 r
  have e2 := k.eq r2
  subst e2
  cases (show u1 = Value.ref a from r1)
  obtain ⟨oe, od, v, J, _, _⟩ := exat_inst I hE
  exact PySem.W.kia_one (PySem.W.kitx_exc T.cl T.ga T.gg T.su T.cc T.gs T.tk T.ob) I.kIn J e (fun z => nomatch z) fun tk => ⟨.bl b, H, I.tok tk, rfl, q⟩
theorem call_isiET : CallR X (.builtin "isinstance") (fun xs H Q => ∃ a C dx f y tp cs us b, xs = [.ref a, .ref tp] ∧ H tp = some (.tup cs) ∧ ExAt H a C dx f y ∧ ExK X.K C ∧ Paired ClsV cs us ∧ PySem.W.kitAny X.K (.ref C) us = some b ∧ Q (.bl b) H) := by
  intro pins s σ H xs us Q I r h
  obtain ⟨a, C, dx, f, y, tp, cs, ws, b, rfl, hT, hE, T, k, e, q⟩ := h
  obtain ⟨u1, u2, rfl, r1, r2⟩ := vals2 r
  cases (show u2 = Value.ref tp from r2)
  cases (show u1 = Value.ref a from r1)
  obtain ⟨oe, od, v, J, _, _⟩ := exat_inst I hE
  obtain ⟨_, its, rv, o, h1, h2, n, h3⟩ := (show ObjOk X.prog X.w H s.heap tp (.tup cs) from I.hok tp _ hT)
  have e3 := ClsV.all k rv
  subst e3
  obtain ⟨oc, od2, dt, sl⟩ := o
  simp only at h2 h3
  subst h2 h3
  exact PySem.W.kia_tup (PySem.W.kitx_exc T.cl T.ga T.gg T.su T.cc T.gs T.tk T.ob) I.kIn J h1 e (fun z => nomatch z) fun tk => ⟨.bl b, H, I.tok tk, rfl, q⟩
theorem pe_exfld {e : Expr} {te : TE} {pos : Pos} (he : PE X e te) (hb : attributeBase e f X.env (eval e X.env) = eval e X.env := by rfl) :
    PE X (.Attribute e f pos) (fun σ H Q => te σ H fun x H1 => ∃ a C dx y, x = .ref a ∧ ExAt H1 a C dx f y ∧ ExK X.K C ∧ PySem.W.findIn X.K (.ref C) f = some none ∧ Q y H1) := by
  refine ⟨fun pins s σ H Q I h => ?_⟩
  refine attr_of hb (thn (he.run pins s σ H _ I h) fun u s1 hh => ?_)
  obtain ⟨x, H1, I1, rx, a, C, dx, y, ex, hE, T, no, q⟩ := hh
  subst ex
  obtain rfl : u = Value.ref a := rx
  obtain ⟨oe, od, v, J, hl, rv⟩ := exat_inst I1 hE
  exact HandSPX.exc_get I1.kIn J T.ga T.gg T.su (PySem.W.findObj_own T.hd no rfl hl) (handed_of rv) ⟨y, H1, I1.tok _, rv, q⟩
end
theorem exat_of {G H : Hp} {v : V} {C : Addr} {f : Str} {d : PyData} (e : Ex G H) (h : RO G v (.ob (exnP C f d))) : ∃ a dx y, v = .ref a ∧ ExAt H a C dx f y ∧ Dv G y d := by
  obtain ⟨a, oe, u, dx, y, h1, h2, h3, h4, h5⟩ := (show ∃ a oe u dx y, v = .ref a ∧ G a = some (.frz oe u) ∧ excO oe C dx ∧ G dx = some (.xd [(f, y)]) ∧ Dv G y d from h)
  exact ⟨a, dx, y, h1, ⟨oe, u, e _ _ h2, h3, e _ _ h4⟩, h5⟩
section
variable {X : Cx} {e : Expr} {es : List Expr} {ρ : Rho} {μ : Mu} {Φ : OV → Mu → Prop} {pos p p2 tpos : Pos} {n f : Str} {C : Addr} {d : PyData} {kt : Nat}
theorem de_exfld (T : ExK X.K C) (no : PySem.W.findIn X.K (.ref C) f = some none) (h : DE X e ρ μ fun o μ1 => o = .ob (exnP C f d) ∧ Φ (.im d) μ1) (hb : attributeBase e f X.env (eval e X.env) = eval e X.env := by rfl) : DE X (.Attribute e f pos) ρ μ Φ := fun G H σ m v Q k =>
  WE.of (pe_exfld pwe hb) (h G H σ m v _ fun vx o μ1 G1 H1 ⟨eo, q⟩ e1 m1 r1 => by
    subst eo
    obtain ⟨a, dx, y, rfl, hE, hy⟩ := exat_of m1.ex r1
    exact ⟨a, C, dx, y, rfl, hE, T, no, k _ _ _ _ _ q e1 m1 hy⟩)
def ClN (X : Cx) (n : Str) (c : V) (u : Value) : Prop := ClsV c u ∧ (∀ p, PE X (.Name n p) (L2.tC c))
theorem cln_own {D : Addr} (hg : Gl X n) (hm : X.mg n = some (.ref D)) (hd : (n == ("__debug__" : Str)) = false := by decide) : ClN X n (.ref D) (.ref D) := ⟨.own D, fun _ => pe_glob hg hm rfl hd⟩
theorem cln_blt {T : String} (hg : Gl X n) (hm : X.mg n = none) (hv : bootBuiltins n = some (.type T)) (hn : n ≠ "__name__" := by decide) (hd : (n == ("__debug__" : Str)) = false := by decide) : ClN X n (.ty T) (.type T) := ⟨.ty T, fun _ => pe_bltn hg hm hv rfl hn hd⟩
theorem de_isE {c : V} {u : Value} {b : Bool} (B : Bt X.mg) (hg : Gl X "isinstance") (hc : ClN X n c u) (T : ExK X.K C) (hk : PySem.W.kitOne X.K (.ref C) u = some b) (h : DE X e ρ μ fun o μ1 => o = .ob (exnP C f d) ∧ Φ (.im (.bool b)) μ1)
    (he : starEach [e, .Name n p2] X.env = (false, eval e X.env) :: starEach [.Name n p2] X.env := by rfl) (he2 : starEach [.Name n p2] X.env = (false, eval (.Name n p2) X.env) :: starEach [] X.env := by rfl)
    (hpl : (backTo pos (starEach [.Name n p2] X.env)).any (·.1) = false := by rfl) : DE X (.Call (.Name "isinstance" p) [e, .Name n p2] [] pos) ρ μ Φ := fun G H σ m v Q k =>
  WE.of (pe_callB call_isiE hg B.isinstance rfl (pa_cons pwe (pa_cons (hc.2 _) pa_nil he2) he) (by decide) (by decide) he hpl) (h G H σ m v _ fun vx o μ1 G1 H1 ⟨eo, q⟩ e1 m1 r1 => by
    subst eo
    obtain ⟨a, dx, y, rfl, hE, hy⟩ := exat_of m1.ex r1
    exact ⟨a, C, dx, f, y, c, u, b, rfl, hE, T, hc.1, hk, k _ _ _ _ _ q e1 m1 (Dv.bl b)⟩)
inductive ClNs (X : Cx) : List Expr → List V → List Value → Prop
  | nil : ClNs X [] [] []
  | cons {n : Str} {p : Pos} {c : V} {u : Value} {es : List Expr} {cs : List V} {us : List Value} (h : ClN X n c u) (he : starEach (.Name n p :: es) X.env = (false, eval (.Name n p) X.env) :: starEach es X.env) (r : ClNs X es cs us) : ClNs X (.Name n p :: es) (c :: cs) (u :: us)
def tCs : List V → TA
  | [] => tNil
  | c :: cs => tCons (L2.tC c) (tCs cs)
theorem ClNs.pa : ∀ {es : List Expr} {cs : List V} {us : List Value}, ClNs X es cs us → PA X es (tCs cs)
  | _, _, _, .nil => pa_nil
  | _, _, _, .cons h he r => pa_cons (h.2 _) r.pa he
theorem ClNs.cls : ∀ {es : List Expr} {cs : List V} {us : List Value}, ClNs X es cs us → Paired ClsV cs us
  | _, _, _, .nil => .nil
  | _, _, _, .cons h _ r => .cons h.1 r.cls
theorem tCs_run {σ : L2.St} {H : Hp} : ∀ {cs : List V} {Q : List V → Hp → Prop}, Q cs H → tCs cs σ H Q
  | [], _, q => q
  | _ :: cs, Q, q => tCs_run (cs := cs) (Q := fun xs H' => Q (_ :: xs) H') q
theorem de_isET {cs : List V} {us : List Value} {b : Bool} (B : Bt X.mg) (hg : Gl X "isinstance") (hc : ClNs X es cs us) (hz : cs.length ≤ 1000) (T : ExK X.K C) (hk : PySem.W.kitAny X.K (.ref C) us = some b) (h : DE X e ρ μ fun o μ1 => o = .ob (exnP C f d) ∧ Φ (.im (.bool b)) μ1)
    (he : starEach [e, .Tuple es kt tpos] X.env = (false, eval e X.env) :: starEach [.Tuple es kt tpos] X.env := by rfl) (he2 : starEach [.Tuple es kt tpos] X.env = (false, eval (.Tuple es kt tpos) X.env) :: starEach [] X.env := by rfl)
    (hpl : (backTo pos (starEach [.Tuple es kt tpos] X.env)).any (·.1) = false := by rfl) : DE X (.Call (.Name "isinstance" p) [e, .Tuple es kt tpos] [] pos) ρ μ Φ := fun G H σ m v Q k =>
  WE.of (pe_callB call_isiET hg B.isinstance rfl (pa_cons pwe (pa_cons (pe_tup hc.pa) pa_nil he2) he) (by decide) (by decide) he hpl) (h G H σ m v _ fun vx o μ1 G1 H1 ⟨eo, q⟩ e1 m1 r1 => by
    subst eo
    obtain ⟨a, dx, y, rfl, hE, hy⟩ := exat_of m1.ex r1
    refine tCs_run ⟨Nat.le_trans hz (by decide), fun pt hpt => ?_⟩
    have m2 : RM G1 (upd H1 pt (.tup cs)) μ1 := m1.raw hpt
    obtain ⟨a', dx', y', ea, hE2, _⟩ := exat_of m2.ex r1
    cases ea
    exact ⟨a, C, dx', f, y', pt, cs, us, b, rfl, upd_same, hE2, T, hc.cls, hk, k _ _ _ _ _ q e1 m2 (Dv.bl b)⟩)
end
end Nx
set_option maxHeartbeats 4000000
namespace Nx
open PySem PySem.Spec PyProof.Rows L2
section
variable {X : Cx} {ρ : Rho} {μ : Mu} {D : DEnds} {n m : Str} {i j : Nat} {body : List Stmt} {es : List Expr} {cs : List Value} {np mp ap pos pos' tpos : Pos} {kt : Nat} {b : Addr} {x : Thr}
theorem rv_none {G : Hp} {σ : L2.St} (v : RV G ρ σ) (i : Nat) (w : Option V) : RV G (ρ.set i none) (σ.set i w) := by
  refine ⟨by rw [List.length_set, List.length_set, v.len], fun k o q => ?_⟩
  by_cases e : i = k
  · subst e
    rw [List.getElem?_set] at q
    split at q
    · split at q <;> cases q
    · exact absurd rfl ‹¬ i = i›
  · rw [List.getElem?_set_ne e] at q
    obtain ⟨u, h1, h2⟩ := v.get k o q
    exact ⟨u, by rw [List.getElem?_set_ne e]; exact h1, h2⟩
theorem ds_catch (hs : X.stack = X.env :: X.outer) (hf : X.env.frame = some X.env.locals) (hex : X.ex = []) (hN : X.N.Nodup) (hi : X.N[i]? = some n) (hln : X.env.kindOf n = some .local) (hj : X.N[j]? = some m) (hlm : X.env.kindOf m = some .local) (hij : i ≠ j)
    (hes : ∀ a pn, Nms (X.suite a pn) es cs) (hz : cs.length ≤ 1000)
    (hm : ∀ {h : Heap} {cls : Value} {e tp : Addr} {o : Obj} {k : Nat}, X.K.In h → PySem.W.Looks (model X.prog X.w) h (typeOf (.ref e)) cls → h.get? tp = some o → o.cls = .type "tuple" → o.data = .seq cs.toArray k → PySem.W.exmAny X.K cls cs = some true → PySem.W.Looks (model X.prog X.w) h (excMatches (.ref e) (.ref tp)) true)
    (hx : PySem.W.exmAny X.K (.ref x.C) cs = some true)
    (hb : ∀ (pn : List (Addr × Obj)) (xe : Value → Shared → Prop), DZs (fun ρ' => ρ' = ρ) (X.tr pn xe) b body ρ μ μ x)
    (hD : ∀ μ', Bs b μ μ' → D.nx ((ρ.set j (some (.ob (exnP x.C x.f x.d)))).set i none) μ')
    (hd : (n == ("__debug__" : Str)) = false := by decide) (hcd : (n == ("__classdict__" : Str)) = false := by decide)
    (hsw : ∀ a pn, swapsWith (.Name n np) (some (.Name m mp)) ap.line (X.suite a pn).env = pure false := by intro _ _; rfl) :
    DS X (.Try body [.ExceptHandler (some (.Tuple es kt tpos)) (some n) [.Assign [.Name m mp] (.Name n np) ap] pos'] [] [] pos) ρ μ D := fun G H σ mm v E f => by
  refine ws_catch hs hf hex hN hi hln hj hlm hes hz hm hd hcd (fun pn xe tk => hb pn xe G H σ mm v _ _ tk ?_) hsw
  intro ρ' μ' G' H' σ' dx y ep s e m' v' h1 h2
  subst ep
  refine ⟨hx, fun a oe na z ⟨vs, hvs⟩ => ?_⟩
  have ga : G' a = none := by
    cases q : G' a with
    | none => rfl
    | some u => rw [m'.ex _ _ q] at na; cases na
  have hne : dx ≠ a := fun z => by rw [z, ga] at h1; cases h1
  have e2 : Ex G' (upd G' a (.frz oe (.ext fun h => h.get? a = some oe))) := Ex.new ga
  have ro : RO (upd G' a (.frz oe (.ext fun h => h.get? a = some oe))) (.ref a) (.ob (exnP x.C x.f x.d)) := ⟨a, oe, _, dx, y, rfl, upd_same, ⟨z.1, z.2, vs, hvs⟩, by rw [upd_ne hne]; exact h1, h2.mono e2⟩
  have eσ : ((σ'.set i (some (.ref a))).set j (some (.ref a))).set i none = (σ'.set j (some (.ref a))).set i none := by
    rw [List.set_comm _ _ hij, List.set_set]
  rw [eσ]
  have rv : RV (upd G' a (.frz oe (.ext fun h => h.get? a = some oe))) ((ρ'.set j (some (.ob (exnP x.C x.f x.d)))).set i none) ((σ'.set j (some (.ref a))).set i none) := rv_none ((v'.mono e2).set ro) i none
  exact f.nx _ _ _ _ _ (hD μ' s) (e.trans e2) (m'.lay na) rv
theorem ds_try {h₀ : ExceptHandler} {hs : List ExceptHandler} (h : DSs X.nox body ρ μ D) : DS X (.Try body (h₀ :: hs) [] [] pos) ρ μ D := fun G H σ m v E f =>
  WS.of (ps_try_thru0 pwss) (h G H σ m v E f)
end
end Nx
set_option maxHeartbeats 4000000
namespace Nx
open PySem PySem.Spec PyProof.Rows L2
open Tree
abbrev DenZ := Env → Tree Thr
def zIf (c : DenB) (z1 z2 : DenZ) : DenZ := fun E => (c E).bind fun k => match k with | true => z1 E | false => z2 E
def zNext (g : DenS) (z : DenZ) : DenZ := fun E => (g E).bind fun o => match o with | .nx E' => z E' | _ => .fail
def zNo : DenZ := fun _ => .fail
def zRaise (C : Addr) (f : Str) (fx : DenE) : DenZ := fun E => (fx E).bind fun d => .ret ⟨C, f, d⟩
def zCall (F : List W → Tree Thr) (gs : Env → Tree (List W)) : DenZ := fun E => (gs E).bind F
structure SZe (P : Rho → Prop) (b : Addr) (X : Cx) (e : Expr) (z : DenZ) : Prop where
  run : ∀ μ0 E ρ μ x, P ρ → Rel b μ0 E ρ μ → (z E).All (fun y => y = x) → DZe P X b e ρ μ0 μ x
structure SZ (P : Rho → Prop) (b : Addr) (X : Cx) (st : Stmt) (z : DenZ) : Prop where
  run : ∀ μ0 E ρ μ x, P ρ → Rel b μ0 E ρ μ → (z E).All (fun y => y = x) → DZ P X b st ρ μ0 μ x
structure SZs (P : Rho → Prop) (b : Addr) (X : Cx) (ss : List Stmt) (z : DenZ) : Prop where
  run : ∀ μ0 E ρ μ x, P ρ → Rel b μ0 E ρ μ → (z E).All (fun y => y = x) → DZs P X b ss ρ μ0 μ x
abbrev PT : Rho → Prop := fun _ => True
section
variable {P : Rho → Prop} {X : Cx} {b : Addr} {st : Stmt} {ss s1 s2 : List Stmt} {e c : Expr} {es : List Expr} {pos p p2 : Pos} {n : Str} {z z1 z2 : DenZ} {g : DenS} {fb : DenB} {fx : DenE} {gs : Env → Tree (List W)}
theorem szs_here (h : SZ P b X st z) : SZs P b X (st :: ss) z := .mk fun μ0 E ρ μ x hp R q => dzs_here (h.run μ0 E ρ μ x hp R q)
theorem szs_one (h : SZ P b X st z) : SZs P b X [st] z := szs_here h
theorem szs_next (hs : SS b X st g) (h : SZs PT b X ss z) : SZs PT b X (st :: ss) (zNext g z) := .mk fun μ0 E ρ μ x hp R q =>
  dzs_next (hs.run μ0 E ρ μ _ R ((all_bind.mp q).imp fun o q => by
    cases o with
    | nx E' => exact fun ρ' μ' R' => h.run μ0 E' ρ' μ' x trivial R' q
    | rt v => exact q.elim
    | bk E' => exact q.elim
    | ct E' => exact q.elim))
theorem szs_no : SZs P b X ss zNo := .mk fun μ0 E ρ μ x hp R q => q.elim
theorem szs_if (hc : ST b X c fb) (h1 : SZs PT b X s1 z1) (h2 : SZs PT b X ss z2) : SZs PT b X (.If c s1 [] pos :: ss) (zIf fb z1 z2) := .mk fun μ0 E ρ μ x hp R q => by
  intro G H σ m v W En tk w
  refine WSs.of (pss_cons (ps_if pwt pwss pss_nil) pwss) ?_
  refine hc.run μ0 E ρ μ (fun k μ1 => if k = true then DZs PT X b s1 ρ μ0 μ1 x else DZs PT X b ss ρ μ0 μ1 x) R ((all_bind.mp q).imp fun k q μ1 s1' => ?_) G H σ m v _ fun k μ1 G1 H1 q e1 m1 => ?_
  · cases k with
    | true =>
      rw [if_pos rfl]
      exact h1.run μ0 E ρ μ1 x trivial (R.step s1') q
    | false =>
      rw [if_neg Bool.false_ne_true]
      exact h2.run μ0 E ρ μ1 x trivial (R.step s1') q
  · dsimp only at q
    split at q
    · rename_i hk
      rw [if_pos hk]
      exact q G1 H1 σ m1 (v.mono e1) W _ tk (w.later e1 (Bs.refl b μ0))
    · rename_i hk
      rw [if_neg hk]
      exact q G1 H1 σ m1 (v.mono e1) W En tk (w.later e1 (Bs.refl b μ0))
theorem sz_set (i : Nat) {y : Str} {p' : Pos} (hN : X.N.Nodup) (hi : X.N[i]? = some y) (hx : Loc X.env.scope y) (h : SZe P b X e z) (hs : swapsWith e (some (.Name y p')) pos.line X.env = pure false := by rfl)
    (hf : X.fn y = true ∨ X.env.scope.names.lookup y = some .local := by first | exact .inl rfl | exact .inr rfl | assumption) : SZ P b X (.Assign [.Name y p'] e pos) z := .mk fun μ0 E ρ μ x hp R q => dz_set i hN hi hx (h.run μ0 E ρ μ x hp R q) hs hf
theorem sz_raise {C : Addr} {f : Str} (hc : X.calm = true) (T : ExT X.prog X.w X.K X.mg X.base n C f) (hr : Rm 3 X.A) (hg : Gl X n) (h : SE b X e fx)
    (hdb : (n == ("__debug__" : Str)) = false := by decide) (he : starEach [e] X.env = (false, eval e X.env) :: starEach [] X.env := by rfl) (hpl : (backTo p2 (starEach [] X.env)).any (·.1) = false := by rfl) :
    SZ P b X (.Raise (some (.Call (.Name n p) [e] [] p2)) none pos) (zRaise C f fx) := .mk fun μ0 E ρ μ x hp R q => by
  intro G H σ m v W En tk w
  -- the value decides which exception it is
  refine WS.of (ps_raise hc tk (pmk_one T hr passE hg (pa_cons pwe pa_nil he) hdb he hpl)) ?_
  refine h.run μ0 E ρ μ (fun o μ1 => ∃ d, o = .im d ∧ Thr.mk C f d = x ∧ Bs b μ0 μ1) R ((all_bind.mp q).imp fun d q μ1 s1' => ⟨d, rfl, q, R.ext.trans s1'⟩) G H σ m v _ fun vx o μ1 G1 H1 q1 e1 m1 r1 => ?_
  obtain ⟨d, rfl, rfl, s⟩ := q1
  refine ⟨vx, rfl, fun dx hdx => ?_⟩
  have g1 : G1 dx = none := by
    cases q : G1 dx with
    | none => rfl
    | some u =>
      rw [m1.ex _ _ q] at hdx
      cases hdx
  have e2 : Ex G1 (upd G1 dx (.xd [(f, vx)])) := Ex.new g1
  exact w ρ μ1 (upd G1 dx (.xd [(f, vx)])) _ σ dx vx hp s (e1.trans e2) (m1.lay hdx) ((v.mono e1).mono e2) upd_same (Dv.mono e2 r1)
def cZF (F : List W → Tree Thr) : Cz := fun os μ b x => ∃ ws, os = ws.map (wo b) ∧ (∃ p q t, μ b = some (bx p q t)) ∧ (F ws).All (fun y => y = x)
theorem sze_call {F : List W → Tree Thr} {ps : List Str} {k : Nat} (FC : FcZ X.prog X.w X.K X.mg X.base n st ps k (cZF F)) (hr : Rm k X.A) (hg : Gl X n)
    (hb : ∀ (kV doc pm : Value) (an : Option Addr) (cdv ct : Value) (us : List Value), us.length = ps.length → bindArgs (PySem.W.fnOf n n (defArgs st) (defBody st) (defScope st) .none kV doc pm an cdv ct) ⟨us, []⟩ = pure (ps.zip us))
    (ha : SA b X (e :: es) gs) (hdb : (n == ("__debug__" : Str)) = false := by decide) (he : starEach (e :: es) X.env = (false, eval e X.env) :: starEach es X.env := by rfl) (hpl : (backTo pos (starEach es X.env)).any (·.1) = false := by rfl) : SZe P b X (.Call (.Name n p) (e :: es) [] pos) (zCall F gs) := .mk fun μ0 E ρ μ x hp R q =>
  dze_call FC hr hg hp hb (ha.run μ0 E ρ μ _ R ((all_bind.mp q).imp fun ws q μ1 s1 => ⟨R.ext.trans s1, ws, rfl, (R.step s1).bxs, q⟩)) hdb he hpl
end
section
variable {Pr : Program} {w : World} {K : PySem.W.Frag} {mg : Str → Option Value} {base : Heap}
def fnZ (a n : Nat) (body : DenZ) : List W → Tree Thr := fun ws => (liftO (lenIs a ws)).bind fun _ => body (ws.map (fun w => some (ent w)) ++ List.replicate (n - a) none)
theorem fcz_body {k a n : Nat} {f : Addr} {x : Str} {st : Stmt} {fd : FuncData} {N ps : List Str} (body : DenZ) {m : List W → Tree Thr} (hM : m = fnZ a n body) (F : Fun K x x st f fd) (hm : mg x = some (.ref f)) (S : FnScope N ps (defScope st)) (ha : ps.length = a) (hn : N.length = n)
    (hB : ∀ (b : Addr) (cdv : Value) A outer s H E, Rm k (A.deeper (envOfC x (defScope st) s.heap.objs.size f cdv)) → SZs PT b (cxOf (L2.CX Pr w) Pr w K mg base N x (defScope st) f cdv A outer s H E) (defBody st) body) : FcZ Pr w K mg base x st ps (k + 1) (cZF m) := by
  subst hM ha hn
  refine fcz_of F hm S (fun os μ b y h => ?_) fun cdv A outer s H E os μ b y hr h => ?_
  · obtain ⟨ws, rfl, _, h⟩ := h
    rw [List.length_map]
    exact (lenIs_all (all_bind.mp h)).1
  · obtain ⟨ws, rfl, hb, h⟩ := h
    obtain ⟨hl, h⟩ := lenIs_all (all_bind.mp h)
    rw [List.length_map, hl]
    exact (hB b cdv A outer s H E hr).run μ _ _ μ y trivial (rel_start _ hb) h
end
end Nx
set_option maxHeartbeats 4000000
namespace Nx
open PySem PySem.Spec PyProof.Rows L2
open Tree
end Nx
set_option maxHeartbeats 4000000
namespace Nx
open PySem PySem.Spec PyProof.Rows L2
open Tree
inductive FnN (X : Cx) : List Expr → List Str → List V → Prop
  | nil : FnN X [] [] []
  | cons {n : Str} {p : Pos} {fa : Addr} {es : List Expr} {ns : List Str} {vs : List V} (hg : Gl X n) (hm : X.mg n = some (.ref fa)) (hd : (n == ("__debug__" : Str)) = false) (he : starEach (.Name n p :: es) X.env = (false, eval (.Name n p) X.env) :: starEach es X.env) (r : FnN X es ns vs) : FnN X (.Name n p :: es) (n :: ns) (.ref fa :: vs)
theorem FnN.pa {X : Cx} : ∀ {es : List Expr} {ns : List Str} {vs : List V}, FnN X es ns vs → PA X es (tCs vs)
  | _, _, _, .nil => pa_nil
  | _, _, _, .cons hg hm hd he r => pa_cons (pe_glob hg hm rfl hd) r.pa he
theorem FnN.get {X : Cx} : ∀ {es : List Expr} {ns : List Str} {vs : List V}, FnN X es ns vs → ∀ {k : Nat} {n : Str}, ns[k]? = some n → ∃ fa, vs[k]? = some (.ref fa) ∧ X.mg n = some (.ref fa)
  | _, _, _, .nil, k, n, h => by simp at h
  | _, _, _, .cons (fa := fa) hg hm hd he r, 0, n, h => by
    cases h
    exact ⟨fa, rfl, hm⟩
  | _, _, _, .cons hg hm hd he r, k + 1, n, h => r.get h
end Nx
set_option maxHeartbeats 4000000
namespace Nx
open PySem PySem.Spec PyProof.Rows L2
open Tree
def clsS (s : Stmt) (j : Nat) : Stmt := match s with
  | .ClassDef _ _ _ body _ _ _ _ _ _ _ => body.getD j (.Pass ⟨0, 0, 0, 0⟩)
  | s => s
section
variable {P : Program} {w : World} {K : PySem.W.Frag} {mg : Str → Option Value} {base : Heap} {C fI : Addr} {fd : FuncData} {f q : Str} {st : Stmt} {B newId initId : String} {bm : List Value}
theorem ok_init (Z : BsF B newId initId bm) (T : ExB K C newId bm) (no : PySem.W.findIn K (.ref C) f = some none) (F : Fun K "__init__" q st fI fd) (S : FnScope ["self", f] ["self", f] (defScope st)) (txt : Str)
    (hB : ∀ (cdv : Value) A outer s H E, PSs (cxOf CX0 P w K mg base ["self", f] q (defScope st) fI cdv A outer s H E).nox (defBody st) (tSeq (tDrop (tBI K newId bm (tCons (tVar 0) (tCons (L2.tC (.str txt)) tNil)))) (tOs1 K newId bm f (tVar 0) (tVar 1)))) :
    FnOk P w K mg base CX0 2 fI fd ["self", f] (spInit K C f) := by
  refine F.ok (k := 1) S (fun vs H Q E h => ?_) (fun cdv A outer s H vs Q E hr h => ⟨_, hB cdv A outer s H E, ?_⟩)
  · obtain ⟨a, y, rfl, _⟩ := h
    rfl
  · obtain ⟨a, y, rfl, ha, hq⟩ := h
    exact ⟨_, rfl, a, C, [.str txt], rfl, (show 1 ≤ 1000 by decide), T, ha, _, rfl, _, rfl, a, C, rfl, T, no, ha, fun dx h1 h2 => hq dx h1 h2⟩
theorem ext_mk {x : Str} (Z : BsF B newId initId bm) (T : ExB K C newId bm) (hb : bm.contains (.type "BaseException") = true) (gC : mg x = some (.ref C)) (exC : PySem.W.subIn K (.ref C) (.type "BaseException") = some true) (tyC : PySem.W.typeIn K (.ref C) = some (.type "type"))
    (iC : PySem.W.findIn K (.ref C) "__init__" = some (some (.ref fI))) (tI : PySem.W.typeIn K (.ref fI) = some (.type "function")) (F1 : FnOk P w K mg base CX0 2 fI fd ["self", f] (spInit K C f)) (bI : Binds K fd ["self", f] []) : ExT P w K mg base x C f :=
  ⟨⟨B, newId, initId, bm, Z, T, hb⟩, gC, exC, tyC, ⟨fI, fd, iC, tI, F1, bI⟩⟩
end
end Nx
set_option maxHeartbeats 4000000
namespace Nx
open PySem PySem.Spec PyProof.Rows L2
open Tree
def exE (E : Env) (i : Nat) : Option (Addr × Str × PyData) := match E[i]? with | some (some (.exn C f d)) => some (C, f, d) | _ => none
theorem exE_some {E : Env} {i : Nat} {C : Addr} {f : Str} {d : PyData} (h : exE E i = some (C, f, d)) : E[i]? = some (some (.exn C f d)) := by
  unfold exE at h
  split at h
  · rename_i e
    cases h
    exact e
  · cases h
def tIsNx (i : Nat) : DenB := fun E => match E[i]? with
  | some (some (.exn _ _ _)) => .ret false
  | some (some (.d d)) => liftO (qIsN d)
  | _ => .fail
def dIsX (i : Nat) (q : Addr → Option Bool) : DenE := fun E => match exE E i with | some (C, _, _) => (liftO (q C)).bind fun k => .ret (.bool k) | none => .fail
def dFldX (i : Nat) (f : Str) (cl : List Addr) : DenE := fun E => match exE E i with | some (C, g, d) => if g = f ∧ C ∈ cl then .ret d else .fail | none => .fail
def sTry (i j : Nat) (z : DenZ) (g : DenS) : DenS := fun E => match z E with
  | .ret x => if E.all (fun o => match o with | some w => noOwn w | none => true) = true then .ret (.nx ((E.set j (some (.exn x.C x.f x.d))).set i none)) else .fail
  | _ => g E
theorem Rel.base {b : Addr} {μ0 μ : Mu} {E : Env} {ρ : Rho} (R : Rel b μ0 E ρ μ) (h : E.all (fun o => match o with | some w => noOwn w | none => true) = true) : Rel b μ E ρ μ := by
  refine ⟨R.len, R.bxs, R.bxs, Bs.refl b μ, fun i w e => ?_, R.inj, R.injT⟩
  obtain ⟨o, h1, h2⟩ := R.get i w e
  have hw : noOwn w = true := List.all_eq_true.mp h (some w) (List.mem_of_getElem? e)
  refine ⟨o, h1, ?_⟩
  cases w <;> first | exact h2 | cases hw
section
variable {b : Addr} {X : Cx} {pos p p2 np tpos : Pos} {n m : Str} {es : List Expr} {kt : Nat}
theorem Rel.exn {μ0 μ : Mu} {E : Env} {ρ : Rho} {i : Nat} {C : Addr} {f : Str} {d : PyData} (R : Rel b μ0 E ρ μ) (h : exE E i = some (C, f, d)) : ρ[i]? = some (some (.ob (exnP C f d))) := by
  obtain ⟨o, h1, h2⟩ := R.get i _ (exE_some h)
  have h2 : o = .ob (exnP C f d) := h2
  rw [h2] at h1
  exact h1
theorem st_isNx (i : Nat) {j : Nat} {p' : Pos} (hN : X.N[i]? = some n) (hv : Vis X.env.scope n) (hd : (n == ("__debug__" : Str)) = false := by decide) (hcd : (n == ("__classdict__" : Str)) = false := by decide) : ST b X (.Compare (.Name n np) [.Is] [.Constant .none j p'] pos) (tIsNx i) := .mk fun μ0 E ρ μ Φ R q => by
  unfold tIsNx at q
  split at q
  · rename_i C f d e
    obtain ⟨o, h1, h2⟩ := R.get i _ e
    have h2 : o = .ob (exnP C f d) := h2
    subst h2
    exact dt_isN (de_var i hN hv h1 (q μ (Bs.refl b μ)) hd hcd)
  · rename_i d e
    obtain ⟨o, h1, h2⟩ := R.get i _ e
    have h2 : o = .im d := h2
    subst h2
    obtain ⟨k, hk, q⟩ := lift_all q
    have e2 : isNon (.im d) = k := by
      cases d <;> (cases hk; rfl)
    refine dt_isN (de_var i hN hv h1 ?_ hd hcd)
    rw [e2]
    exact q μ (Bs.refl b μ)
  · exact q.elim
theorem se_isX (i : Nat) {c : V} {u : Value} {q : Addr → Option Bool} (B : Bt X.mg) (hg : Gl X "isinstance") (hN : X.N[i]? = some m) (hv : Vis X.env.scope m) (hc : ClN X n c u) (hq : ∀ C k, q C = some k → ExK X.K C ∧ PySem.W.kitOne X.K (.ref C) u = some k)
    (hd : (m == ("__debug__" : Str)) = false := by decide) (hcd : (m == ("__classdict__" : Str)) = false := by decide) (he : starEach [.Name m np, .Name n p2] X.env = (false, eval (.Name m np) X.env) :: starEach [.Name n p2] X.env := by rfl) (he2 : starEach [.Name n p2] X.env = (false, eval (.Name n p2) X.env) :: starEach [] X.env := by rfl)
    (hpl : (backTo pos (starEach [.Name n p2] X.env)).any (·.1) = false := by rfl) : SE b X (.Call (.Name "isinstance" p) [.Name m np, .Name n p2] [] pos) (dIsX i q) := .mk fun μ0 E ρ μ Φ R h => by
  unfold dIsX at h
  split at h
  · rename_i C f d hE
    obtain ⟨k, hk, h⟩ := lift_all (all_bind.mp h)
    obtain ⟨T, hk'⟩ := hq C k hk
    exact de_isE B hg hc T hk' (de_var i hN hv (R.exn hE) ⟨rfl, h μ (Bs.refl b μ)⟩ hd hcd) he he2 hpl
  · exact h.elim
theorem se_isXT (i : Nat) {cs : List V} {us : List Value} {q : Addr → Option Bool} (B : Bt X.mg) (hg : Gl X "isinstance") (hN : X.N[i]? = some m) (hv : Vis X.env.scope m) (hc : ClNs X es cs us) (hz : cs.length ≤ 1000) (hq : ∀ C k, q C = some k → ExK X.K C ∧ PySem.W.kitAny X.K (.ref C) us = some k)
    (hd : (m == ("__debug__" : Str)) = false := by decide) (hcd : (m == ("__classdict__" : Str)) = false := by decide) (he : starEach [.Name m np, .Tuple es kt tpos] X.env = (false, eval (.Name m np) X.env) :: starEach [.Tuple es kt tpos] X.env := by rfl) (he2 : starEach [.Tuple es kt tpos] X.env = (false, eval (.Tuple es kt tpos) X.env) :: starEach [] X.env := by rfl)
    (hpl : (backTo pos (starEach [.Tuple es kt tpos] X.env)).any (·.1) = false := by rfl) : SE b X (.Call (.Name "isinstance" p) [.Name m np, .Tuple es kt tpos] [] pos) (dIsX i q) := .mk fun μ0 E ρ μ Φ R h => by
  unfold dIsX at h
  split at h
  · rename_i C f d hE
    obtain ⟨k, hk, h⟩ := lift_all (all_bind.mp h)
    obtain ⟨T, hk'⟩ := hq C k hk
    exact de_isET B hg hc hz T hk' (de_var i hN hv (R.exn hE) ⟨rfl, h μ (Bs.refl b μ)⟩ hd hcd) he he2 hpl
  · exact h.elim
theorem se_fldX (i : Nat) {f : Str} {cl : List Addr} (hN : X.N[i]? = some m) (hv : Vis X.env.scope m) (hk : ∀ C ∈ cl, ExK X.K C ∧ PySem.W.findIn X.K (.ref C) f = some none)
    (hd : (m == ("__debug__" : Str)) = false := by decide) (hcd : (m == ("__classdict__" : Str)) = false := by decide) (hb : attributeBase (.Name m np) f X.env (eval (.Name m np) X.env) = eval (.Name m np) X.env := by rfl) : SE b X (.Attribute (.Name m np) f pos) (dFldX i f cl) := .mk fun μ0 E ρ μ Φ R h => by
  unfold dFldX at h
  split at h
  · rename_i C g d hE
    split at h
    · rename_i hg
      obtain ⟨rfl, hC⟩ := hg
      exact de_exfld (hk C hC).1 (hk C hC).2 (de_var i hN hv (R.exn hE) ⟨rfl, h μ (Bs.refl b μ)⟩ hd hcd) hb
    · exact h.elim
  · exact h.elim
theorem ss_try {i j : Nat} {body : List Stmt} {cs : List Value} {mp ap pos' : Pos} {z : DenZ} {g : DenS} (hs : X.stack = X.env :: X.outer) (hf : X.env.frame = some X.env.locals) (hex : X.ex = []) (hN : X.N.Nodup) (hi : X.N[i]? = some n) (hln : X.env.kindOf n = some .local) (hj : X.N[j]? = some m) (hlm : X.env.kindOf m = some .local) (hij : i ≠ j)
    (hes : ∀ a pn, Nms (X.suite a pn) es cs) (hz : cs.length ≤ 1000)
    (hm : ∀ {h : Heap} {cls : Value} {e tp : Addr} {o : Obj} {k : Nat}, X.K.In h → PySem.W.Looks (model X.prog X.w) h (typeOf (.ref e)) cls → h.get? tp = some o → o.cls = .type "tuple" → o.data = .seq cs.toArray k → PySem.W.exmAny X.K cls cs = some true → PySem.W.Looks (model X.prog X.w) h (excMatches (.ref e) (.ref tp)) true)
    (hx : ∀ E x, z E = .ret x → PySem.W.exmAny X.K (.ref x.C) cs = some true) (hg : SSs b X.nox body g)
    (hb : ∀ (pn : List (Addr × Obj)) (xe : Value → Shared → Prop) (ρ : Rho), SZs (fun ρ' => ρ' = ρ) b (X.tr pn xe) body z)
    (hd : (n == ("__debug__" : Str)) = false := by decide) (hcd : (n == ("__classdict__" : Str)) = false := by decide)
    (hsw : ∀ a pn, swapsWith (.Name n np) (some (.Name m mp)) ap.line (X.suite a pn).env = pure false := by intro _ _; rfl) :
    SS b X (.Try body [.ExceptHandler (some (.Tuple es kt tpos)) (some n) [.Assign [.Name m mp] (.Name n np) ap] pos'] [] [] pos) (sTry i j z g) := .mk fun μ0 E ρ μ D R q => by
  unfold sTry at q
  split at q
  · rename_i x hz'
    split at q
    case isFalse => exact q.elim
    rename_i hno
    refine ds_catch (x := x) (b := b) hs hf hex hN hi hln hj hlm hij hes hz hm (hx E x hz') (fun pn xe => ?_) (fun μ' s => ?_) hd hcd hsw
    · exact (hb pn xe ρ).run μ E ρ μ x rfl (R.base hno) (by rw [hz']; exact rfl)
    · have R2 := (R.step s).setP j (w := .exn x.C x.f x.d) (o := .ob (exnP x.C x.f x.d)) rfl (fun _ h => nomatch h) rfl
      exact q _ _ (R2.wipeO i none)
  · exact ds_try (hg.run μ0 E ρ μ D R q)
end
end Nx
set_option maxHeartbeats 4000000
namespace Nx
open PySem PySem.Spec PyProof.Rows L2
open Tree
end Nx
set_option maxHeartbeats 4000000
namespace Nx
open PySem PySem.Spec PyProof.Rows L2
end Nx
set_option maxHeartbeats 4000000
namespace PySem
namespace HandSPX
open PySem.W PySem.Calls PyProof.Rows
open Builtin Builtin.ObjectAttr
end HandSPX
end PySem
namespace Nx
open PySem PySem.Spec PyProof.Rows L2
end Nx
set_option maxHeartbeats 4000000
namespace Nx
open PySem PySem.Spec PyProof.Rows L2
open Tree
def exsE (E : Env) (i : Nat) : Option Exs := match E[i]? with | some (some (.exs l)) => some l | _ => none
theorem exsE_some {E : Env} {i : Nat} {l : Exs} (h : exsE E i = some l) : E[i]? = some (some (.exs l)) := by
  unfold exsE at h
  split at h
  · rename_i e
    cases h
    exact e
  · cases h
section
variable {b : Addr} {X : Cx} {pos pos2 p p2 np apos : Pos} {n m x f : Str} {es : List Expr} {e : Expr} {C : Addr} {g : DenE} {gs : Env → Tree Exs} {body : List Stmt} {gb : DenS} {fa : Env → Tree (List W)} {kws : List Keyword}
theorem Rel.exs {μ0 μ : Mu} {E : Env} {ρ : Rho} {i : Nat} {l : Exs} (R : Rel b μ0 E ρ μ) (h : exsE E i = some l) : ρ[i]? = some (some (.ob (exsP l))) := by
  obtain ⟨o, h1, h2⟩ := R.get i _ (exsE_some h)
  have h2 : o = .ob (exsP l) := h2
  rw [h2] at h1
  exact h1
end
def pIntS : PyData → Option PyData
  | .str a => if a.length ≤ 640 then (PySem.intText? a).map .int else none
  | _ => none
theorem se_intS {b : Addr} {X : Cx} {e : Expr} {g : DenE} {p pos : Pos} (B : Bt X.mg) (hg : Gl X "int") (hx : SE b X e g) (he : starEach [e] X.env = (false, eval e X.env) :: starEach [] X.env := by rfl) (hpl : (backTo pos (starEach [] X.env)).any (·.1) = false := by rfl) : SE b X (.Call (.Name "int" p) [e] [] pos) (d1 pIntS g) := .mk fun μ0 E ρ μ Φ R h =>
  de_callT call_int_str hg B.int rfl (da_cons (hx.run μ0 E ρ μ _ R ((all_bind.mp h).imp fun d q μ1 s1 => da_nil (by
    obtain ⟨r, hr, q⟩ := lift_all q
    intro G H vs m rv Q f
    obtain ⟨u, rfl, ru⟩ := ro1 rv
    cases d with
    | str a =>
      have hr : (if a.length ≤ 640 then (PySem.intText? a).map PyData.int else none) = some r := hr
      split at hr
      · rename_i hl
        cases hz : PySem.intText? a with
        | none =>
          rw [hz] at hr
          cases hr
        | some n =>
          rw [hz] at hr
          cases hr
          cases ru
          exact ⟨a, n, rfl, hz, hl, f _ _ _ _ _ (q μ1 s1) (Ex.refl G) m (Dv.int n)⟩
      · cases hr
    | _ => cases hr))) he) (by decide) (by decide) he hpl
theorem kone_self {K : PySem.W.Frag} {C : Addr} : PySem.W.kitOne K (.ref C) (.ref C) = some true := by
  unfold PySem.W.kitOne
  rw [if_pos (by simp)]
theorem kany_f {K : PySem.W.Frag} {C : Addr} : ∀ {us : List Value}, (∀ u ∈ us, PySem.W.kitOne K (.ref C) u = some false) → PySem.W.kitAny K (.ref C) us = some false
  | [], _ => rfl
  | u :: us, h => by
    have h1 := h u (List.mem_cons_self ..)
    have h2 := kany_f (us := us) fun v hv => h v (List.mem_cons_of_mem _ hv)
    rw [PySem.W.kitAny, h1]
    exact h2
end Nx
set_option maxHeartbeats 4000000
namespace Nx
open PySem PySem.Spec PyProof.Rows L2
open Tree
end Nx
set_option maxHeartbeats 4000000
namespace Nx
open PySem PySem.Spec PyProof.Rows L2
open Tree
abbrev OwnAt (b : Addr) (μ μ2 : Mu) : List Addr → List (List PyData) → Prop := Paired fun q ds => q ≠ b ∧ μ q = none ∧ μ2 q = some (ds.map .im)
theorem OwnAt.step {b : Addr} {μ μ2 μ3 : Mu} (s : Bs b μ2 μ3) : ∀ {ps : List Addr} {ls : List (List PyData)}, OwnAt b μ μ2 ps ls → OwnAt b μ μ3 ps ls
  | _, _, .nil => .nil
  | _, _, .cons h t => .cons ⟨h.1, h.2.1, s.old _ _ h.1 h.2.2⟩ (OwnAt.step s t)
theorem OwnAt.back {b : Addr} {μ μ1 μ2 : Mu} (k : ∀ q, q ≠ b → μ1 q = none → μ q = none) : ∀ {ps : List Addr} {ls : List (List PyData)}, OwnAt b μ1 μ2 ps ls → OwnAt b μ μ2 ps ls
  | _, _, .nil => .nil
  | _, _, .cons h t => .cons ⟨h.1, k _ h.1 h.2.1, h.2.2⟩ (OwnAt.back k t)
theorem OwnAt.none {b : Addr} {μ μ2 : Mu} : ∀ {ps : List Addr} {ls : List (List PyData)}, OwnAt b μ μ2 ps ls → ∀ q ∈ ps, q ≠ b ∧ μ q = none ∧ (μ2 q).isSome = true
  | _, _, .nil, q, hq => nomatch hq
  | _, _, .cons h t, q, hq => by
    rcases List.mem_cons.mp hq with rfl | hq
    · exact ⟨h.1, h.2.1, by rw [h.2.2]; rfl⟩
    · exact OwnAt.none t q hq
theorem OwnAt.app {b : Addr} {μ μ2 : Mu} : ∀ {ps qs : List Addr} {ls ms : List (List PyData)}, OwnAt b μ μ2 ps ls → OwnAt b μ μ2 qs ms → OwnAt b μ μ2 (ps ++ qs) (ls ++ ms)
  | _, _, _, _, .nil, k => k
  | _, _, _, _, .cons h t, k => .cons h (OwnAt.app t k)
theorem Bs.fresh {b : Addr} {μ μ' : Mu} (s : Bs b μ μ') {p : Addr} (pb : p ≠ b) (h : μ' p = none) : μ p = none := by
  cases z : μ p with
  | none => rfl
  | some l =>
    rw [s.old p l pb z] at h
    cases h
section
variable {b : Addr} {X : Cx} {e x y tg iter elt c : Expr} {es es1 es2 : List Expr} {f fx fy : DenE} {fi : DenL} {fb : DenB} {pos p rp pos2 cpos : Pos} {ss : List Stmt} {st : Stmt} {scope : Scope} {gs : Env → Tree (List W)} {fl fl1 fl2 : Env → Tree (List (List PyData))} {g : DenS}
structure NsA (b : Addr) (μ0 : Mu) (E : Env) (ρ : Rho) (μ : Mu) (h : Nat) (q : Addr) (ps : List Addr) (ls : List (List PyData)) : Prop where
  rel : Rel b μ0 E ρ μ
  rh : ρ[h]? = some (some (.own q))
  qb : q ≠ b
  q0 : μ0 q = none
  mq : μ q = some (ps.map .own)
  nd : (q :: ps).Nodup
  ow : OwnAt b μ0 μ ps ls
  np : ∀ (j : Nat) ds c, E[j]? = some (some (.own ds)) → ρ[j]? = some (some (.own c)) → c ∉ q :: ps
theorem NsA.step {μ0 μ μ' : Mu} {E : Env} {ρ : Rho} {h : Nat} {q : Addr} {ps : List Addr} {ls : List (List PyData)} (N : NsA b μ0 E ρ μ h q ps ls) (s : Bs b μ μ') : NsA b μ0 E ρ μ' h q ps ls :=
  ⟨N.rel.step s, N.rh, N.qb, N.q0, s.old _ _ N.qb N.mq, N.nd, N.ow.step s, N.np⟩
theorem NsA.some {μ0 μ : Mu} {E : Env} {ρ : Rho} {h : Nat} {q : Addr} {ps : List Addr} {ls : List (List PyData)} (N : NsA b μ0 E ρ μ h q ps ls) {r : Addr} (hr : r ∈ q :: ps) : r ≠ b ∧ μ0 r = none ∧ (μ r).isSome = true := by
  rcases List.mem_cons.mp hr with rfl | hr
  · exact ⟨N.qb, N.q0, by rw [N.mq]; rfl⟩
  · exact N.ow.none r hr
end
end Nx
set_option maxHeartbeats 4000000
namespace Nx
open PySem PySem.Spec PyProof.Rows L2
def cfl (sz : Int) (vb : V) (q r : Addr) : List (Str × V) := [("size", .int sz), ("beginning", vb), ("operations", .ref q), ("entries", .ref r)]
def opD (is : List Int) : PyData := .tuple (is.map .int)
structure CirAt (who : Addr → Option Addr) (G H : Hp) (p : Addr) (c : Cir) (dx q r : Addr) (vb : V) (xs ys : List V) : Prop where
  h1 : H p = some (.ins c.C dx (cfl c.sz vb q r))
  h2 : H dx = some (.own p)
  h3 : H q = some (.lst xs)
  h4 : H r = some (.lst ys)
  wp : who p = some p
  wd : who dx = some p
  wq : who q = some p
  wr : who r = some p
  qr : q ≠ r
  db : Dv G vb (.tuple (c.bg.map .int))
  dx_ : DvA G xs (c.ops.map opD)
  dy : DvA G ys (c.ent.map .str)
section
variable {G H : Hp} {μ : Mu} {p : Addr} {c : Cir}
theorem RM.cir (m : RM G H μ) (h : μ.d p = some (.cir c)) : ∃ who dx q r vb xs ys, Thg who G H μ ∧ CirAt who G H p c dx q r vb xs ys := by
  obtain ⟨who, t⟩ := m.thg
  obtain ⟨wp, dx, q, r, vb, xs, ys, h1, h2, h3, h4, h5, h6, h7, h8, h9, h10, h11⟩ := t.ok p _ h
  exact ⟨who, dx, q, r, vb, xs, ys, t, ⟨h1, h2, h3, h4, wp, h5, h6, h7, h8, h9, h10, h11⟩⟩
theorem CirAt.ne {who : Addr → Option Addr} {dx q r : Addr} {vb : V} {xs ys : List V} (A : CirAt who G H p c dx q r vb xs ys) : q ≠ p ∧ q ≠ dx ∧ r ≠ p ∧ r ≠ dx := by
  refine ⟨fun z => ?_, fun z => ?_, fun z => ?_, fun z => ?_⟩
  · have := A.h3; rw [z, A.h1] at this; cases this
  · have := A.h3; rw [z, A.h2] at this; cases this
  · have := A.h4; rw [z, A.h1] at this; cases this
  · have := A.h4; rw [z, A.h2] at this; cases this
end
end Nx
set_option maxHeartbeats 4000000
namespace Nx
open PySem PySem.Spec PyProof.Rows L2
end Nx
set_option maxHeartbeats 4000000
namespace Nx
open PySem PySem.Spec PyProof.Rows L2
open Tree
structure FcM (P : Program) (w : World) (K : PySem.W.Frag) (mg : Str → Option Value) (base : Heap) (C : Addr) (m q : Str) (st : Stmt) (ps : List Str) (k : Nat) (Cn : Ct) : Prop where
  ex : ∃ f fd, Fun K m q st f fd ∧ Meth K C m f ∧ FnG P w K mg base CX0 k f fd ps (spOf Cn)
theorem FcM.mono {P : Program} {w : World} {K : PySem.W.Frag} {mg : Str → Option Value} {base : Heap} {C : Addr} {m q : Str} {st : Stmt} {ps : List Str} {j k : Nat} {Cn : Ct} (F : FcM P w K mg base C m q st ps j Cn) (h : j ≤ k) : FcM P w K mg base C m q st ps k Cn := by
  obtain ⟨f, fd, a, b, c⟩ := F.ex
  exact ⟨⟨f, fd, a, b, c.mono h⟩⟩
end Nx
set_option maxHeartbeats 4000000
namespace Nx
open PySem PySem.Spec PyProof.Rows L2
open Tree
end Nx
set_option maxHeartbeats 4000000
namespace Nx
open PySem PySem.Spec PyProof.Rows L2
open Tree
def slots (i j : Nat) (E : Env) : Option Unit := if i < E.length ∧ j < E.length then some () else none
end Nx
set_option maxHeartbeats 4000000
namespace Nx
open PySem PySem.Spec PyProof.Rows L2
open Tree
abbrev DenC := Env → Tree (Env × PyData)
end Nx
set_option maxHeartbeats 4000000
namespace Nx
open PySem PySem.Spec PyProof.Rows L2
open Tree
end Nx
set_option maxHeartbeats 4000000
namespace Nx
open PySem PySem.Spec PyProof.Rows L2
open Tree
theorem DvA.of_strs {G : Hp} : ∀ ys : List Str, DvA G (ys.map V.str) (ys.map PyData.str)
  | [] => .nil
  | y :: ys => .cons (.str y) (DvA.of_strs ys)
theorem DvA.strs {G : Hp} : ∀ {vs : List V} {ys : List Str}, DvA G vs (ys.map PyData.str) → vs = ys.map V.str
  | _, [], h => by
    cases h
    rfl
  | _, y :: ys, h => by
    cases h with
    | cons a t =>
      cases a
      rw [DvA.strs t]
      rfl
def asStrs : List PyData → Option (List Str)
  | [] => some []
  | .str x :: ds => (asStrs ds).map (x :: ·)
  | _ => none
theorem asStrs_some : ∀ {ds : List PyData} {ys : List Str}, asStrs ds = some ys → ds = ys.map .str
  | [], ys, h => by cases h; rfl
  | d :: ds, ys, h => by
    cases d with
    | str x =>
      rw [asStrs] at h
      cases hu : asStrs ds with
      | none => rw [hu] at h; cases h
      | some zs =>
        rw [hu] at h
        cases h
        rw [asStrs_some hu]
        rfl
    | _ => cases h
theorem asStrs_map (ys : List Str) : asStrs (ys.map .str) = some ys := by
  induction ys with
  | nil => rfl
  | cons y ys ih => rw [List.map_cons, asStrs, ih]; rfl
section
variable {b : Addr} {X : Cx} {e x y z : Expr} {es : List Expr} {f fx fy fz : DenE} {pos p apos p2 : Pos} {ρ : Rho} {μ : Mu} {Φ : OV → Mu → Prop}
def OpM (r : V → List V → Hp → VK → Prop) (a : Str) (w : OV) (μ : Mu) (Φ : OV → Mu → Prop) : Prop := ∀ G H vy, RM G H μ → RO G vy w → ∀ Q : VK, Fin G Φ Q → r (.str a) [vy] H Q
theorem de_tx {call : Expr} {r : V → List V → Hp → VK → Prop} (hpe : PE X call (tM1 r (WE X x) (WE X y))) (h : DE X x ρ μ fun u μ1 => ∃ a, u = .im (.str a) ∧ DE X y ρ μ1 fun w μ2 => OpM r a w μ2 Φ) : DE X call ρ μ Φ := fun G H σ m v Q f =>
  WE.of hpe (h G H σ m v _ fun vx u μ1 G1 H1 q1 e1 m1 r1 => by
    obtain ⟨a, rfl, q1⟩ := q1
    cases r1
    exact ⟨⟨a, rfl⟩, q1 G1 H1 σ m1 (v.mono e1) _ fun vy w μ2 G2 H2 q2 e2 m2 r2 => q2 G2 H2 vy m2 r2 Q (f.later (e1.trans e2))⟩)
def dTx (g : Str → PyData → Option PyData) (f h : DenE) : DenE := fun E => (f E).bind fun x => match x with | .str a => (h E).bind fun y => liftO (g a y) | _ => .fail
theorem se_tx {call : Expr} {r : V → List V → Hp → VK → Prop} {g : Str → PyData → Option PyData} (hpe : PE X call (tM1 r (WE X x) (WE X y))) (hr : ∀ a d v μ Φ, g a d = some v → Φ (.im v) μ → OpM r a (.im d) μ Φ) (hx : SE b X x fx) (hy : SE b X y fy) : SE b X call (dTx g fx fy) := .mk fun μ0 E ρ μ Φ R h =>
  de_tx hpe (hx.run μ0 E ρ μ _ R ((all_bind.mp h).imp fun d q μ1 s1 => by
    cases d with
    | str a => exact ⟨a, rfl, hy.run μ0 E ρ μ1 _ (R.step s1) ((all_bind.mp q).imp fun d' q μ2 s2 => by
        obtain ⟨v, hv, q⟩ := lift_all q
        exact hr a d' v μ2 Φ hv (q μ2 (s1.trans s2)))⟩
    | _ => exact q.elim))
def pSplit (a : Str) (d : PyData) : Option PyData := match d with
  | .str s => if (s.length == 0) = false ∧ a.length ≤ 100000 then some (.list ((Txt.split a s).map .str)) else none
  | _ => none
theorem se_split (hx : SE b X x fx) (hy : SE b X y fy) (hs : starEach [y] X.env = [(false, eval y X.env)] := by rfl) (hbase : attributeBase x "split" X.env (eval x X.env) = eval x X.env := by rfl) (hline : (apos.endLine == pos.line) = true := by rfl) : SE b X (.Call (.Attribute x "split" apos) [y] [] pos) (dTx pSplit fx fy) :=
  se_tx (pe_split pwe pwe hs hbase hline) (fun a d v μ Φ hg q => by
    cases d with
    | str s =>
      simp only [pSplit] at hg
      split at hg
      · rename_i hc
        cases hg
        intro G H vy m ry Q f
        cases ry
        refine ⟨a, s, rfl, rfl, hc.1, Nat.le_trans (Nat.add_le_add_right hc.2 2) (by rw [sizeLine_eq]; decide), fun l hl => ?_⟩
        have n := m.ex.free hl
        exact f _ _ _ _ _ q (Ex.new n) (m.lay hl) (Dv.lst upd_same (DvA.of_strs _))
      · cases hg
    | _ => cases hg) hx hy
def pPart (a : Str) (d : PyData) : Option PyData := match d with
  | .str s => if (s.length == 0) = false ∧ a.length ≤ 100000 then some (.tuple [.str (Txt.partition a s).1, .str (Txt.partition a s).2.1, .str (Txt.partition a s).2.2]) else none
  | _ => none
theorem se_part (hx : SE b X x fx) (hy : SE b X y fy) (hs : starEach [y] X.env = [(false, eval y X.env)] := by rfl) (hbase : attributeBase x "partition" X.env (eval x X.env) = eval x X.env := by rfl) (hline : (apos.endLine == pos.line) = true := by rfl) : SE b X (.Call (.Attribute x "partition" apos) [y] [] pos) (dTx pPart fx fy) :=
  se_tx (pe_partition pwe pwe hs hbase hline) (fun a d v μ Φ hg q => by
    cases d with
    | str s =>
      simp only [pPart] at hg
      split at hg
      · rename_i hc
        cases hg
        intro G H vy m ry Q f
        cases ry
        refine ⟨a, s, rfl, rfl, hc.1, Nat.le_trans hc.2 (by rw [sizeLine_eq]; decide), fun l hl => ?_⟩
        have n := m.ex.free hl
        exact f _ _ _ _ _ q (Ex.new n) (m.lay hl) (Dv.tup upd_same (.cons (.str _) (.cons (.str _) (.cons (.str _) .nil))))
      · cases hg
    | _ => cases hg) hx hy
def pJoin (a : Str) (d : PyData) : Option PyData := match items d with
  | some ds => (match asStrs ds with | some ys => if (ys.map (·.length)).sum + ys.length * a.length ≤ 16777216 then some (.str (Txt.join a ys)) else none | none => none)
  | none => none
theorem se_join (hx : SE b X x fx) (hy : SE b X y fy) (hs : starEach [y] X.env = [(false, eval y X.env)] := by rfl) (hbase : attributeBase x "join" X.env (eval x X.env) = eval x X.env := by rfl) (hline : (apos.endLine == pos.line) = true := by rfl) : SE b X (.Call (.Attribute x "join" apos) [y] [] pos) (dTx pJoin fx fy) :=
  se_tx (pe_join pwe pwe hs hbase hline) (fun a d v μ Φ hg q => by
    unfold pJoin at hg
    split at hg
    · rename_i ds hds
      split at hg
      · rename_i ys hys
        split at hg
        · rename_i hz
          cases hg
          intro G H vy m ry Q f
          have ry : Dv G vy d := ry
          have e := asStrs_some hys
          subst e
          cases ry with
          | lst h1 w =>
            cases hds
            have e := w.strs
            subst e
            exact ⟨a, _, ys, rfl, rfl, .inl (.inl (.inl (m.ex _ _ h1))), hz, f _ _ _ _ _ q (Ex.refl G) m (Dv.str _)⟩
          | tup h1 w =>
            cases hds
            have e := w.strs
            subst e
            exact ⟨a, _, ys, rfl, rfl, .inr (.inl (.inl (m.ex _ _ h1))), hz, f _ _ _ _ _ q (Ex.refl G) m (Dv.str _)⟩
          | _ => cases hds
        · cases hg
      · cases hg
    · cases hg) hx hy
def pCutS (d : PyData) (lo hi : Option Int) : Option PyData := match d with
  | .str a => if a.length ≤ 100000 then some (.str (cutS a lo hi)) else none
  | _ => none
def dSlS (f : DenE) (lo hi : Env → Tree (Option Int)) : DenE := fun E => (f E).bind fun x => (lo E).bind fun l => (hi E).bind fun u => liftO (pCutS x l u)
theorem se_slS {lo hi : Option Expr} {fl fu : Env → Tree (Option Int)} (hx : SE b X x fx) (hl : SOp b X lo fl) (hu : SOp b X hi fu) : SE b X (.Subscript x (.Slice lo hi none p2) pos) (dSlS fx fl fu) := .mk fun μ0 E ρ μ Φ R h => by
  have hD : DE X x ρ μ fun u μ1 => DO X lo ρ μ1 fun l μ2 => DO X hi ρ μ2 fun v μ3 => ∃ d r, u = .im d ∧ pCutS d l v = some r ∧ Φ (.im r) μ3 :=
    hx.run μ0 E ρ μ _ R ((all_bind.mp h).imp fun d q μ1 s1 => hl.run μ0 E ρ μ1 (fun l μ2 => DO X hi ρ μ2 fun v μ3 => ∃ d' r, OV.im d = .im d' ∧ pCutS d' l v = some r ∧ Φ (.im r) μ3) (R.step s1) ((all_bind.mp q).imp fun l q μ2 s2 => hu.run μ0 E ρ μ2 (fun v μ3 => ∃ d' r, OV.im d = .im d' ∧ pCutS d' l v = some r ∧ Φ (.im r) μ3) ((R.step s1).step s2) ((all_bind.mp q).imp fun u q μ3 s3 => by
      obtain ⟨r, hr, q⟩ := lift_all q
      exact ⟨d, r, rfl, hr, q μ3 ((s1.trans s2).trans s3)⟩)))
  intro G H σ m v Q f
  refine WE.of (pe_slice sl_str pwe pwo pwo) (hD G H σ m v _ fun vx x μ1 G1 H1 q1 e1 m1 r1 => q1.run m1 (v.mono e1) fun l μ2 G2 H2 q2 e2 m2 => q2.run m2 (v.mono (e1.trans e2)) fun u μ3 G3 H3 q3 e3 m3 => ?_)
  obtain ⟨d, r, rfl, hr, q⟩ := q3
  cases d with
  | str a =>
    cases r1
    simp only [pCutS] at hr
    split at hr
    · rename_i hz
      cases hr
      exact ⟨a, rfl, Nat.le_trans hz (by rw [sizeLine_eq]; decide), f _ _ _ _ _ q ((e1.trans e2).trans e3) m3 (Dv.str _)⟩
    · cases hr
  | _ => cases hr
theorem call_list_txt (hc : X.calm = true) : CallR X (.type "list") (fun xs H Q => ∃ a : Str, xs = [.str a] ∧ a.length ≤ sizeLine ∧ ∀ l, H l = none → Q (.ref l) (upd H l (.lst ((signs a).map V.str)))) := by
  intro pins s σ H xs us Q I r h
  obtain ⟨a, rfl, hz, q⟩ := h
  cases r with
  | cons r1 rs =>
    cases rs
    obtain ⟨t, rfl⟩ := r1
    refine call_list_str (I.ok.hd hc) a t (hn := hz) fun h' tk acc' c' hk hS' hacc => ?_
    have hv : Vals ((signs a).map V.str) acc'.toList := by
      have hl : acc'.toList.length = ((signs a).map V.str).length := by simp [hacc.1, signs]
      have go : ∀ (us : List Value) (vs : List V), us.length = vs.length → (∀ (j : Nat) (u : Value), us[j]? = some u → ∃ w, vs[j]? = some w ∧ RelV w u) → Vals vs us := by
        intro us
        induction us with
        | nil =>
          intro vs h _
          cases vs with
          | nil => exact .nil
          | cons _ _ => cases h
        | cons u us ih =>
          intro vs h k
          cases vs with
          | nil => cases h
          | cons w vs =>
            obtain ⟨w', e, rw'⟩ := k 0 u rfl
            cases e
            exact .cons rw' (ih vs (by simpa using h) fun j u hj => by simpa using k (j + 1) u (by simpa using hj))
      refine go _ _ hl fun j u hj => ?_
      obtain ⟨c, t', hc', rfl⟩ := hacc.2 j u (by simpa using hj)
      exact ⟨.str ⟨#[c]⟩, by simp [signs, hc'], t', rfl⟩
    have hlen : ((signs a).map V.str).length ≤ sizeLine := by
      rw [List.length_map]
      show ((a.cps.toList.map fun n => (⟨#[n]⟩ : Str))).length ≤ _
      rw [List.length_map, Array.length_toList]
      exact hz
    exact ⟨.ref s.heap.objs.size, _, I.laid (t' := tk) hk (Nat.le_refl _) (show ObjOk X.prog X.w _ h' _ (.lst ((signs a).map V.str)) from ⟨hlen, acc'.toList, c', hv, by simpa using hS'⟩), rfl, q _ (I.hok.fresh (Nat.le_refl _))⟩
def pListS : PyData → Option PyData
  | .str a => if a.length ≤ 100000 then some (.list ((signs a).map .str)) else none
  | _ => none
theorem se_listS (hc : X.calm = true) (B : Bt X.mg) (hg : Gl X "list") (hx : SE b X x fx) (he : starEach [x] X.env = (false, eval x X.env) :: starEach [] X.env := by rfl) (hpl : (backTo pos (starEach [] X.env)).any (·.1) = false := by rfl) : SE b X (.Call (.Name "list" p) [x] [] pos) (d1 pListS fx) := se_1 hx fun ρ μ Φ h =>
  de_callT (call_list_txt hc) hg B.list PyProof.Rows.boot_list (he := he) (hpl := hpl) (da_cons (hs := he) (h.imp fun o μ1 ⟨d, r, ho, hr, q⟩ => da_nil fun G H vs m rr Q f => by
    subst ho
    obtain ⟨v, rfl, r1⟩ := ro1 rr
    cases d with
    | str a =>
      simp only [pListS] at hr
      split at hr
      · rename_i hz
        cases hr
        cases r1
        refine ⟨a, rfl, Nat.le_trans hz (by rw [sizeLine_eq]; decide), fun l hl => ?_⟩
        have n := m.ex.free hl
        exact f _ _ _ _ _ q (Ex.new n) (m.lay hl) (Dv.lst upd_same (DvA.of_strs _))
      · cases hr
    | _ => cases hr))
def pNinD (d e : PyData) : Option Bool := match e with
  | .list ds => if SeqAt.shaped d = true ∧ SeqAt.shaped (.list ds) = true then some (!ds.any fun z => PyData.eqv z d) else none
  | _ => none
theorem ok_ninD {K : PySem.W.Frag} : OkCmp (rNotInD K) pNinD := fun d d' v μ Φ h q G H vx vy m rx ry Q f => by
  unfold pNinD at h
  split at h
  · rename_i ds
    split at h
    · rename_i c
      cases h
      have rx : Dv G vx d := rx
      have ry : Dv G vy (.list ds) := ry
      exact ⟨d, ds, (rx.mono m.ex).dp, (ry.mono m.ex).dp, c.1, c.2, f _ _ _ _ _ q (Ex.refl G) m (Dv.bl _)⟩
    · cases h
  · cases h
def pFmt : PyData → Option Str
  | .str a => if a.length ≤ 100000 then some a else none
  | .int i => if i.natAbs < 10 ^ 60 then some (toString i) else none
  | _ => none
abbrev DenJ := Str → Env → Tree Str
structure SJ (b : Addr) (X : Cx) (es : List Expr) (f : DenJ) : Prop where
  run : ∃ ts, PJ X es ts ∧ ∀ μ0 E ρ μ (acc : Str) (Λ : Str → Mu → Prop), Rel b μ0 E ρ μ → (f acc E).All (fun out => ∀ μ', Bs b μ μ' → Λ out μ') →
    ∀ G H σ, RM G H μ → RV G ρ σ → ∀ Q : Str → Hp → Prop, (∀ out μ' G' H', Λ out μ' → Ex G G' → RM G' H' μ' → Q out H') → tJs ts acc σ H Q
def j0 : DenJ := fun acc _ => .ret acc
def jK (s : Str) (fs : DenJ) : DenJ := fun acc E => (liftO (small (acc ++ s).length)).bind fun _ => fs (acc ++ s) E
def jF (f : DenE) (fs : DenJ) : DenJ := fun acc E => (f E).bind fun x => (liftO (pFmt x)).bind fun y => (liftO (small (acc ++ y).length)).bind fun _ => fs (acc ++ y) E
theorem sj_nil : SJ b X [] j0 := ⟨[], .nil, fun μ0 E ρ μ acc Λ R h G H σ m v Q f => f _ _ _ _ (h μ (Bs.refl b μ)) (Ex.refl G) m⟩
theorem sz5 {n : Nat} (h : n ≤ 100000) : n ≤ sizeLine := Nat.le_trans h (by rw [sizeLine_eq]; decide)
theorem sj_k {s : Str} {j : Nat} {fs : DenJ} (ht : SJ b X es fs) : SJ b X (.Constant (.str s) j p :: es) (jK s fs) := by
  obtain ⟨ts, hp, hr⟩ := ht.run
  refine ⟨_, .cons pe_str hp, fun μ0 E ρ μ acc Λ R h G H σ m v Q f => ?_⟩
  obtain ⟨hz, h⟩ := small_le (all_bind.mp h)
  exact ⟨s, rfl, sz5 hz, hr μ0 E ρ μ (acc ++ s) Λ R h G H σ m v Q f⟩
theorem sj_f {fs : DenJ} (hx : SE b X x fx) (ht : SJ b X es fs) : SJ b X (.FormattedValue x (-1) none p :: es) (jF fx fs) := by
  obtain ⟨ts, hp, hr⟩ := ht.run
  refine ⟨_, .cons (pe_fmt pwe) hp, fun μ0 E ρ μ acc Λ R h G H σ m v Q f => ?_⟩
  refine hx.run μ0 E ρ μ (fun u μ1 => ∃ d, u = .im d ∧ Bs b μ μ1 ∧ (liftO (pFmt d)).All fun y => ((liftO (small (acc ++ y).length)).bind fun _ => fs (acc ++ y) E).All fun out => ∀ μ', Bs b μ μ' → Λ out μ') R ((all_bind.mp h).imp fun d q μ1 s1 => ⟨d, rfl, s1, all_bind.mp q⟩) G H σ m v _ fun vx u μ1 G1 H1 q1 e1 m1 r1 => ?_
  obtain ⟨d, rfl, s1, q1⟩ := q1
  obtain ⟨y, hy, q1⟩ := lift_all q1
  obtain ⟨hz, q1⟩ := small_le (all_bind.mp q1)
  have fin : tJs ts (acc ++ y) σ H1 Q := hr μ0 E ρ μ1 (acc ++ y) Λ (R.step s1) (q1.imp fun out q μ' s => q μ' (s1.trans s)) G1 H1 σ m1 (v.mono e1) Q fun out μ' G' H' q e' m' => f out μ' G' H' q (e1.trans e') m'
  cases d with
  | str a =>
    simp only [pFmt] at hy
    split at hy
    · rename_i ha
      cases hy
      cases r1
      exact .inl ⟨y, rfl, sz5 ha, y, rfl, sz5 hz, fin⟩
    · cases hy
  | int i =>
    simp only [pFmt] at hy
    split at hy
    · rename_i ha
      cases hy
      cases r1
      exact .inr ⟨i, rfl, by
        by_cases h0 : i.natAbs = 0
        · rw [h0]; decide
        · exact (Nat.log2_lt h0).mpr (Nat.lt_of_lt_of_le ha (by decide +kernel)), _, rfl, sz5 hz, fin⟩
    · cases hy
  | _ => cases hy
def dFs (f : DenJ) : DenE := fun E => (f Str.empty E).bind fun out => .ret (.str out)
theorem se_fstr {v1 v2 : Expr} {rest : List Expr} {fs : DenJ} (h : SJ b X (v1 :: v2 :: rest) fs) : SE b X (.JoinedStr (v1 :: v2 :: rest) pos) (dFs fs) := .mk fun μ0 E ρ μ Φ R q G H σ m v Q f => by
  obtain ⟨ts, hp, hr⟩ := h.run
  exact WE.of (pe_joined hp) (hr μ0 E ρ μ Str.empty (fun out μ' => Φ (.im (.str out)) μ') R (all_bind.mp q) G H σ m v _ fun out μ' G' H' q e' m' => f _ _ _ _ _ q e' m' (Dv.str _))
def pLenS : PyData → Option PyData
  | .str a => if a.length ≤ 100000 then some (.int (a.length : Nat)) else none
  | _ => none
theorem se_lenS (B : Bt X.mg) (hg : Gl X "len") (hx : SE b X x fx) (he : starEach [x] X.env = (false, eval x X.env) :: starEach [] X.env := by rfl) (hpl : (backTo pos (starEach [] X.env)).any (·.1) = false := by rfl) : SE b X (.Call (.Name "len" p) [x] [] pos) (d1 pLenS fx) := se_1 hx fun ρ μ Φ h =>
  de_callB call_len_str hg B.len PySem.boot_len (he := he) (hpl := hpl) (da_cons (hs := he) (h.imp fun o μ1 ⟨d, r, ho, hr, q⟩ => da_nil fun G H vs m rr Q f => by
    subst ho
    obtain ⟨v, rfl, r1⟩ := ro1 rr
    cases d with
    | str a =>
      simp only [pLenS] at hr
      split at hr
      · rename_i hz
        cases hr
        cases r1
        exact ⟨a, rfl, sz5 hz, f _ _ _ _ _ q (Ex.refl G) m (Dv.int _)⟩
      · cases hr
    | _ => cases hr))
theorem se_gl {n : Str} {i : Int} (hg : Gl X n) (hm : ∃ t, X.mg n = some (.int i t)) (hd : (n == ("__debug__" : Str)) = false := by decide) : SE b X (.Name n p) (dC (.int i)) := .mk fun μ0 E ρ μ Φ R h G H σ m v Q f => by
  obtain ⟨t, hm⟩ := hm
  exact WE.of (pe_glob (v := .int i) hg hm ⟨t, rfl⟩ hd) (f _ _ _ _ _ (h μ (Bs.refl b μ)) (Ex.refl G) m (Dv.int i))
end
end Nx
set_option maxHeartbeats 8000000
namespace PySem.W
open PySem PySem.Spec PySem.Calls PyProof.Rows
section
variable {M : Model} {K : Frag}
theorem exm_tupN3 {c1 c2 c3 cls : Value} {tp e : Addr} {b : Bool} {h : Heap} {o : Obj} {m : Nat} (X : K.In h) (LT : Looks M h (typeOf (.ref e)) cls) (hp : h.get? tp = some o) (hoc : o.cls = .type "tuple") (hod : o.data = .seq [c1, c2, c3].toArray m) (hx : exmAny K cls [c1, c2, c3] = some b) :
    Looks M h (excMatches (.ref e) (.ref tp)) b := by
  obtain ⟨cls0, dd, dt, sl⟩ := o
  simp only at hoc hod
  subst hoc hod
  intro A Q E s k₀ q
  obtain ⟨hh, g, d, tk, os⟩ := s
  have k : ∀ b o, h.get? b = some o → hh.get? b = some o := k₀
  have LT0 : Looks M h (isInstance (.ref tp) (.type "tuple")) true := ((Looks.ld hp).andThen .now).andThen (Looks.of_pure isSubtype_tuple_tuple)
  obtain ⟨b1, d1, x1, y1, z1⟩ := exmAny_cons hx
  obtain ⟨e1, S1⟩ := exm_cls (M := M) X x1
  have e1 := e1.keeps k
  have S1 := S1.keeps k
  obtain ⟨b2, d2, x2, y2, z2⟩ := exmAny_cons y1
  obtain ⟨e2, S2⟩ := exm_cls (M := M) X x2
  have e2 := e2.keeps k
  have S2 := S2.keeps k
  obtain ⟨b3, d3, x3, y3, z3⟩ := exmAny_cons y2
  obtain ⟨e3, S3⟩ := exm_cls (M := M) X x3
  have e3 := e3.keeps k
  have S3 := S3.keeps k
  have w3 : some false = some d3 := y3
  cases w3
  have LT := LT.keeps k
  have LT0 := LT0.keeps k
  have hp2 := k _ _ hp
  subst z1 z2 z3
  unfold excMatches
  refine wpAny_bind (LT0.at ?_)
  dsimp only
  rw [if_pos rfl]
  first
    | refine wpAny_bind (wpAny_seqItems hp2 rfl ?_)
    | refine wpAny_bind (wpAny_bind (wpAny_seqItems hp2 rfl (wpAny_pure ?_)))
  dsimp only [Option.getD_some, Option.getD]
  cases b1 <;> cases b2 <;> cases b3 <;> ((repeat (first | simp only [List.forIn_cons, List.forIn_nil, Bool.not_true, Bool.false_eq_true, if_false, if_true] | lk)); exact q)
end
end PySem.W
namespace Nx
open PySem PySem.Spec PyProof.Rows L2
open Tree
structure Tbl (n : Nat) (ns : List Int) : Prop where
  asc : ns.Pairwise (· < ·)
  mem : ∀ x ∈ ns, 0 ≤ x ∧ x < n
theorem srt_len (ns : List Int) : (srt ns).length = ns.length := (srt_perm ns).length_eq
theorem srt_mem {ns : List Int} {x : Int} : x ∈ srt ns ↔ x ∈ ns := (srt_perm ns).mem_iff
theorem pw_lt : ∀ {l : List Int}, l.Pairwise (· ≤ ·) → l.Nodup → l.Pairwise (· < ·)
  | [], _, _ => .nil
  | a :: l, h, d => by
    obtain ⟨h1, h2⟩ := List.pairwise_cons.mp h
    obtain ⟨d1, d2⟩ := List.nodup_cons.mp d
    refine List.pairwise_cons.mpr ⟨fun x hx => ?_, pw_lt h2 d2⟩
    have := h1 x hx
    have : a ≠ x := fun e => d1 (e ▸ hx)
    omega
theorem tbl_srt {n : Nat} {ms : List Int} (d : ms.Nodup) (h : ∀ x ∈ ms, 0 ≤ x ∧ x < n) : Tbl n (srt ms) :=
  ⟨pw_lt (srt_pw ms) ((srt_perm ms).nodup_iff.mpr d), fun x hx => h x (srt_mem.mp hx)⟩
theorem Tbl.srt {n : Nat} {ns : List Int} (h : Tbl n ns) : srt ns = ns := (srt_eq (List.Perm.refl ns) (h.asc.imp fun {a b} h => by omega)).symm
theorem nums_eq (n : Nat) : nums n = iL ((List.range n).map fun (k : Nat) => (k : Int)) := by
  unfold nums iL
  rw [List.map_map]
  rfl
theorem perm_ints : ∀ {es : List PyData} {ns : List Int}, es.Perm (iL ns) → ∃ ms : List Int, es = iL ms ∧ ms.Perm ns := by
  intro es ns h
  have hall : ∀ d ∈ es, ∃ i : Int, d = .int i := fun d hd => by
    obtain ⟨i, _, e⟩ := List.mem_map.mp (h.mem_iff.mp hd)
    exact ⟨i, e.symm⟩
  have hex : ∀ es : List PyData, (∀ d ∈ es, ∃ i : Int, d = .int i) → ∃ ms : List Int, es = iL ms := by
    intro es
    induction es with
    | nil => exact fun _ => ⟨[], rfl⟩
    | cons d es ih =>
      intro h
      obtain ⟨i, rfl⟩ := h d (List.mem_cons_self ..)
      obtain ⟨ms, rfl⟩ := ih fun d hd => h d (List.mem_cons_of_mem _ hd)
      exact ⟨i :: ms, rfl⟩
  obtain ⟨ms, rfl⟩ := hex es hall
  refine ⟨ms, rfl, ?_⟩
  have := h.map (fun d => match d with | PyData.int i => i | _ => 0)
  simpa [iL, List.map_map, Function.comp_def] using this
def dst (n c s : Int) : Int := (s - c) % n
structure Near (n c : Int) (ss : List Int) (k : Nat) (s : Int) : Prop where
  at_ : ss[k]? = some s
  le : ∀ (j : Nat) s', ss[j]? = some s' → dst n c s ≤ dst n c s'
  lt : ∀ (j : Nat) s', j < k → ss[j]? = some s' → dst n c s < dst n c s'
def optI : Option Nat → PyData
  | none => .none
  | some k => .int (k : Int)
def cell (M : List (List Int)) (c : Int) (j : Nat) : Int := (M.getD c.toNat []).getD j 0
theorem dst_mod {n c s : Int} : dst n c (s % n) = dst n c s := by
  unfold dst
  rw [Int.sub_emod, Int.emod_emod_of_dvd _ (Int.dvd_refl n), ← Int.sub_emod]
theorem Near.mod {n c : Int} {us : List Int} {k : Nat} {s : Int} (h : Near n c us k s) : Near n c (us.map (· % n)) k (s % n) := by
  refine ⟨?_, fun j s' hj => ?_, fun j s' hjk hj => ?_⟩
  · rw [List.getElem?_map, h.at_]
    rfl
  · rw [List.getElem?_map] at hj
    obtain ⟨u, hu, rfl⟩ := Option.map_eq_some_iff.mp hj
    rw [dst_mod, dst_mod]
    exact h.le j u hu
  · rw [List.getElem?_map] at hj
    obtain ⟨u, hu, rfl⟩ := Option.map_eq_some_iff.mp hj
    rw [dst_mod, dst_mod]
    exact h.lt j u hjk hu
structure Sqn (n k : Int) (x : Int → Int) : Prop where
  up : ∀ i, x (i - 1) < x i
  per : ∀ i, x (i + k) = x i + n
def cal (n c y : Int) : Int := y - (y - c) % n
def fCall (n c : Int) (x : Int → Int) : Int → Int := fun i => if x (i - 1) < cal n c (x i) then cal n c (x i) else x i
theorem cal_le {n c y : Int} (n0 : 0 < n) : cal n c y ≤ y ∧ y - n < cal n c y := by
  have h1 := Int.emod_nonneg (y - c) (show n ≠ 0 by omega)
  have h2 := Int.emod_lt_of_pos (y - c) n0
  unfold cal
  omega
theorem cal_add {n c y : Int} : cal n c (y + n) = cal n c y + n := by
  unfold cal
  rw [show y + n - c = (y - c) + n by omega, Int.add_emod_right]
  omega
theorem f_le {n c : Int} {x : Int → Int} (n0 : 0 < n) (i : Int) : fCall n c x i ≤ x i := by
  have := cal_le (n := n) (c := c) (y := x i) n0
  unfold fCall
  split <;> omega
theorem f_gt {n c : Int} {x : Int → Int} (h : ∀ i, x (i - 1) < x i) (i : Int) : x (i - 1) < fCall n c x i := by
  have := h i
  unfold fCall
  split <;> omega
theorem Sqn.call {n k : Int} {x : Int → Int} (h : Sqn n k x) (n0 : 0 < n) (c : Int) : Sqn n k (fCall n c x) := by
  refine ⟨fun i => ?_, fun i => ?_⟩
  · have h1 := f_le (c := c) (x := x) n0 (i - 1)
    have h2 := f_gt (n := n) (c := c) h.up i
    omega
  · unfold fCall
    rw [h.per i, cal_add, show i + k - 1 = (i - 1) + k by omega, h.per (i - 1)]
    by_cases hc : x (i - 1) < cal n c (x i)
    · rw [if_pos hc, if_pos (by omega)]
    · rw [if_neg hc, if_neg (by omega)]
theorem Sqn.lt {n k : Int} {x : Int → Int} (h : Sqn n k x) (i : Int) : ∀ d : Nat, 0 < d → x i < x (i + (d : Int))
  | 0, h0 => absurd h0 (Nat.lt_irrefl _)
  | 1, _ => by
    have := h.up (i + 1)
    rw [show i + 1 - 1 = i by omega] at this
    exact this
  | d + 2, _ => by
    have h1 := h.lt i (d + 1) (by omega)
    have h2 := h.up (i + ((d + 2 : Nat) : Int))
    rw [show i + ((d + 2 : Nat) : Int) - 1 = i + ((d + 1 : Nat) : Int) by omega] at h2
    omega
theorem Sqn.ltI {n k : Int} {x : Int → Int} (h : Sqn n k x) {i j : Int} (hij : i < j) : x i < x j := by
  have := h.lt i (j - i).toNat (by omega)
  rw [show i + ((j - i).toNat : Int) = j by omega] at this
  exact this
def minS (x y : Int → Int) : Int → Int := fun i => min (x i) (y i)
theorem Sqn.min {n k : Int} {x y : Int → Int} (h : Sqn n k x) (g : Sqn n k y) : Sqn n k (minS x y) := by
  refine ⟨fun i => ?_, fun i => ?_⟩
  · have h1 := h.up i
    have h2 := g.up i
    unfold minS
    omega
  · unfold minS
    rw [h.per, g.per]
    omega
theorem Sqn.pm {n k : Int} {x : Int → Int} (h : Sqn n k x) (i : Int) : ∀ m : Int, x (i + k * m) = x i + n * m := by
  have hn : ∀ (m : Nat) (i : Int), x (i + k * (m : Int)) = x i + n * (m : Int) := by
    intro m
    induction m with
    | zero => intro i; simp
    | succ m ih =>
      intro i
      have e1 : i + k * ((m + 1 : Nat) : Int) = (i + k * (m : Int)) + k := by
        rw [show ((m + 1 : Nat) : Int) = (m : Int) + 1 by omega, Int.mul_add]
        omega
      have e2 : n * ((m + 1 : Nat) : Int) = n * (m : Int) + n := by
        rw [show ((m + 1 : Nat) : Int) = (m : Int) + 1 by omega, Int.mul_add]
        omega
      rw [e1, h.per, ih, e2]
      omega
  intro m
  rcases Int.le_total 0 m with hm | hm
  · obtain ⟨j, rfl⟩ : ∃ j : Nat, m = (j : Int) := ⟨m.toNat, by omega⟩
    exact hn j i
  · obtain ⟨j, rfl⟩ : ∃ j : Nat, m = -(j : Int) := ⟨(-m).toNat, by omega⟩
    have := hn j (i + k * -(j : Int))
    rw [show i + k * -(j : Int) + k * (j : Int) = i by rw [Int.mul_neg]; omega] at this
    rw [Int.mul_neg n]
    omega
def pk (n k : Int) (c : Int) : Int → Int := fun i => c + ((i + k - 1) % k - (k - 1)) + n * ((i + k - 1) / k)
def pkAt (n k : Int) (x : Int → Int) (t : Int) : Int → Int := fun i => pk n k (x t) (i + -t) + n * 0
def lst (n k : Int) (x : Int → Int) (i : Int) : Nat → Int → Int
  | 0 => pkAt n k x i
  | m + 1 => minS (lst n k x i m) (pkAt n k x (i + ((m + 1 : Nat) : Int)))
theorem Sqn.inj {n k : Int} {x : Int → Int} (h : Sqn n k x) {i j : Int} (e : x i = x j) : i = j := by
  rcases Int.lt_trichotomy i j with hl | he | hg
  · have := h.ltI hl
    omega
  · exact he
  · have := h.ltI hg
    omega
theorem first_up {P : Int → Prop} (lo : Int) : ∀ d : Nat, ¬ P lo → P (lo + (d : Int)) → ∃ a, ¬ P (a - 1) ∧ P a
  | 0, h0, h1 => absurd (by rw [show lo + ((0 : Nat) : Int) = lo by omega] at h1; exact h1) h0
  | d + 1, h0, h1 => by
    by_cases h : P (lo + (d : Int))
    · exact first_up lo d h0 h
    · exact ⟨lo + ((d + 1 : Nat) : Int), by rw [show lo + ((d + 1 : Nat) : Int) - 1 = lo + (d : Int) by omega]; exact h, h1⟩
theorem Sqn.le {n k : Int} {x : Int → Int} (h : Sqn n k x) {i j : Int} (hij : i ≤ j) : x i ≤ x j := by
  rcases Int.lt_or_eq_of_le hij with h' | rfl
  · exact Int.le_of_lt (h.ltI h')
  · exact Int.le_refl _
theorem Sqn.zero {n : Nat} {k : Int} {x : Int → Int} (h : Sqn n k x) (n0 : 0 < n) (k0 : 1 ≤ k) : ∃ a, x (a - 1) < 0 ∧ 0 ≤ x a := by
  have e1 := h.pm 0 ((x 0).natAbs : Int)
  have e2 := h.pm 0 (-((x 0).natAbs + 1 : Int))
  have b1 : (1 : Int) * ((x 0).natAbs : Int) ≤ (n : Int) * ((x 0).natAbs : Int) := Int.mul_le_mul_of_nonneg_right (by omega) (by omega)
  have b2 : (1 : Int) * ((x 0).natAbs + 1 : Int) ≤ (n : Int) * ((x 0).natAbs + 1 : Int) := Int.mul_le_mul_of_nonneg_right (by omega) (by omega)
  rw [Int.mul_neg, Int.mul_neg] at e2
  have hlo : ¬ (0 ≤ x (0 + -(k * ((x 0).natAbs + 1 : Int)))) := by omega
  have hhi : 0 ≤ x (0 + k * ((x 0).natAbs : Int)) := by omega
  have hk : 0 ≤ k * ((x 0).natAbs : Int) := Int.mul_nonneg (by omega) (by omega)
  have hk2 : 0 ≤ k * ((x 0).natAbs + 1 : Int) := Int.mul_nonneg (by omega) (by omega)
  obtain ⟨a, ha, hb⟩ := first_up (P := fun i => 0 ≤ x i) (0 + -(k * ((x 0).natAbs + 1 : Int))) (k * ((x 0).natAbs : Int) + k * ((x 0).natAbs + 1 : Int)).toNat hlo (by
    rw [Int.toNat_of_nonneg (by omega), show (0 : Int) + -(k * ((x 0).natAbs + 1 : Int)) + (k * ((x 0).natAbs : Int) + k * ((x 0).natAbs + 1 : Int)) = 0 + k * ((x 0).natAbs : Int) by omega]
    exact hhi)
  exact ⟨a, by omega, hb⟩
def b_is_chair : DenS := (sC (sIf (tOr (tNot (tTr (d1 (pIsi "int") (dV 1)))) (tTr (d1 (pIsi "bool") (dV 1)))) (sRet (dC (.bool false))) s0) (sRet (dCh (fun i j => decide (i ≤ j)) (fun i j => decide (i < j)) (dC (.int 0)) (dV 1) (dV 0))))
def m_is_chair : List W → Tree PyData := fnF 2 2 (b_is_chair)
def b_all_chairs : DenS := (sRet (d1 pAll (dLc (.nm 2) [2] (iS (dV 1)) (dCall m_is_chair (aC (aV 0) (aC (aV 2) a0))))))
def m_all_chairs : List W → Tree PyData := fnF 2 3 (b_all_chairs)
def b_is_table : DenS := (sC (sIf (tOr (tNot (tTr (d1 (pIsi "tuple") (dV 1)))) (tNot (tTr (dCall m_all_chairs (aC (aV 0) (aC (aV 1) a0)))))) (sRet (dC (.bool false))) s0) (sC (sSet 2 (d1 pAll (dLc (.tp [3, 4]) [3, 4] (wZ2 (dV 1) (dSl (dV 1) (oS (dC (.int 1))) oN)) (d2 (bD cLt) (dV 3) (dV 4))))) (sRet (dAnd (dV 2) (dCh (fun i j => decide (i ≤ j)) (fun i j => decide (i < j)) (dC (.int 1)) (d1 pLen (dV 1)) (dV 0))))))
def m_is_table : List W → Tree PyData := fnF 2 5 (b_is_table)
def b_spaced : DenS := (sRet (dTx pJoin (dC (.str " ")) (dLc (.nm 1) [1] (iS (dV 0)) (d1 pStr (dV 1)))))
def m_spaced : List W → Tree PyData := fnF 1 2 (b_spaced)
def b_number_written : DenS := (sC (sFor (.nm 3) (iR2 (dV 1) (d2 pAdd (dV 2) (dC (.int 1)))) (sIf (t2 pEq (d1 pStr (dV 3)) (dV 0)) (sRet (dV 3)) s0)) (sRet (dC .none)))
def m_number_written : List W → Tree PyData := fnF 3 4 (b_number_written)
def b_chair_written : DenS := (sRet (dCall m_number_written (aC (aV 1) (aC (aE (dC (.int 0))) (aC (aE (d2 pSub (dV 0) (dC (.int 1)))) a0)))))
def m_chair_written : List W → Tree PyData := fnF 2 2 (b_chair_written)
def b_table_line : DenS := (sRet (dFs (jF (dV 0) (jK ": " (jF (dCall m_spaced (aC (aV 1) a0)) j0)))))
def m_table_line : List W → Tree PyData := fnF 2 2 (b_table_line)
def b_table_from : DenS := (sC (sAsg (.tp [3, 4, 5]) (dTx pPart (dV 0) (dC (.str ": ")))) (sC (sSet 1 (dCall m_number_written (aC (aV 3) (aC (aE (dC (.int 2))) (aC (aE (dC (.int 10))) a0))))) (sC (sIf (t1 qIsN (dV 1)) sNo s0) (sC (sSet 2 (d1 pTup (dLc (.nm 6) [6] (iS (dTx pSplit (dV 5) (dC (.str " ")))) (dCall m_chair_written (aC (aV 1) (aC (aV 6) a0)))))) (sC (sIf (tNot (tTr (dCall m_is_table (aC (aV 1) (aC (aV 2) a0))))) sNo s0) (sRet (dT (lC (dV 1) (lC (dV 2) l0)))))))))
def m_table_from : List W → Tree PyData := fnF 1 7 (b_table_from)
def b_law_of : DenS := (sRet (d2 pIx (dV 1) (dCall takeF (aC (aV 0) (aC (aE (d1 pLen (dV 1))) a0)))))
def m_law_of : List W → Tree PyData := fnF 2 2 (b_law_of)
def b_law_same : DenS := (sRet (dSame (dV 0) (dV 1)))
def m_law_same : List W → Tree PyData := fnF 2 2 (b_law_same)
def b_law_span : DenS := (sRet (d2 pAdd (dC (.int 2)) (dCall takeF (aC (aV 0) (aC (aE (d2 pSub (dV 1) (dC (.int 1)))) a0)))))
def m_law_span : List W → Tree PyData := fnF 2 2 (b_law_span)
def b_law_crowd : DenS := (sC (sIf (t2 pEq (dCall takeF (aC (aV 0) (aC (aE (dC (.int 4))) a0))) (dC (.int 0))) (sC (sSet 3 (dCall takeF (aC (aV 0) (aC (aV 1) a0)))) (sRet (d1 pTup (d1 pSrt (dLc (.nm 4) [4] (iR1 (dV 2)) (d2 pMod (d2 pAdd (dV 3) (dV 4)) (dV 1))))))) s0) (sRet (d1 pTup (d1 pSrt (dSl (dCall strewnF (aC (aV 0) (aC (aE (d1 (fun d => lrg .list (rg1 d)) (dV 1))) a0))) oN (oS (dV 2)))))))
def m_law_crowd : List W → Tree PyData := fnF 3 5 (b_law_crowd)
def b_law_climbs : DenS := (sRet (d1 pAll (dLc (.tp [1, 2]) [1, 2] (wZ2 (dV 0) (dSl (dV 0) (oS (dC (.int 1))) oN)) (d2 (bD cLt) (dV 1) (dV 2)))))
def m_law_climbs : List W → Tree PyData := fnF 1 3 (b_law_climbs)
def b_law_scene : DenS := (sC (sSet 2 (dCall m_law_span (aC (aV 0) (aC (aV 1) a0)))) (sC (sSet 3 (d2 pAdd (dC (.int 1)) (dCall takeF (aC (aV 0) (aC (aE (d2 pSub (dV 2) (dC (.int 1)))) a0))))) (sRet (dT (lC (dV 2) (lC (dV 3) (lC (dCall m_law_crowd (aC (aV 0) (aC (aV 2) (aC (aV 3) a0)))) l0)))))))
def m_law_scene : List W → Tree PyData := fnF 2 4 (b_law_scene)
def z_table_from (C : Addr) : DenZ := zNext (sAsg (.tp [3, 4, 5]) (dTx pPart (dV 0) (dC (.str ": ")))) (zNext (sSet 1 (dCall m_number_written (aC (aV 3) (aC (aE (dC (.int 2))) (aC (aE (dC (.int 10))) a0))))) (zIf (t1 qIsN (dV 1)) (zRaise C "line" (dV 0)) (zNext (sSet 2 (d1 pTup (dLc (.nm 6) [6] (iS (dTx pSplit (dV 5) (dC (.str " ")))) (dCall m_chair_written (aC (aV 1) (aC (aV 6) a0)))))) (zIf (tNot (tTr (dCall m_is_table (aC (aV 1) (aC (aV 2) a0))))) (zRaise C "line" (dV 0)) zNo))))
def x_table_from (C : Addr) : List W → Tree Thr := fnZ 1 7 (z_table_from C)
abbrev tgs : Env → Tree (List W) := aC (aV 0) a0
def qT1 (bl : Addr) (k : Bool) : Addr → Option Bool := fun C => if C = bl then some k else none
def tRst (bl : Addr) : DenS := sC (sIf (tIsNx 2) (sRet (dV 1)) s0) (sC (sSet 3 (dAnd (dIsX 2 (qT1 bl true)) (dIsX 2 (qT1 bl true)))) (sRet (dIf (tAnd (tTr (dV 3)) (tNot (tTr (dIsX 2 (qT1 bl false))))) (dL (lC (dFldX 2 "line" [bl]) l0)) (dC .none))))
def tBd (bl : Addr) : DenS := sC (sAsg (.tp [1, 2]) (dT (lC (dC .none) (lC (dC .none) l0)))) (sC (sTry 4 2 (zCall (x_table_from bl) tgs) (sSet 1 (dCall m_table_from tgs))) (tRst bl))
def m_law_told : List W → Tree PyData := fun ws => match ws with
  | [.d w] => (match x_table_from 0 [.d w] with | .ret t => .ret (.list [t.d]) | _ => m_table_from [.d w])
  | _ => .fail
def b_law_due : DenS := (sC (sSet 1 (dTx pSplit (dV 0) (dC (.str " ")))) (sC (sIf (t2 pNinD (d2 pIx (dV 1) (dC (.int 0))) (dLc (.nm 2) [2] (iR2 (dC (.int 2)) (dC (.int 11))) (d2 pAdd (d1 pStr (dV 2)) (dC (.str ":"))))) (sRet (dL (lC (dV 0) l0))) s0) (sC (sSet 2 (d1 pIntS (dSlS (d2 pIx (dV 1) (dC (.int 0))) oN (oS (d1 pNeg (dC (.int 1))))))) (sC (sIf (tNot (tTr (d1 pAll (dLc (.nm 4) [4] (iS (dSl (dV 1) (oS (dC (.int 1))) oN)) (d2 (bD pInD) (dV 4) (dLc (.nm 5) [5] (iR1 (dV 2)) (d1 pStr (dV 5)))))))) (sRet (dL (lC (dV 0) l0))) s0) (sC (sSet 3 (d1 pTup (dLc (.nm 4) [4] (iS (dSl (dV 1) (oS (dC (.int 1))) oN)) (d1 pIntS (dV 4))))) (sRet (dIf (tAnd (tCh (fun i j => decide (i < j)) (fun i j => decide (i < j)) (dC (.int 0)) (d1 pLen (dV 3)) (dV 2)) (tTr (dCall m_law_climbs (aC (aV 3) a0)))) (dT (lC (dV 2) (lC (dV 3) l0))) (dL (lC (dV 0) l0)))))))))
def m_law_due : List W → Tree PyData := fnF 1 6 (b_law_due)
def b_law_spoilt : DenS := (sC (sPar [3, 4] (lC (dCall takeF (aC (aV 0) (aC (aE (d2 pAdd (d1 pLenS (dV 1)) (dC (.int 1)))) a0))) (lC (dCall takeF (aC (aV 0) (aC (aE (dC (.int 4))) a0))) l0))) (sC (sSet 2 (dCall m_law_of (aC (aV 0) (aC (aE (d2 pAdd (d1 pListS (dC (.str "0123459 :-a"))) (dL (lC (dC (.str "\n")) (lC (dC (.str "  ")) (lC (dC (.str " 0")) l0)))))) a0)))) (sC (sIf (t2 pEq (dV 4) (dC (.int 0))) (sRet (d2 pAdd (dSlS (dV 1) oN (oS (dV 3))) (dSlS (dV 1) (oS (d2 pAdd (dV 3) (dC (.int 1)))) oN))) s0) (sRet (d2 pAdd (d2 pAdd (dSlS (dV 1) oN (oS (dV 3))) (dV 2)) (dSlS (dV 1) (oS (d2 pAdd (dV 3) (d1 pInt (d2 (bD pEq) (dV 4) (dC (.int 1)))))) oN))))))
def m_law_spoilt : List W → Tree PyData := fnF 2 5 (b_law_spoilt)
def b_law_right : DenS := (sC (sAsg (.tp [5, 6, 7]) (dCall m_law_scene (aC (aV 0) (aC (aE (dC (.int 10))) a0)))) (sC (sSet 1 (d2 pAdd (d2 pAdd (d1 pStr (dV 5)) (dC (.str ": "))) (dTx pJoin (dC (.str " ")) (dLc (.nm 10) [10] (iS (dV 7)) (d1 pStr (dV 10)))))) (sC (sSet 2 (d1 pList (dV 7))) (sC (sIf (tNot (tTr (dCall m_law_same (aC (aE (dL (lC (dCall m_table_line (aC (aV 5) (aC (aV 7) a0))) (lC (dCallK 2 [1, 0] m_table_line (aC (aV 2) (aC (aV 5) a0))) l0)))) (aC (aE (d2 pMul (dL (lC (dV 1) l0)) (dC (.int 2)))) a0))))) (sRet (dC (.bool false))) s0) (sC (sIf (tOr (tNot (tTr (dCall m_law_same (aC (aE (dCallK 1 [0] m_table_from (aC (aV 1) a0))) (aC (aE (dT (lC (dV 5) (lC (dV 7) l0)))) a0))))) (t2 pNe (dV 2) (d1 pList (dV 7)))) (sRet (dC (.bool false))) s0) (sC (sOwn 3 (dL (lC (dC (.str "")) (lC (dC (.str " ")) (lC (dC (.str ":")) (lC (dC (.str "5:")) (lC (dC (.str "5: ")) (lC (dC (.str "5 : 0")) (lC (dC (.str "5:0")) (lC (dC (.str "5:  0")) (lC (dC (.str "5: 0")) (lC (dC (.str "5: 4")) (lC (dC (.str "5: 5")) (lC (dC (.str "5: 0 0")) (lC (dC (.str "5: 1 0")) (lC (dC (.str "5: 0 1")) l0)))))))))))))))) (sFrz 3 (sC (sOwn 3 (d2 pCat (dV 3) (dL (lC (dC (.str "5: 0 1 2 3")) (lC (dC (.str "5: 0 1 2 3 4")) (lC (dC (.str "2: 0")) (lC (dC (.str "2: 1")) (lC (dC (.str "2: 0 1")) (lC (dC (.str "1: 0")) (lC (dC (.str "0: 0")) (lC (dC (.str "10: 9")) (lC (dC (.str "10: 0 9")) (lC (dC (.str "11: 0")) l0))))))))))))) (sFrz 3 (sC (sOwn 3 (d2 pCat (dV 3) (dL (lC (dC (.str "10: 10")) (lC (dC (.str "05: 0")) (lC (dC (.str "5: 00")) (lC (dC (.str "5: 01")) (lC (dC (.str "+5: 0")) (lC (dC (.str "5: -1")) (lC (dC (.str "5: a")) (lC (dC (.str "a: 0")) (lC (dC (.str "5: 0 ")) (lC (dC (.str " 5: 0")) (lC (dC (.str "5: 0\n")) l0)))))))))))))) (sFrz 3 (sC (sOwn 3 (d2 pCat (dV 3) (dL (lC (dC (.str "5: 0\n1")) (lC (dC (.str "5; 0")) (lC (dC (.str "5:: 0")) (lC (dC (.str "10: 0 1 2 3 4 5 6 7 8")) (lC (dC (.str "10: 0 1 2 3 4 5 6 7 8 9")) (lC (dC (.str "5: 0, 1")) (lC (dC (.str "5: 1.0")) l0)))))))))) (sC (sFor (.nm 4) (iR1 (dC (.int 12))) (sC (sSet 8 (dCall m_law_spoilt (aC (aV 0) (aC (aV 1) a0)))) (sApp 3 (dIf (t2 pEq (dCall takeF (aC (aV 0) (aC (aE (dC (.int 3))) a0))) (dC (.int 0))) (dCall m_law_spoilt (aC (aV 0) (aC (aV 8) a0))) (dV 8))))) (sFrz 3 (sRet (d1 pAll (dLc (.nm 9) [9] (iS (dV 3)) (dCall m_law_same (aC (aE (dCall m_law_told (aC (aV 9) a0))) (aC (aE (dCall m_law_due (aC (aV 9) a0))) a0))))))))))))))))))))
def m_law_right : List W → Tree PyData := fnF 1 11 (b_law_right)
theorem it_l (xs : List PyData) : items (.list xs) = some xs := rfl
theorem it_t (xs : List PyData) : items (.tuple xs) = some xs := rfl
theorem prs_iL (as bs : List Int) : prs (iL as) (iL bs) = (as.zip bs).map fun q => .tuple [.int q.1, .int q.2] := by
  unfold prs iL
  rw [List.zip_map, List.map_map]
  rfl
def cnt (n : Nat) : List Int := (List.range n).map fun (k : Nat) => (k : Int)
theorem nums_cnt (n : Nat) : nums n = iL (cnt n) := nums_eq n
theorem iL_len (ns : List Int) : (iL ns).length = ns.length := List.length_map ..
theorem cnt_len (n : Nat) : (cnt n).length = n := by simp [cnt]
theorem pEq_ii (i j : Int) : pEq (.int i) (.int j) = some (decide (i = j)) := rfl
theorem ret_bind {α β : Type} (a : α) (f : α → Tree β) : (Tree.ret a).bind f = f a := rfl
theorem lift_some {α : Type} (a : α) : liftO (some a) = .ret a := rfl
theorem map_ii {α : Type} (f : α → Int) (xs : List α) : xs.map (fun x => PyData.int (f x)) = iL (xs.map f) := by
  unfold iL
  rw [List.map_map]
  rfl
theorem mapT_I {f : PyData → Tree PyData} {g : Int → Int} {ns : List Int} (h : ∀ x ∈ ns, f (.int x) = .ret (.int (g x))) : mapT f (iL ns) = .ret (iL (ns.map g)) := by
  rw [← map_ii]
  exact (mapT_map f PyData.int ns).trans (mapT_ret (g := fun x => PyData.int (g x)) h)
theorem cutD_1 (xs : List PyData) : cutD xs (some 1) none = xs.drop 1 := cutD_from xs 1
theorem atI_nat {α : Type} {xs : List α} {k : Nat} {x : α} (h : xs[k]? = some x) : atI xs (k : Int) = some x := by
  have hk := (List.getElem?_eq_some_iff.mp h).1
  unfold atI
  rw [ixN_nat hk]
  exact h
theorem pIx_of {d x : PyData} {xs : List PyData} {k : Nat} (hd : items d = some xs) (h : xs[k]? = some x) : pIx d (.int (k : Int)) = some x := by
  unfold pIx
  rw [hd]
  exact atI_nat h
theorem pIx_I {d x : PyData} {xs : List PyData} {i : Int} (hd : items d = some xs) (h0 : 0 ≤ i) (h : xs[i.toNat]? = some x) : pIx d (.int i) = some x := by
  have := pIx_of (k := i.toNat) hd h
  rw [Int.toNat_of_nonneg h0] at this
  exact this
theorem rg1_nat {k : Nat} (h : k ≤ 100000) : rg1 (.int (k : Int)) = some (nums k) := by
  show (if -100000 ≤ (k : Int) ∧ (k : Int) ≤ 100000 then some (nums (k : Int).toNat) else none) = _
  rw [if_pos ⟨by omega, by omega⟩]
  rfl
theorem nums_len (n : Nat) : (nums n).length = n := by simp [nums]
theorem mapT_R {f : PyData → Tree PyData} {g : Nat → PyData} {n : Nat} (h : ∀ k, k < n → f (.int (k : Int)) = .ret (g k)) : mapT f (nums n) = .ret ((List.range n).map g) := by
  unfold nums
  rw [mapT_map]
  exact mapT_ret fun k hk => h k (List.mem_range.mp hk)
def Mv (M : List (List Int)) (d : PyData) : Prop := ∃ rs, items d = some rs ∧ rs.length = M.length ∧ ∀ (i : Nat) row, M[i]? = some row → ∃ r, rs[i]? = some r ∧ items r = some (iL row)
structure MOk (n k : Nat) (M : List (List Int)) : Prop where
  len : M.length = n
  row : ∀ (i : Nat) (r : List Int), M[i]? = some r → r.length = k
theorem Mv.ix {n k : Nat} {M : List (List Int)} {d : PyData} {c : Int} {j : Nat} (h : Mv M d) (ok : MOk n k M) (c0 : 0 ≤ c) (c1 : c < n) (hj : j < k) : ∃ r, pIx d (.int c) = some r ∧ pIx r (.int (j : Int)) = some (.int (cell M c j)) := by
  obtain ⟨rs, h1, h2, h3⟩ := h
  have hc : c.toNat < M.length := by rw [ok.len]; omega
  obtain ⟨r, h4, h5⟩ := h3 c.toNat _ (List.getElem?_eq_getElem hc)
  refine ⟨r, pIx_I h1 c0 h4, pIx_of h5 ?_⟩
  have hl := ok.row c.toNat _ (List.getElem?_eq_getElem hc)
  have ec : M.getD c.toNat [] = M[c.toNat] := by rw [List.getD_eq_getElem?_getD, List.getElem?_eq_getElem hc, Option.getD_some]
  unfold cell
  rw [ec, List.getD_eq_getElem?_getD]
  have hj' : j < M[c.toNat].length := by rw [hl]; exact hj
  unfold iL
  rw [List.getElem?_map, List.getElem?_eq_getElem hj', Option.getD_some]
  rfl
theorem pSrt_of (l : List Int) : pSrt (.list (iL l)) = some (.list (iL (srt l))) := by
  unfold pSrt onI
  dsimp only
  rw [asI_iL, ← isrt_eq]
theorem all_bindE {α β : Type} (t : Tree α) (f : α → Tree β) (Q : β → Prop) : (t.bind f).All Q = t.All fun a => (f a).All Q := propext all_bind
theorem all_retE {α : Type} (a : α) (Q : α → Prop) : (Tree.ret a).All Q = Q a := rfl
theorem all_take {n : Int} {Q : PyData → Prop} (n0 : 0 < n) (n1 : n < 4611686018427387904) (h : ∀ r : Int, 0 ≤ r → r < n → Q (.int r)) : (takeF [.bx, .d (.int n)]).All Q := by
  show (if 0 < n ∧ n < 4611686018427387904 then Tree.draw n.toNat fun r => Tree.ret (PyData.int (r : Int)) else .fail).All Q
  rw [if_pos ⟨n0, n1⟩]
  exact fun r hr => h (r : Int) (by omega) (by omega)
theorem all_forT {t : Tgt} {body : DenS} {Q : Out → Prop} : ∀ {xs : List PyData} {E : Env} (I : Nat → Env → Prop), I 0 E → (∀ (i : Nat) x E, xs[i]? = some x → I i E → ∃ E', putE t x E = some E' ∧ (body E').All fun o => match o with | .nx E2 => I (i + 1) E2 | .ct E2 => I (i + 1) E2 | .bk E2 => Q (.nx E2) | .rt v => Q (.rt v)) → (∀ E, I xs.length E → Q (.nx E)) → (forT t body xs E).All Q
  | [], E, I, h0, _, hd => hd E h0
  | x :: xs, E, I, h0, hs, hd => by
    obtain ⟨E', e, hb⟩ := hs 0 x E rfl h0
    rw [forT, e, lift_some, ret_bind, all_bindE]
    refine hb.imp fun o ho => ?_
    cases o with
    | nx E2 => exact all_forT (fun i => I (i + 1)) ho (fun i y E hy hi => hs (i + 1) y E (by simpa using hy) hi) fun E h => hd E (by simpa using h)
    | ct E2 => exact all_forT (fun i => I (i + 1)) ho (fun i y E hy hi => hs (i + 1) y E (by simpa using hy) hi) fun E h => hd E (by simpa using h)
    | bk E2 => exact ho
    | rt v => exact ho
theorem all_law_of {ds : List PyData} {Q : PyData → Prop} (hne : ds ≠ []) (hl : ds.length ≤ 1000) (h : ∀ d ∈ ds, Q d) : (m_law_of [.bx, .d (.list ds)]).All Q := by
  have h0 := List.length_pos_iff.mpr hne
  simp only [m_law_of, b_law_of, Nat.reduceSub, Nat.reduceAdd, reduceIte, Tree.bind, liftO, dV, d1, d2, aV, aE, a0, aC, dCall, sRet, outV, fnF, lenIs, ent, pLen, it_l, List.getElem?_cons_succ, List.getElem?_cons_zero, List.length_cons, List.length_nil, List.map_cons, List.map_nil, List.replicate_zero, List.cons_append, List.nil_append, all_bindE]
  refine all_take (by omega) (by omega) fun r r0 r1 => ?_
  have hr : r.toNat < ds.length := by omega
  rw [pIx_I (it_l _) r0 (List.getElem?_eq_getElem hr)]
  exact h _ (List.getElem_mem hr)
theorem all_law_span {m : Nat} {Q : PyData → Prop} (m0 : 2 ≤ m) (m1 : m ≤ 1000) (h : ∀ n : Nat, 2 ≤ n → n ≤ m → Q (.int (n : Int))) : (m_law_span [.bx, .d (.int (m : Int))]).All Q := by
  simp only [m_law_span, b_law_span, Nat.reduceSub, Nat.reduceAdd, reduceIte, Tree.bind, liftO, dIdx, sAsgL, sPar4, dV, dC, d1, d2, t1, t2, l0, lC, dL, dT, aV, aE, a0, aC, dCall, dCallK, dIf, tTr, tV, truth, asB, tNot, tAnd, tOr, dAnd, dOr, sSet, sAsg, sPar, sRet, s0, sC, sIf, sX, sOwn, sApp, sFrz, frzE, sFor, outV, fnF, lenIs, ent, small, few, putE, putsE, wipeE, it_l, it_t, iS, iR1, iR2, wEn, wZ2, wZ3, dLc, dLf, dSl, oN, oS, pCut, pSub, cI, bD, pIx, pList, pTup, pLen, pNot, qIsN, qNotN, pIsN, pNotN, List.getElem?_cons_succ, List.getElem?_cons_zero, List.set_cons_succ, List.set_cons_zero, List.length_cons, List.length_nil, List.map_cons, List.map_nil, List.foldr_cons, List.foldr_nil, List.replicate_succ, List.replicate_zero, List.cons_append, List.nil_append, sOPar, sOOPar, dOIx, sNest, sCallP, dOLen, fnP, pC, pFrz, dPr, nApp, nIf, nEnd, sN0, sN1, lendE, frzW, sSetK, dGet, dZipD, dPairD, pMax2, sDD, sND, tNeN, sLock, lockE, odcE, tdE, dttE, tC, tLock, tRet, dGetO, dIdxO, tNinD, sPutO, tDen, sUpd, sCpT, iDtt, dSrtD, sParDt, sParDt3, tCall2, fnT, sNewD, isNd, all_bindE]
  refine all_take (by omega) (by omega) fun r r0 r1 => ?_
  have := h (2 + r.toNat) (by omega) (by omega)
  rw [show ((2 + r.toNat : Nat) : Int) = 2 + r by omega] at this
  exact this
theorem iL_take (ns : List Int) (k : Nat) : (iL ns).take k = iL (ns.take k) := List.map_take.symm
theorem tbl_round {n k : Nat} {b : Int} (n0 : 0 < n) (hk : k ≤ n) : Tbl n (srt ((cnt k).map fun j => (b + j) % n)) ∧ (srt ((cnt k).map fun j => (b + j) % n)).length = k := by
  refine ⟨tbl_srt ?_ fun x hx => ?_, by rw [srt_len, List.length_map, cnt_len]⟩
  · unfold cnt
    rw [List.map_map, List.Nodup, List.pairwise_map]
    refine List.Pairwise.imp_of_mem (R := fun a b => a < b) (fun {x y} hx hy hxy e => ?_) List.pairwise_lt_range
    have h1 := List.mem_range.mp hx
    have h2 := List.mem_range.mp hy
    simp only [Function.comp] at e
    have e2 := Int.emod_emod_of_dvd (b + (y : Int)) (Int.dvd_refl (n : Int))
    have h3 : ((b + (y : Int)) - (b + (x : Int))) % (n : Int) = 0 := by
      rw [Int.sub_emod, e]
      simp
    have h4 : ((b + (y : Int)) - (b + (x : Int))) = ((y - x : Nat) : Int) := by omega
    rw [h4] at h3
    have h5 : (y - x) % n = 0 := by exact_mod_cast h3
    rw [Nat.mod_eq_of_lt (by omega)] at h5
    omega
  · obtain ⟨j, _, rfl⟩ := List.mem_map.mp hx
    exact ⟨Int.emod_nonneg _ (by omega), Int.emod_lt_of_pos _ (by omega)⟩
theorem tbl_strewn {n k : Nat} {ms : List Int} (hk : k ≤ n) (hp : ms.Perm (cnt n)) : Tbl n (srt (ms.take k)) ∧ (srt (ms.take k)).length = k := by
  have hl := hp.length_eq
  rw [cnt_len] at hl
  have hm : ∀ x ∈ cnt n, 0 ≤ x ∧ x < (n : Int) := fun x hx => by
    obtain ⟨j, hj, rfl⟩ := List.mem_map.mp hx
    have := List.mem_range.mp hj
    omega
  have hd : (cnt n).Nodup := by
    unfold cnt
    rw [List.Nodup, List.pairwise_map]
    exact List.Pairwise.imp (fun {a b} h e => by omega) List.pairwise_lt_range
  refine ⟨tbl_srt ((hp.nodup_iff.mpr hd).sublist (List.take_sublist _ _)) fun x hx => hm x (hp.mem_iff.mp (List.mem_of_mem_take hx)), ?_⟩
  rw [srt_len, List.length_take]
  omega
theorem all_law_crowd {n k : Nat} {Q : PyData → Prop} (n0 : 1 ≤ n) (n1 : n ≤ 1000) (hk : k ≤ n) (h : ∀ ns : List Int, Tbl n ns → ns.length = k → Q (.tuple (iL ns))) : (m_law_crowd [.bx, .d (.int (n : Int)), .d (.int (k : Int))]).All Q := by
  have n0' : (0 : Int) < n := by omega
  simp only [m_law_crowd, b_law_crowd, Nat.reduceSub, Nat.reduceAdd, reduceIte, Tree.bind, liftO, dIdx, sAsgL, sPar4, dV, dC, d1, d2, t1, t2, l0, lC, dL, dT, aV, aE, a0, aC, dCall, dCallK, dIf, tTr, tV, truth, asB, tNot, tAnd, tOr, dAnd, dOr, sSet, sAsg, sPar, sRet, s0, sC, sIf, sX, sOwn, sApp, sFrz, frzE, sFor, outV, fnF, lenIs, ent, small, few, putE, putsE, wipeE, it_l, it_t, iS, iR1, iR2, wEn, wZ2, wZ3, dLc, dLf, dSl, oN, oS, pCut, pSub, cI, bD, pIx, pList, pTup, pLen, pNot, qIsN, qNotN, pIsN, pNotN, List.getElem?_cons_succ, List.getElem?_cons_zero, List.set_cons_succ, List.set_cons_zero, List.length_cons, List.length_nil, List.map_cons, List.map_nil, List.foldr_cons, List.foldr_nil, List.replicate_succ, List.replicate_zero, List.cons_append, List.nil_append, sOPar, sOOPar, dOIx, sNest, sCallP, dOLen, fnP, pC, pFrz, dPr, nApp, nIf, nEnd, sN0, sN1, lendE, frzW, sSetK, dGet, dZipD, dPairD, pMax2, sDD, sND, tNeN, sLock, lockE, odcE, tdE, dttE, tC, tLock, tRet, dGetO, dIdxO, tNinD, sPutO, tDen, sUpd, sCpT, iDtt, dSrtD, sParDt, sParDt3, tCall2, fnT, sNewD, isNd, all_bindE]
  refine all_take (by omega) (by omega) fun r r0 r1 => ?_
  rw [pEq_ii]
  by_cases hr : r = 0
  · simp only [hr, decide_true, all_bindE, all_retE]
    refine all_take (by omega) (by omega) fun b b0 b1 => ?_
    simp only [Nat.reduceSub, Nat.reduceAdd, reduceIte, Tree.bind, liftO, dIdx, sAsgL, sPar4, dV, dC, d1, d2, t1, t2, l0, lC, dL, dT, aV, aE, a0, aC, dCall, dCallK, dIf, tTr, tV, truth, asB, tNot, tAnd, tOr, dAnd, dOr, sSet, sAsg, sPar, sRet, s0, sC, sIf, sX, sOwn, sApp, sFrz, frzE, sFor, outV, fnF, lenIs, ent, small, few, putE, putsE, wipeE, it_l, it_t, iS, iR1, iR2, wEn, wZ2, wZ3, dLc, dLf, dSl, oN, oS, pCut, pSub, cI, bD, pIx, pList, pTup, pLen, pNot, qIsN, qNotN, pIsN, pNotN, List.getElem?_cons_succ, List.getElem?_cons_zero, List.set_cons_succ, List.set_cons_zero, List.length_cons, List.length_nil, List.map_cons, List.map_nil, List.foldr_cons, List.foldr_nil, List.replicate_succ, List.replicate_zero, List.cons_append, List.nil_append, sOPar, sOOPar, dOIx, sNest, sCallP, dOLen, fnP, pC, pFrz, dPr, nApp, nIf, nEnd, sN0, sN1, lendE, frzW, sSetK, dGet, dZipD, dPairD, pMax2, sDD, sND, tNeN, sLock, lockE, odcE, tdE, dttE, tC, tLock, tRet, dGetO, dIdxO, tNinD, sPutO, tDen, sUpd, sCpT, iDtt, dSrtD, sParDt, sParDt3, tCall2, fnT, sNewD, isNd, all_bindE, all_retE, rg1_nat (show k ≤ 100000 by omega), nums_len, if_pos (show k ≤ 50000 by omega)]
    rw [nums_cnt, mapT_I (g := fun j => (b + j) % n) fun x hx => by simp only [Nat.reduceSub, Nat.reduceAdd, reduceIte, Tree.bind, liftO, dIdx, sAsgL, sPar4, dV, dC, d1, d2, t1, t2, l0, lC, dL, dT, aV, aE, a0, aC, dCall, dCallK, dIf, tTr, tV, truth, asB, tNot, tAnd, tOr, dAnd, dOr, sSet, sAsg, sPar, sRet, s0, sC, sIf, sX, sOwn, sApp, sFrz, frzE, sFor, outV, fnF, lenIs, ent, small, few, putE, putsE, wipeE, it_l, it_t, iS, iR1, iR2, wEn, wZ2, wZ3, dLc, dLf, dSl, oN, oS, pCut, pSub, cI, bD, pIx, pList, pTup, pLen, pNot, qIsN, qNotN, pIsN, pNotN, List.getElem?_cons_succ, List.getElem?_cons_zero, List.set_cons_succ, List.set_cons_zero, List.length_cons, List.length_nil, List.map_cons, List.map_nil, List.foldr_cons, List.foldr_nil, List.replicate_succ, List.replicate_zero, List.cons_append, List.nil_append, sOPar, sOOPar, dOIx, sNest, sCallP, dOLen, fnP, pC, pFrz, dPr, nApp, nIf, nEnd, sN0, sN1, lendE, frzW, sSetK, dGet, dZipD, dPairD, pMax2, sDD, sND, tNeN, sLock, lockE, odcE, tdE, dttE, tC, tLock, tRet, dGetO, dIdxO, tNinD, sPutO, tDen, sUpd, sCpT, iDtt, dSrtD, sParDt, sParDt3, tCall2, fnT, sNewD, isNd, pMod, pAdd, if_pos n0']]
    simp only [Nat.reduceSub, Nat.reduceAdd, reduceIte, Tree.bind, liftO, dIdx, sAsgL, sPar4, dV, dC, d1, d2, t1, t2, l0, lC, dL, dT, aV, aE, a0, aC, dCall, dCallK, dIf, tTr, tV, truth, asB, tNot, tAnd, tOr, dAnd, dOr, sSet, sAsg, sPar, sRet, s0, sC, sIf, sX, sOwn, sApp, sFrz, frzE, sFor, outV, fnF, lenIs, ent, small, few, putE, putsE, wipeE, it_l, it_t, iS, iR1, iR2, wEn, wZ2, wZ3, dLc, dLf, dSl, oN, oS, pCut, pSub, cI, bD, pIx, pList, pTup, pLen, pNot, qIsN, qNotN, pIsN, pNotN, List.getElem?_cons_succ, List.getElem?_cons_zero, List.set_cons_succ, List.set_cons_zero, List.length_cons, List.length_nil, List.map_cons, List.map_nil, List.foldr_cons, List.foldr_nil, List.replicate_succ, List.replicate_zero, List.cons_append, List.nil_append, sOPar, sOOPar, dOIx, sNest, sCallP, dOLen, fnP, pC, pFrz, dPr, nApp, nIf, nEnd, sN0, sN1, lendE, frzW, sSetK, dGet, dZipD, dPairD, pMax2, sDD, sND, tNeN, sLock, lockE, odcE, tdE, dttE, tC, tLock, tRet, dGetO, dIdxO, tNinD, sPutO, tDen, sUpd, sCpT, iDtt, dSrtD, sParDt, sParDt3, tCall2, fnT, sNewD, isNd, all_bindE, all_retE, pSrt_of]
    obtain ⟨t1, t2⟩ := tbl_round (b := b) (show 0 < n by omega) hk
    exact h _ t1 t2
  · simp only [hr, decide_false, all_bindE, all_retE, Tree.bind, liftO, dIdx, sAsgL, sPar4, dV, dC, d1, d2, t1, t2, l0, lC, dL, dT, aV, aE, a0, aC, dCall, dCallK, dIf, tTr, tV, truth, asB, tNot, tAnd, tOr, dAnd, dOr, sSet, sAsg, sPar, sRet, s0, sC, sIf, sX, sOwn, sApp, sFrz, frzE, sFor, outV, fnF, lenIs, ent, small, few, putE, putsE, wipeE, it_l, it_t, iS, iR1, iR2, wEn, wZ2, wZ3, dLc, dLf, dSl, oN, oS, pCut, pSub, cI, bD, pIx, pList, pTup, pLen, pNot, qIsN, qNotN, pIsN, pNotN, List.getElem?_cons_succ, List.getElem?_cons_zero, List.set_cons_succ, List.set_cons_zero, List.length_cons, List.length_nil, List.map_cons, List.map_nil, List.foldr_cons, List.foldr_nil, List.replicate_succ, List.replicate_zero, List.cons_append, List.nil_append, sOPar, sOOPar, dOIx, sNest, sCallP, dOLen, fnP, pC, pFrz, dPr, nApp, nIf, nEnd, sN0, sN1, lendE, frzW, sSetK, dGet, dZipD, dPairD, pMax2, sDD, sND, tNeN, sLock, lockE, odcE, tdE, dttE, tC, tLock, tRet, dGetO, dIdxO, tNinD, sPutO, tDen, sUpd, sCpT, iDtt, dSrtD, sParDt, sParDt3, tCall2, fnT, sNewD, isNd, lrg, rg1_nat (show n ≤ 100000 by omega), strewnF, nums_len, if_pos (show n ≤ 1000 by omega)]
    refine strewn_all n (nums n) (nums_len n) fun es hp => ?_
    rw [nums_cnt] at hp
    obtain ⟨ms, rfl, hp2⟩ := perm_ints hp
    rw [cutD_to, iL_take]
    simp only [Tree.bind, liftO, dIdx, sAsgL, sPar4, dV, dC, d1, d2, t1, t2, l0, lC, dL, dT, aV, aE, a0, aC, dCall, dCallK, dIf, tTr, tV, truth, asB, tNot, tAnd, tOr, dAnd, dOr, sSet, sAsg, sPar, sRet, s0, sC, sIf, sX, sOwn, sApp, sFrz, frzE, sFor, outV, fnF, lenIs, ent, small, few, putE, putsE, wipeE, it_l, it_t, iS, iR1, iR2, wEn, wZ2, wZ3, dLc, dLf, dSl, oN, oS, pCut, pSub, cI, bD, pIx, pList, pTup, pLen, pNot, qIsN, qNotN, pIsN, pNotN, List.getElem?_cons_succ, List.getElem?_cons_zero, List.set_cons_succ, List.set_cons_zero, List.length_cons, List.length_nil, List.map_cons, List.map_nil, List.foldr_cons, List.foldr_nil, List.replicate_succ, List.replicate_zero, List.cons_append, List.nil_append, sOPar, sOOPar, dOIx, sNest, sCallP, dOLen, fnP, pC, pFrz, dPr, nApp, nIf, nEnd, sN0, sN1, lendE, frzW, sSetK, dGet, dZipD, dPairD, pMax2, sDD, sND, tNeN, sLock, lockE, odcE, tdE, dttE, tC, tLock, tRet, dGetO, dIdxO, tNinD, sPutO, tDen, sUpd, sCpT, iDtt, dSrtD, sParDt, sParDt3, tCall2, fnT, sNewD, isNd, pSrt_of, all_bindE, all_retE]
    obtain ⟨t1, t2⟩ := tbl_strewn hk hp2
    exact h _ t1 t2
theorem all_law_scene {m : Nat} {Q : PyData → Prop} (m0 : 2 ≤ m) (m1 : m ≤ 1000) (h : ∀ (n k : Nat) (ns : List Int), 2 ≤ n → n ≤ m → 1 ≤ k → k < n → Tbl n ns → ns.length = k → Q (.tuple [.int (n : Int), .int (k : Int), .tuple (iL ns)])) : (m_law_scene [.bx, .d (.int (m : Int))]).All Q := by
  simp only [m_law_scene, b_law_scene, Nat.reduceSub, Nat.reduceAdd, reduceIte, Tree.bind, liftO, dIdx, sAsgL, sPar4, dV, dC, d1, d2, t1, t2, l0, lC, dL, dT, aV, aE, a0, aC, dCall, dCallK, dIf, tTr, tV, truth, asB, tNot, tAnd, tOr, dAnd, dOr, sSet, sAsg, sPar, sRet, s0, sC, sIf, sX, sOwn, sApp, sFrz, frzE, sFor, outV, fnF, lenIs, ent, small, few, putE, putsE, wipeE, it_l, it_t, iS, iR1, iR2, wEn, wZ2, wZ3, dLc, dLf, dSl, oN, oS, pCut, pSub, cI, bD, pIx, pList, pTup, pLen, pNot, qIsN, qNotN, pIsN, pNotN, List.getElem?_cons_succ, List.getElem?_cons_zero, List.set_cons_succ, List.set_cons_zero, List.length_cons, List.length_nil, List.map_cons, List.map_nil, List.foldr_cons, List.foldr_nil, List.replicate_succ, List.replicate_zero, List.cons_append, List.nil_append, sOPar, sOOPar, dOIx, sNest, sCallP, dOLen, fnP, pC, pFrz, dPr, nApp, nIf, nEnd, sN0, sN1, lendE, frzW, sSetK, dGet, dZipD, dPairD, pMax2, sDD, sND, tNeN, sLock, lockE, odcE, tdE, dttE, tC, tLock, tRet, dGetO, dIdxO, tNinD, sPutO, tDen, sUpd, sCpT, iDtt, dSrtD, sParDt, sParDt3, tCall2, fnT, sNewD, isNd, all_bindE]
  refine all_law_span m0 m1 fun n h1 h2 => ?_
  simp only [Nat.reduceSub, Nat.reduceAdd, reduceIte, Tree.bind, liftO, dIdx, sAsgL, sPar4, dV, dC, d1, d2, t1, t2, l0, lC, dL, dT, aV, aE, a0, aC, dCall, dCallK, dIf, tTr, tV, truth, asB, tNot, tAnd, tOr, dAnd, dOr, sSet, sAsg, sPar, sRet, s0, sC, sIf, sX, sOwn, sApp, sFrz, frzE, sFor, outV, fnF, lenIs, ent, small, few, putE, putsE, wipeE, it_l, it_t, iS, iR1, iR2, wEn, wZ2, wZ3, dLc, dLf, dSl, oN, oS, pCut, pSub, cI, bD, pIx, pList, pTup, pLen, pNot, qIsN, qNotN, pIsN, pNotN, List.getElem?_cons_succ, List.getElem?_cons_zero, List.set_cons_succ, List.set_cons_zero, List.length_cons, List.length_nil, List.map_cons, List.map_nil, List.foldr_cons, List.foldr_nil, List.replicate_succ, List.replicate_zero, List.cons_append, List.nil_append, sOPar, sOOPar, dOIx, sNest, sCallP, dOLen, fnP, pC, pFrz, dPr, nApp, nIf, nEnd, sN0, sN1, lendE, frzW, sSetK, dGet, dZipD, dPairD, pMax2, sDD, sND, tNeN, sLock, lockE, odcE, tdE, dttE, tC, tLock, tRet, dGetO, dIdxO, tNinD, sPutO, tDen, sUpd, sCpT, iDtt, dSrtD, sParDt, sParDt3, tCall2, fnT, sNewD, isNd, all_bindE, all_retE, pAdd]
  refine all_take (by omega) (by omega) fun r r0 r1 => ?_
  simp only [Nat.reduceSub, Nat.reduceAdd, reduceIte, Tree.bind, liftO, dIdx, sAsgL, sPar4, dV, dC, d1, d2, t1, t2, l0, lC, dL, dT, aV, aE, a0, aC, dCall, dCallK, dIf, tTr, tV, truth, asB, tNot, tAnd, tOr, dAnd, dOr, sSet, sAsg, sPar, sRet, s0, sC, sIf, sX, sOwn, sApp, sFrz, frzE, sFor, outV, fnF, lenIs, ent, small, few, putE, putsE, wipeE, it_l, it_t, iS, iR1, iR2, wEn, wZ2, wZ3, dLc, dLf, dSl, oN, oS, pCut, pSub, cI, bD, pIx, pList, pTup, pLen, pNot, qIsN, qNotN, pIsN, pNotN, List.getElem?_cons_succ, List.getElem?_cons_zero, List.set_cons_succ, List.set_cons_zero, List.length_cons, List.length_nil, List.map_cons, List.map_nil, List.foldr_cons, List.foldr_nil, List.replicate_succ, List.replicate_zero, List.cons_append, List.nil_append, sOPar, sOOPar, dOIx, sNest, sCallP, dOLen, fnP, pC, pFrz, dPr, nApp, nIf, nEnd, sN0, sN1, lendE, frzW, sSetK, dGet, dZipD, dPairD, pMax2, sDD, sND, tNeN, sLock, lockE, odcE, tdE, dttE, tC, tLock, tRet, dGetO, dIdxO, tNinD, sPutO, tDen, sUpd, sCpT, iDtt, dSrtD, sParDt, sParDt3, tCall2, fnT, sNewD, isNd, all_bindE, all_retE, pAdd]
  rw [show (1 + r : Int) = ((1 + r.toNat : Nat) : Int) by omega]
  refine all_law_crowd (by omega) (by omega) (by omega) fun ns t1 t2 => ?_
  simp only [Nat.reduceSub, Nat.reduceAdd, reduceIte, Tree.bind, liftO, dIdx, sAsgL, sPar4, dV, dC, d1, d2, t1, t2, l0, lC, dL, dT, aV, aE, a0, aC, dCall, dCallK, dIf, tTr, tV, truth, asB, tNot, tAnd, tOr, dAnd, dOr, sSet, sAsg, sPar, sRet, s0, sC, sIf, sX, sOwn, sApp, sFrz, frzE, sFor, outV, fnF, lenIs, ent, small, few, putE, putsE, wipeE, it_l, it_t, iS, iR1, iR2, wEn, wZ2, wZ3, dLc, dLf, dSl, oN, oS, pCut, pSub, cI, bD, pIx, pList, pTup, pLen, pNot, qIsN, qNotN, pIsN, pNotN, List.getElem?_cons_succ, List.getElem?_cons_zero, List.set_cons_succ, List.set_cons_zero, List.length_cons, List.length_nil, List.map_cons, List.map_nil, List.foldr_cons, List.foldr_nil, List.replicate_succ, List.replicate_zero, List.cons_append, List.nil_append, sOPar, sOOPar, dOIx, sNest, sCallP, dOLen, fnP, pC, pFrz, dPr, nApp, nIf, nEnd, sN0, sN1, lendE, frzW, sSetK, dGet, dZipD, dPairD, pMax2, sDD, sND, tNeN, sLock, lockE, odcE, tdE, dttE, tC, tLock, tRet, dGetO, dIdxO, tNinD, sPutO, tDen, sUpd, sCpT, iDtt, dSrtD, sParDt, sParDt3, tCall2, fnT, sNewD, isNd, all_bindE, all_retE, pAdd, Nat.reduceLeDiff]
  exact h n (1 + r.toNat) ns h1 h2 (by omega) (by omega) t1 t2
theorem nums_at {n i : Nat} {x : PyData} (h : (nums n)[i]? = some x) : i < n ∧ x = .int (i : Int) := by
  have hi : i < n := by
    have := (List.getElem?_eq_some_iff.mp h).1
    rw [nums_len] at this
    exact this
  rw [nums_get hi] at h
  exact ⟨hi, (Option.some.inj h).symm⟩
theorem pAdd_ii (i j : Int) : pAdd (.int i) (.int j) = some (.int (i + j)) := rfl
theorem iL_drop (ns : List Int) (k : Nat) : (iL ns).drop k = iL (ns.drop k) := List.map_drop.symm
theorem prs_len (xs ys : List PyData) : (prs xs ys).length = min xs.length ys.length := by simp [prs]
structure Sh (n k : Nat) (M : List (List Int)) : Prop where
  ok : MOk n k M
  bd : ∀ r ∈ M, ∀ x ∈ r, x.natAbs < 10 ^ 60
theorem Sh.row {n k : Nat} {M : List (List Int)} (h : Sh n k M) : ∀ r ∈ M, r.length = k := fun r hr => by
  obtain ⟨i, hi⟩ := List.getElem?_of_mem hr
  exact h.ok.row i r hi
theorem ev_law_same {a b : PyData} (h : shwB a = true) (e : a = b) : m_law_same [.d a, .d b] = .ret (.bool true) := by
  subst e
  have ho : okR a = true := by
    unfold shwB at h
    exact (Bool.and_eq_true_iff.mp (Bool.and_eq_true_iff.mp (Bool.and_eq_true_iff.mp h).1).1).2
  simp only [m_law_same, b_law_same, Nat.reduceSub, Nat.reduceAdd, reduceIte, Tree.bind, liftO, dIdx, sAsgL, sPar4, dV, dC, d1, d2, t1, t2, l0, lC, dL, dT, aV, aE, a0, aC, dCall, dCallK, dIf, tTr, tV, truth, asB, tNot, tAnd, tOr, dAnd, dOr, sSet, sAsg, sPar, sRet, s0, sC, sIf, sX, sOwn, sApp, sFrz, frzE, sFor, outV, fnF, lenIs, ent, small, few, putE, putsE, wipeE, it_l, it_t, iS, iR1, iR2, wEn, wZ2, wZ3, dLc, dLf, dSl, oN, oS, pCut, pSub, cI, bD, pIx, pList, pTup, pLen, pNot, qIsN, qNotN, pIsN, pNotN, List.getElem?_cons_succ, List.getElem?_cons_zero, List.set_cons_succ, List.set_cons_zero, List.length_cons, List.length_nil, List.map_cons, List.map_nil, List.foldr_cons, List.foldr_nil, List.replicate_succ, List.replicate_zero, List.cons_append, List.nil_append, sOPar, sOOPar, dOIx, sNest, sCallP, dOLen, fnP, pC, pFrz, dPr, nApp, nIf, nEnd, sN0, sN1, lendE, frzW, sSetK, dGet, dZipD, dPairD, pMax2, sDD, sND, tNeN, sLock, lockE, odcE, tdE, dttE, tC, tLock, tRet, dGetO, dIdxO, tNinD, sPutO, tDen, sUpd, sCpT, iDtt, dSrtD, sParDt, sParDt3, tCall2, fnT, sNewD, isNd, dSame, okS, if_pos h, pSame, eqP_refl ho]
theorem pNe_LL {a b : List Int} (h : a = b) : pNe (.list (iL a)) (.list (iL b)) = some false := by
  subst h
  simp [pNe, pEq, shaped_list_ints, eqv_list_ints]
def chB (n : Int) : PyData → Bool
  | .int i => decide (0 ≤ i) && decide (i < n)
  | _ => false
def isTu : PyData → Bool
  | .tuple _ => true
  | _ => false
def isIn : PyData → Bool
  | .int _ => true
  | .bool _ => true
  | _ => false
def isBo : PyData → Bool
  | .bool _ => true
  | _ => false
theorem isi_tuple {d : PyData} (h : okR d = true) : pIsi "tuple" d = some (.bool (isTu d)) := by
  cases d <;> first | rfl | (simp [okR] at h)
theorem isi_int {d : PyData} (h : okR d = true) : pIsi "int" d = some (.bool (isIn d)) := by
  cases d <;> first | rfl | (simp [okR] at h)
theorem isi_bool {d : PyData} (h : okR d = true) : pIsi "bool" d = some (.bool (isBo d)) := by
  cases d <;> first | rfl | (simp [okR] at h)
theorem okRs_mem : ∀ {ds : List PyData}, okRs ds = true → ∀ d ∈ ds, okR d = true
  | [], _, _, hd => by cases hd
  | a :: ds, h, d, hd => by
    have h : (okR a && okRs ds) = true := by simpa only [okRs] using h
    obtain ⟨h1, h2⟩ := Bool.and_eq_true_iff.mp h
    rcases List.mem_cons.mp hd with rfl | hd
    · exact h1
    · exact okRs_mem h2 d hd
theorem okRs_of : ∀ {ds : List PyData}, (∀ d ∈ ds, okR d = true) → okRs ds = true
  | [], _ => by simp [okRs]
  | a :: ds, h => by simp [okRs, h a (List.mem_cons_self ..), okRs_of fun d hd => h d (List.mem_cons_of_mem _ hd)]
theorem pAll_map {α : Type} (f : α → Bool) (xs : List α) : pAll (.list (xs.map fun x => .bool (f x))) = some (.bool (xs.all f)) := by
  have e : (xs.map fun x => PyData.bool (f x)) = (xs.map f).map .bool := by rw [List.map_map]; rfl
  unfold pAll onB
  simp only [e, asBs_map]
  rw [List.all_map]
  rfl
theorem ev_is_chair {n : Int} {d : PyData} (h : okR d = true) : m_is_chair [.d (.int n), .d d] = .ret (.bool (chB n d)) := by
  simp only [m_is_chair, b_is_chair, Nat.reduceSub, Nat.reduceAdd, reduceIte, Tree.bind, liftO, dIdx, sAsgL, sPar4, dV, dC, d1, d2, t1, t2, l0, lC, dL, dT, aV, aE, a0, aC, dCall, dCallK, dIf, tTr, tV, truth, asB, tNot, tAnd, tOr, dAnd, dOr, sSet, sAsg, sPar, sRet, s0, sC, sIf, sX, sOwn, sApp, sFrz, frzE, sFor, outV, fnF, lenIs, ent, small, few, putE, putsE, wipeE, it_l, it_t, iS, iR1, iR2, wEn, wZ2, wZ3, dLc, dLf, dSl, oN, oS, pCut, pSub, cI, bD, pIx, pList, pTup, pLen, pNot, qIsN, qNotN, pIsN, pNotN, List.getElem?_cons_succ, List.getElem?_cons_zero, List.set_cons_succ, List.set_cons_zero, List.length_cons, List.length_nil, List.map_cons, List.map_nil, List.foldr_cons, List.foldr_nil, List.replicate_succ, List.replicate_zero, List.cons_append, List.nil_append, sOPar, sOOPar, dOIx, sNest, sCallP, dOLen, fnP, pC, pFrz, dPr, nApp, nIf, nEnd, sN0, sN1, lendE, frzW, sSetK, dGet, dZipD, dPairD, pMax2, sDD, sND, tNeN, sLock, lockE, odcE, tdE, dttE, tC, tLock, tRet, dGetO, dIdxO, tNinD, sPutO, tDen, sUpd, sCpT, iDtt, dSrtD, sParDt, sParDt3, tCall2, fnT, sNewD, isNd, isi_int h, isi_bool h]
  cases d with
  | int i =>
    simp only [isIn, isBo, Nat.reduceSub, Nat.reduceAdd, reduceIte, Tree.bind, liftO, dIdx, sAsgL, sPar4, dV, dC, d1, d2, t1, t2, l0, lC, dL, dT, aV, aE, a0, aC, dCall, dCallK, dIf, tTr, tV, truth, asB, tNot, tAnd, tOr, dAnd, dOr, sSet, sAsg, sPar, sRet, s0, sC, sIf, sX, sOwn, sApp, sFrz, frzE, sFor, outV, fnF, lenIs, ent, small, few, putE, putsE, wipeE, it_l, it_t, iS, iR1, iR2, wEn, wZ2, wZ3, dLc, dLf, dSl, oN, oS, pCut, pSub, cI, bD, pIx, pList, pTup, pLen, pNot, qIsN, qNotN, pIsN, pNotN, List.getElem?_cons_succ, List.getElem?_cons_zero, List.set_cons_succ, List.set_cons_zero, List.length_cons, List.length_nil, List.map_cons, List.map_nil, List.foldr_cons, List.foldr_nil, List.replicate_succ, List.replicate_zero, List.cons_append, List.nil_append, sOPar, sOOPar, dOIx, sNest, sCallP, dOLen, fnP, pC, pFrz, dPr, nApp, nIf, nEnd, sN0, sN1, lendE, frzW, sSetK, dGet, dZipD, dPairD, pMax2, sDD, sND, tNeN, sLock, lockE, odcE, tdE, dttE, tC, tLock, tRet, dGetO, dIdxO, tNinD, sPutO, tDen, sUpd, sCpT, iDtt, dSrtD, sParDt, sParDt3, tCall2, fnT, sNewD, isNd, Bool.not_true, dCh, chB]
    by_cases h0 : 0 ≤ i
    · simp [h0, Tree.bind, outV]
    · simp [h0, Tree.bind, outV]
  | _ => first | (simp only [isIn, isBo, Nat.reduceSub, Nat.reduceAdd, reduceIte, Tree.bind, liftO, dIdx, sAsgL, sPar4, dV, dC, d1, d2, t1, t2, l0, lC, dL, dT, aV, aE, a0, aC, dCall, dCallK, dIf, tTr, tV, truth, asB, tNot, tAnd, tOr, dAnd, dOr, sSet, sAsg, sPar, sRet, s0, sC, sIf, sX, sOwn, sApp, sFrz, frzE, sFor, outV, fnF, lenIs, ent, small, few, putE, putsE, wipeE, it_l, it_t, iS, iR1, iR2, wEn, wZ2, wZ3, dLc, dLf, dSl, oN, oS, pCut, pSub, cI, bD, pIx, pList, pTup, pLen, pNot, qIsN, qNotN, pIsN, pNotN, List.getElem?_cons_succ, List.getElem?_cons_zero, List.set_cons_succ, List.set_cons_zero, List.length_cons, List.length_nil, List.map_cons, List.map_nil, List.foldr_cons, List.foldr_nil, List.replicate_succ, List.replicate_zero, List.cons_append, List.nil_append, sOPar, sOOPar, dOIx, sNest, sCallP, dOLen, fnP, pC, pFrz, dPr, nApp, nIf, nEnd, sN0, sN1, lendE, frzW, sSetK, dGet, dZipD, dPairD, pMax2, sDD, sND, tNeN, sLock, lockE, odcE, tdE, dttE, tC, tLock, tRet, dGetO, dIdxO, tNinD, sPutO, tDen, sUpd, sCpT, iDtt, dSrtD, sParDt, sParDt3, tCall2, fnT, sNewD, isNd, Bool.not_true, Bool.not_false, chB]) | (simp [okR] at h)
theorem ev_all_chairs {n : Int} {d : PyData} {xs : List PyData} (hx : items d = some xs) (h : okRs xs = true) (hl : xs.length ≤ 50000) : m_all_chairs [.d (.int n), .d d] = .ret (.bool (xs.all (chB n))) := by
  simp only [m_all_chairs, b_all_chairs, Nat.reduceSub, Nat.reduceAdd, reduceIte, Tree.bind, liftO, dIdx, sAsgL, sPar4, dV, dC, d1, d2, t1, t2, l0, lC, dL, dT, aV, aE, a0, aC, dCall, dCallK, dIf, tTr, tV, truth, asB, tNot, tAnd, tOr, dAnd, dOr, sSet, sAsg, sPar, sRet, s0, sC, sIf, sX, sOwn, sApp, sFrz, frzE, sFor, outV, fnF, lenIs, ent, small, few, putE, putsE, wipeE, it_l, it_t, iS, iR1, iR2, wEn, wZ2, wZ3, dLc, dLf, dSl, oN, oS, pCut, pSub, cI, bD, pIx, pList, pTup, pLen, pNot, qIsN, qNotN, pIsN, pNotN, List.getElem?_cons_succ, List.getElem?_cons_zero, List.set_cons_succ, List.set_cons_zero, List.length_cons, List.length_nil, List.map_cons, List.map_nil, List.foldr_cons, List.foldr_nil, List.replicate_succ, List.replicate_zero, List.cons_append, List.nil_append, sOPar, sOOPar, dOIx, sNest, sCallP, dOLen, fnP, pC, pFrz, dPr, nApp, nIf, nEnd, sN0, sN1, lendE, frzW, sSetK, dGet, dZipD, dPairD, pMax2, sDD, sND, tNeN, sLock, lockE, odcE, tdE, dttE, tC, tLock, tRet, dGetO, dIdxO, tNinD, sPutO, tDen, sUpd, sCpT, iDtt, dSrtD, sParDt, sParDt3, tCall2, fnT, sNewD, isNd, hx, if_pos hl]
  rw [mapT_ret (g := fun x => PyData.bool (chB n x)) fun x hxx => by
    simp only [Nat.reduceSub, Nat.reduceAdd, reduceIte, Tree.bind, liftO, dIdx, sAsgL, sPar4, dV, dC, d1, d2, t1, t2, l0, lC, dL, dT, aV, aE, a0, aC, dCall, dCallK, dIf, tTr, tV, truth, asB, tNot, tAnd, tOr, dAnd, dOr, sSet, sAsg, sPar, sRet, s0, sC, sIf, sX, sOwn, sApp, sFrz, frzE, sFor, outV, fnF, lenIs, ent, small, few, putE, putsE, wipeE, it_l, it_t, iS, iR1, iR2, wEn, wZ2, wZ3, dLc, dLf, dSl, oN, oS, pCut, pSub, cI, bD, pIx, pList, pTup, pLen, pNot, qIsN, qNotN, pIsN, pNotN, List.getElem?_cons_succ, List.getElem?_cons_zero, List.set_cons_succ, List.set_cons_zero, List.length_cons, List.length_nil, List.map_cons, List.map_nil, List.foldr_cons, List.foldr_nil, List.replicate_succ, List.replicate_zero, List.cons_append, List.nil_append, sOPar, sOOPar, dOIx, sNest, sCallP, dOLen, fnP, pC, pFrz, dPr, nApp, nIf, nEnd, sN0, sN1, lendE, frzW, sSetK, dGet, dZipD, dPairD, pMax2, sDD, sND, tNeN, sLock, lockE, odcE, tdE, dttE, tC, tLock, tRet, dGetO, dIdxO, tNinD, sPutO, tDen, sUpd, sCpT, iDtt, dSrtD, sParDt, sParDt3, tCall2, fnT, sNewD, isNd, ev_is_chair (okRs_mem h x hxx)]]
  simp only [Nat.reduceSub, Nat.reduceAdd, reduceIte, Tree.bind, liftO, dIdx, sAsgL, sPar4, dV, dC, d1, d2, t1, t2, l0, lC, dL, dT, aV, aE, a0, aC, dCall, dCallK, dIf, tTr, tV, truth, asB, tNot, tAnd, tOr, dAnd, dOr, sSet, sAsg, sPar, sRet, s0, sC, sIf, sX, sOwn, sApp, sFrz, frzE, sFor, outV, fnF, lenIs, ent, small, few, putE, putsE, wipeE, it_l, it_t, iS, iR1, iR2, wEn, wZ2, wZ3, dLc, dLf, dSl, oN, oS, pCut, pSub, cI, bD, pIx, pList, pTup, pLen, pNot, qIsN, qNotN, pIsN, pNotN, List.getElem?_cons_succ, List.getElem?_cons_zero, List.set_cons_succ, List.set_cons_zero, List.length_cons, List.length_nil, List.map_cons, List.map_nil, List.foldr_cons, List.foldr_nil, List.replicate_succ, List.replicate_zero, List.cons_append, List.nil_append, sOPar, sOOPar, dOIx, sNest, sCallP, dOLen, fnP, pC, pFrz, dPr, nApp, nIf, nEnd, sN0, sN1, lendE, frzW, sSetK, dGet, dZipD, dPairD, pMax2, sDD, sND, tNeN, sLock, lockE, odcE, tdE, dttE, tC, tLock, tRet, dGetO, dIdxO, tNinD, sPutO, tDen, sUpd, sCpT, iDtt, dSrtD, sParDt, sParDt3, tCall2, fnT, sNewD, isNd, pAll_map]
theorem all_ch {n : Int} : ∀ {xs : List PyData}, xs.all (chB n) = true → ∃ is : List Int, xs = iL is ∧ ∀ i ∈ is, 0 ≤ i ∧ i < n
  | [], _ => ⟨[], rfl, fun _ h => by cases h⟩
  | x :: xs, h => by
    rw [List.all_cons] at h
    obtain ⟨h1, h2⟩ := Bool.and_eq_true_iff.mp h
    obtain ⟨is, rfl, g⟩ := all_ch h2
    cases x with
    | int i =>
      obtain ⟨a, c⟩ := Bool.and_eq_true_iff.mp h1
      refine ⟨i :: is, rfl, fun j hj => ?_⟩
      rcases List.mem_cons.mp hj with rfl | hj
      · exact ⟨of_decide_eq_true a, of_decide_eq_true c⟩
      · exact g j hj
    | _ => cases h1
theorem ch_all {n : Int} {is : List Int} (h : ∀ i ∈ is, 0 ≤ i ∧ i < n) : (iL is).all (chB n) = true := by
  refine List.all_eq_true.mpr fun x hx => ?_
  obtain ⟨i, hi, rfl⟩ := List.mem_map.mp hx
  obtain ⟨a, c⟩ := h i hi
  show (decide (0 ≤ i) && decide (i < n)) = true
  rw [decide_eq_true a, decide_eq_true c]
  rfl
def toI : List PyData → List Int
  | [] => []
  | .int i :: xs => i :: toI xs
  | _ :: xs => 0 :: toI xs
theorem toI_iL : ∀ is : List Int, toI (iL is) = is
  | [] => rfl
  | i :: is => congrArg (i :: ·) (toI_iL is)
def ascB (is : List Int) : Bool := (is.zip (is.drop 1)).all fun q => decide (q.1 < q.2)
def tbB (n : Nat) : PyData → Bool
  | .tuple xs => xs.all (chB n) && (ascB (toI xs) && (decide (1 ≤ xs.length) && decide (xs.length < n)))
  | _ => false
theorem mapT_b2 {f : PyData → Tree PyData} {g : Int × Int → Bool} {as bs : List Int} (h : ∀ q ∈ as.zip bs, f (.tuple [.int q.1, .int q.2]) = .ret (.bool (g q))) : mapT f (prs (iL as) (iL bs)) = .ret ((as.zip bs).map fun q => .bool (g q)) := by
  rw [prs_iL, mapT_map]
  exact mapT_ret h
theorem ev_climbs {is : List Int} (hl : is.length ≤ 50000) : m_law_climbs [.d (.tuple (iL is))] = .ret (.bool (ascB is)) := by
  have hz : (prs (iL is) (iL (is.drop 1))).length ≤ 50000 := by rw [prs_len, iL_len, iL_len]; omega
  simp only [m_law_climbs, b_law_climbs, Nat.reduceSub, Nat.reduceAdd, reduceIte, Tree.bind, liftO, dIdx, sAsgL, sPar4, dV, dC, d1, d2, t1, t2, l0, lC, dL, dT, aV, aE, a0, aC, dCall, dCallK, dIf, tTr, tV, truth, asB, tNot, tAnd, tOr, dAnd, dOr, sSet, sAsg, sPar, sRet, s0, sC, sIf, sX, sOwn, sApp, sFrz, frzE, sFor, outV, fnF, lenIs, ent, small, few, putE, putsE, wipeE, it_l, it_t, iS, iR1, iR2, wEn, wZ2, wZ3, dLc, dLf, dSl, oN, oS, pCut, pSub, cI, bD, pIx, pList, pTup, pLen, pNot, qIsN, qNotN, pIsN, pNotN, List.getElem?_cons_succ, List.getElem?_cons_zero, List.set_cons_succ, List.set_cons_zero, List.length_cons, List.length_nil, List.map_cons, List.map_nil, List.foldr_cons, List.foldr_nil, List.replicate_succ, List.replicate_zero, List.cons_append, List.nil_append, sOPar, sOOPar, dOIx, sNest, sCallP, dOLen, fnP, pC, pFrz, dPr, nApp, nIf, nEnd, sN0, sN1, lendE, frzW, sSetK, dGet, dZipD, dPairD, pMax2, sDD, sND, tNeN, sLock, lockE, odcE, tdE, dttE, tC, tLock, tRet, dGetO, dIdxO, tNinD, sPutO, tDen, sUpd, sCpT, iDtt, dSrtD, sParDt, sParDt3, tCall2, fnT, sNewD, isNd, cutD_1, iL_drop, if_pos hz]
  rw [mapT_b2 (g := fun q => decide (q.1 < q.2)) fun q hq => by simp only [Nat.reduceSub, Nat.reduceAdd, reduceIte, Tree.bind, liftO, dIdx, sAsgL, sPar4, dV, dC, d1, d2, t1, t2, l0, lC, dL, dT, aV, aE, a0, aC, dCall, dCallK, dIf, tTr, tV, truth, asB, tNot, tAnd, tOr, dAnd, dOr, sSet, sAsg, sPar, sRet, s0, sC, sIf, sX, sOwn, sApp, sFrz, frzE, sFor, outV, fnF, lenIs, ent, small, few, putE, putsE, wipeE, it_l, it_t, iS, iR1, iR2, wEn, wZ2, wZ3, dLc, dLf, dSl, oN, oS, pCut, pSub, cI, bD, pIx, pList, pTup, pLen, pNot, qIsN, qNotN, pIsN, pNotN, List.getElem?_cons_succ, List.getElem?_cons_zero, List.set_cons_succ, List.set_cons_zero, List.length_cons, List.length_nil, List.map_cons, List.map_nil, List.foldr_cons, List.foldr_nil, List.replicate_succ, List.replicate_zero, List.cons_append, List.nil_append, sOPar, sOOPar, dOIx, sNest, sCallP, dOLen, fnP, pC, pFrz, dPr, nApp, nIf, nEnd, sN0, sN1, lendE, frzW, sSetK, dGet, dZipD, dPairD, pMax2, sDD, sND, tNeN, sLock, lockE, odcE, tdE, dttE, tC, tLock, tRet, dGetO, dIdxO, tNinD, sPutO, tDen, sUpd, sCpT, iDtt, dSrtD, sParDt, sParDt3, tCall2, fnT, sNewD, isNd, cLt]]
  simp only [Nat.reduceSub, Nat.reduceAdd, reduceIte, Tree.bind, liftO, dIdx, sAsgL, sPar4, dV, dC, d1, d2, t1, t2, l0, lC, dL, dT, aV, aE, a0, aC, dCall, dCallK, dIf, tTr, tV, truth, asB, tNot, tAnd, tOr, dAnd, dOr, sSet, sAsg, sPar, sRet, s0, sC, sIf, sX, sOwn, sApp, sFrz, frzE, sFor, outV, fnF, lenIs, ent, small, few, putE, putsE, wipeE, it_l, it_t, iS, iR1, iR2, wEn, wZ2, wZ3, dLc, dLf, dSl, oN, oS, pCut, pSub, cI, bD, pIx, pList, pTup, pLen, pNot, qIsN, qNotN, pIsN, pNotN, List.getElem?_cons_succ, List.getElem?_cons_zero, List.set_cons_succ, List.set_cons_zero, List.length_cons, List.length_nil, List.map_cons, List.map_nil, List.foldr_cons, List.foldr_nil, List.replicate_succ, List.replicate_zero, List.cons_append, List.nil_append, sOPar, sOOPar, dOIx, sNest, sCallP, dOLen, fnP, pC, pFrz, dPr, nApp, nIf, nEnd, sN0, sN1, lendE, frzW, sSetK, dGet, dZipD, dPairD, pMax2, sDD, sND, tNeN, sLock, lockE, odcE, tdE, dttE, tC, tLock, tRet, dGetO, dIdxO, tNinD, sPutO, tDen, sUpd, sCpT, iDtt, dSrtD, sParDt, sParDt3, tCall2, fnT, sNewD, isNd, pAll_map]
  rfl
theorem ev_is_table {n : Nat} {d : PyData} (h : okR d = true) (hl : ∀ xs, items d = some xs → xs.length ≤ 50000) : m_is_table [.d (.int (n : Int)), .d d] = .ret (.bool (tbB n d)) := by
  cases d with
  | tuple xs =>
    have hx : okRs xs = true := by simpa only [okR] using h
    have hch := ev_all_chairs (n := (n : Int)) (it_t xs) hx (hl xs rfl)
    have hl := hl xs rfl
    by_cases hall : (xs.all (chB n)) = true
    · obtain ⟨is, rfl, hi⟩ := all_ch hall
      rw [iL_len] at hl
      have hz : (prs (iL is) (iL (is.drop 1))).length ≤ 50000 := by rw [prs_len, iL_len, iL_len]; omega
      simp only [m_is_table, b_is_table, Nat.reduceSub, Nat.reduceAdd, reduceIte, Tree.bind, liftO, dIdx, sAsgL, sPar4, dV, dC, d1, d2, t1, t2, l0, lC, dL, dT, aV, aE, a0, aC, dCall, dCallK, dIf, tTr, tV, truth, asB, tNot, tAnd, tOr, dAnd, dOr, sSet, sAsg, sPar, sRet, s0, sC, sIf, sX, sOwn, sApp, sFrz, frzE, sFor, outV, fnF, lenIs, ent, small, few, putE, putsE, wipeE, it_l, it_t, iS, iR1, iR2, wEn, wZ2, wZ3, dLc, dLf, dSl, oN, oS, pCut, pSub, cI, bD, pIx, pList, pTup, pLen, pNot, qIsN, qNotN, pIsN, pNotN, List.getElem?_cons_succ, List.getElem?_cons_zero, List.set_cons_succ, List.set_cons_zero, List.length_cons, List.length_nil, List.map_cons, List.map_nil, List.foldr_cons, List.foldr_nil, List.replicate_succ, List.replicate_zero, List.cons_append, List.nil_append, sOPar, sOOPar, dOIx, sNest, sCallP, dOLen, fnP, pC, pFrz, dPr, nApp, nIf, nEnd, sN0, sN1, lendE, frzW, sSetK, dGet, dZipD, dPairD, pMax2, sDD, sND, tNeN, sLock, lockE, odcE, tdE, dttE, tC, tLock, tRet, dGetO, dIdxO, tNinD, sPutO, tDen, sUpd, sCpT, iDtt, dSrtD, sParDt, sParDt3, tCall2, fnT, sNewD, isNd, isi_tuple h, isTu, Bool.not_true, hch, hall, cutD_1, iL_drop, if_pos hz]
      rw [mapT_b2 (g := fun q => decide (q.1 < q.2)) fun q hq => by simp only [Nat.reduceSub, Nat.reduceAdd, reduceIte, Tree.bind, liftO, dIdx, sAsgL, sPar4, dV, dC, d1, d2, t1, t2, l0, lC, dL, dT, aV, aE, a0, aC, dCall, dCallK, dIf, tTr, tV, truth, asB, tNot, tAnd, tOr, dAnd, dOr, sSet, sAsg, sPar, sRet, s0, sC, sIf, sX, sOwn, sApp, sFrz, frzE, sFor, outV, fnF, lenIs, ent, small, few, putE, putsE, wipeE, it_l, it_t, iS, iR1, iR2, wEn, wZ2, wZ3, dLc, dLf, dSl, oN, oS, pCut, pSub, cI, bD, pIx, pList, pTup, pLen, pNot, qIsN, qNotN, pIsN, pNotN, List.getElem?_cons_succ, List.getElem?_cons_zero, List.set_cons_succ, List.set_cons_zero, List.length_cons, List.length_nil, List.map_cons, List.map_nil, List.foldr_cons, List.foldr_nil, List.replicate_succ, List.replicate_zero, List.cons_append, List.nil_append, sOPar, sOOPar, dOIx, sNest, sCallP, dOLen, fnP, pC, pFrz, dPr, nApp, nIf, nEnd, sN0, sN1, lendE, frzW, sSetK, dGet, dZipD, dPairD, pMax2, sDD, sND, tNeN, sLock, lockE, odcE, tdE, dttE, tC, tLock, tRet, dGetO, dIdxO, tNinD, sPutO, tDen, sUpd, sCpT, iDtt, dSrtD, sParDt, sParDt3, tCall2, fnT, sNewD, isNd, cLt]]
      simp only [Nat.reduceSub, Nat.reduceAdd, reduceIte, Tree.bind, liftO, dIdx, sAsgL, sPar4, dV, dC, d1, d2, t1, t2, l0, lC, dL, dT, aV, aE, a0, aC, dCall, dCallK, dIf, tTr, tV, truth, asB, tNot, tAnd, tOr, dAnd, dOr, sSet, sAsg, sPar, sRet, s0, sC, sIf, sX, sOwn, sApp, sFrz, frzE, sFor, outV, fnF, lenIs, ent, small, few, putE, putsE, wipeE, it_l, it_t, iS, iR1, iR2, wEn, wZ2, wZ3, dLc, dLf, dSl, oN, oS, pCut, pSub, cI, bD, pIx, pList, pTup, pLen, pNot, qIsN, qNotN, pIsN, pNotN, List.getElem?_cons_succ, List.getElem?_cons_zero, List.set_cons_succ, List.set_cons_zero, List.length_cons, List.length_nil, List.map_cons, List.map_nil, List.foldr_cons, List.foldr_nil, List.replicate_succ, List.replicate_zero, List.cons_append, List.nil_append, sOPar, sOOPar, dOIx, sNest, sCallP, dOLen, fnP, pC, pFrz, dPr, nApp, nIf, nEnd, sN0, sN1, lendE, frzW, sSetK, dGet, dZipD, dPairD, pMax2, sDD, sND, tNeN, sLock, lockE, odcE, tdE, dttE, tC, tLock, tRet, dGetO, dIdxO, tNinD, sPutO, tDen, sUpd, sCpT, iDtt, dSrtD, sParDt, sParDt3, tCall2, fnT, sNewD, isNd, pAll_map, iL_len, dCh, tbB, hall, toI_iL]
      rw [show ((is.zip (is.drop 1)).all fun q => decide (q.1 < q.2)) = ascB is from rfl]
      cases ascB is with
      | false => rfl
      | true =>
        have q1 : decide ((1 : Int) ≤ (is.length : Int)) = decide (1 ≤ is.length) := decide_eq_decide.mpr ⟨fun h => by omega, fun h => by omega⟩
        have q2 : decide ((is.length : Int) < (n : Int)) = decide (is.length < n) := decide_eq_decide.mpr ⟨fun h => by omega, fun h => by omega⟩
        rw [q1, q2]
        cases decide (1 ≤ is.length) <;> cases decide (is.length < n) <;> rfl
    · have hf : (xs.all (chB n)) = false := by simpa using hall
      simp only [m_is_table, b_is_table, Nat.reduceSub, Nat.reduceAdd, reduceIte, Tree.bind, liftO, dIdx, sAsgL, sPar4, dV, dC, d1, d2, t1, t2, l0, lC, dL, dT, aV, aE, a0, aC, dCall, dCallK, dIf, tTr, tV, truth, asB, tNot, tAnd, tOr, dAnd, dOr, sSet, sAsg, sPar, sRet, s0, sC, sIf, sX, sOwn, sApp, sFrz, frzE, sFor, outV, fnF, lenIs, ent, small, few, putE, putsE, wipeE, it_l, it_t, iS, iR1, iR2, wEn, wZ2, wZ3, dLc, dLf, dSl, oN, oS, pCut, pSub, cI, bD, pIx, pList, pTup, pLen, pNot, qIsN, qNotN, pIsN, pNotN, List.getElem?_cons_succ, List.getElem?_cons_zero, List.set_cons_succ, List.set_cons_zero, List.length_cons, List.length_nil, List.map_cons, List.map_nil, List.foldr_cons, List.foldr_nil, List.replicate_succ, List.replicate_zero, List.cons_append, List.nil_append, sOPar, sOOPar, dOIx, sNest, sCallP, dOLen, fnP, pC, pFrz, dPr, nApp, nIf, nEnd, sN0, sN1, lendE, frzW, sSetK, dGet, dZipD, dPairD, pMax2, sDD, sND, tNeN, sLock, lockE, odcE, tdE, dttE, tC, tLock, tRet, dGetO, dIdxO, tNinD, sPutO, tDen, sUpd, sCpT, iDtt, dSrtD, sParDt, sParDt3, tCall2, fnT, sNewD, isNd, isi_tuple h, isTu, Bool.not_true, Bool.not_false, hch, hf, tbB, Bool.false_and]
  | _ => simp only [m_is_table, b_is_table, Nat.reduceSub, Nat.reduceAdd, reduceIte, Tree.bind, liftO, dIdx, sAsgL, sPar4, dV, dC, d1, d2, t1, t2, l0, lC, dL, dT, aV, aE, a0, aC, dCall, dCallK, dIf, tTr, tV, truth, asB, tNot, tAnd, tOr, dAnd, dOr, sSet, sAsg, sPar, sRet, s0, sC, sIf, sX, sOwn, sApp, sFrz, frzE, sFor, outV, fnF, lenIs, ent, small, few, putE, putsE, wipeE, it_l, it_t, iS, iR1, iR2, wEn, wZ2, wZ3, dLc, dLf, dSl, oN, oS, pCut, pSub, cI, bD, pIx, pList, pTup, pLen, pNot, qIsN, qNotN, pIsN, pNotN, List.getElem?_cons_succ, List.getElem?_cons_zero, List.set_cons_succ, List.set_cons_zero, List.length_cons, List.length_nil, List.map_cons, List.map_nil, List.foldr_cons, List.foldr_nil, List.replicate_succ, List.replicate_zero, List.cons_append, List.nil_append, sOPar, sOOPar, dOIx, sNest, sCallP, dOLen, fnP, pC, pFrz, dPr, nApp, nIf, nEnd, sN0, sN1, lendE, frzW, sSetK, dGet, dZipD, dPairD, pMax2, sDD, sND, tNeN, sLock, lockE, odcE, tdE, dttE, tC, tLock, tRet, dGetO, dIdxO, tNinD, sPutO, tDen, sUpd, sCpT, iDtt, dSrtD, sParDt, sParDt3, tCall2, fnT, sNewD, isNd, isi_tuple h, isTu, Bool.not_false, tbB]
open TL (tl spl par pre split_spl kind_ok partition_par par_hit par_miss spl_last1 spl_part1 par_part1 ext_tl tl_append map_tl_inj tl_mk mk_tl)
theorem tl_colon : tl (": " : Str) = [58, 32] := by decide +kernel
theorem tl_space : tl (" " : Str) = [32] := by decide +kernel
theorem tl_col : tl (":" : Str) = [58] := by decide +kernel
theorem sp_all : ((" " : Str)).cps.all (· < 256) = true := by decide +kernel
theorem split_sp (x : Str) : (Txt.split x " ").map tl = spl [32] 0 [] (tl x) := by
  have h := split_spl x " " (by rw [tl_space]; exact List.cons_ne_nil _ _) (kind_ok sp_all)
  rw [tl_space] at h
  exact h
theorem part_cs (x : Str) : Txt.partition x ": " = (match par [58, 32] [] (tl x) with | some (a, b) => (⟨a.toArray⟩, ": ", ⟨b.toArray⟩) | none => (x, Str.empty, Str.empty)) := by
  have h := partition_par x ": " (by rw [tl_colon]; exact List.cons_ne_nil _ _)
  rw [tl_colon] at h
  exact h
theorem par_some' : ∀ {l acc a b : List Nat}, par [58, 32] acc l = some (a, b) → acc ++ l = a ++ 58 :: 32 :: b
  | [], acc, a, b, h => by cases h
  | c :: r, acc, a, b, h => by
    cases hp : pre [58, 32] (c :: r) with
    | true =>
      rw [par_hit hp] at h
      cases h
      have e : (c :: r).take 2 = [58, 32] := eq_of_beq hp
      have e2 := List.take_append_drop 2 (c :: r)
      rw [e] at e2
      rw [← e2]
      rfl
    | false =>
      rw [par_miss hp] at h
      have := par_some' h
      rw [List.append_assoc] at this
      exact this
theorem spl_cases (l : List Nat) : (32 ∉ l ∧ spl [32] 0 [] l = [l]) ∨ ∃ p r, 32 ∉ p ∧ l = p ++ 32 :: r ∧ spl [32] 0 [] l = p :: spl [32] 0 [] r := by
  have cut : ∀ l : List Nat, 32 ∉ l ∨ ∃ p r, 32 ∉ p ∧ l = p ++ 32 :: r := by
    intro l
    induction l with
    | nil => exact .inl (by simp)
    | cons c l ih =>
      by_cases h : c = 32
      · subst h
        exact .inr ⟨[], l, by simp, rfl⟩
      · rcases ih with ih | ⟨p, r, h1, h2⟩
        · exact .inl (by simp [ih]; exact fun e => h e.symm)
        · exact .inr ⟨c :: p, r, by simp [h1]; exact fun e => h e.symm, by rw [h2]; rfl⟩
  rcases cut l with h | ⟨p, r, h1, h2⟩
  · exact .inl ⟨h, spl_last1 h⟩
  · refine .inr ⟨p, r, h1, h2, ?_⟩
    have := spl_part1 (S := []) (rest := r) (acc := []) h1
    rw [h2]
    exact this
def ts (k : Nat) : Str := toString (k : Int)
theorem ts_fact (s : Nat) (h : s ≤ 10) : 32 ∉ tl (ts s) ∧ 58 ∉ tl (ts s) ∧ (tl (ts s)).length ≤ 2 ∧ 1 ≤ (tl (ts s)).length ∧ PySem.intText? (ts s) = some (s : Int) := by
  have : ∀ s : Nat, s < 11 → 32 ∉ tl (ts s) ∧ 58 ∉ tl (ts s) ∧ (tl (ts s)).length ≤ 2 ∧ 1 ≤ (tl (ts s)).length ∧ PySem.intText? (ts s) = some (s : Int) := by decide +kernel
  exact this s (by omega)
theorem ts_inj (a b : Nat) (ha : a ≤ 10) (hb : b ≤ 10) (h : ts a = ts b) : a = b := by
  have h1 := (ts_fact a ha).2.2.2.2
  have h2 := (ts_fact b hb).2.2.2.2
  rw [h, h2] at h1
  have := Option.some.inj h1
  omega
def nwV : Nat → Nat → Str → Option Nat
  | _, 0, _ => none
  | lo, n + 1, p => if ts lo = p then some lo else nwV (lo + 1) n p
theorem nwV_some : ∀ {n lo : Nat} {p : Str} {k : Nat}, nwV lo n p = some k → lo ≤ k ∧ k < lo + n ∧ ts k = p
  | n + 1, lo, p, k, h => by
    rw [nwV] at h
    split at h
    · cases h
      exact ⟨by omega, by omega, ‹_›⟩
    · obtain ⟨a, c, e⟩ := nwV_some h
      exact ⟨by omega, by omega, e⟩
theorem nwV_none : ∀ {n lo : Nat} {p : Str}, nwV lo n p = none → ∀ k : Nat, lo ≤ k → k < lo + n → ts k ≠ p
  | 0, lo, p, h, k, h1, h2 => by omega
  | n + 1, lo, p, h, k, h1, h2 => by
    rw [nwV] at h
    split at h
    · cases h
    · by_cases e : k = lo
      · rw [e]; assumption
      · exact nwV_none h k (by omega) (by omega)
theorem nwV_at {lo n k : Nat} (h1 : lo ≤ k) (h2 : k < lo + n) (h3 : lo + n ≤ 11) : nwV lo n (ts k) = some k := by
  cases h : nwV lo n (ts k) with
  | none => exact absurd rfl (nwV_none h k h1 h2)
  | some j =>
    obtain ⟨a, c, e⟩ := nwV_some h
    rw [ts_inj j k (by omega) (by omega) e]
theorem numsF_succ (i : Int) (n : Nat) : numsF i (n + 1) = .int i :: numsF (i + 1) n := by
  unfold numsF
  rw [List.range_succ_eq_map, List.map_cons, List.map_map]
  congr 1
  · simp
  · refine List.map_congr_left fun k _ => ?_
    simp only [Function.comp]
    congr 1
    omega
theorem pStr_ts {k : Nat} (h : k ≤ 1000) : pStr (.int (k : Int)) = some (.str (ts k)) := by
  show (if (k : Int).natAbs.log2 < 1920 then some (PyData.str (ts k)) else none) = _
  exact if_pos (log_small (show k < 10 ^ 60 from Nat.lt_of_le_of_lt h (by decide)))
theorem pEq_str (a c : Str) : pEq (.str a) (.str c) = some (decide (a = c)) := rfl
def nwB : DenS := sIf (t2 pEq (d1 pStr (dV 3)) (dV 0)) (sRet (dV 3)) s0
theorem nw_loop (p : Str) (a c : Option W) : ∀ (n lo : Nat) (x : Option W), lo + n ≤ 1000 → (∃ k, nwV lo n p = some k ∧ forT (.nm 3) nwB (numsF (lo : Int) n) [some (.d (.str p)), a, c, x] = .ret (.rt (.int (k : Int)))) ∨ (nwV lo n p = none ∧ ∃ y, forT (.nm 3) nwB (numsF (lo : Int) n) [some (.d (.str p)), a, c, x] = .ret (.nx [some (.d (.str p)), a, c, y]))
  | 0, lo, x, _ => .inr ⟨rfl, x, rfl⟩
  | n + 1, lo, x, h => by
    have hs : nwB [some (.d (.str p)), a, c, some (.d (.int (lo : Int)))] = if ts lo = p then .ret (.rt (.int (lo : Int))) else .ret (.nx [some (.d (.str p)), a, c, some (.d (.int (lo : Int)))]) := by
      simp only [nwB, Nat.reduceSub, Nat.reduceAdd, reduceIte, Tree.bind, liftO, dIdx, sAsgL, sPar4, dV, dC, d1, d2, t1, t2, l0, lC, dL, dT, aV, aE, a0, aC, dCall, dCallK, dIf, tTr, tV, truth, asB, tNot, tAnd, tOr, dAnd, dOr, sSet, sAsg, sPar, sRet, s0, sC, sIf, sX, sOwn, sApp, sFrz, frzE, sFor, outV, fnF, lenIs, ent, small, few, putE, putsE, wipeE, it_l, it_t, iS, iR1, iR2, wEn, wZ2, wZ3, dLc, dLf, dSl, oN, oS, pCut, pSub, cI, bD, pIx, pList, pTup, pLen, pNot, qIsN, qNotN, pIsN, pNotN, List.getElem?_cons_succ, List.getElem?_cons_zero, List.set_cons_succ, List.set_cons_zero, List.length_cons, List.length_nil, List.map_cons, List.map_nil, List.foldr_cons, List.foldr_nil, List.replicate_succ, List.replicate_zero, List.cons_append, List.nil_append, sOPar, sOOPar, dOIx, sNest, sCallP, dOLen, fnP, pC, pFrz, dPr, nApp, nIf, nEnd, sN0, sN1, lendE, frzW, sSetK, dGet, dZipD, dPairD, pMax2, sDD, sND, tNeN, sLock, lockE, odcE, tdE, dttE, tC, tLock, tRet, dGetO, dIdxO, tNinD, sPutO, tDen, sUpd, sCpT, iDtt, dSrtD, sParDt, sParDt3, tCall2, fnT, sNewD, isNd, pStr_ts (show lo ≤ 1000 by omega), pEq_str]
      by_cases e : ts lo = p
      · rw [decide_eq_true e, if_pos e]
      · rw [decide_eq_false e, if_neg e]
    have e1 : forT (.nm 3) nwB (numsF (lo : Int) (n + 1)) [some (.d (.str p)), a, c, x] = (nwB [some (.d (.str p)), a, c, some (.d (.int (lo : Int)))]).bind fun o => match o with
      | .nx E2 => forT (.nm 3) nwB (numsF ((lo : Int) + 1) n) E2
      | .ct E2 => forT (.nm 3) nwB (numsF ((lo : Int) + 1) n) E2
      | .bk E2 => .ret (.nx E2)
      | .rt v => .ret (.rt v) := by
      rw [numsF_succ]
      rfl
    rw [e1, hs, nwV]
    by_cases e : ts lo = p
    · rw [if_pos e, if_pos e]
      exact .inl ⟨lo, rfl, rfl⟩
    · rw [if_neg e, if_neg e]
      have ih := nw_loop p a c n (lo + 1) (some (.d (.int (lo : Int)))) (by omega)
      rw [show ((lo + 1 : Nat) : Int) = (lo : Int) + 1 by omega] at ih
      exact ih
theorem ev_nw {lo n : Nat} {p : Str} {h : Int} (hz : lo + n ≤ 1000) (hh : h + 1 = ((lo + n : Nat) : Int)) : m_number_written [.d (.str p), .d (.int (lo : Int)), .d (.int h)] = .ret (optI (nwV lo n p)) := by
  have r : rg2 (.int (lo : Int)) (.int (h + 1)) = some (numsF (lo : Int) n) := by
    show (if -100000 ≤ (lo : Int) ∧ (lo : Int) ≤ 100000 ∧ -100000 ≤ h + 1 ∧ h + 1 ≤ 100000 then some (numsF (lo : Int) (h + 1 - (lo : Int)).toNat) else none) = _
    rw [if_pos ⟨by omega, by omega, by omega, by omega⟩, show (h + 1 - (lo : Int)).toNat = n by omega]
  have eb : b_number_written = sC (sFor (.nm 3) (iR2 (dV 1) (d2 pAdd (dV 2) (dC (.int 1)))) nwB) (sRet (dC .none)) := rfl
  unfold m_number_written
  rw [eb]
  simp only [Nat.reduceSub, Nat.reduceAdd, reduceIte, Tree.bind, liftO, dIdx, sAsgL, sPar4, dV, dC, d1, d2, t1, t2, l0, lC, dL, dT, aV, aE, a0, aC, dCall, dCallK, dIf, tTr, tV, truth, asB, tNot, tAnd, tOr, dAnd, dOr, sSet, sAsg, sPar, sRet, s0, sC, sIf, sX, sOwn, sApp, sFrz, frzE, sFor, outV, fnF, lenIs, ent, small, few, putE, putsE, wipeE, it_l, it_t, iS, iR1, iR2, wEn, wZ2, wZ3, dLc, dLf, dSl, oN, oS, pCut, pSub, cI, bD, pIx, pList, pTup, pLen, pNot, qIsN, qNotN, pIsN, pNotN, List.getElem?_cons_succ, List.getElem?_cons_zero, List.set_cons_succ, List.set_cons_zero, List.length_cons, List.length_nil, List.map_cons, List.map_nil, List.foldr_cons, List.foldr_nil, List.replicate_succ, List.replicate_zero, List.cons_append, List.nil_append, sOPar, sOOPar, dOIx, sNest, sCallP, dOLen, fnP, pC, pFrz, dPr, nApp, nIf, nEnd, sN0, sN1, lendE, frzW, sSetK, dGet, dZipD, dPairD, pMax2, sDD, sND, tNeN, sLock, lockE, odcE, tdE, dttE, tC, tLock, tRet, dGetO, dIdxO, tNinD, sPutO, tDen, sUpd, sCpT, iDtt, dSrtD, sParDt, sParDt3, tCall2, fnT, sNewD, isNd, pAdd_ii, r]
  rcases nw_loop p (some (.d (.int (lo : Int)))) (some (.d (.int h))) n lo none hz with ⟨k, h1, h2⟩ | ⟨h1, y, h2⟩
  · rw [h1, h2]
    rfl
  · rw [h1, h2]
    rfl
theorem ev_cw {s : Nat} {p : Str} (h : s ≤ 1000) : m_chair_written [.d (.int (s : Int)), .d (.str p)] = .ret (optI (nwV 0 s p)) := by
  have h1 : m_number_written [.d (.str p), .d (.int 0), .d (.int ((s : Int) - 1))] = .ret (optI (nwV 0 s p)) := ev_nw (lo := 0) (n := s) (p := p) (h := (s : Int) - 1) (by omega) (by omega)
  simp only [m_chair_written, b_chair_written, Nat.reduceSub, Nat.reduceAdd, reduceIte, Tree.bind, liftO, dIdx, sAsgL, sPar4, dV, dC, d1, d2, t1, t2, l0, lC, dL, dT, aV, aE, a0, aC, dCall, dCallK, dIf, tTr, tV, truth, asB, tNot, tAnd, tOr, dAnd, dOr, sSet, sAsg, sPar, sRet, s0, sC, sIf, sX, sOwn, sApp, sFrz, frzE, sFor, outV, fnF, lenIs, ent, small, few, putE, putsE, wipeE, it_l, it_t, iS, iR1, iR2, wEn, wZ2, wZ3, dLc, dLf, dSl, oN, oS, pCut, pSub, cI, bD, pIx, pList, pTup, pLen, pNot, qIsN, qNotN, pIsN, pNotN, List.getElem?_cons_succ, List.getElem?_cons_zero, List.set_cons_succ, List.set_cons_zero, List.length_cons, List.length_nil, List.map_cons, List.map_nil, List.foldr_cons, List.foldr_nil, List.replicate_succ, List.replicate_zero, List.cons_append, List.nil_append, sOPar, sOOPar, dOIx, sNest, sCallP, dOLen, fnP, pC, pFrz, dPr, nApp, nIf, nEnd, sN0, sN1, lendE, frzW, sSetK, dGet, dZipD, dPairD, pMax2, sDD, sND, tNeN, sLock, lockE, odcE, tdE, dttE, tC, tLock, tRet, dGetO, dIdxO, tNinD, sPutO, tDen, sUpd, sCpT, iDtt, dSrtD, sParDt, sParDt3, tCall2, fnT, sNewD, isNd, h1]
def crV (s : Nat) (R : Str) : PyData := .tuple ((Txt.split R " ").map fun q => optI (nwV 0 s q))
def comV (w : Str) (s : Nat) (R : Str) : PyData := if tbB s (crV s R) = true then .tuple [.int (s : Int), crV s R] else .list [.str w]
theorem ok_opt (o : Option Nat) (h : ∀ k, o = some k → k ≤ 1000) : okR (optI o) = true := by
  cases o with
  | none => simp [optI, okR]
  | some k =>
    have := h k rfl
    simp only [optI, okR]
    exact decide_eq_true (by show k < 10 ^ 60; exact Nat.lt_of_le_of_lt this (by decide))
theorem ok_cr {s : Nat} {R : Str} (hs : s ≤ 10) : okR (crV s R) = true := by
  unfold crV
  simp only [okR]
  refine okRs_of fun d hd => ?_
  obtain ⟨q, _, rfl⟩ := List.mem_map.mp hd
  exact ok_opt _ fun k hk => by have := nwV_some hk; omega
theorem split_len (x : Str) : (Txt.split x " ").length ≤ x.length + 2 := PyProof.Rows.split_le x " "
section
variable {w R : Str} {s : Nat}
theorem crow_ev (hs : s ≤ 10) (hR : R.length ≤ 1000) (E : Env) (h1 : E[1]? = some (some (.d (.int (s : Int))))) (h5 : E[5]? = some (some (.d (.str R)))) (h6 : ∃ x, E[6]? = some x) : sSet 2 (d1 pTup (dLc (.nm 6) [6] (iS (dTx pSplit (dV 5) (dC (.str " ")))) (dCall m_chair_written (aC (aV 1) (aC (aV 6) a0))))) E = .ret (.nx (E.set 2 (some (.d (crV s R))))) := by
  have hz := split_len R
  have e1 : dTx pSplit (dV 5) (dC (.str " ")) E = .ret (.list ((Txt.split R " ").map .str)) := by
    unfold dTx dV
    rw [h5]
    show (liftO (pSplit R (.str " "))) = _
    unfold pSplit
    dsimp only
    rw [if_pos ⟨by decide +kernel, by omega⟩]
    rfl
  unfold sSet d1 dLc iS
  rw [e1]
  show (((liftO (few ((Txt.split R " ").map PyData.str).length)).bind fun _ => _).bind _).bind _ = _
  rw [show few ((Txt.split R " ").map PyData.str).length = some () from if_pos (by rw [List.length_map]; omega)]
  show (((mapT _ ((Txt.split R " ").map PyData.str)).bind _).bind _).bind _ = _
  have hset : (wipeE E [6])[1]? = some (some (.d (.int (s : Int)))) := by
    unfold wipeE
    simp only [List.foldr_cons, List.foldr_nil]
    rw [List.getElem?_set_ne (by decide), h1]
  obtain ⟨x6, h6⟩ := h6
  have h6l := (List.getElem?_eq_some_iff.mp h6).1
  rw [mapT_map, mapT_ret (g := fun q => optI (nwV 0 s q)) fun q hq => by
    show (dCall m_chair_written (aC (aV 1) (aC (aV 6) a0))) ((wipeE E [6]).set 6 (some (.d (.str q)))) = _
    have a1 : ((wipeE E [6]).set 6 (some (W.d (.str q))))[1]? = some (some (.d (.int (s : Int)))) := by rw [List.getElem?_set_ne (by decide), hset]
    have a6 : ((wipeE E [6]).set 6 (some (W.d (.str q))))[6]? = some (some (.d (.str q))) := by
      rw [List.getElem?_set_self]
      unfold wipeE
      simp only [List.foldr_cons, List.foldr_nil, List.length_set]
      exact h6l
    unfold dCall aC aV
    simp only [a1, a6, Tree.bind, a0]
    exact ev_cw (by omega)]
  rfl
end
section
variable {w R : Str} {s : Nat}
abbrev E58 (w : Str) (a1 a2 a3 a4 a5 : Option W) : Env := [some (.d (.str w)), a1, a2, a3, a4, a5, none]
theorem pp_ok {a b c : Str} (hw : w.length ≤ 1000) (hp : Txt.partition w ": " = (a, b, c)) : pPart w (.str ": ") = some (.tuple [.str a, .str b, .str c]) := by
  unfold pPart
  dsimp only
  rw [if_pos ⟨by decide +kernel, by omega⟩, hp]
def tf1 : DenS := sAsg (.tp [3, 4, 5]) (dTx pPart (dV 0) (dC (.str ": ")))
def tf2 : DenS := sSet 1 (dCall m_number_written (aC (aV 3) (aC (aE (dC (.int 2))) (aC (aE (dC (.int 10))) a0))))
def tf3 : DenS := sSet 2 (d1 pTup (dLc (.nm 6) [6] (iS (dTx pSplit (dV 5) (dC (.str " ")))) (dCall m_chair_written (aC (aV 1) (aC (aV 6) a0)))))
def tfT : DenB := tNot (tTr (dCall m_is_table (aC (aV 1) (aC (aV 2) a0))))
theorem tf_1 {a b c : Str} (hw : w.length ≤ 1000) (hp : Txt.partition w ": " = (a, b, c)) : tf1 (E58 w none none none none none) = .ret (.nx (E58 w none none (some (.d (.str a))) (some (.d (.str b))) (some (.d (.str c))))) := by
  simp only [tf1, E58, dTx, Nat.reduceSub, Nat.reduceAdd, reduceIte, Tree.bind, liftO, dIdx, sAsgL, sPar4, dV, dC, d1, d2, t1, t2, l0, lC, dL, dT, aV, aE, a0, aC, dCall, dCallK, dIf, tTr, tV, truth, asB, tNot, tAnd, tOr, dAnd, dOr, sSet, sAsg, sPar, sRet, s0, sC, sIf, sX, sOwn, sApp, sFrz, frzE, sFor, outV, fnF, lenIs, ent, small, few, putE, putsE, wipeE, it_l, it_t, iS, iR1, iR2, wEn, wZ2, wZ3, dLc, dLf, dSl, oN, oS, pCut, pSub, cI, bD, pIx, pList, pTup, pLen, pNot, qIsN, qNotN, pIsN, pNotN, List.getElem?_cons_succ, List.getElem?_cons_zero, List.set_cons_succ, List.set_cons_zero, List.length_cons, List.length_nil, List.map_cons, List.map_nil, List.foldr_cons, List.foldr_nil, List.replicate_succ, List.replicate_zero, List.cons_append, List.nil_append, sOPar, sOOPar, dOIx, sNest, sCallP, dOLen, fnP, pC, pFrz, dPr, nApp, nIf, nEnd, sN0, sN1, lendE, frzW, sSetK, dGet, dZipD, dPairD, pMax2, sDD, sND, tNeN, sLock, lockE, odcE, tdE, dttE, tC, tLock, tRet, dGetO, dIdxO, tNinD, sPutO, tDen, sUpd, sCpT, iDtt, dSrtD, sParDt, sParDt3, tCall2, fnT, sNewD, isNd, pp_ok hw hp]
theorem tf_2 {a : Str} {x4 x5 : Option W} : tf2 (E58 w none none (some (.d (.str a))) x4 x5) = .ret (.nx (E58 w (some (.d (optI (nwV 2 9 a)))) none (some (.d (.str a))) x4 x5)) := by
  have h1 : m_number_written [.d (.str a), .d (.int 2), .d (.int 10)] = .ret (optI (nwV 2 9 a)) := ev_nw (lo := 2) (n := 9) (by decide) (by decide)
  simp only [tf2, E58, Nat.reduceSub, Nat.reduceAdd, reduceIte, Tree.bind, liftO, dIdx, sAsgL, sPar4, dV, dC, d1, d2, t1, t2, l0, lC, dL, dT, aV, aE, a0, aC, dCall, dCallK, dIf, tTr, tV, truth, asB, tNot, tAnd, tOr, dAnd, dOr, sSet, sAsg, sPar, sRet, s0, sC, sIf, sX, sOwn, sApp, sFrz, frzE, sFor, outV, fnF, lenIs, ent, small, few, putE, putsE, wipeE, it_l, it_t, iS, iR1, iR2, wEn, wZ2, wZ3, dLc, dLf, dSl, oN, oS, pCut, pSub, cI, bD, pIx, pList, pTup, pLen, pNot, qIsN, qNotN, pIsN, pNotN, List.getElem?_cons_succ, List.getElem?_cons_zero, List.set_cons_succ, List.set_cons_zero, List.length_cons, List.length_nil, List.map_cons, List.map_nil, List.foldr_cons, List.foldr_nil, List.replicate_succ, List.replicate_zero, List.cons_append, List.nil_append, sOPar, sOOPar, dOIx, sNest, sCallP, dOLen, fnP, pC, pFrz, dPr, nApp, nIf, nEnd, sN0, sN1, lendE, frzW, sSetK, dGet, dZipD, dPairD, pMax2, sDD, sND, tNeN, sLock, lockE, odcE, tdE, dttE, tC, tLock, tRet, dGetO, dIdxO, tNinD, sPutO, tDen, sUpd, sCpT, iDtt, dSrtD, sParDt, sParDt3, tCall2, fnT, sNewD, isNd, h1]
theorem tf_q {d : PyData} {x2 x3 x4 x5 : Option W} : (t1 qIsN (dV 1)) (E58 w (some (.d d)) x2 x3 x4 x5) = liftO (qIsN d) := by
  simp only [E58, Nat.reduceSub, Nat.reduceAdd, reduceIte, Tree.bind, liftO, dIdx, sAsgL, sPar4, dV, dC, d1, d2, t1, t2, l0, lC, dL, dT, aV, aE, a0, aC, dCall, dCallK, dIf, tTr, tV, truth, asB, tNot, tAnd, tOr, dAnd, dOr, sSet, sAsg, sPar, sRet, s0, sC, sIf, sX, sOwn, sApp, sFrz, frzE, sFor, outV, fnF, lenIs, ent, small, few, putE, putsE, wipeE, it_l, it_t, iS, iR1, iR2, wEn, wZ2, wZ3, dLc, dLf, dSl, oN, oS, pCut, pSub, cI, bD, pIx, pList, pTup, pLen, pNot, qIsN, qNotN, pIsN, pNotN, List.getElem?_cons_succ, List.getElem?_cons_zero, List.set_cons_succ, List.set_cons_zero, List.length_cons, List.length_nil, List.map_cons, List.map_nil, List.foldr_cons, List.foldr_nil, List.replicate_succ, List.replicate_zero, List.cons_append, List.nil_append, sOPar, sOOPar, dOIx, sNest, sCallP, dOLen, fnP, pC, pFrz, dPr, nApp, nIf, nEnd, sN0, sN1, lendE, frzW, sSetK, dGet, dZipD, dPairD, pMax2, sDD, sND, tNeN, sLock, lockE, odcE, tdE, dttE, tC, tLock, tRet, dGetO, dIdxO, tNinD, sPutO, tDen, sUpd, sCpT, iDtt, dSrtD, sParDt, sParDt3, tCall2, fnT, sNewD, isNd]
theorem tf_3 {x3 x4 : Option W} (hs : s ≤ 10) (hR : R.length ≤ 1000) : tf3 (E58 w (some (.d (.int (s : Int)))) none x3 x4 (some (.d (.str R)))) = .ret (.nx (E58 w (some (.d (.int (s : Int)))) (some (.d (crV s R))) x3 x4 (some (.d (.str R))))) := crow_ev hs hR _ rfl rfl ⟨_, rfl⟩
theorem tf_t {x3 x4 x5 : Option W} (hs : s ≤ 10) (hR : R.length ≤ 1000) : tfT (E58 w (some (.d (.int (s : Int)))) (some (.d (crV s R))) x3 x4 x5) = .ret (!tbB s (crV s R)) := by
  have hz := split_len R
  have h1 : m_is_table [.d (.int (s : Int)), .d (crV s R)] = .ret (.bool (tbB s (crV s R))) := ev_is_table (ok_cr hs) fun xs h => by
    cases h
    rw [List.length_map]
    omega
  simp only [tfT, E58, Nat.reduceSub, Nat.reduceAdd, reduceIte, Tree.bind, liftO, dIdx, sAsgL, sPar4, dV, dC, d1, d2, t1, t2, l0, lC, dL, dT, aV, aE, a0, aC, dCall, dCallK, dIf, tTr, tV, truth, asB, tNot, tAnd, tOr, dAnd, dOr, sSet, sAsg, sPar, sRet, s0, sC, sIf, sX, sOwn, sApp, sFrz, frzE, sFor, outV, fnF, lenIs, ent, small, few, putE, putsE, wipeE, it_l, it_t, iS, iR1, iR2, wEn, wZ2, wZ3, dLc, dLf, dSl, oN, oS, pCut, pSub, cI, bD, pIx, pList, pTup, pLen, pNot, qIsN, qNotN, pIsN, pNotN, List.getElem?_cons_succ, List.getElem?_cons_zero, List.set_cons_succ, List.set_cons_zero, List.length_cons, List.length_nil, List.map_cons, List.map_nil, List.foldr_cons, List.foldr_nil, List.replicate_succ, List.replicate_zero, List.cons_append, List.nil_append, sOPar, sOOPar, dOIx, sNest, sCallP, dOLen, fnP, pC, pFrz, dPr, nApp, nIf, nEnd, sN0, sN1, lendE, frzW, sSetK, dGet, dZipD, dPairD, pMax2, sDD, sND, tNeN, sLock, lockE, odcE, tdE, dttE, tC, tLock, tRet, dGetO, dIdxO, tNinD, sPutO, tDen, sUpd, sCpT, iDtt, dSrtD, sParDt, sParDt3, tCall2, fnT, sNewD, isNd, h1]
theorem tf_r {x1 x2 : PyData} {x3 x4 x5 : Option W} : sRet (dT (lC (dV 1) (lC (dV 2) l0))) (E58 w (some (.d x1)) (some (.d x2)) x3 x4 x5) = .ret (.rt (.tuple [x1, x2])) := by
  simp only [E58, Nat.reduceSub, Nat.reduceAdd, Nat.reduceLeDiff, reduceIte, Tree.bind, liftO, dIdx, sAsgL, sPar4, dV, dC, d1, d2, t1, t2, l0, lC, dL, dT, aV, aE, a0, aC, dCall, dCallK, dIf, tTr, tV, truth, asB, tNot, tAnd, tOr, dAnd, dOr, sSet, sAsg, sPar, sRet, s0, sC, sIf, sX, sOwn, sApp, sFrz, frzE, sFor, outV, fnF, lenIs, ent, small, few, putE, putsE, wipeE, it_l, it_t, iS, iR1, iR2, wEn, wZ2, wZ3, dLc, dLf, dSl, oN, oS, pCut, pSub, cI, bD, pIx, pList, pTup, pLen, pNot, qIsN, qNotN, pIsN, pNotN, List.getElem?_cons_succ, List.getElem?_cons_zero, List.set_cons_succ, List.set_cons_zero, List.length_cons, List.length_nil, List.map_cons, List.map_nil, List.foldr_cons, List.foldr_nil, List.replicate_succ, List.replicate_zero, List.cons_append, List.nil_append, sOPar, sOOPar, dOIx, sNest, sCallP, dOLen, fnP, pC, pFrz, dPr, nApp, nIf, nEnd, sN0, sN1, lendE, frzW, sSetK, dGet, dZipD, dPairD, pMax2, sDD, sND, tNeN, sLock, lockE, odcE, tdE, dttE, tC, tLock, tRet, dGetO, dIdxO, tNinD, sPutO, tDen, sUpd, sCpT, iDtt, dSrtD, sParDt, sParDt3, tCall2, fnT, sNewD, isNd]
theorem x_eq : x_table_from 0 [.d (.str w)] = zNext tf1 (zNext tf2 (zIf (t1 qIsN (dV 1)) (zRaise 0 "line" (dV 0)) (zNext tf3 (zIf tfT (zRaise 0 "line" (dV 0)) zNo)))) (E58 w none none none none none) := rfl
theorem m_eq : m_table_from [.d (.str w)] = (sC tf1 (sC tf2 (sC (sIf (t1 qIsN (dV 1)) sNo s0) (sC tf3 (sC (sIf tfT sNo s0) (sRet (dT (lC (dV 1) (lC (dV 2) l0))))))) ) (E58 w none none none none none)).bind outV := rfl
theorem told_no {a b c : Str} (hw : w.length ≤ 1000) (hp : Txt.partition w ": " = (a, b, c)) (hn : nwV 2 9 a = none) : m_law_told [.d (.str w)] = .ret (.list [.str w]) := by
  have hx : x_table_from 0 [.d (.str w)] = .ret ⟨0, "line", .str w⟩ := by
    rw [x_eq]
    unfold zNext zIf
    rw [tf_1 hw hp]
    dsimp only [Tree.bind]
    rw [tf_2, hn]
    dsimp only [Tree.bind, optI]
    rw [tf_q]
    rfl
  unfold m_law_told
  dsimp only
  rw [hx]
theorem told_at {b c : Str} (hw : w.length ≤ 1000) (hp : Txt.partition w ": " = (ts s, b, c)) (h2 : 2 ≤ s) (hs : s ≤ 10) (hc : c.length ≤ 1000) : m_law_told [.d (.str w)] = .ret (comV w s c) := by
  have hn : nwV 2 9 (ts s) = some s := nwV_at h2 (by omega) (by omega)
  unfold comV
  cases ht : tbB s (crV s c) with
  | false =>
    have hx : x_table_from 0 [.d (.str w)] = .ret ⟨0, "line", .str w⟩ := by
      rw [x_eq]
      unfold zNext zIf
      rw [tf_1 hw hp]
      dsimp only [Tree.bind]
      rw [tf_2, hn]
      dsimp only [Tree.bind, optI]
      rw [tf_q]
      dsimp only [Tree.bind, qIsN, liftO]
      rw [tf_3 hs hc]
      dsimp only [Tree.bind]
      rw [tf_t hs hc, ht]
      rfl
    unfold m_law_told
    dsimp only
    rw [hx, if_neg (by decide)]
  | true =>
    have hx : x_table_from 0 [.d (.str w)] = .fail := by
      rw [x_eq]
      unfold zNext zIf
      rw [tf_1 hw hp]
      dsimp only [Tree.bind]
      rw [tf_2, hn]
      dsimp only [Tree.bind, optI]
      rw [tf_q]
      dsimp only [Tree.bind, qIsN, liftO]
      rw [tf_3 hs hc]
      dsimp only [Tree.bind]
      rw [tf_t hs hc, ht]
      rfl
    have hm : m_table_from [.d (.str w)] = .ret (.tuple [.int (s : Int), crV s c]) := by
      rw [m_eq]
      unfold sC sIf
      rw [tf_1 hw hp]
      dsimp only [Tree.bind]
      rw [tf_2, hn]
      dsimp only [Tree.bind, optI]
      rw [tf_q]
      dsimp only [Tree.bind, qIsN, liftO, s0]
      rw [tf_3 hs hc]
      dsimp only [Tree.bind]
      rw [tf_t hs hc, ht]
      show (sRet (dT (lC (dV 1) (lC (dV 2) l0))) (E58 w (some (.d (.int (s : Int)))) (some (.d (crV s c))) (some (.d (.str (ts s)))) (some (.d (.str b))) (some (.d (.str c))))).bind outV = _
      rw [tf_r]
      rfl
    unfold m_law_told
    dsimp only
    rw [hx, if_pos rfl]
    exact hm
end
open TL (tl spl par pre split_spl kind_ok partition_par par_hit par_miss spl_last1 spl_part1 par_part1 ext_tl tl_append map_tl_inj tl_mk mk_tl)
theorem len_tl' (a : Str) : (tl a).length = a.length := Array.length_toList
theorem len_app (a c : Str) : (a ++ c).length = a.length + c.length := by
  rw [← len_tl', tl_append, List.length_append, len_tl', len_tl']
theorem shp_str {p : Str} (h : PyData.strOk p = true) : SeqAt.shaped (.str p) = true := by
  unfold SeqAt.shaped
  simp [PyData.canLay0, PyData.depth, h]
def hd9 : List PyData := (List.range 9).map fun j => .str (ts (2 + j) ++ ":")
theorem hd9_sh : SeqAt.shaped (.list hd9) = true := by decide +kernel
def isHd (p0 : Str) : Bool := hd9.any fun z => PyData.eqv z (.str p0)
theorem eqv_str (a c : Str) : PyData.eqv (.str a) (.str c) = decide (a = c) := by
  simp only [PyData.eqv]
  by_cases h : a = c
  · subst h
    simp
  · simp [h]
theorem isHd_iff {p0 : Str} : isHd p0 = true ↔ ∃ s, 2 ≤ s ∧ s ≤ 10 ∧ p0 = ts s ++ ":" := by
  unfold isHd hd9
  rw [List.any_map, List.any_eq_true]
  constructor
  · rintro ⟨j, hj, e⟩
    have hj := List.mem_range.mp hj
    have e : PyData.eqv (.str (ts (2 + j) ++ ":")) (.str p0) = true := e
    rw [eqv_str] at e
    exact ⟨2 + j, by omega, by omega, (of_decide_eq_true e).symm⟩
  · rintro ⟨s, h1, h2, rfl⟩
    refine ⟨s - 2, List.mem_range.mpr (by omega), ?_⟩
    show PyData.eqv (.str (ts (2 + (s - 2)) ++ ":")) (.str (ts s ++ ":")) = true
    rw [show 2 + (s - 2) = s by omega, eqv_str]
    exact decide_eq_true rfl
def tsL (s : Nat) : List PyData := (List.range s).map fun j => .str (ts j)
theorem tsL_sh {s : Nat} (h : s ≤ 10) : SeqAt.shaped (.list (tsL s)) = true := by
  have : ∀ s : Nat, s < 11 → SeqAt.shaped (.list (tsL s)) = true := by decide +kernel
  exact this s (by omega)
theorem in_tsL {s : Nat} {p : Str} (h : s ≤ 10) : ((tsL s).any fun z => PyData.eqv z (.str p)) = (nwV 0 s p).isSome := by
  cases hn : nwV 0 s p with
  | none =>
    show _ = false
    rw [List.any_eq_false]
    intro x hx
    obtain ⟨j, hj, rfl⟩ := List.mem_map.mp hx
    have hj := List.mem_range.mp hj
    rw [eqv_str, decide_eq_false (nwV_none hn j (by omega) (by omega))]
    decide
  | some k =>
    obtain ⟨_, h2, e⟩ := nwV_some hn
    show _ = true
    rw [List.any_eq_true]
    exact ⟨.str (ts k), List.mem_map.mpr ⟨k, List.mem_range.mpr (by omega), rfl⟩, by rw [eqv_str, e]; exact decide_eq_true rfl⟩
theorem cut_hd {s : Nat} (h : s ≤ 10) : cutS (ts s ++ ":") none (some (-1)) = ts s := by
  have : ∀ s : Nat, s < 11 → cutS (ts s ++ ":") none (some (-1)) = ts s := by decide +kernel
  exact this s (by omega)
theorem int_ts {s : Nat} (h : s ≤ 10) : pIntS (.str (ts s)) = some (.int (s : Int)) := by
  have h1 := ts_fact s h
  unfold pIntS
  dsimp only
  have hl : (ts s).length ≤ 640 := by
    have : (tl (ts s)).length = (ts s).length := Array.length_toList
    omega
  rw [if_pos hl, h1.2.2.2.2]
  rfl
abbrev D58 (w : Str) (a1 a2 a3 : Option W) : Env := [some (.d (.str w)), a1, a2, a3, none, none]
def du1 : DenS := sSet 1 (dTx pSplit (dV 0) (dC (.str " ")))
def duT : DenB := t2 pNinD (d2 pIx (dV 1) (dC (.int 0))) (dLc (.nm 2) [2] (iR2 (dC (.int 2)) (dC (.int 11))) (d2 pAdd (d1 pStr (dV 2)) (dC (.str ":"))))
def du2 : DenS := sSet 2 (d1 pIntS (dSlS (d2 pIx (dV 1) (dC (.int 0))) oN (oS (d1 pNeg (dC (.int 1))))))
def duA : DenB := tNot (tTr (d1 pAll (dLc (.nm 4) [4] (iS (dSl (dV 1) (oS (dC (.int 1))) oN)) (d2 (bD pInD) (dV 4) (dLc (.nm 5) [5] (iR1 (dV 2)) (d1 pStr (dV 5)))))))
def du3 : DenS := sSet 3 (d1 pTup (dLc (.nm 4) [4] (iS (dSl (dV 1) (oS (dC (.int 1))) oN)) (d1 pIntS (dV 4))))
def duR : DenS := sRet (dIf (tAnd (tCh (fun i j => decide (i < j)) (fun i j => decide (i < j)) (dC (.int 0)) (d1 pLen (dV 3)) (dV 2)) (tTr (dCall m_law_climbs (aC (aV 3) a0)))) (dT (lC (dV 2) (lC (dV 3) l0))) (dL (lC (dV 0) l0)))
def duW : DenS := sRet (dL (lC (dV 0) l0))
theorem due_eq {w : Str} : m_law_due [.d (.str w)] = (sC du1 (sC (sIf duT duW s0) (sC du2 (sC (sIf duA duW s0) (sC du3 duR)))) (D58 w none none none)).bind outV := rfl
section
variable {w p0 : Str} {ps : List Str} {s : Nat}
theorem du_1 (hw : w.length ≤ 1000) (h : Txt.split w " " = p0 :: ps) : du1 (D58 w none none none) = .ret (.nx (D58 w (some (.d (.list (.str p0 :: ps.map .str)))) none none)) := by
  have hp : pSplit w (.str " ") = some (.list (.str p0 :: ps.map .str)) := by
    unfold pSplit
    dsimp only
    rw [if_pos ⟨by decide +kernel, by omega⟩, h]
    rfl
  simp only [du1, D58, dTx, Nat.reduceSub, Nat.reduceAdd, reduceIte, Tree.bind, liftO, dIdx, sAsgL, sPar4, dV, dC, d1, d2, t1, t2, l0, lC, dL, dT, aV, aE, a0, aC, dCall, dCallK, dIf, tTr, tV, truth, asB, tNot, tAnd, tOr, dAnd, dOr, sSet, sAsg, sPar, sRet, s0, sC, sIf, sX, sOwn, sApp, sFrz, frzE, sFor, outV, fnF, lenIs, ent, small, few, putE, putsE, wipeE, it_l, it_t, iS, iR1, iR2, wEn, wZ2, wZ3, dLc, dLf, dSl, oN, oS, pCut, pSub, cI, bD, pIx, pList, pTup, pLen, pNot, qIsN, qNotN, pIsN, pNotN, List.getElem?_cons_succ, List.getElem?_cons_zero, List.set_cons_succ, List.set_cons_zero, List.length_cons, List.length_nil, List.map_cons, List.map_nil, List.foldr_cons, List.foldr_nil, List.replicate_succ, List.replicate_zero, List.cons_append, List.nil_append, sOPar, sOOPar, dOIx, sNest, sCallP, dOLen, fnP, pC, pFrz, dPr, nApp, nIf, nEnd, sN0, sN1, lendE, frzW, sSetK, dGet, dZipD, dPairD, pMax2, sDD, sND, tNeN, sLock, lockE, odcE, tdE, dttE, tC, tLock, tRet, dGetO, dIdxO, tNinD, sPutO, tDen, sUpd, sCpT, iDtt, dSrtD, sParDt, sParDt3, tCall2, fnT, sNewD, isNd, hp]
theorem du_t (hk : PyData.strOk p0 = true) {d : List PyData} : duT (D58 w (some (.d (.list (.str p0 :: d)))) none none) = .ret (!isHd p0) := by
  have r : rg2 (.int 2) (.int 11) = some (numsF 2 9) := by
    show (if -100000 ≤ (2 : Int) ∧ (2 : Int) ≤ 100000 ∧ -100000 ≤ (11 : Int) ∧ (11 : Int) ≤ 100000 then some (numsF 2 ((11 : Int) - 2).toNat) else none) = _
    rw [if_pos (by decide)]
    rfl
  have z0 : atI (PyData.str p0 :: d) 0 = some (.str p0) := atI_nat (k := 0) rfl
  have hn : pNinD (.str p0) (.list hd9) = some (!isHd p0) := by
    unfold pNinD
    dsimp only
    rw [if_pos ⟨shp_str hk, hd9_sh⟩]
    rfl
  have hl : (numsF 2 9).length = 9 := by simp [numsF]
  simp only [duT, D58, Nat.reduceSub, Nat.reduceAdd, Nat.reduceLeDiff, reduceIte, Tree.bind, liftO, dIdx, sAsgL, sPar4, dV, dC, d1, d2, t1, t2, l0, lC, dL, dT, aV, aE, a0, aC, dCall, dCallK, dIf, tTr, tV, truth, asB, tNot, tAnd, tOr, dAnd, dOr, sSet, sAsg, sPar, sRet, s0, sC, sIf, sX, sOwn, sApp, sFrz, frzE, sFor, outV, fnF, lenIs, ent, small, few, putE, putsE, wipeE, it_l, it_t, iS, iR1, iR2, wEn, wZ2, wZ3, dLc, dLf, dSl, oN, oS, pCut, pSub, cI, bD, pIx, pList, pTup, pLen, pNot, qIsN, qNotN, pIsN, pNotN, List.getElem?_cons_succ, List.getElem?_cons_zero, List.set_cons_succ, List.set_cons_zero, List.length_cons, List.length_nil, List.map_cons, List.map_nil, List.foldr_cons, List.foldr_nil, List.replicate_succ, List.replicate_zero, List.cons_append, List.nil_append, sOPar, sOOPar, dOIx, sNest, sCallP, dOLen, fnP, pC, pFrz, dPr, nApp, nIf, nEnd, sN0, sN1, lendE, frzW, sSetK, dGet, dZipD, dPairD, pMax2, sDD, sND, tNeN, sLock, lockE, odcE, tdE, dttE, tC, tLock, tRet, dGetO, dIdxO, tNinD, sPutO, tDen, sUpd, sCpT, iDtt, dSrtD, sParDt, sParDt3, tCall2, fnT, sNewD, isNd, z0, r, hl]
  rw [show mapT _ (numsF 2 9) = .ret hd9 from by
    unfold numsF hd9
    rw [mapT_map]
    exact mapT_ret fun j hj => by
      have hj := List.mem_range.mp hj
      have e1 : pStr (.int (2 + (j : Int))) = some (.str (ts (2 + j))) := by
        rw [show (2 : Int) + (j : Int) = ((2 + j : Nat) : Int) by omega]
        exact pStr_ts (by omega)
      have e2 : pAdd (.str (ts (2 + j))) (.str ":") = some (.str (ts (2 + j) ++ ":")) := if_pos (by
        have h1 := (ts_fact (2 + j) (by omega)).2.2.1
        have : (tl (ts (2 + j))).length = (ts (2 + j)).length := Array.length_toList
        have h2 : (":" : Str).length = 1 := by decide +kernel
        omega)
      simp only [Function.comp, Nat.reduceSub, Nat.reduceAdd, reduceIte, Tree.bind, liftO, dIdx, sAsgL, sPar4, dV, dC, d1, d2, t1, t2, l0, lC, dL, dT, aV, aE, a0, aC, dCall, dCallK, dIf, tTr, tV, truth, asB, tNot, tAnd, tOr, dAnd, dOr, sSet, sAsg, sPar, sRet, s0, sC, sIf, sX, sOwn, sApp, sFrz, frzE, sFor, outV, fnF, lenIs, ent, small, few, putE, putsE, wipeE, it_l, it_t, iS, iR1, iR2, wEn, wZ2, wZ3, dLc, dLf, dSl, oN, oS, pCut, pSub, cI, bD, pIx, pList, pTup, pLen, pNot, qIsN, qNotN, pIsN, pNotN, List.getElem?_cons_succ, List.getElem?_cons_zero, List.set_cons_succ, List.set_cons_zero, List.length_cons, List.length_nil, List.map_cons, List.map_nil, List.foldr_cons, List.foldr_nil, List.replicate_succ, List.replicate_zero, List.cons_append, List.nil_append, sOPar, sOOPar, dOIx, sNest, sCallP, dOLen, fnP, pC, pFrz, dPr, nApp, nIf, nEnd, sN0, sN1, lendE, frzW, sSetK, dGet, dZipD, dPairD, pMax2, sDD, sND, tNeN, sLock, lockE, odcE, tdE, dttE, tC, tLock, tRet, dGetO, dIdxO, tNinD, sPutO, tDen, sUpd, sCpT, iDtt, dSrtD, sParDt, sParDt3, tCall2, fnT, sNewD, isNd, e1, e2]]
  simp only [Tree.bind, liftO, hn]
theorem du_w {a1 a2 a3 : Option W} : duW (D58 w a1 a2 a3) = .ret (.rt (.list [.str w])) := by
  simp only [duW, D58, Nat.reduceSub, Nat.reduceAdd, Nat.reduceLeDiff, reduceIte, Tree.bind, liftO, dIdx, sAsgL, sPar4, dV, dC, d1, d2, t1, t2, l0, lC, dL, dT, aV, aE, a0, aC, dCall, dCallK, dIf, tTr, tV, truth, asB, tNot, tAnd, tOr, dAnd, dOr, sSet, sAsg, sPar, sRet, s0, sC, sIf, sX, sOwn, sApp, sFrz, frzE, sFor, outV, fnF, lenIs, ent, small, few, putE, putsE, wipeE, it_l, it_t, iS, iR1, iR2, wEn, wZ2, wZ3, dLc, dLf, dSl, oN, oS, pCut, pSub, cI, bD, pIx, pList, pTup, pLen, pNot, qIsN, qNotN, pIsN, pNotN, List.getElem?_cons_succ, List.getElem?_cons_zero, List.set_cons_succ, List.set_cons_zero, List.length_cons, List.length_nil, List.map_cons, List.map_nil, List.foldr_cons, List.foldr_nil, List.replicate_succ, List.replicate_zero, List.cons_append, List.nil_append, sOPar, sOOPar, dOIx, sNest, sCallP, dOLen, fnP, pC, pFrz, dPr, nApp, nIf, nEnd, sN0, sN1, lendE, frzW, sSetK, dGet, dZipD, dPairD, pMax2, sDD, sND, tNeN, sLock, lockE, odcE, tdE, dttE, tC, tLock, tRet, dGetO, dIdxO, tNinD, sPutO, tDen, sUpd, sCpT, iDtt, dSrtD, sParDt, sParDt3, tCall2, fnT, sNewD, isNd]
theorem du_2 (hs : s ≤ 10) {d : List PyData} : du2 (D58 w (some (.d (.list (.str (ts s ++ ":") :: d)))) none none) = .ret (.nx (D58 w (some (.d (.list (.str (ts s ++ ":") :: d)))) (some (.d (.int (s : Int)))) none)) := by
  have z0 : atI (PyData.str (ts s ++ ":") :: d) 0 = some (.str (ts s ++ ":")) := atI_nat (k := 0) rfl
  have hc : pCutS (.str (ts s ++ ":")) none (some (-1)) = some (.str (ts s)) := by
    unfold pCutS
    dsimp only
    rw [if_pos (by
      have h1 := (ts_fact s hs).2.2.1
      have : (tl (ts s)).length = (ts s).length := Array.length_toList
      have h2 : (":" : Str).length = 1 := by decide +kernel
      rw [len_app]
      omega), cut_hd hs]
  simp only [du2, D58, dSlS, pNeg, Nat.reduceSub, Nat.reduceAdd, Nat.reduceLeDiff, reduceIte, Tree.bind, liftO, dIdx, sAsgL, sPar4, dV, dC, d1, d2, t1, t2, l0, lC, dL, dT, aV, aE, a0, aC, dCall, dCallK, dIf, tTr, tV, truth, asB, tNot, tAnd, tOr, dAnd, dOr, sSet, sAsg, sPar, sRet, s0, sC, sIf, sX, sOwn, sApp, sFrz, frzE, sFor, outV, fnF, lenIs, ent, small, few, putE, putsE, wipeE, it_l, it_t, iS, iR1, iR2, wEn, wZ2, wZ3, dLc, dLf, dSl, oN, oS, pCut, pSub, cI, bD, pIx, pList, pTup, pLen, pNot, qIsN, qNotN, pIsN, pNotN, List.getElem?_cons_succ, List.getElem?_cons_zero, List.set_cons_succ, List.set_cons_zero, List.length_cons, List.length_nil, List.map_cons, List.map_nil, List.foldr_cons, List.foldr_nil, List.replicate_succ, List.replicate_zero, List.cons_append, List.nil_append, sOPar, sOOPar, dOIx, sNest, sCallP, dOLen, fnP, pC, pFrz, dPr, nApp, nIf, nEnd, sN0, sN1, lendE, frzW, sSetK, dGet, dZipD, dPairD, pMax2, sDD, sND, tNeN, sLock, lockE, odcE, tdE, dttE, tC, tLock, tRet, dGetO, dIdxO, tNinD, sPutO, tDen, sUpd, sCpT, iDtt, dSrtD, sParDt, sParDt3, tCall2, fnT, sNewD, isNd, z0, hc, int_ts hs]
theorem cut_1 (x : PyData) (d : List PyData) : pCut (.list (x :: d)) (some 1) none = some (.list d) := by
  unfold pCut
  dsimp only
  rw [cutD_1]
  rfl
theorem du_a (hs : s ≤ 10) (hk : ∀ p ∈ ps, PyData.strOk p = true) (hl : ps.length ≤ 1000) : duA (D58 w (some (.d (.list (.str p0 :: ps.map .str)))) (some (.d (.int (s : Int)))) none) = .ret (!(ps.all fun p => (nwV 0 s p).isSome)) := by
  have hc := cut_1 (.str p0) (ps.map .str)
  have r : rg1 (.int (s : Int)) = some (nums s) := rg1_nat (by omega)
  unfold duA tNot tTr d1 dLc iS dSl
  simp only [D58, Nat.reduceSub, Nat.reduceAdd, Nat.reduceLeDiff, reduceIte, Tree.bind, liftO, dV, dC, oS, oN, List.getElem?_cons_succ, List.getElem?_cons_zero, hc, items, few, List.length_map, if_pos (show ps.length ≤ 50000 by omega)]
  rw [mapT_map, mapT_ret (g := fun p => PyData.bool (nwV 0 s p).isSome) fun p hp => by
    have hi : pInD (.str p) (.list (tsL s)) = some (nwV 0 s p).isSome := by
      unfold pInD
      dsimp only
      rw [if_pos ⟨shp_str (hk p hp), tsL_sh hs⟩, in_tsL hs]
    simp only [Nat.reduceSub, Nat.reduceAdd, Nat.reduceLeDiff, reduceIte, Tree.bind, liftO, dIdx, sAsgL, sPar4, dV, dC, d1, d2, t1, t2, l0, lC, dL, dT, aV, aE, a0, aC, dCall, dCallK, dIf, tTr, tV, truth, asB, tNot, tAnd, tOr, dAnd, dOr, sSet, sAsg, sPar, sRet, s0, sC, sIf, sX, sOwn, sApp, sFrz, frzE, sFor, outV, fnF, lenIs, ent, small, few, putE, putsE, wipeE, it_l, it_t, iS, iR1, iR2, wEn, wZ2, wZ3, dLc, dLf, dSl, oN, oS, pCut, pSub, cI, bD, pIx, pList, pTup, pLen, pNot, qIsN, qNotN, pIsN, pNotN, List.getElem?_cons_succ, List.getElem?_cons_zero, List.set_cons_succ, List.set_cons_zero, List.length_cons, List.length_nil, List.map_cons, List.map_nil, List.foldr_cons, List.foldr_nil, List.replicate_succ, List.replicate_zero, List.cons_append, List.nil_append, sOPar, sOOPar, dOIx, sNest, sCallP, dOLen, fnP, pC, pFrz, dPr, nApp, nIf, nEnd, sN0, sN1, lendE, frzW, sSetK, dGet, dZipD, dPairD, pMax2, sDD, sND, tNeN, sLock, lockE, odcE, tdE, dttE, tC, tLock, tRet, dGetO, dIdxO, tNinD, sPutO, tDen, sUpd, sCpT, iDtt, dSrtD, sParDt, sParDt3, tCall2, fnT, sNewD, isNd, r, nums_len, if_pos (show s ≤ 50000 by omega)]
    rw [mapT_R (g := fun j => .str (ts j)) fun j hj => by simp only [Nat.reduceSub, Nat.reduceAdd, reduceIte, Tree.bind, liftO, dIdx, sAsgL, sPar4, dV, dC, d1, d2, t1, t2, l0, lC, dL, dT, aV, aE, a0, aC, dCall, dCallK, dIf, tTr, tV, truth, asB, tNot, tAnd, tOr, dAnd, dOr, sSet, sAsg, sPar, sRet, s0, sC, sIf, sX, sOwn, sApp, sFrz, frzE, sFor, outV, fnF, lenIs, ent, small, few, putE, putsE, wipeE, it_l, it_t, iS, iR1, iR2, wEn, wZ2, wZ3, dLc, dLf, dSl, oN, oS, pCut, pSub, cI, bD, pIx, pList, pTup, pLen, pNot, qIsN, qNotN, pIsN, pNotN, List.getElem?_cons_succ, List.getElem?_cons_zero, List.set_cons_succ, List.set_cons_zero, List.length_cons, List.length_nil, List.map_cons, List.map_nil, List.foldr_cons, List.foldr_nil, List.replicate_succ, List.replicate_zero, List.cons_append, List.nil_append, sOPar, sOOPar, dOIx, sNest, sCallP, dOLen, fnP, pC, pFrz, dPr, nApp, nIf, nEnd, sN0, sN1, lendE, frzW, sSetK, dGet, dZipD, dPairD, pMax2, sDD, sND, tNeN, sLock, lockE, odcE, tdE, dttE, tC, tLock, tRet, dGetO, dIdxO, tNinD, sPutO, tDen, sUpd, sCpT, iDtt, dSrtD, sParDt, sParDt3, tCall2, fnT, sNewD, isNd, pStr_ts (show j ≤ 1000 by omega)]]
    simp only [Tree.bind, liftO, bD]
    rw [show (List.range s).map (fun j => PyData.str (ts j)) = tsL s from rfl, hi]]
  simp only [Tree.bind, liftO, pAll_map, truth]
end
open TL (tl spl par pre split_spl kind_ok partition_par par_hit par_miss spl_last1 spl_part1 par_part1 ext_tl tl_append map_tl_inj tl_mk mk_tl)
def ksL (s : Nat) (ps : List Str) : List Int := ps.map fun p => (((nwV 0 s p).getD 0 : Nat) : Int)
section
variable {w p0 : Str} {ps : List Str} {s : Nat}
theorem ks_eq (h : (ps.all fun p => (nwV 0 s p).isSome) = true) : (ps.map fun q => optI (nwV 0 s q)) = iL (ksL s ps) := by
  unfold ksL iL
  rw [List.map_map]
  refine List.map_congr_left fun q hq => ?_
  have := List.all_eq_true.mp h q hq
  cases hn : nwV 0 s q with
  | none =>
    rw [hn] at this
    cases this
  | some k =>
    simp only [Function.comp, hn, optI, Option.getD_some]
theorem ks_rng (h : (ps.all fun p => (nwV 0 s p).isSome) = true) : ∀ i ∈ ksL s ps, 0 ≤ i ∧ i < (s : Int) := fun i hi => by
  unfold ksL at hi
  obtain ⟨q, hq, rfl⟩ := List.mem_map.mp hi
  have := List.all_eq_true.mp h q hq
  cases hn : nwV 0 s q with
  | none =>
    rw [hn] at this
    cases this
  | some k =>
    have := nwV_some hn
    simp only [Option.getD_some]
    omega
theorem ks_len : (ksL s ps).length = ps.length := List.length_map ..
theorem tb_all (h : (ps.all fun p => (nwV 0 s p).isSome) = true) : tbB s (.tuple (ps.map fun q => optI (nwV 0 s q))) = (ascB (ksL s ps) && (decide (1 ≤ ps.length) && decide (ps.length < s))) := by
  rw [ks_eq h]
  unfold tbB
  dsimp only
  rw [ch_all (ks_rng h), Bool.true_and, toI_iL, iL_len, ks_len]
theorem tb_not (h : (ps.all fun p => (nwV 0 s p).isSome) = false) : tbB s (.tuple (ps.map fun q => optI (nwV 0 s q))) = false := by
  have : ((ps.map fun q => optI (nwV 0 s q)).all (chB s)) = false := by
    rw [List.all_map, List.all_eq_false]
    obtain ⟨q, hq, e⟩ := List.all_eq_false.mp h
    refine ⟨q, hq, ?_⟩
    cases hn : nwV 0 s q with
    | none => simp [Function.comp, hn, optI, chB]
    | some k =>
      rw [hn] at e
      exact absurd rfl e
  unfold tbB
  dsimp only
  rw [this]
  rfl
theorem du_3 (hs : s ≤ 10) (hl : ps.length ≤ 1000) (h : (ps.all fun p => (nwV 0 s p).isSome) = true) : du3 (D58 w (some (.d (.list (.str p0 :: ps.map .str)))) (some (.d (.int (s : Int)))) none) = .ret (.nx (D58 w (some (.d (.list (.str p0 :: ps.map .str)))) (some (.d (.int (s : Int)))) (some (.d (.tuple (iL (ksL s ps))))))) := by
  have hc := cut_1 (.str p0) (ps.map .str)
  unfold du3 sSet d1 dLc iS dSl
  simp only [D58, Nat.reduceSub, Nat.reduceAdd, Nat.reduceLeDiff, reduceIte, Tree.bind, liftO, dV, dC, oS, oN, List.getElem?_cons_succ, List.getElem?_cons_zero, hc, items, few, List.length_map, if_pos (show ps.length ≤ 50000 by omega)]
  rw [mapT_map, mapT_ret (g := fun p => PyData.int (((nwV 0 s p).getD 0 : Nat) : Int)) fun p hp => by
    have := List.all_eq_true.mp h p hp
    cases hn : nwV 0 s p with
    | none =>
      rw [hn] at this
      cases this
    | some k =>
      obtain ⟨_, h2, e⟩ := nwV_some hn
      have hi : pIntS (.str p) = some (.int (k : Int)) := by
        rw [← e]
        exact int_ts (by omega)
      simp only [Nat.reduceSub, Nat.reduceAdd, Nat.reduceLeDiff, reduceIte, Tree.bind, liftO, dIdx, sAsgL, sPar4, dV, dC, d1, d2, t1, t2, l0, lC, dL, dT, aV, aE, a0, aC, dCall, dCallK, dIf, tTr, tV, truth, asB, tNot, tAnd, tOr, dAnd, dOr, sSet, sAsg, sPar, sRet, s0, sC, sIf, sX, sOwn, sApp, sFrz, frzE, sFor, outV, fnF, lenIs, ent, small, few, putE, putsE, wipeE, it_l, it_t, iS, iR1, iR2, wEn, wZ2, wZ3, dLc, dLf, dSl, oN, oS, pCut, pSub, cI, bD, pIx, pList, pTup, pLen, pNot, qIsN, qNotN, pIsN, pNotN, List.getElem?_cons_succ, List.getElem?_cons_zero, List.set_cons_succ, List.set_cons_zero, List.length_cons, List.length_nil, List.map_cons, List.map_nil, List.foldr_cons, List.foldr_nil, List.replicate_succ, List.replicate_zero, List.cons_append, List.nil_append, sOPar, sOOPar, dOIx, sNest, sCallP, dOLen, fnP, pC, pFrz, dPr, nApp, nIf, nEnd, sN0, sN1, lendE, frzW, sSetK, dGet, dZipD, dPairD, pMax2, sDD, sND, tNeN, sLock, lockE, odcE, tdE, dttE, tC, tLock, tRet, dGetO, dIdxO, tNinD, sPutO, tDen, sUpd, sCpT, iDtt, dSrtD, sParDt, sParDt3, tCall2, fnT, sNewD, isNd, hi, Option.getD_some]]
  simp only [Tree.bind, liftO, pTup, items, List.set_cons_succ, List.set_cons_zero]
  unfold ksL iL
  rw [List.map_map]
  rfl
theorem du_r {ks : List Int} {x1 : Option W} (hl : ks.length ≤ 1000) : duR (D58 w x1 (some (.d (.int (s : Int)))) (some (.d (.tuple (iL ks))))) = .ret (.rt (if (decide (0 < ks.length) && decide (ks.length < s) && ascB ks) = true then .tuple [.int (s : Int), .tuple (iL ks)] else .list [.str w])) := by
  have q1 : decide ((0 : Int) < (ks.length : Int)) = decide (0 < ks.length) := decide_eq_decide.mpr ⟨fun h => by omega, fun h => by omega⟩
  have q2 : decide ((ks.length : Int) < (s : Int)) = decide (ks.length < s) := decide_eq_decide.mpr ⟨fun h => by omega, fun h => by omega⟩
  have hc := ev_climbs (is := ks) (by omega)
  simp only [duR, D58, tCh, Nat.reduceSub, Nat.reduceAdd, Nat.reduceLeDiff, reduceIte, Tree.bind, liftO, dIdx, sAsgL, sPar4, dV, dC, d1, d2, t1, t2, l0, lC, dL, dT, aV, aE, a0, aC, dCall, dCallK, dIf, tTr, tV, truth, asB, tNot, tAnd, tOr, dAnd, dOr, sSet, sAsg, sPar, sRet, s0, sC, sIf, sX, sOwn, sApp, sFrz, frzE, sFor, outV, fnF, lenIs, ent, small, few, putE, putsE, wipeE, it_l, it_t, iS, iR1, iR2, wEn, wZ2, wZ3, dLc, dLf, dSl, oN, oS, pCut, pSub, cI, bD, pIx, pList, pTup, pLen, pNot, qIsN, qNotN, pIsN, pNotN, List.getElem?_cons_succ, List.getElem?_cons_zero, List.set_cons_succ, List.set_cons_zero, List.length_cons, List.length_nil, List.map_cons, List.map_nil, List.foldr_cons, List.foldr_nil, List.replicate_succ, List.replicate_zero, List.cons_append, List.nil_append, sOPar, sOOPar, dOIx, sNest, sCallP, dOLen, fnP, pC, pFrz, dPr, nApp, nIf, nEnd, sN0, sN1, lendE, frzW, sSetK, dGet, dZipD, dPairD, pMax2, sDD, sND, tNeN, sLock, lockE, odcE, tdE, dttE, tC, tLock, tRet, dGetO, dIdxO, tNinD, sPutO, tDen, sUpd, sCpT, iDtt, dSrtD, sParDt, sParDt3, tCall2, fnT, sNewD, isNd, iL_len, q1, q2, hc]
  cases decide (0 < ks.length) <;> cases decide (ks.length < s) <;> cases ascB ks <;> rfl
theorem due_no (hw : w.length ≤ 1000) (h : Txt.split w " " = p0 :: ps) (hk : PyData.strOk p0 = true) (hh : isHd p0 = false) : m_law_due [.d (.str w)] = .ret (.list [.str w]) := by
  rw [due_eq]
  unfold sC sIf
  rw [du_1 hw h]
  dsimp only [Tree.bind]
  rw [du_t hk, hh]
  show (((duW _).bind _).bind outV) = _
  rw [du_w]
  rfl
theorem due_at (hw : w.length ≤ 1000) (h : Txt.split w " " = (ts s ++ ":") :: ps) (hk : PyData.strOk (ts s ++ ":") = true) (hkk : ∀ p ∈ ps, PyData.strOk p = true) (h2 : 2 ≤ s) (hs : s ≤ 10) (hl : ps.length ≤ 1000) : m_law_due [.d (.str w)] = .ret (if tbB s (.tuple (ps.map fun q => optI (nwV 0 s q))) = true then .tuple [.int (s : Int), .tuple (ps.map fun q => optI (nwV 0 s q))] else .list [.str w]) := by
  have hh : isHd (ts s ++ ":") = true := isHd_iff.mpr ⟨s, h2, hs, rfl⟩
  rw [due_eq]
  unfold sC sIf
  rw [du_1 hw h]
  dsimp only [Tree.bind]
  rw [du_t hk, hh]
  dsimp only [Tree.bind, Bool.not_true, s0]
  show ((du2 _).bind _).bind outV = _
  rw [du_2 hs]
  dsimp only [Tree.bind]
  rw [du_a hs hkk hl]
  cases ha : (ps.all fun p => (nwV 0 s p).isSome) with
  | false =>
    rw [tb_not ha, if_neg (by decide)]
    show (((duW _).bind _).bind outV) = _
    rw [du_w]
    rfl
  | true =>
    show ((du3 _).bind _).bind outV = _
    rw [du_3 hs hl ha]
    show (duR _).bind outV = _
    rw [du_r (by rw [ks_len]; exact hl), tb_all ha, ks_eq ha, ks_len]
    have e1 : decide (0 < ps.length) = decide (1 ≤ ps.length) := rfl
    rw [e1]
    cases decide (1 ≤ ps.length) <;> cases decide (ps.length < s) <;> cases ascB (ksL s ps) <;> rfl
theorem spl_sub : ∀ (n : Nat) (l : List Nat), l.length ≤ n → ∀ q ∈ spl [32] 0 [] l, ∀ c ∈ q, c ∈ l
  | 0, l, h, q, hq, c, hc => by
    have : l = [] := List.length_eq_zero_iff.mp (by omega)
    subst this
    have hq : q ∈ [([] : List Nat)] := hq
    rw [List.mem_singleton.mp hq] at hc
    cases hc
  | n + 1, l, h, q, hq, c, hc => by
    rcases spl_cases l with ⟨_, e⟩ | ⟨p, r, _, e1, e2⟩
    · rw [e] at hq
      rw [List.mem_singleton.mp hq] at hc
      exact hc
    · rw [e2] at hq
      rw [e1]
      rcases List.mem_cons.mp hq with rfl | hq
      · exact List.mem_append_left _ hc
      · refine List.mem_append_right _ (List.mem_cons_of_mem _ (spl_sub n r ?_ q hq c hc))
        rw [e1, List.length_append, List.length_cons] at h
        omega
theorem strOk_tl {x : Str} : PyData.strOk x = true ↔ ∀ c ∈ tl x, c < 0x110000 := by
  unfold PyData.strOk tl
  rw [← Array.all_toList, List.all_eq_true]
  exact ⟨fun h c hc => of_decide_eq_true (h c hc), fun h c hc => decide_eq_true (h c hc)⟩
theorem split_ok (hw : PyData.strOk w = true) : ∀ q ∈ Txt.split w " ", PyData.strOk q = true := fun q hq => by
  refine strOk_tl.mpr fun c hc => strOk_tl.mp hw c ?_
  have : tl q ∈ (Txt.split w " ").map tl := List.mem_map.mpr ⟨q, hq, rfl⟩
  rw [split_sp] at this
  exact spl_sub _ _ (Nat.le_refl _) _ this c hc
theorem same_ev (hw : w.length ≤ 900) (ho : PyData.strOk w = true) : ∃ d, m_law_told [.d (.str w)] = .ret d ∧ m_law_due [.d (.str w)] = .ret d ∧ (d = .list [.str w] ∨ ∃ s R, s ≤ 10 ∧ R.length ≤ 1000 ∧ d = .tuple [.int ((s : Nat) : Int), crV s R]) := by
  have hsp := split_sp w
  have hlen := split_len w
  by_cases hA : ∃ s r, 2 ≤ s ∧ s ≤ 10 ∧ tl w = tl (ts s) ++ 58 :: 32 :: r
  · obtain ⟨s, r, h2, hs, hl⟩ := hA
    obtain ⟨f1, f2, f3, f4, _⟩ := ts_fact s hs
    have hp : Txt.partition w ": " = (ts s, (": " : Str), (⟨r.toArray⟩ : Str)) := by
      rw [part_cs, hl]
      have := par_part1 (S := [32]) (rest := r) (acc := []) f2
      rw [show tl (ts s) ++ 58 :: 32 :: r = tl (ts s) ++ (58 :: [32] ++ r) from rfl, this]
      dsimp only
      rw [List.nil_append, mk_tl]
    have hR : (⟨r.toArray⟩ : Str).length ≤ 1000 := by
      have h1 := len_tl' w
      rw [hl, List.length_append, List.length_cons, List.length_cons] at h1
      show r.toArray.size ≤ 1000
      rw [List.size_toArray]
      omega
    have hs1 : Txt.split w " " = (ts s ++ ":") :: Txt.split ⟨r.toArray⟩ " " := by
      refine map_tl_inj ?_
      have h58 : (32 : Nat) ∉ tl (ts s) ++ [58] := by
        rw [List.mem_append]
        rintro (h | h)
        · exact f1 h
        · simp at h
      have := spl_part1 (S := []) (rest := r) (acc := []) h58
      rw [hsp, hl, List.map_cons, tl_append, tl_col, split_sp, tl_mk, show tl (ts s) ++ 58 :: 32 :: r = (tl (ts s) ++ [58]) ++ (32 :: [] ++ r) by simp, this]
      rfl
    have hk := split_ok ho
    rw [hs1] at hk hlen
    refine ⟨comV w s ⟨r.toArray⟩, told_at (by omega) hp h2 hs hR, ?_, ?_⟩
    · rw [due_at (by omega) hs1 (hk _ (List.mem_cons_self ..)) (fun p hp => hk p (List.mem_cons_of_mem _ hp)) h2 hs (by rw [List.length_cons] at hlen; omega)]
      rfl
    · unfold comV
      split
      · exact .inr ⟨s, _, hs, hR, rfl⟩
      · exact .inl rfl
  · refine ⟨.list [.str w], ?_, ?_, .inl rfl⟩
    · -- told
      cases hpar : par [58, 32] [] (tl w) with
      | some ab =>
        obtain ⟨a, c⟩ := ab
        have e := par_some' hpar
        rw [List.nil_append] at e
        have hp : Txt.partition w ": " = ((⟨a.toArray⟩ : Str), (": " : Str), (⟨c.toArray⟩ : Str)) := by rw [part_cs, hpar]
        refine told_no (by omega) hp ?_
        cases hn : nwV 2 9 ⟨a.toArray⟩ with
        | none => rfl
        | some s =>
          obtain ⟨h1, h2, h3⟩ := nwV_some hn
          refine absurd ⟨s, c, h1, by omega, ?_⟩ hA
          rw [e, h3, tl_mk]
      | none =>
        have hp : Txt.partition w ": " = (w, Str.empty, Str.empty) := by rw [part_cs, hpar]
        cases hn : nwV 2 9 w with
        | none => exact told_no (by omega) hp hn
        | some s =>
          obtain ⟨h1, h2, h3⟩ := nwV_some hn
          have hp' : Txt.partition w ": " = (ts s, Str.empty, Str.empty) := by rw [hp, h3]
          rw [told_at (by omega) hp' h1 (by omega) (by decide)]
          have e1 : Txt.split Str.empty " " = [Str.empty] := by decide +kernel
          have e2 : nwV 0 s Str.empty = none := by
            cases hz : nwV 0 s Str.empty with
            | none => rfl
            | some k =>
              obtain ⟨_, h5, h6⟩ := nwV_some hz
              have h7 := (ts_fact k (by omega)).2.2.2.1
              rw [h6] at h7
              exact absurd h7 (by decide)
          unfold comV crV
          rw [e1, List.map_cons, List.map_nil, e2]
          rfl
    · -- due
      rcases spl_cases (tl w) with ⟨hn, e⟩ | ⟨p, r, hn, e1, e2⟩
      · have hs1 : Txt.split w " " = [w] := map_tl_inj (by rw [hsp, e]; rfl)
        cases hh : isHd w with
        | false => exact due_no (by omega) hs1 ho hh
        | true =>
          obtain ⟨s, h2, hs, e⟩ := isHd_iff.mp hh
          have hs2 : Txt.split w " " = (ts s ++ ":") :: [] := by rw [hs1, ← e]
          rw [due_at (by omega) hs2 (by rw [← e]; exact ho) (fun p hp => by cases hp) h2 hs (by simp)]
          rfl
      · have hs1 : Txt.split w " " = ⟨p.toArray⟩ :: Txt.split ⟨r.toArray⟩ " " := map_tl_inj (by rw [hsp, e2, List.map_cons, split_sp])
        refine due_no (by omega) hs1 ?_ ?_
        · have hk := split_ok ho
          rw [hs1] at hk
          exact hk _ (List.mem_cons_self ..)
        · cases hh : isHd ⟨p.toArray⟩ with
          | false => rfl
          | true =>
            obtain ⟨s, h2, hs, e⟩ := isHd_iff.mp hh
            have e3 : p = tl (ts s) ++ [58] := by
              have := congrArg tl e
              rw [tl_append, tl_col, tl_mk] at this
              exact this
            refine absurd ⟨s, r, h2, hs, ?_⟩ hA
            rw [e1, e3]
            simp
end
open TL (tl spl par pre split_spl kind_ok partition_par par_hit par_miss spl_last1 spl_part1 par_part1 ext_tl tl_append map_tl_inj tl_mk mk_tl joinL tl_join join_eq split_join)
def gcL : List Nat := [10, 32, 43, 44, 45, 46, 48, 49, 50, 51, 52, 53, 54, 55, 56, 57, 58, 59, 97]
structure Wk (w : Str) (m : Nat) : Prop where
  len : w.length ≤ m
  ch : ∀ c ∈ tl w, c ∈ gcL
theorem gc_facts : ∀ c ∈ gcL, c < 0x110000 ∧ (Builtin.Str.reprChar 34 c).length ≤ 2 ∧ (Builtin.Str.reprChar 39 c).length ≤ 2 := by decide +kernel
theorem Wk.ok {w : Str} {m : Nat} (h : Wk w m) : PyData.strOk w = true := strOk_tl.mpr fun c hc => (gc_facts c (h.ch c hc)).1
theorem foldl_le {f : Nat → Nat} : ∀ (l : List Nat) (n : Nat), (∀ c ∈ l, f c ≤ 2) → l.foldl (fun n c => n + f c) n ≤ n + 2 * l.length
  | [], n, _ => by simp
  | c :: l, n, h => by
    rw [List.foldl_cons, List.length_cons]
    have h1 := foldl_le l (n + f c) fun d hd => h d (List.mem_cons_of_mem _ hd)
    have h2 := h c (List.mem_cons_self ..)
    omega
theorem Wk.repr {w : Str} {m : Nat} (h : Wk w m) : (reprText w).length ≤ 2 + 2 * m := by
  rw [← reprLen_eq, ← Array.foldl_toList]
  have hq : reprQuote w = 34 ∨ reprQuote w = 39 := by
    unfold reprQuote
    split
    · exact .inl rfl
    · exact .inr rfl
  have h1 := foldl_le (f := fun c => (Builtin.Str.reprChar (reprQuote w) c).length) (tl w) 2 fun c hc => by
    obtain ⟨_, g1, g2⟩ := gc_facts c (h.ch c hc)
    rcases hq with e | e
    · rw [e]; exact g1
    · rw [e]; exact g2
  have h2 := h.len
  have h3 := len_tl' w
  refine Nat.le_trans h1 ?_
  omega
theorem Wk.okR {w : Str} {m : Nat} (h : Wk w m) (hm : m ≤ 29) : okR (.str w) = true := by
  have := h.repr
  simp only [Nx.okR]
  rw [h.ok, decide_eq_true (by omega)]
  rfl
theorem Wk.mono {w : Str} {m k : Nat} (h : Wk w m) (hk : m ≤ k) : Wk w k := ⟨Nat.le_trans h.len hk, h.ch⟩
theorem Wk.app {a c : Str} {m k : Nat} (h : Wk a m) (g : Wk c k) : Wk (a ++ c) (m + k) := ⟨by have := h.len; have := g.len; rw [len_app]; omega, fun x hx => by
  rw [tl_append] at hx
  rcases List.mem_append.mp hx with hx | hx
  · exact h.ch x hx
  · exact g.ch x hx⟩
theorem shwB_mk' {d : PyData} (h1 : isLT d = true) (h2 : okR d = true) (h3 : dpR d ≤ 60) (h4 : wdR d ≤ 16777216) : shwB d = true := by
  unfold shwB
  rw [h1, h2, decide_eq_true h3, decide_eq_true h4]
  rfl
theorem shw_w {w : Str} {m : Nat} (h : Wk w m) (hm : m ≤ 29) : shwB (.list [.str w]) = true := shwB_mk' rfl (by have ho := h.okR hm; simp only [Nx.okR] at ho; simp only [Nx.okR, okRs, ho, Bool.and_true]) (by simp only [dpR, dpRs]; decide) (by simp only [wdR, wdRs]; decide)
theorem shw_ww {w : Str} {m : Nat} (h : Wk w m) (hm : m ≤ 29) : shwB (.list [.str w, .str w]) = true := shwB_mk' rfl (by have ho := h.okR hm; simp only [Nx.okR] at ho; simp only [Nx.okR, okRs, ho, Bool.and_true]) (by simp only [dpR, dpRs]; decide) (by simp only [wdR, wdRs]; decide)
theorem opt_wd (o : Option Nat) : wdR (optI o) = 61 ∧ dpR (optI o) = 0 := by cases o <;> exact ⟨by simp [optI, wdR], by simp [optI, dpR]⟩
theorem cr_wd {s : Nat} : ∀ ps : List Str, wdRs (ps.map fun q => optI (nwV 0 s q)) = 63 * ps.length ∧ dpRs (ps.map fun q => optI (nwV 0 s q)) = 0
  | [] => ⟨by simp [wdRs], by simp [dpRs]⟩
  | p :: ps => by
    obtain ⟨h1, h2⟩ := cr_wd (s := s) ps
    obtain ⟨h3, h4⟩ := opt_wd (nwV 0 s p)
    rw [List.map_cons]
    simp only [wdRs, dpRs, h1, h2, h3, h4, List.length_cons]
    omega
theorem shw_cr {s : Nat} {R : Str} (hs : s ≤ 10) (hR : R.length ≤ 1000) : shwB (.tuple [.int (s : Int), crV s R]) = true := by
  have hz := split_len R
  obtain ⟨h1, h2⟩ := cr_wd (s := s) (Txt.split R " ")
  have hi : okR (.int (s : Int)) = true := by
    simp only [okR]
    exact decide_eq_true (by show s < 10 ^ 60; exact Nat.lt_of_le_of_lt hs (by decide))
  refine shwB_mk' rfl ?_ ?_ ?_
  · simp only [okR, okRs] at hi ⊢
    rw [hi, Bool.true_and]
    have := ok_cr (R := R) hs
    rw [this]
    rfl
  · unfold crV
    simp only [dpR, dpRs, h2]
    decide
  · unfold crV
    simp only [wdR, wdRs, h1]
    omega
theorem same_w {w : Str} {m : Nat} (h : Wk w m) (hm : m ≤ 29) : ∃ d, m_law_told [.d (.str w)] = .ret d ∧ m_law_due [.d (.str w)] = .ret d ∧ shwB d = true := by
  have hl := h.len
  obtain ⟨d, h1, h2, h3⟩ := same_ev (w := w) (by omega) h.ok
  refine ⟨d, h1, h2, ?_⟩
  rcases h3 with rfl | ⟨s, R, hs, hR, rfl⟩
  · exact shw_w h hm
  · exact shw_cr hs hR
def tsI (x : Int) : Str := toString x
theorem tsI_nat (k : Nat) : tsI (k : Int) = ts k := rfl
theorem ts_gc : ∀ s : Nat, s < 11 → (∀ c ∈ tl (ts s), c ∈ gcL) ∧ (s < 10 → (tl (ts s)).length = 1) := by decide +kernel
theorem ts_wk {s : Nat} (h : s ≤ 10) : Wk (ts s) 2 := ⟨by rw [← len_tl']; exact (ts_fact s h).2.2.1, (ts_gc s (by omega)).1⟩
def wdS (n : Nat) (t : List Int) : Str := (ts n ++ ": ") ++ Txt.join " " (t.map tsI)
theorem joinL_le : ∀ {ps : List (List Nat)}, (∀ p ∈ ps, p.length ≤ 1) → (joinL [32] ps).length ≤ 2 * ps.length
  | [], _ => by simp [joinL]
  | [p], h => by
    have := h p (List.mem_cons_self ..)
    simp [joinL]
    omega
  | p :: q :: r, h => by
    have h1 := h p (List.mem_cons_self ..)
    have h2 := joinL_le (ps := q :: r) fun x hx => h x (List.mem_cons_of_mem _ hx)
    have e : joinL [32] (p :: q :: r) = p ++ ([32] ++ joinL [32] (q :: r)) := rfl
    rw [e, List.length_append, List.length_append]
    simp only [List.length_cons, List.length_nil] at h2 ⊢
    omega
theorem join_mem : ∀ {ps : List (List Nat)} {c : Nat}, c ∈ joinL [32] ps → c = 32 ∨ ∃ p ∈ ps, c ∈ p
  | [], c, h => by cases h
  | [p], c, h => .inr ⟨p, List.mem_cons_self .., h⟩
  | p :: q :: r, c, h => by
    have e : joinL [32] (p :: q :: r) = p ++ ([32] ++ joinL [32] (q :: r)) := rfl
    rw [e] at h
    rcases List.mem_append.mp h with h | h
    · exact .inr ⟨p, List.mem_cons_self .., h⟩
    · rcases List.mem_append.mp h with h | h
      · exact .inl (List.mem_singleton.mp h)
      · rcases join_mem h with h | ⟨x, hx, hc⟩
        · exact .inl h
        · exact .inr ⟨x, List.mem_cons_of_mem _ hx, hc⟩
theorem tl_tjoin (ys : List Str) : tl (Txt.join " " ys) = joinL [32] (ys.map tl) := by rw [join_eq, tl_join, tl_space]
structure St (n : Nat) (t : List Int) : Prop where
  n2 : 2 ≤ n
  n1 : n ≤ 10
  tb : Tbl n t
  ne : t ≠ []
  lt : t.length < n
section
variable {n : Nat} {t : List Int}
theorem St.dig (S : St n t) : ∀ x ∈ t, ∃ k : Nat, k < n ∧ x = (k : Int) ∧ tsI x = ts k := fun x hx => by
  obtain ⟨a, c⟩ := S.tb.mem x hx
  exact ⟨x.toNat, by omega, by omega, by rw [← tsI_nat, Int.toNat_of_nonneg a]⟩
theorem St.j (S : St n t) : Wk (Txt.join " " (t.map tsI)) 18 := by
  have hl := S.lt
  have hn := S.n1
  refine ⟨?_, fun c hc => ?_⟩
  · rw [← len_tl', tl_tjoin]
    have := joinL_le (ps := (t.map tsI).map tl) fun p hp => by
      obtain ⟨y, hy, rfl⟩ := List.mem_map.mp hp
      obtain ⟨x, hx, rfl⟩ := List.mem_map.mp hy
      obtain ⟨k, h1, _, h3⟩ := S.dig x hx
      rw [h3, (ts_gc k (by omega)).2 (by omega)]
      exact Nat.le_refl _
    rw [List.length_map, List.length_map] at this
    omega
  · rw [tl_tjoin] at hc
    rcases join_mem hc with rfl | ⟨p, hp, h⟩
    · decide
    · obtain ⟨y, hy, rfl⟩ := List.mem_map.mp hp
      obtain ⟨x, hx, rfl⟩ := List.mem_map.mp hy
      obtain ⟨k, h1, _, h3⟩ := S.dig x hx
      rw [h3] at h
      exact (ts_gc k (by omega)).1 c h
theorem colon_wk : Wk (": " : Str) 2 := ⟨by decide +kernel, by rw [tl_colon]; decide⟩
theorem St.w (S : St n t) : Wk (wdS n t) 22 := ((ts_wk S.n1).app colon_wk).app S.j
theorem St.split (S : St n t) : Txt.split (Txt.join " " (t.map tsI)) " " = t.map tsI := by
  have hn := S.n1
  refine split_join tl_space sp_all (fun e => S.ne (List.map_eq_nil_iff.mp e)) fun p hp => ?_
  obtain ⟨x, hx, rfl⟩ := List.mem_map.mp hp
  obtain ⟨k, h1, _, h3⟩ := S.dig x hx
  rw [h3]
  exact (ts_fact k (by omega)).1
theorem St.part (S : St n t) : Txt.partition (wdS n t) ": " = (ts n, (": " : Str), Txt.join " " (t.map tsI)) := by
  obtain ⟨f1, f2, _⟩ := ts_fact n S.n1
  rw [part_cs]
  have e : tl (wdS n t) = tl (ts n) ++ (58 :: [32] ++ tl (Txt.join " " (t.map tsI))) := by
    unfold wdS
    rw [tl_append, tl_append, tl_colon, List.append_assoc]
    try rfl
  rw [e, par_part1 (S := [32]) f2]
  dsimp only
  rw [List.nil_append, mk_tl, mk_tl]
theorem St.cr (S : St n t) : crV n (Txt.join " " (t.map tsI)) = .tuple (iL t) := by
  have hn := S.n1
  unfold crV
  rw [S.split, List.map_map]
  congr 1
  unfold iL
  refine List.map_congr_left fun x hx => ?_
  obtain ⟨k, h1, h2, h3⟩ := S.dig x hx
  show optI (nwV 0 n (tsI x)) = .int x
  rw [h3, nwV_at (by omega) (by omega) (by omega), h2]
  rfl
end
open TL (tl ext_tl tl_append)
section
variable {n : Nat} {t : List Int}
theorem sum_le2 : ∀ ys : List Str, (∀ y ∈ ys, y.length ≤ 2) → (ys.map (·.length)).sum ≤ 2 * ys.length
  | [], _ => by simp
  | y :: ys, h => by
    rw [List.map_cons, List.sum_cons, List.length_cons]
    have h1 := sum_le2 ys fun z hz => h z (List.mem_cons_of_mem _ hz)
    have h2 := h y (List.mem_cons_self ..)
    omega
theorem St.pj (S : St n t) : pJoin " " (.list (t.map fun x => PyData.str (tsI x))) = some (.str (Txt.join " " (t.map tsI))) := by
  have hl := S.lt
  have hn := S.n1
  have e : (t.map fun x => PyData.str (tsI x)) = (t.map tsI).map .str := by
    rw [List.map_map]
    rfl
  unfold pJoin items
  dsimp only
  rw [e, asStrs_map]
  dsimp only
  have h1 := sum_le2 (t.map tsI) fun y hy => by
    obtain ⟨x, hx, rfl⟩ := List.mem_map.mp hy
    obtain ⟨k, h1, _, h3⟩ := S.dig x hx
    rw [h3]
    exact (ts_wk (show k ≤ 10 by omega)).len
  have h2 : ((" " : Str)).length = 1 := by decide +kernel
  rw [if_pos (by rw [List.length_map] at h1 ⊢; rw [h2]; omega)]
theorem St.ps (S : St n t) : ∀ x ∈ t, pStr (.int x) = some (.str (tsI x)) := fun x hx => by
  have hn := S.n1
  obtain ⟨k, h1, h2, h3⟩ := S.dig x hx
  rw [h3, h2]
  exact pStr_ts (by omega)
theorem St.lcm (S : St n t) {f : PyData → Tree PyData} (h : ∀ x ∈ t, f (.int x) = .ret (.str (tsI x))) : mapT f (iL t) = .ret (t.map fun x => .str (tsI x)) := by
  unfold iL
  rw [mapT_map]
  exact mapT_ret h
theorem St.sp (S : St n t) {d : PyData} (hd : items d = some (iL t)) : m_spaced [.d d] = .ret (.str (Txt.join " " (t.map tsI))) := by
  have hl := S.lt
  have hn := S.n1
  simp only [m_spaced, b_spaced, dTx, Nat.reduceSub, Nat.reduceAdd, Nat.reduceLeDiff, reduceIte, Tree.bind, liftO, dIdx, sAsgL, sPar4, dV, dC, d1, d2, t1, t2, l0, lC, dL, dT, aV, aE, a0, aC, dCall, dCallK, dIf, tTr, tV, truth, asB, tNot, tAnd, tOr, dAnd, dOr, sSet, sAsg, sPar, sRet, s0, sC, sIf, sX, sOwn, sApp, sFrz, frzE, sFor, outV, fnF, lenIs, ent, small, few, putE, putsE, wipeE, it_l, it_t, iS, iR1, iR2, wEn, wZ2, wZ3, dLc, dLf, dSl, oN, oS, pCut, pSub, cI, bD, pIx, pList, pTup, pLen, pNot, qIsN, qNotN, pIsN, pNotN, List.getElem?_cons_succ, List.getElem?_cons_zero, List.set_cons_succ, List.set_cons_zero, List.length_cons, List.length_nil, List.map_cons, List.map_nil, List.foldr_cons, List.foldr_nil, List.replicate_succ, List.replicate_zero, List.cons_append, List.nil_append, sOPar, sOOPar, dOIx, sNest, sCallP, dOLen, fnP, pC, pFrz, dPr, nApp, nIf, nEnd, sN0, sN1, lendE, frzW, sSetK, dGet, dZipD, dPairD, pMax2, sDD, sND, tNeN, sLock, lockE, odcE, tdE, dttE, tC, tLock, tRet, dGetO, dIdxO, tNinD, sPutO, tDen, sUpd, sCpT, iDtt, dSrtD, sParDt, sParDt3, tCall2, fnT, sNewD, isNd, hd, iL_len, if_pos (show t.length ≤ 50000 by omega)]
  rw [S.lcm fun x hx => by simp only [Nat.reduceSub, Nat.reduceAdd, Nat.reduceLeDiff, reduceIte, Tree.bind, liftO, dIdx, sAsgL, sPar4, dV, dC, d1, d2, t1, t2, l0, lC, dL, dT, aV, aE, a0, aC, dCall, dCallK, dIf, tTr, tV, truth, asB, tNot, tAnd, tOr, dAnd, dOr, sSet, sAsg, sPar, sRet, s0, sC, sIf, sX, sOwn, sApp, sFrz, frzE, sFor, outV, fnF, lenIs, ent, small, few, putE, putsE, wipeE, it_l, it_t, iS, iR1, iR2, wEn, wZ2, wZ3, dLc, dLf, dSl, oN, oS, pCut, pSub, cI, bD, pIx, pList, pTup, pLen, pNot, qIsN, qNotN, pIsN, pNotN, List.getElem?_cons_succ, List.getElem?_cons_zero, List.set_cons_succ, List.set_cons_zero, List.length_cons, List.length_nil, List.map_cons, List.map_nil, List.foldr_cons, List.foldr_nil, List.replicate_succ, List.replicate_zero, List.cons_append, List.nil_append, sOPar, sOOPar, dOIx, sNest, sCallP, dOLen, fnP, pC, pFrz, dPr, nApp, nIf, nEnd, sN0, sN1, lendE, frzW, sSetK, dGet, dZipD, dPairD, pMax2, sDD, sND, tNeN, sLock, lockE, odcE, tdE, dttE, tC, tLock, tRet, dGetO, dIdxO, tNinD, sPutO, tDen, sUpd, sCpT, iDtt, dSrtD, sParDt, sParDt3, tCall2, fnT, sNewD, isNd, S.ps x hx]]
  simp only [Tree.bind, liftO, S.pj, outV]
theorem emp_app (a : Str) : Str.empty ++ a = a := ext_tl (by rw [tl_append]; rfl)
theorem St.tl' (S : St n t) {d : PyData} (hd : items d = some (iL t)) : m_table_line [.d (.int (n : Int)), .d d] = .ret (.str (wdS n t)) := by
  have hl := S.w.len
  have hn := S.n1
  have e1 : pFmt (.int (n : Int)) = some (ts n) := if_pos (show n < 10 ^ 60 from Nat.lt_of_le_of_lt hn (by decide))
  have hj := S.j.len
  have e2 : pFmt (.str (Txt.join " " (t.map tsI))) = some (Txt.join " " (t.map tsI)) := if_pos (by omega)
  have ht := (ts_wk hn).len
  have l2 : (ts n ++ ": ").length ≤ 100000 := by
    rw [len_app]
    have := colon_wk.len
    omega
  have s1 : small (ts n).length = some () := if_pos (by omega)
  have s2 : small (ts n ++ ": ").length = some () := if_pos l2
  have s3 : small (ts n ++ ": " ++ Txt.join " " (t.map tsI)).length = some () := if_pos (by
    show (wdS n t).length ≤ 100000
    omega)
  have run : m_table_line [.d (.int (n : Int)), .d d] = ((dFs (jF (dV 0) (jK ": " (jF (dCall m_spaced (aC (aV 1) a0)) j0)))) [some (.d (.int (n : Int))), some (.d d)]).bind fun x => .ret x := by
    show (((dFs _ _).bind _).bind outV) = _
    rw [Tree.bind_assoc]
    rfl
  have e3 : (dCall m_spaced (aC (aV 1) a0)) [some (.d (.int (n : Int))), some (.d d)] = .ret (.str (Txt.join " " (t.map tsI))) := S.sp hd
  rw [run]
  unfold dFs jF jK j0
  dsimp only [dV, List.getElem?_cons_zero, Tree.bind]
  rw [e1]
  dsimp only [liftO, Tree.bind]
  rw [emp_app, s1]
  dsimp only [liftO, Tree.bind]
  rw [s2]
  dsimp only [liftO, Tree.bind]
  rw [e3]
  dsimp only [liftO, Tree.bind]
  rw [e2]
  dsimp only [liftO, Tree.bind]
  rw [s3]
  rfl
theorem tf_at {w : Str} {s : Nat} {b c : Str} (hw : w.length ≤ 1000) (hp : Txt.partition w ": " = (ts s, b, c)) (h2 : 2 ≤ s) (hs : s ≤ 10) (hc : c.length ≤ 1000) (ht : tbB s (crV s c) = true) : m_table_from [.d (.str w)] = .ret (.tuple [.int (s : Int), crV s c]) := by
  have hn : nwV 2 9 (ts s) = some s := nwV_at h2 (by omega) (by omega)
  rw [m_eq]
  unfold sC sIf
  rw [tf_1 hw hp]
  dsimp only [Tree.bind]
  rw [tf_2, hn]
  dsimp only [Tree.bind, optI]
  rw [tf_q]
  dsimp only [Tree.bind, qIsN, liftO, s0]
  rw [tf_3 hs hc]
  dsimp only [Tree.bind]
  rw [tf_t hs hc, ht]
  show (sRet (dT (lC (dV 1) (lC (dV 2) l0))) (E58 w (some (.d (.int (s : Int)))) (some (.d (crV s c))) (some (.d (.str (ts s)))) (some (.d (.str b))) (some (.d (.str c))))).bind outV = _
  rw [tf_r]
  rfl
theorem asc_ascB : ∀ {l : List Int}, l.Pairwise (· < ·) → ascB l = true
  | [], _ => rfl
  | [x], _ => rfl
  | x :: y :: l, h => by
    have h1 := (List.pairwise_cons.mp h)
    have ih := asc_ascB h1.2
    unfold ascB at ih ⊢
    show (((x, y) :: ((y :: l).zip ((y :: l).drop 1))).all fun q => decide (q.1 < q.2)) = true
    rw [List.all_cons, ih, decide_eq_true (h1.1 y (List.mem_cons_self ..))]
    rfl
theorem St.tb' (S : St n t) : tbB n (.tuple (iL t)) = true := by
  have hl := S.lt
  have h0 := List.length_pos_iff.mpr S.ne
  unfold tbB
  dsimp only
  rw [ch_all S.tb.mem, toI_iL, asc_ascB S.tb.asc, iL_len, decide_eq_true (by omega), decide_eq_true hl]
  rfl
theorem St.tf (S : St n t) : m_table_from [.d (.str (wdS n t))] = .ret (.tuple [.int (n : Int), .tuple (iL t)]) := by
  have h := tf_at (by have := S.w.len; omega) S.part S.n2 S.n1 (by have := S.j.len; omega) (by rw [S.cr]; exact S.tb')
  rw [S.cr] at h
  exact h
end
theorem cutS_tl (w : Str) (lo hi : Option Int) : tl (cutS w lo hi) = ((tl w).drop (HT.sIx w.length 0 lo)).take (HT.sIx w.length w.length hi - HT.sIx w.length 0 lo) := rfl
theorem cutS_sub {w : Str} {lo hi : Option Int} : ∀ c ∈ tl (cutS w lo hi), c ∈ tl w := fun c hc => by
  rw [cutS_tl] at hc
  exact List.mem_of_mem_drop (List.mem_of_mem_take hc)
theorem cutS_a (w : Str) (k : Nat) : (cutS w none (some (k : Int))).length ≤ min k w.length := by
  rw [← len_tl', cutS_tl, List.length_take, List.length_drop, HT.sIx_nat]
  exact Nat.le_trans (Nat.min_le_left ..) (Nat.sub_le ..)
theorem cutS_b (w : Str) (k : Nat) : (cutS w (some (k : Int)) none).length ≤ w.length - min k w.length := by
  rw [← len_tl', cutS_tl, List.length_take, List.length_drop, HT.sIx_nat, HT.sIx_none]
  exact Nat.min_le_left ..
def sgS : List Str := signs ("0123459 :-a" : Str) ++ [("\n" : Str), ("  " : Str), (" 0" : Str)]
theorem sg_wk : ∀ x ∈ sgS, x.length ≤ 2 ∧ ∀ c ∈ tl x, c ∈ gcL := by decide +kernel
theorem sg_ls : pListS (.str "0123459 :-a") = some (.list ((signs "0123459 :-a").map .str)) := by
  show (if (("0123459 :-a" : Str)).length ≤ 100000 then some (PyData.list ((signs "0123459 :-a").map .str)) else none) = _
  exact if_pos (by decide +kernel)
theorem sg_add : pAdd (.list ((signs "0123459 :-a").map .str)) (.list [.str "\n", .str "  ", .str " 0"]) = some (.list (sgS.map .str)) := by
  show (if ((signs "0123459 :-a").map PyData.str).length + ([.str "\n", .str "  ", .str " 0"] : List PyData).length ≤ 100000 then some (PyData.list ((signs "0123459 :-a").map PyData.str ++ [.str "\n", .str "  ", .str " 0"])) else none) = _
  rw [if_pos (by decide +kernel)]
  unfold sgS
  rw [List.map_append]
  rfl
theorem all_spoilt {w : Str} {m : Nat} {Q : PyData → Prop} (h : Wk w m) (hm : m ≤ 50) (hQ : ∀ r, Wk r (m + 2) → Q (.str r)) : (m_law_spoilt [.bx, .d (.str w)]).All Q := by
  have hl := h.len
  have e1 : pLenS (.str w) = some (.int (w.length : Nat)) := if_pos (by omega)
  simp only [m_law_spoilt, b_law_spoilt, Nat.reduceSub, Nat.reduceAdd, Nat.reduceLeDiff, reduceIte, Tree.bind, liftO, dIdx, sAsgL, sPar4, dV, dC, d1, d2, t1, t2, l0, lC, dL, dT, aV, aE, a0, aC, dCall, dCallK, dIf, tTr, tV, truth, asB, tNot, tAnd, tOr, dAnd, dOr, sSet, sAsg, sPar, sRet, s0, sC, sIf, sX, sOwn, sApp, sFrz, frzE, sFor, outV, fnF, lenIs, ent, small, few, putE, putsE, wipeE, it_l, it_t, iS, iR1, iR2, wEn, wZ2, wZ3, dLc, dLf, dSl, oN, oS, pCut, pSub, cI, bD, pIx, pList, pTup, pLen, pNot, qIsN, qNotN, pIsN, pNotN, List.getElem?_cons_succ, List.getElem?_cons_zero, List.set_cons_succ, List.set_cons_zero, List.length_cons, List.length_nil, List.map_cons, List.map_nil, List.foldr_cons, List.foldr_nil, List.replicate_succ, List.replicate_zero, List.cons_append, List.nil_append, sOPar, sOOPar, dOIx, sNest, sCallP, dOLen, fnP, pC, pFrz, dPr, nApp, nIf, nEnd, sN0, sN1, lendE, frzW, sSetK, dGet, dZipD, dPairD, pMax2, sDD, sND, tNeN, sLock, lockE, odcE, tdE, dttE, tC, tLock, tRet, dGetO, dIdxO, tNinD, sPutO, tDen, sUpd, sCpT, iDtt, dSrtD, sParDt, sParDt3, tCall2, fnT, sNewD, isNd, e1, pAdd_ii, all_bindE, all_retE]
  refine all_take (by omega) (by omega) fun r r0 r1 => ?_
  refine all_take (by decide) (by decide) fun v v0 v1 => ?_
  obtain ⟨k, rfl⟩ : ∃ k : Nat, r = (k : Int) := ⟨r.toNat, by omega⟩
  simp only [Nat.reduceSub, Nat.reduceAdd, Nat.reduceLeDiff, reduceIte, Tree.bind, liftO, dIdx, sAsgL, sPar4, dV, dC, d1, d2, t1, t2, l0, lC, dL, dT, aV, aE, a0, aC, dCall, dCallK, dIf, tTr, tV, truth, asB, tNot, tAnd, tOr, dAnd, dOr, sSet, sAsg, sPar, sRet, s0, sC, sIf, sX, sOwn, sApp, sFrz, frzE, sFor, outV, fnF, lenIs, ent, small, few, putE, putsE, wipeE, it_l, it_t, iS, iR1, iR2, wEn, wZ2, wZ3, dLc, dLf, dSl, oN, oS, pCut, pSub, cI, bD, pIx, pList, pTup, pLen, pNot, qIsN, qNotN, pIsN, pNotN, List.getElem?_cons_succ, List.getElem?_cons_zero, List.set_cons_succ, List.set_cons_zero, List.length_cons, List.length_nil, List.map_cons, List.map_nil, List.foldr_cons, List.foldr_nil, List.replicate_succ, List.replicate_zero, List.cons_append, List.nil_append, sOPar, sOOPar, dOIx, sNest, sCallP, dOLen, fnP, pC, pFrz, dPr, nApp, nIf, nEnd, sN0, sN1, lendE, frzW, sSetK, dGet, dZipD, dPairD, pMax2, sDD, sND, tNeN, sLock, lockE, odcE, tdE, dttE, tC, tLock, tRet, dGetO, dIdxO, tNinD, sPutO, tDen, sUpd, sCpT, iDtt, dSrtD, sParDt, sParDt3, tCall2, fnT, sNewD, isNd, sg_ls, sg_add, all_bindE, all_retE]
  refine all_law_of (by decide +kernel) (by decide +kernel) fun d hd => ?_
  obtain ⟨x, hx, rfl⟩ := List.mem_map.mp hd
  obtain ⟨x1, x2⟩ := sg_wk x hx
  have ca := cutS_a w k
  have c1 : pCutS (.str w) none (some (k : Int)) = some (.str (cutS w none (some (k : Int)))) := if_pos (by omega)
  have cb : ∀ j : Nat, pCutS (.str w) (some (j : Int)) none = some (.str (cutS w (some (j : Int)) none)) := fun j => if_pos (by omega)
  have ka : Wk (cutS w none (some (k : Int))) (min k w.length) := ⟨ca, fun c hc => h.ch c (cutS_sub c hc)⟩
  have kb : ∀ j : Nat, Wk (cutS w (some (j : Int)) none) (w.length - min j w.length) := fun j => ⟨cutS_b w j, fun c hc => h.ch c (cutS_sub c hc)⟩
  have kx : Wk x 2 := ⟨x1, x2⟩
  have add : ∀ {a c : Str} {p q : Nat}, Wk a p → Wk c q → p ≤ 100 → q ≤ 100 → pAdd (.str a) (.str c) = some (.str (a ++ c)) := fun {a c p q} ha hc h1 h2 => if_pos (by have := ha.len; have := hc.len; omega)
  by_cases hv : v = 0
  · subst hv
    have p0 : pEq (.int 0) (.int 0) = some true := rfl
    have e2 : ((k : Int) + 1) = ((k + 1 : Nat) : Int) := by omega
    simp only [Nat.reduceSub, Nat.reduceAdd, Nat.reduceLeDiff, reduceIte, Tree.bind, liftO, dIdx, sAsgL, sPar4, dV, dC, d1, d2, t1, t2, l0, lC, dL, dT, aV, aE, a0, aC, dCall, dCallK, dIf, tTr, tV, truth, asB, tNot, tAnd, tOr, dAnd, dOr, sSet, sAsg, sPar, sRet, s0, sC, sIf, sX, sOwn, sApp, sFrz, frzE, sFor, outV, fnF, lenIs, ent, small, few, putE, putsE, wipeE, it_l, it_t, iS, iR1, iR2, wEn, wZ2, wZ3, dLc, dLf, dSl, oN, oS, pCut, pSub, cI, bD, pIx, pList, pTup, pLen, pNot, qIsN, qNotN, pIsN, pNotN, List.getElem?_cons_succ, List.getElem?_cons_zero, List.set_cons_succ, List.set_cons_zero, List.length_cons, List.length_nil, List.map_cons, List.map_nil, List.foldr_cons, List.foldr_nil, List.replicate_succ, List.replicate_zero, List.cons_append, List.nil_append, sOPar, sOOPar, dOIx, sNest, sCallP, dOLen, fnP, pC, pFrz, dPr, nApp, nIf, nEnd, sN0, sN1, lendE, frzW, sSetK, dGet, dZipD, dPairD, pMax2, sDD, sND, tNeN, sLock, lockE, odcE, tdE, dttE, tC, tLock, tRet, dGetO, dIdxO, tNinD, sPutO, tDen, sUpd, sCpT, iDtt, dSrtD, sParDt, sParDt3, tCall2, fnT, sNewD, isNd, dSlS, p0, c1, pAdd_ii, e2, cb, add ka (kb (k + 1)) (by omega) (by omega), all_bindE, all_retE]
    exact hQ _ ((ka.app (kb (k + 1))).mono (by omega))
  · have p0 : pEq (.int v) (.int 0) = some false := by rw [pEq_ii, decide_eq_false hv]
    by_cases h1 : v = 1
    · subst h1
      have p1 : pEq (.int 1) (.int 1) = some true := rfl
      have e2 : ((k : Int) + 1) = ((k + 1 : Nat) : Int) := by omega
      simp only [Nat.reduceSub, Nat.reduceAdd, Nat.reduceLeDiff, reduceIte, Tree.bind, liftO, dIdx, sAsgL, sPar4, dV, dC, d1, d2, t1, t2, l0, lC, dL, dT, aV, aE, a0, aC, dCall, dCallK, dIf, tTr, tV, truth, asB, tNot, tAnd, tOr, dAnd, dOr, sSet, sAsg, sPar, sRet, s0, sC, sIf, sX, sOwn, sApp, sFrz, frzE, sFor, outV, fnF, lenIs, ent, small, few, putE, putsE, wipeE, it_l, it_t, iS, iR1, iR2, wEn, wZ2, wZ3, dLc, dLf, dSl, oN, oS, pCut, pSub, cI, bD, pIx, pList, pTup, pLen, pNot, qIsN, qNotN, pIsN, pNotN, List.getElem?_cons_succ, List.getElem?_cons_zero, List.set_cons_succ, List.set_cons_zero, List.length_cons, List.length_nil, List.map_cons, List.map_nil, List.foldr_cons, List.foldr_nil, List.replicate_succ, List.replicate_zero, List.cons_append, List.nil_append, sOPar, sOOPar, dOIx, sNest, sCallP, dOLen, fnP, pC, pFrz, dPr, nApp, nIf, nEnd, sN0, sN1, lendE, frzW, sSetK, dGet, dZipD, dPairD, pMax2, sDD, sND, tNeN, sLock, lockE, odcE, tdE, dttE, tC, tLock, tRet, dGetO, dIdxO, tNinD, sPutO, tDen, sUpd, sCpT, iDtt, dSrtD, sParDt, sParDt3, tCall2, fnT, sNewD, isNd, dSlS, p0, p1, pInt, c1, pAdd_ii, e2, cb, add ka kx (by omega) (by omega), add (ka.app kx) (kb (k + 1)) (by omega) (by omega), all_bindE, all_retE]
      exact hQ _ (((ka.app kx).app (kb (k + 1))).mono (by omega))
    · have p1 : pEq (.int v) (.int 1) = some false := by rw [pEq_ii, decide_eq_false h1]
      have e2 : ((k : Int) + 0) = (k : Int) := by omega
      simp only [Nat.reduceSub, Nat.reduceAdd, Nat.reduceLeDiff, reduceIte, Tree.bind, liftO, dIdx, sAsgL, sPar4, dV, dC, d1, d2, t1, t2, l0, lC, dL, dT, aV, aE, a0, aC, dCall, dCallK, dIf, tTr, tV, truth, asB, tNot, tAnd, tOr, dAnd, dOr, sSet, sAsg, sPar, sRet, s0, sC, sIf, sX, sOwn, sApp, sFrz, frzE, sFor, outV, fnF, lenIs, ent, small, few, putE, putsE, wipeE, it_l, it_t, iS, iR1, iR2, wEn, wZ2, wZ3, dLc, dLf, dSl, oN, oS, pCut, pSub, cI, bD, pIx, pList, pTup, pLen, pNot, qIsN, qNotN, pIsN, pNotN, List.getElem?_cons_succ, List.getElem?_cons_zero, List.set_cons_succ, List.set_cons_zero, List.length_cons, List.length_nil, List.map_cons, List.map_nil, List.foldr_cons, List.foldr_nil, List.replicate_succ, List.replicate_zero, List.cons_append, List.nil_append, sOPar, sOOPar, dOIx, sNest, sCallP, dOLen, fnP, pC, pFrz, dPr, nApp, nIf, nEnd, sN0, sN1, lendE, frzW, sSetK, dGet, dZipD, dPairD, pMax2, sDD, sND, tNeN, sLock, lockE, odcE, tdE, dttE, tC, tLock, tRet, dGetO, dIdxO, tNinD, sPutO, tDen, sUpd, sCpT, iDtt, dSrtD, sParDt, sParDt3, tCall2, fnT, sNewD, isNd, dSlS, p0, p1, pInt, c1, pAdd_ii, e2, cb, Bool.false_eq_true, add ka kx (by omega) (by omega), add (ka.app kx) (kb k) (by omega) (by omega), all_bindE, all_retE]
      exact hQ _ (((ka.app kx).app (kb k)).mono (by omega))
open TL (tl ext_tl tl_append)
def fx : List Str := [("" : Str), (" " : Str), (":" : Str), ("5:" : Str), ("5: " : Str), ("5 : 0" : Str), ("5:0" : Str), ("5:  0" : Str), ("5: 0" : Str), ("5: 4" : Str), ("5: 5" : Str), ("5: 0 0" : Str), ("5: 1 0" : Str), ("5: 0 1" : Str), ("5: 0 1 2 3" : Str), ("5: 0 1 2 3 4" : Str), ("2: 0" : Str), ("2: 1" : Str), ("2: 0 1" : Str), ("1: 0" : Str), ("0: 0" : Str), ("10: 9" : Str), ("10: 0 9" : Str), ("11: 0" : Str), ("10: 10" : Str), ("05: 0" : Str), ("5: 00" : Str), ("5: 01" : Str), ("+5: 0" : Str), ("5: -1" : Str), ("5: a" : Str), ("a: 0" : Str), ("5: 0 " : Str), (" 5: 0" : Str), ("5: 0\n" : Str), ("5: 0\n1" : Str), ("5; 0" : Str), ("5:: 0" : Str), ("10: 0 1 2 3 4 5 6 7 8" : Str), ("10: 0 1 2 3 4 5 6 7 8 9" : Str), ("5: 0, 1" : Str), ("5: 1.0" : Str)]
theorem fx_ok : ∀ x ∈ fx, x.length ≤ 26 ∧ ∀ c ∈ tl x, c ∈ gcL := by decide +kernel
theorem ev_same {a : PyData} (h : shwB a = true) : m_law_same [.d a, .d a] = .ret (.bool true) := ev_law_same h rfl
theorem shw_t {n : Nat} {t : List Int} (S : St n t) : shwB (.tuple [.int (n : Int), .tuple (iL t)]) = true := by
  have := shw_cr (s := n) (R := Txt.join " " (t.map tsI)) S.n1 (by have := S.j.len; omega)
  rw [S.cr] at this
  exact this
theorem right_ok : (m_law_right [.bx]).All fun d => d = .bool true := by
  have r12 : rg1 (.int 12) = some (nums 12) := rg1_nat (k := 12) (by decide)
  simp only [m_law_right, b_law_right, Nat.reduceSub, Nat.reduceAdd, Nat.reduceLeDiff, reduceIte, Tree.bind, liftO, dIdx, sAsgL, sPar4, dV, dC, d1, d2, t1, t2, l0, lC, dL, dT, aV, aE, a0, aC, dCall, dCallK, dIf, tTr, tV, truth, asB, tNot, tAnd, tOr, dAnd, dOr, sSet, sAsg, sPar, sRet, s0, sC, sIf, sX, sOwn, sApp, sFrz, frzE, sFor, outV, fnF, lenIs, ent, small, few, putE, putsE, wipeE, it_l, it_t, iS, iR1, iR2, wEn, wZ2, wZ3, dLc, dLf, dSl, oN, oS, pCut, pSub, cI, bD, pIx, pList, pTup, pLen, pNot, qIsN, qNotN, pIsN, pNotN, List.getElem?_cons_succ, List.getElem?_cons_zero, List.set_cons_succ, List.set_cons_zero, List.length_cons, List.length_nil, List.map_cons, List.map_nil, List.foldr_cons, List.foldr_nil, List.replicate_succ, List.replicate_zero, List.cons_append, List.nil_append, sOPar, sOOPar, dOIx, sNest, sCallP, dOLen, fnP, pC, pFrz, dPr, nApp, nIf, nEnd, sN0, sN1, lendE, frzW, sSetK, dGet, dZipD, dPairD, pMax2, sDD, sND, tNeN, sLock, lockE, odcE, tdE, dttE, tC, tLock, tRet, dGetO, dIdxO, tNinD, sPutO, tDen, sUpd, sCpT, iDtt, dSrtD, sParDt, sParDt3, tCall2, fnT, sNewD, isNd, all_bindE, all_retE]
  refine all_law_scene (m := 10) (by decide) (by decide) fun n k t n2 n1 k0 kn tb hl => ?_
  subst hl
  have S : St n t := ⟨n2, n1, tb, List.ne_nil_of_length_pos k0, kn⟩
  have hw := S.w
  have e1 : pStr (.int (n : Int)) = some (.str (ts n)) := pStr_ts (by omega)
  have e2 : pAdd (.str (ts n)) (.str ": ") = some (.str (ts n ++ ": ")) := if_pos (by have := ((ts_wk n1).app colon_wk).len; rw [len_app] at this; omega)
  have e3 : pAdd (.str (ts n ++ ": ")) (.str (Txt.join " " (t.map tsI))) = some (.str (wdS n t)) := if_pos (by have := S.w.len; unfold wdS at this; rw [len_app] at this; omega)
  have e4 : pMul (.list [.str (wdS n t)]) (.int 2) = some (.list [.str (wdS n t), .str (wdS n t)]) := rfl
  have e5 := ev_same (shw_ww hw (by decide))
  have e6 := ev_same (shw_t S)
  have pk2 : pick [1, 0] [W.d (.list (iL t)), W.d (.int (n : Int))] = [W.d (.int (n : Int)), W.d (.list (iL t))] := rfl
  have pk1 : pick [0] [W.d (.str (wdS n t))] = [W.d (.str (wdS n t))] := rfl
  have hlc : ∀ E : Env, mapT (fun x => (liftO (putE (.nm 10) x E)).bind (d1 pStr (dV 10))) (iL t) = mapT (fun x => (liftO (putE (.nm 10) x E)).bind (d1 pStr (dV 10))) (iL t) := fun _ => rfl
  simp only [dTx, Nat.reduceSub, Nat.reduceAdd, Nat.reduceLeDiff, reduceIte, Tree.bind, liftO, dIdx, sAsgL, sPar4, dV, dC, d1, d2, t1, t2, l0, lC, dL, dT, aV, aE, a0, aC, dCall, dCallK, dIf, tTr, tV, truth, asB, tNot, tAnd, tOr, dAnd, dOr, sSet, sAsg, sPar, sRet, s0, sC, sIf, sX, sOwn, sApp, sFrz, frzE, sFor, outV, fnF, lenIs, ent, small, few, putE, putsE, wipeE, it_l, it_t, iS, iR1, iR2, wEn, wZ2, wZ3, dLc, dLf, dSl, oN, oS, pCut, pSub, cI, bD, pIx, pList, pTup, pLen, pNot, qIsN, qNotN, pIsN, pNotN, List.getElem?_cons_succ, List.getElem?_cons_zero, List.set_cons_succ, List.set_cons_zero, List.length_cons, List.length_nil, List.map_cons, List.map_nil, List.foldr_cons, List.foldr_nil, List.replicate_succ, List.replicate_zero, List.cons_append, List.nil_append, sOPar, sOOPar, dOIx, sNest, sCallP, dOLen, fnP, pC, pFrz, dPr, nApp, nIf, nEnd, sN0, sN1, lendE, frzW, sSetK, dGet, dZipD, dPairD, pMax2, sDD, sND, tNeN, sLock, lockE, odcE, tdE, dttE, tC, tLock, tRet, dGetO, dIdxO, tNinD, sPutO, tDen, sUpd, sCpT, iDtt, dSrtD, sParDt, sParDt3, tCall2, fnT, sNewD, isNd, all_bindE, all_retE, e1, e2, iL_len, if_pos (show t.length ≤ 50000 by omega)]
  rw [S.lcm fun x hx => by simp only [Nat.reduceSub, Nat.reduceAdd, Nat.reduceLeDiff, reduceIte, Tree.bind, liftO, dIdx, sAsgL, sPar4, dV, dC, d1, d2, t1, t2, l0, lC, dL, dT, aV, aE, a0, aC, dCall, dCallK, dIf, tTr, tV, truth, asB, tNot, tAnd, tOr, dAnd, dOr, sSet, sAsg, sPar, sRet, s0, sC, sIf, sX, sOwn, sApp, sFrz, frzE, sFor, outV, fnF, lenIs, ent, small, few, putE, putsE, wipeE, it_l, it_t, iS, iR1, iR2, wEn, wZ2, wZ3, dLc, dLf, dSl, oN, oS, pCut, pSub, cI, bD, pIx, pList, pTup, pLen, pNot, qIsN, qNotN, pIsN, pNotN, List.getElem?_cons_succ, List.getElem?_cons_zero, List.set_cons_succ, List.set_cons_zero, List.length_cons, List.length_nil, List.map_cons, List.map_nil, List.foldr_cons, List.foldr_nil, List.replicate_succ, List.replicate_zero, List.cons_append, List.nil_append, sOPar, sOOPar, dOIx, sNest, sCallP, dOLen, fnP, pC, pFrz, dPr, nApp, nIf, nEnd, sN0, sN1, lendE, frzW, sSetK, dGet, dZipD, dPairD, pMax2, sDD, sND, tNeN, sLock, lockE, odcE, tdE, dttE, tC, tLock, tRet, dGetO, dIdxO, tNinD, sPutO, tDen, sUpd, sCpT, iDtt, dSrtD, sParDt, sParDt3, tCall2, fnT, sNewD, isNd, S.ps x hx]]
  simp only [dTx, Nat.reduceSub, Nat.reduceAdd, Nat.reduceLeDiff, reduceIte, Tree.bind, liftO, dIdx, sAsgL, sPar4, dV, dC, d1, d2, t1, t2, l0, lC, dL, dT, aV, aE, a0, aC, dCall, dCallK, dIf, tTr, tV, truth, asB, tNot, tAnd, tOr, dAnd, dOr, sSet, sAsg, sPar, sRet, s0, sC, sIf, sX, sOwn, sApp, sFrz, frzE, sFor, outV, fnF, lenIs, ent, small, few, putE, putsE, wipeE, it_l, it_t, iS, iR1, iR2, wEn, wZ2, wZ3, dLc, dLf, dSl, oN, oS, pCut, pSub, cI, bD, pIx, pList, pTup, pLen, pNot, qIsN, qNotN, pIsN, pNotN, List.getElem?_cons_succ, List.getElem?_cons_zero, List.set_cons_succ, List.set_cons_zero, List.length_cons, List.length_nil, List.map_cons, List.map_nil, List.foldr_cons, List.foldr_nil, List.replicate_succ, List.replicate_zero, List.cons_append, List.nil_append, sOPar, sOOPar, dOIx, sNest, sCallP, dOLen, fnP, pC, pFrz, dPr, nApp, nIf, nEnd, sN0, sN1, lendE, frzW, sSetK, dGet, dZipD, dPairD, pMax2, sDD, sND, tNeN, sLock, lockE, odcE, tdE, dttE, tC, tLock, tRet, dGetO, dIdxO, tNinD, sPutO, tDen, sUpd, sCpT, iDtt, dSrtD, sParDt, sParDt3, tCall2, fnT, sNewD, isNd, all_bindE, all_retE, S.pj, e3, pk1, pk2, lenIs, S.tl' (it_t _), S.tl' (it_l _), e4, e5, e6, S.tf, pNe_LL rfl, pCat, Bool.not_true, r12]
  refine all_forT (I := fun i E => ∃ (x4 x8 : Option W) (L : List Str), L.length ≤ 42 + i ∧ (∀ x ∈ L, Wk x 26) ∧ E = [some .bx, some (.d (.str (wdS n t))), some (.d (.list (iL t))), some (.own (L.map .str)), x4, some (.d (.int (n : Int))), some (.d (.int (t.length : Int))), some (.d (.tuple (iL t))), x8, none, none]) ⟨none, none, fx, by decide +kernel, fun x hx => ⟨(fx_ok x hx).1, (fx_ok x hx).2⟩, rfl⟩ (fun i x E hx hI => ?_) fun E hI => ?_
  · obtain ⟨x4, x8, L, hL, hk, rfl⟩ := hI
    obtain ⟨hi, rfl⟩ := nums_at hx
    refine ⟨_, rfl, ?_⟩
    have sm : (L.length ≤ 99999) = True := eq_true (by omega)
    simp only [Nat.reduceSub, Nat.reduceAdd, Nat.reduceLeDiff, reduceIte, Tree.bind, liftO, dIdx, sAsgL, sPar4, dV, dC, d1, d2, t1, t2, l0, lC, dL, dT, aV, aE, a0, aC, dCall, dCallK, dIf, tTr, tV, truth, asB, tNot, tAnd, tOr, dAnd, dOr, sSet, sAsg, sPar, sRet, s0, sC, sIf, sX, sOwn, sApp, sFrz, frzE, sFor, outV, fnF, lenIs, ent, small, few, putE, putsE, wipeE, it_l, it_t, iS, iR1, iR2, wEn, wZ2, wZ3, dLc, dLf, dSl, oN, oS, pCut, pSub, cI, bD, pIx, pList, pTup, pLen, pNot, qIsN, qNotN, pIsN, pNotN, List.getElem?_cons_succ, List.getElem?_cons_zero, List.set_cons_succ, List.set_cons_zero, List.length_cons, List.length_nil, List.map_cons, List.map_nil, List.foldr_cons, List.foldr_nil, List.replicate_succ, List.replicate_zero, List.cons_append, List.nil_append, sOPar, sOOPar, dOIx, sNest, sCallP, dOLen, fnP, pC, pFrz, dPr, nApp, nIf, nEnd, sN0, sN1, lendE, frzW, sSetK, dGet, dZipD, dPairD, pMax2, sDD, sND, tNeN, sLock, lockE, odcE, tdE, dttE, tC, tLock, tRet, dGetO, dIdxO, tNinD, sPutO, tDen, sUpd, sCpT, iDtt, dSrtD, sParDt, sParDt3, tCall2, fnT, sNewD, isNd, all_bindE, all_retE, List.length_map]
    refine all_spoilt hw (by decide) fun r hr => ?_
    have add : ∀ u, Wk u 26 → ∀ x4 x8 : Option W, ∃ (y4 y8 : Option W) (L2 : List Str), L2.length ≤ 42 + (i + 1) ∧ (∀ x ∈ L2, Wk x 26) ∧ ([some .bx, some (.d (.str (wdS n t))), some (.d (.list (iL t))), some (.own (L.map .str ++ [.str u])), x4, some (.d (.int (n : Int))), some (.d (.int (t.length : Int))), some (.d (.tuple (iL t))), x8, none, none] : Env) = [some .bx, some (.d (.str (wdS n t))), some (.d (.list (iL t))), some (.own (L2.map .str)), y4, some (.d (.int (n : Int))), some (.d (.int (t.length : Int))), some (.d (.tuple (iL t))), y8, none, none] := fun u hu x4 x8 => ⟨x4, x8, L ++ [u], by rw [List.length_append]; simp only [List.length_cons, List.length_nil]; omega, fun x hx => by
      rcases List.mem_append.mp hx with hx | hx
      · exact hk x hx
      · rw [List.mem_singleton.mp hx]
        exact hu, by rw [List.map_append]; rfl⟩
    try simp only [Nat.reduceSub, Nat.reduceAdd, Nat.reduceLeDiff, reduceIte, Tree.bind, liftO, dIdx, sAsgL, sPar4, dV, dC, d1, d2, t1, t2, l0, lC, dL, dT, aV, aE, a0, aC, dCall, dCallK, dIf, tTr, tV, truth, asB, tNot, tAnd, tOr, dAnd, dOr, sSet, sAsg, sPar, sRet, s0, sC, sIf, sX, sOwn, sApp, sFrz, frzE, sFor, outV, fnF, lenIs, ent, small, few, putE, putsE, wipeE, it_l, it_t, iS, iR1, iR2, wEn, wZ2, wZ3, dLc, dLf, dSl, oN, oS, pCut, pSub, cI, bD, pIx, pList, pTup, pLen, pNot, qIsN, qNotN, pIsN, pNotN, List.getElem?_cons_succ, List.getElem?_cons_zero, List.set_cons_succ, List.set_cons_zero, List.length_cons, List.length_nil, List.map_cons, List.map_nil, List.foldr_cons, List.foldr_nil, List.replicate_succ, List.replicate_zero, List.cons_append, List.nil_append, sOPar, sOOPar, dOIx, sNest, sCallP, dOLen, fnP, pC, pFrz, dPr, nApp, nIf, nEnd, sN0, sN1, lendE, frzW, sSetK, dGet, dZipD, dPairD, pMax2, sDD, sND, tNeN, sLock, lockE, odcE, tdE, dttE, tC, tLock, tRet, dGetO, dIdxO, tNinD, sPutO, tDen, sUpd, sCpT, iDtt, dSrtD, sParDt, sParDt3, tCall2, fnT, sNewD, isNd, all_bindE, all_retE]
    refine all_take (by decide) (by decide) fun v v0 v1 => ?_
    by_cases h0 : v = 0
    · subst h0
      have p0 : pEq (.int 0) (.int 0) = some true := rfl
      simp only [Nat.reduceSub, Nat.reduceAdd, Nat.reduceLeDiff, reduceIte, Tree.bind, liftO, dIdx, sAsgL, sPar4, dV, dC, d1, d2, t1, t2, l0, lC, dL, dT, aV, aE, a0, aC, dCall, dCallK, dIf, tTr, tV, truth, asB, tNot, tAnd, tOr, dAnd, dOr, sSet, sAsg, sPar, sRet, s0, sC, sIf, sX, sOwn, sApp, sFrz, frzE, sFor, outV, fnF, lenIs, ent, small, few, putE, putsE, wipeE, it_l, it_t, iS, iR1, iR2, wEn, wZ2, wZ3, dLc, dLf, dSl, oN, oS, pCut, pSub, cI, bD, pIx, pList, pTup, pLen, pNot, qIsN, qNotN, pIsN, pNotN, List.getElem?_cons_succ, List.getElem?_cons_zero, List.set_cons_succ, List.set_cons_zero, List.length_cons, List.length_nil, List.map_cons, List.map_nil, List.foldr_cons, List.foldr_nil, List.replicate_succ, List.replicate_zero, List.cons_append, List.nil_append, sOPar, sOOPar, dOIx, sNest, sCallP, dOLen, fnP, pC, pFrz, dPr, nApp, nIf, nEnd, sN0, sN1, lendE, frzW, sSetK, dGet, dZipD, dPairD, pMax2, sDD, sND, tNeN, sLock, lockE, odcE, tdE, dttE, tC, tLock, tRet, dGetO, dIdxO, tNinD, sPutO, tDen, sUpd, sCpT, iDtt, dSrtD, sParDt, sParDt3, tCall2, fnT, sNewD, isNd, all_bindE, all_retE, p0]
      refine all_spoilt hr (by decide) fun u hu => ?_
      try simp only [Nat.reduceSub, Nat.reduceAdd, Nat.reduceLeDiff, reduceIte, Tree.bind, liftO, dIdx, sAsgL, sPar4, dV, dC, d1, d2, t1, t2, l0, lC, dL, dT, aV, aE, a0, aC, dCall, dCallK, dIf, tTr, tV, truth, asB, tNot, tAnd, tOr, dAnd, dOr, sSet, sAsg, sPar, sRet, s0, sC, sIf, sX, sOwn, sApp, sFrz, frzE, sFor, outV, fnF, lenIs, ent, small, few, putE, putsE, wipeE, it_l, it_t, iS, iR1, iR2, wEn, wZ2, wZ3, dLc, dLf, dSl, oN, oS, pCut, pSub, cI, bD, pIx, pList, pTup, pLen, pNot, qIsN, qNotN, pIsN, pNotN, List.getElem?_cons_succ, List.getElem?_cons_zero, List.set_cons_succ, List.set_cons_zero, List.length_cons, List.length_nil, List.map_cons, List.map_nil, List.foldr_cons, List.foldr_nil, List.replicate_succ, List.replicate_zero, List.cons_append, List.nil_append, sOPar, sOOPar, dOIx, sNest, sCallP, dOLen, fnP, pC, pFrz, dPr, nApp, nIf, nEnd, sN0, sN1, lendE, frzW, sSetK, dGet, dZipD, dPairD, pMax2, sDD, sND, tNeN, sLock, lockE, odcE, tdE, dttE, tC, tLock, tRet, dGetO, dIdxO, tNinD, sPutO, tDen, sUpd, sCpT, iDtt, dSrtD, sParDt, sParDt3, tCall2, fnT, sNewD, isNd, all_bindE, all_retE, List.length_map, sm]
      exact add u hu _ _
    · have p0 : pEq (.int v) (.int 0) = some false := by rw [pEq_ii, decide_eq_false h0]
      simp only [Nat.reduceSub, Nat.reduceAdd, Nat.reduceLeDiff, reduceIte, Tree.bind, liftO, dIdx, sAsgL, sPar4, dV, dC, d1, d2, t1, t2, l0, lC, dL, dT, aV, aE, a0, aC, dCall, dCallK, dIf, tTr, tV, truth, asB, tNot, tAnd, tOr, dAnd, dOr, sSet, sAsg, sPar, sRet, s0, sC, sIf, sX, sOwn, sApp, sFrz, frzE, sFor, outV, fnF, lenIs, ent, small, few, putE, putsE, wipeE, it_l, it_t, iS, iR1, iR2, wEn, wZ2, wZ3, dLc, dLf, dSl, oN, oS, pCut, pSub, cI, bD, pIx, pList, pTup, pLen, pNot, qIsN, qNotN, pIsN, pNotN, List.getElem?_cons_succ, List.getElem?_cons_zero, List.set_cons_succ, List.set_cons_zero, List.length_cons, List.length_nil, List.map_cons, List.map_nil, List.foldr_cons, List.foldr_nil, List.replicate_succ, List.replicate_zero, List.cons_append, List.nil_append, sOPar, sOOPar, dOIx, sNest, sCallP, dOLen, fnP, pC, pFrz, dPr, nApp, nIf, nEnd, sN0, sN1, lendE, frzW, sSetK, dGet, dZipD, dPairD, pMax2, sDD, sND, tNeN, sLock, lockE, odcE, tdE, dttE, tC, tLock, tRet, dGetO, dIdxO, tNinD, sPutO, tDen, sUpd, sCpT, iDtt, dSrtD, sParDt, sParDt3, tCall2, fnT, sNewD, isNd, all_bindE, all_retE, p0, List.length_map, sm]
      exact add r (hr.mono (by decide)) _ _
  · obtain ⟨x4, x8, L, hL, hk, rfl⟩ := hI
    rw [nums_len] at hL
    simp only [Nat.reduceSub, Nat.reduceAdd, Nat.reduceLeDiff, reduceIte, Tree.bind, liftO, dIdx, sAsgL, sPar4, dV, dC, d1, d2, t1, t2, l0, lC, dL, dT, aV, aE, a0, aC, dCall, dCallK, dIf, tTr, tV, truth, asB, tNot, tAnd, tOr, dAnd, dOr, sSet, sAsg, sPar, sRet, s0, sC, sIf, sX, sOwn, sApp, sFrz, frzE, sFor, outV, fnF, lenIs, ent, small, few, putE, putsE, wipeE, it_l, it_t, iS, iR1, iR2, wEn, wZ2, wZ3, dLc, dLf, dSl, oN, oS, pCut, pSub, cI, bD, pIx, pList, pTup, pLen, pNot, qIsN, qNotN, pIsN, pNotN, List.getElem?_cons_succ, List.getElem?_cons_zero, List.set_cons_succ, List.set_cons_zero, List.length_cons, List.length_nil, List.map_cons, List.map_nil, List.foldr_cons, List.foldr_nil, List.replicate_succ, List.replicate_zero, List.cons_append, List.nil_append, sOPar, sOOPar, dOIx, sNest, sCallP, dOLen, fnP, pC, pFrz, dPr, nApp, nIf, nEnd, sN0, sN1, lendE, frzW, sSetK, dGet, dZipD, dPairD, pMax2, sDD, sND, tNeN, sLock, lockE, odcE, tdE, dttE, tC, tLock, tRet, dGetO, dIdxO, tNinD, sPutO, tDen, sUpd, sCpT, iDtt, dSrtD, sParDt, sParDt3, tCall2, fnT, sNewD, isNd, all_bindE, all_retE, it_l, List.length_map, if_pos (show L.length ≤ 50000 by omega)]
    rw [mapT_map, mapT_ret (g := fun _ => PyData.bool true) fun w hwL => by
      obtain ⟨d, h1, h2, h3⟩ := same_w (hk w hwL) (by decide)
      simp only [Nat.reduceSub, Nat.reduceAdd, Nat.reduceLeDiff, reduceIte, Tree.bind, liftO, dIdx, sAsgL, sPar4, dV, dC, d1, d2, t1, t2, l0, lC, dL, dT, aV, aE, a0, aC, dCall, dCallK, dIf, tTr, tV, truth, asB, tNot, tAnd, tOr, dAnd, dOr, sSet, sAsg, sPar, sRet, s0, sC, sIf, sX, sOwn, sApp, sFrz, frzE, sFor, outV, fnF, lenIs, ent, small, few, putE, putsE, wipeE, it_l, it_t, iS, iR1, iR2, wEn, wZ2, wZ3, dLc, dLf, dSl, oN, oS, pCut, pSub, cI, bD, pIx, pList, pTup, pLen, pNot, qIsN, qNotN, pIsN, pNotN, List.getElem?_cons_succ, List.getElem?_cons_zero, List.set_cons_succ, List.set_cons_zero, List.length_cons, List.length_nil, List.map_cons, List.map_nil, List.foldr_cons, List.foldr_nil, List.replicate_succ, List.replicate_zero, List.cons_append, List.nil_append, sOPar, sOOPar, dOIx, sNest, sCallP, dOLen, fnP, pC, pFrz, dPr, nApp, nIf, nEnd, sN0, sN1, lendE, frzW, sSetK, dGet, dZipD, dPairD, pMax2, sDD, sND, tNeN, sLock, lockE, odcE, tdE, dttE, tC, tLock, tRet, dGetO, dIdxO, tNinD, sPutO, tDen, sUpd, sCpT, iDtt, dSrtD, sParDt, sParDt3, tCall2, fnT, sNewD, isNd, h1, h2, ev_same h3]]
    have ha : pAll (.list (L.map fun _ => PyData.bool true)) = some (.bool true) := by
      have := pAll_map (fun _ : Str => true) L
      rw [this]
      congr 2
      simp
    simp only [Nat.reduceSub, Nat.reduceAdd, Nat.reduceLeDiff, reduceIte, Tree.bind, liftO, dIdx, sAsgL, sPar4, dV, dC, d1, d2, t1, t2, l0, lC, dL, dT, aV, aE, a0, aC, dCall, dCallK, dIf, tTr, tV, truth, asB, tNot, tAnd, tOr, dAnd, dOr, sSet, sAsg, sPar, sRet, s0, sC, sIf, sX, sOwn, sApp, sFrz, frzE, sFor, outV, fnF, lenIs, ent, small, few, putE, putsE, wipeE, it_l, it_t, iS, iR1, iR2, wEn, wZ2, wZ3, dLc, dLf, dSl, oN, oS, pCut, pSub, cI, bD, pIx, pList, pTup, pLen, pNot, qIsN, qNotN, pIsN, pNotN, List.getElem?_cons_succ, List.getElem?_cons_zero, List.set_cons_succ, List.set_cons_zero, List.length_cons, List.length_nil, List.map_cons, List.map_nil, List.foldr_cons, List.foldr_nil, List.replicate_succ, List.replicate_zero, List.cons_append, List.nil_append, sOPar, sOOPar, dOIx, sNest, sCallP, dOLen, fnP, pC, pFrz, dPr, nApp, nIf, nEnd, sN0, sN1, lendE, frzW, sSetK, dGet, dZipD, dPairD, pMax2, sDD, sND, tNeN, sLock, lockE, odcE, tdE, dttE, tC, tLock, tRet, dGetO, dIdxO, tNinD, sPutO, tDen, sUpd, sCpT, iDtt, dSrtD, sParDt, sParDt3, tCall2, fnT, sNewD, isNd, all_bindE, all_retE, ha]
end Nx
namespace Nx
open PySem PySem.Spec PyProof.Rows L2
def topS (i : Nat) : Stmt := PySem.Challenge.pw_nextstands_k58_tables_as_lines.main.body.getD i (.Pass ⟨0, 0, 0, 0⟩)
abbrev sC_BadLine : Stmt := clsS (topS 2) 0
abbrev s_is_chair : Stmt := topS 5
abbrev s_all_chairs : Stmt := topS 6
abbrev s_is_table : Stmt := topS 7
abbrev s_spaced : Stmt := topS 11
abbrev s_number_written : Stmt := topS 12
abbrev s_chair_written : Stmt := topS 13
abbrev s_table_line : Stmt := topS 14
abbrev s_table_from : Stmt := topS 15
abbrev s_law_box : Stmt := topS 17
abbrev s_law_take : Stmt := topS 18
abbrev s_law_cells : Stmt := topS 19
abbrev s_law_of : Stmt := topS 20
abbrev s_law_strewn : Stmt := topS 21
abbrev s_law_same : Stmt := topS 22
abbrev s_law_span : Stmt := topS 23
abbrev s_law_crowd : Stmt := topS 24
abbrev s_law_climbs : Stmt := topS 25
abbrev s_law_scene : Stmt := topS 26
abbrev s_law_told : Stmt := topS 27
abbrev s_law_due : Stmt := topS 28
abbrev s_law_spoilt : Stmt := topS 29
abbrev s_law_right : Stmt := topS 30
abbrev s_law : Stmt := topS 31
section
variable {P : Program} {w : World} {K : PySem.W.Frag} {mg : Str → Option Value} {base : Heap}
theorem sc_law_take : FnScope ["_law_box_here", "_law_below", "_law_blend", "_law_found"] ["_law_box_here", "_law_below"] (defScope s_law_take) := ⟨rfl, rfl, rfl, by decide +kernel, rfl, by decide +kernel, by decide +kernel⟩
def c_law_take : Ct := fun os μ Φ => ∃ b n p q t, os = [.own b, .im (.int n)] ∧ μ b = some (bx p q t) ∧ 0 < n ∧ n < 4611686018427387904 ∧ ∀ r p' t', 0 ≤ r → r < n → Φ (.im (.int r)) (μ.put b (bx p' q t'))
theorem f_law_take {f : Addr} {fd : FuncData} (F : Fun K "_law_take" "_law_take" s_law_take f fd) (hm : mg "_law_take" = some (.ref f)) : Fc P w K mg base "_law_take" s_law_take ["_law_box_here", "_law_below"] 1 c_law_take := by
  have sc := sc_law_take
  refine fc_of F hm sc (fun os μ Φ h => ?_) fun cdv A outer s H E os μ Φ hr h => ?_
  · obtain ⟨b, n, p, q, t, rfl, _⟩ := h
    rfl
  · obtain ⟨b, n, p, q, t, rfl, hb, n0, n1, k⟩ := h
    refine dss_cons (ds_if (dt_gt (de_ix (fun _ _ => rfl) (de_var 0 rfl (.inl rfl) rfl (de_int ⟨_, _, _, .own hb, rfl, rfl, de_int ⟨_, _, rfl, rfl, ?_⟩⟩)))))
    by_cases hp : 0 < p
    · rw [if_pos (decide_eq_true hp)]
      refine dss_cons (ds_set 3 sc.nd rfl (.inl rfl) (de_mod (de_ix (fun _ _ => rfl) (de_var 0 rfl (.inl rfl) rfl (de_int ⟨_, _, _, .own hb, rfl, rfl, de_var 1 rfl (.inl rfl) rfl ⟨_, _, rfl, rfl, n0, ?_⟩⟩)))))
      refine dss_cons (ds_sub (de_fdivW (de_ix (fun _ _ => rfl) (de_var 0 rfl (.inl rfl) rfl (de_int ⟨_, _, _, .own hb, rfl, rfl, de_var 1 rfl (.inl rfl) rfl ⟨_, _, rfl, rfl, wide_div (b := 62) n0 (by omega) (by decide) (by decide), de_var 0 rfl (.inl rfl) rfl (de_int ⟨_, _, _, _, rfl, rfl, hb, rfl, ?_⟩)⟩⟩)))) (hsub := pg_sub pwe pwe set_list))
      refine dss_one (ds_ret (de_var 3 rfl (.inl rfl) rfl ?_))
      exact k _ _ _ (Int.emod_nonneg _ (by omega)) (Int.emod_lt_of_pos _ n0)
    · rw [if_neg (by simpa using hp)]
      refine dss_nil ?_
      refine dss_cons (ds_sub (de_add (de_ix (fun _ _ => rfl) (de_var 0 rfl (.inl rfl) rfl (de_int ⟨_, _, _, .own hb, rfl, rfl, de_int (.inl ⟨_, _, rfl, rfl, de_var 0 rfl (.inl rfl) rfl (de_int ⟨_, _, _, _, rfl, rfl, hb, rfl, ?_⟩)⟩)⟩)))) (hsub := pg_sub pwe pwe set_list))
      refine dss_cons (ds_set 2 sc.nd rfl (.inl rfl) (de_mod (de_add (de_ix (fun _ _ => rfl) (de_var 0 rfl (.inl rfl) rfl (de_int ⟨_, _, _, .own put_same, rfl, rfl, de_mul (de_int (de_ix (fun _ _ => rfl) (de_var 0 rfl (.inl rfl) rfl (de_int ⟨_, _, _, .own put_same, rfl, rfl, ⟨_, _, rfl, rfl, .inl ⟨by decide, by decide⟩, .inl ⟨_, _, rfl, rfl, de_int ⟨_, _, rfl, rfl, by decide, ?_⟩⟩⟩⟩))))⟩))))))
      generalize hm1 : (q + 1442695040888963407 * (t + 1)) % 2305843009213693951 = m1
      have a1 := Int.emod_nonneg (q + 1442695040888963407 * (t + 1)) (show (2305843009213693951 : Int) ≠ 0 by decide)
      have a2 := Int.emod_lt_of_pos (q + 1442695040888963407 * (t + 1)) (show (0 : Int) < 2305843009213693951 by decide)
      rw [hm1] at a1 a2
      refine dss_cons (ds_set 2 sc.nd rfl (.inl rfl) (de_mod (de_add (de_add (de_mul (de_var 2 rfl (.inl rfl) rfl (de_var 2 rfl (.inl rfl) rfl ⟨_, _, rfl, rfl, .inl ⟨by omega, by omega⟩, de_mul (de_int (de_ix (fun _ _ => rfl) (de_var 0 rfl (.inl rfl) rfl (de_int ⟨_, _, _, .own put_same, rfl, rfl, ⟨_, _, rfl, rfl, .inl ⟨by decide, by decide⟩, .inl ⟨_, _, rfl, rfl, de_int (.inl ⟨_, _, rfl, rfl, de_int ⟨_, _, rfl, rfl, by decide, ?_⟩⟩)⟩⟩⟩))))⟩)))))))
      generalize hm2 : (m1 * m1 + 39373 * (t + 1) + 7) % 2305843009213693921 = m2
      have a3 := Int.emod_nonneg (m1 * m1 + 39373 * (t + 1) + 7) (show (2305843009213693921 : Int) ≠ 0 by decide)
      have a4 := Int.emod_lt_of_pos (m1 * m1 + 39373 * (t + 1) + 7) (show (0 : Int) < 2305843009213693921 by decide)
      rw [hm2] at a3 a4
      refine dss_cons (ds_set 2 sc.nd rfl (.inl rfl) (de_mod (de_add (de_mul (de_var 2 rfl (.inl rfl) rfl (de_add (de_fdiv (de_var 2 rfl (.inl rfl) rfl (de_int ⟨_, _, rfl, rfl, ⟨by decide, by decide⟩, de_int (.inl ⟨_, _, rfl, rfl, ⟨_, _, rfl, rfl, .inl ⟨by omega, by omega⟩, de_ix (fun _ _ => rfl) (de_var 0 rfl (.inl rfl) rfl (de_int ⟨_, _, _, .own put_same, rfl, rfl, .inl ⟨_, _, rfl, rfl, de_int ⟨_, _, rfl, rfl, by decide, ?_⟩⟩⟩))⟩⟩)⟩)))))))))
      refine dss_one (ds_ret (de_mod (de_fdiv (de_var 2 rfl (.inl rfl) rfl (de_int ⟨_, _, rfl, rfl, ⟨by decide, by decide⟩, de_var 1 rfl (.inl rfl) rfl ⟨_, _, rfl, rfl, n0, ?_⟩⟩)))))
      exact k _ _ _ (Int.emod_nonneg _ (by omega)) (Int.emod_lt_of_pos _ n0)
theorem sc_law_strewn : FnScope ["_law_box_here", "_law_some", "_law_left", "_law_found", "_law_turn"] ["_law_box_here", "_law_some"] (defScope s_law_strewn) := ⟨rfl, rfl, rfl, by decide +kernel, rfl, by decide +kernel, by decide +kernel⟩
def c_law_strewn : Ct := fun os μ Φ => ∃ (b : Addr) (ds : List PyData) (p q t : Int), os = [.own b, .im (.list ds)] ∧ μ b = some (bx p q t) ∧ ds.length ≤ 1000 ∧ ∀ es p' t', es.Perm ds → Φ (.im (.list es)) (μ.put b (bx p' q t'))
theorem f_law_strewn (B : Bt mg) (F_law_take : Fc P w K mg base "_law_take" s_law_take ["_law_box_here", "_law_below"] 1 c_law_take) {f : Addr} {fd : FuncData} (F : Fun K "_law_strewn" "_law_strewn" s_law_strewn f fd) (hm : mg "_law_strewn" = some (.ref f)) : Fc P w K mg base "_law_strewn" s_law_strewn ["_law_box_here", "_law_some"] 2 c_law_strewn := by
  have sc := sc_law_strewn
  refine fc_of F hm sc (fun os μ Φ h => ?_) fun cdv A outer s H E os μ Φ hr h => ?_
  · obtain ⟨b, ds, p, q, t, rfl, _⟩ := h
    rfl
  · obtain ⟨b, ds, p, q, t, rfl, hb, hz, k⟩ := h
    refine dss_cons (ds_par 2 3 rfl sc.nd rfl rfl (by decide) rfl rfl rfl (da_cons (de_listO B rfl (de_var 1 rfl (.inl rfl) rfl ⟨_, .lst _, fun la hla => da_cons (de_lstO (da_nil ⟨lz rfl, fun fa hfa => da_nil ⟨_, _, rfl, ?_⟩⟩))⟩))))
    have nlf : la ≠ fa := ne_own put_same hfa
    have nbl := ne_own hb hla
    have hfa0 : μ fa = none := by
      cases z : μ fa with
      | none => rfl
      | some l =>
        rw [put_ne (ne_own z hla), z] at hfa
        cases hfa
    have nbf := ne_own hb hfa0
    refine dss_cons (ds_for (.nm 4) PassesOwn.never rfl (pg_name (i := 4) sc.nd rfl (.inl rfl)) (di_range1 B rfl (de_len B rfl (de_var 2 rfl (.inl rfl) rfl ⟨_, .own ((put_ne nlf).trans put_same), ⟨_, rfl, by omega, ?_, ?_⟩⟩))))
    · rw [List.length_map]
      omega
    refine ⟨fun i ρ' μ' => ∃ es fs p t x, ρ' = [some (.own b), some (.im (.list ds)), some (.own la), some (.own fa), x] ∧ μ' b = some (bx p q t) ∧ μ' la = some (es.map OV.im) ∧ μ' fa = some (fs.map OV.im) ∧ (∀ a l, a ≠ b → μ a = some l → μ' a = some l) ∧ es.length + i = ds.length ∧ (fs ++ es).Perm ds ∧ μ'.d = μ.d ∧ μ'.C = μ.C,
      ⟨ds, [], p, t, none, rfl, ?_, (put_ne nlf).trans put_same, put_same, fun a l _ e => ?_, rfl, by simp, rfl, rfl⟩, fun _ _ _ _ => trivial, fun i z ρ' μ' hz' hP => ?_, fun ρ' μ' hP => ?_⟩
    · rw [put_ne nbf, put_ne nbl]
      exact hb
    · rw [put_ne (ne_own e hfa0), put_ne (ne_own e hla)]
      exact e
    · obtain ⟨es, fs, p1, t1, x, rfl, h1, h2, h3, h4, h5, h6, h7, h8⟩ := hP
      have hi := (List.getElem?_eq_some_iff.mp hz').1
      simp at hi
      refine ⟨_, rfl, ?_⟩
      refine dss_one (ds_expr (de_append (de_var 3 rfl (.inl rfl) rfl ⟨_, _, rfl, h3, de_popAt (de_var 2 rfl (.inl rfl) rfl ⟨_, _, rfl, h2, de_call F_law_take (hr.mono (by decide)) rfl (fun _ _ _ _ _ _ us hl => match us, hl with | [_, _], _ => rfl) (da_cons (de_var 0 rfl (.inl rfl) rfl (da_cons (de_len B rfl (de_var 2 rfl (.inl rfl) rfl ⟨_, .own h2, da_nil ⟨b, _, p1, q, t1, rfl, h1, ?_, ?_, fun r p2 t2 r0 r1 => ?_⟩⟩)))))⟩)⟩)))
      · rw [List.length_map]
        omega
      · rw [List.length_map]
        omega
      · rw [List.length_map] at r1
        obtain ⟨j, rfl⟩ : ∃ j : Nat, r = (j : Int) := ⟨r.toNat, by omega⟩
        have hj : j < es.length := by omega
        refine ⟨es.map OV.im, j, .im es[j], rfl, by omega, by rw [put_ne nbl.symm]; exact h2, by rw [List.getElem?_map, List.getElem?_eq_getElem hj]; rfl, fs.map OV.im, by rw [put_ne nlf.symm, put_ne nbf.symm]; exact h3, ?_, ?_⟩
        · have := h6.length_eq
          rw [List.length_append] at this
          rw [List.length_map]
          omega
        · refine ⟨es.eraseIdx j, fs ++ [es[j]], p2, t2, _, rfl, ?_, ?_, ?_, fun a l ha e => ?_, ?_, ?_, h7, h8⟩
          · rw [put_ne nbf, put_ne nbl, put_same]
          · rw [put_ne nlf, put_same, erase_map]
          · rw [put_same, List.map_append]
            rfl
          · rw [put_ne (ne_own e hfa0), put_ne (ne_own e hla), put_ne ha]
            exact h4 a l ha e
          · rw [List.length_eraseIdx_of_lt hj]
            omega
          · refine List.Perm.trans ?_ h6
            rw [List.append_assoc]
            refine List.Perm.append_left fs ?_
            exact erase_perm es j hj
    · obtain ⟨es, fs, p1, t1, x, rfl, h1, h2, h3, h4, h5, h6, h7, h8⟩ := hP
      simp at h5
      subst h5
      rw [List.append_nil] at h6
      refine dss_frz (i := 3) rfl h3 (dss_drop (μ' := μ.put b (bx p1 q t1)) ⟨fun a l e => ?_, h7.symm, h8.symm⟩ (dss_one (ds_ret (de_var 3 rfl (.inl rfl) rfl (k fs p1 t1 h6)))))
      show (if a = fa then none else μ' a) = some l
      by_cases ha : a = b
      · subst ha
        rw [put_same] at e
        cases e
        rw [if_neg nbf]
        exact h1
      · rw [put_ne ha] at e
        rw [if_neg (ne_own e hfa0)]
        exact h4 a l ha e
abbrev N_is_chair : List Str := ["size", "thing"]
theorem sc_is_chair : FnScope N_is_chair ["size", "thing"] (defScope s_is_chair) := ⟨rfl, rfl, rfl, by decide +kernel, rfl, by decide +kernel, by decide +kernel⟩
theorem f_is_chair (B : Bt mg)     {f : Addr} {fd : FuncData} (F : Fun K "is_chair" "is_chair" s_is_chair f fd) (hm : mg "is_chair" = some (.ref f)) : Fc P w K mg base "is_chair" s_is_chair ["size", "thing"] 1 (cF (m_is_chair)) := by
  have sc := sc_is_chair
  refine fc_body (k := 0) (b_is_chair) (m := m_is_chair) (by unfold m_is_chair; rfl) F hm sc rfl rfl fun b cdv A outer s H E hr => ?_
  exact (ss_cons (ss_if (st_w (sw_or (st_not (st_tru (se_isi B rfl rfl B.int rfl (se_v 1 rfl (.inl rfl))))) (sw_or1 (st_tru (se_isi B rfl rfl B.bool rfl (se_v 1 rfl (.inl rfl))))))) (ss_one (ss_ret se_bl)) ss_nil) (ss_one (ss_ret (se_chain op_le op_lt se_int (se_v 1 rfl (.inl rfl)) (se_v 0 rfl (.inl rfl))))))
abbrev N_all_chairs : List Str := ["size", "things", "thing"]
theorem sc_all_chairs : FnScope N_all_chairs ["size", "things"] (defScope s_all_chairs) := ⟨rfl, rfl, rfl, by decide +kernel, rfl, by decide +kernel, by decide +kernel⟩
theorem f_all_chairs (B : Bt mg)  (F_is_chair : Fc P w K mg base "is_chair" s_is_chair ["size", "thing"] 1 (cF m_is_chair))   {f : Addr} {fd : FuncData} (F : Fun K "all_chairs" "all_chairs" s_all_chairs f fd) (hm : mg "all_chairs" = some (.ref f)) : Fc P w K mg base "all_chairs" s_all_chairs ["size", "things"] 2 (cF (m_all_chairs)) := by
  have sc := sc_all_chairs
  refine fc_body (k := 1) (b_all_chairs) (m := m_all_chairs) (by unfold m_all_chairs; rfl) F hm sc rfl rfl fun b cdv A outer s H E hr => ?_
  exact (ss_one (ss_ret (se_all B rfl rfl (se_lc (own := [("thing", 2)]) (.nm 2) rfl sc.nd (blkOk_by (N := N_all_chairs) (sc := defScope s_all_chairs) (by decide +kernel)) (by decide) (fun _ _ _ _ _ => pg_name (i := 2) sc.nd rfl (by first | exact .inl rfl | exact .inr rfl)) (si_seq (se_v 1 rfl (.inl rfl))) (fun _ _ _ _ _ => (se_call F_is_chair (hr.mono (by decide)) rfl (fun _ _ _ _ _ _ us hl => match us, hl with | [_, _], _ => rfl) (sa_cons (sv_v 0) (sa_cons (sv_v 2) sa_nil))))))))
abbrev N_is_table : List Str := ["size", "thing", "ascending", "left", "right"]
theorem sc_is_table : FnScope N_is_table ["size", "thing"] (defScope s_is_table) := ⟨rfl, rfl, rfl, by decide +kernel, rfl, by decide +kernel, by decide +kernel⟩
theorem f_is_table (B : Bt mg)  (F_all_chairs : Fc P w K mg base "all_chairs" s_all_chairs ["size", "things"] 2 (cF m_all_chairs))   {f : Addr} {fd : FuncData} (F : Fun K "is_table" "is_table" s_is_table f fd) (hm : mg "is_table" = some (.ref f)) : Fc P w K mg base "is_table" s_is_table ["size", "thing"] 3 (cF (m_is_table)) := by
  have sc := sc_is_table
  refine fc_body (k := 2) (b_is_table) (m := m_is_table) (by unfold m_is_table; rfl) F hm sc rfl rfl fun b cdv A outer s H E hr => ?_
  exact (ss_cons (ss_if (st_w (sw_or (st_not (st_tru (se_isi B rfl rfl B.tuple rfl (se_v 1 rfl (.inl rfl))))) (sw_or1 (st_not (st_tru (se_call F_all_chairs (hr.mono (by decide)) rfl (fun _ _ _ _ _ _ us hl => match us, hl with | [_, _], _ => rfl) (sa_cons (sv_v 0 rfl (.inl rfl)) (sa_cons (sv_v 1 rfl (.inl rfl)) sa_nil)))))))) (ss_one (ss_ret se_bl)) ss_nil) (ss_cons (ss_set 2 sc.nd rfl (.inl rfl) (se_all B rfl rfl (se_lc (own := [("left", 3), ("right", 4)]) (.tp [3, 4]) rfl sc.nd (blkOk_by (N := N_is_table) (sc := defScope s_is_table) (by decide +kernel)) (by decide) (fun _ _ _ _ _ => pg_tup rfl (pgs_cons (pg_name (i := 3) sc.nd rfl (by first | exact .inl rfl | exact .inr rfl)) (pgs_cons (pg_name (i := 4) sc.nd rfl (by first | exact .inl rfl | exact .inr rfl)) pgs_nil))) (si_z2 B rfl (se_v 1 rfl (.inl rfl)) (se_sl (se_v 1 rfl (.inl rfl)) (so_s se_int) so_n)) (fun _ _ _ _ _ => (se_cmp op_lt (nomark _) okI (se_v 3) (se_v 4)))))) (ss_one (ss_ret (se_and (se_v 2 rfl (.inl rfl)) (se_one (se_chain op_le op_lt se_int (se_len B rfl (se_v 1 rfl (.inl rfl))) (se_v 0 rfl (.inl rfl)))))))))
abbrev N_spaced : List Str := ["numbers", "number"]
theorem sc_spaced : FnScope N_spaced ["numbers"] (defScope s_spaced) := ⟨rfl, rfl, rfl, by decide +kernel, rfl, by decide +kernel, by decide +kernel⟩
theorem f_spaced (B : Bt mg)     {f : Addr} {fd : FuncData} (F : Fun K "spaced" "spaced" s_spaced f fd) (hm : mg "spaced" = some (.ref f)) : Fc P w K mg base "spaced" s_spaced ["numbers"] 1 (cF (m_spaced)) := by
  have sc := sc_spaced
  refine fc_body (k := 0) (b_spaced) (m := m_spaced) (by unfold m_spaced; rfl) F hm sc rfl rfl fun b cdv A outer s H E hr => ?_
  exact (ss_one (ss_ret (se_join se_str (se_lc (own := [("number", 1)]) (.nm 1) rfl sc.nd (blkOk_by (N := N_spaced) (sc := defScope s_spaced) (by decide +kernel)) (by decide) (fun _ _ _ _ _ => pg_name (i := 1) sc.nd rfl (by first | exact .inl rfl | exact .inr rfl)) (si_seq (se_v 0 rfl (.inl rfl))) (fun _ _ _ _ _ => (se_str1 B rfl (se_v 1)))))))
abbrev N_number_written : List Str := ["text", "least", "most", "number"]
theorem sc_number_written : FnScope N_number_written ["text", "least", "most"] (defScope s_number_written) := ⟨rfl, rfl, rfl, by decide +kernel, rfl, by decide +kernel, by decide +kernel⟩
theorem f_number_written (B : Bt mg)     {f : Addr} {fd : FuncData} (F : Fun K "number_written" "number_written" s_number_written f fd) (hm : mg "number_written" = some (.ref f)) : Fc P w K mg base "number_written" s_number_written ["text", "least", "most"] 1 (cF (m_number_written)) := by
  have sc := sc_number_written
  refine fc_body (k := 0) (b_number_written) (m := m_number_written) (by unfold m_number_written; rfl) F hm sc rfl rfl fun b cdv A outer s H E hr => ?_
  exact (ss_cons (ss_for (.nm 3) PassesOwn.never rfl (pg_name (i := 3) sc.nd rfl (.inl rfl)) (si_r2 B rfl (se_v 1 rfl (.inl rfl)) (se_add (se_v 2 rfl (.inl rfl)) se_int)) (ss_one (ss_if (st_cmp ((op_eqI.or (op_eqD hr.room.units)).or op_eq) (nomark _) ok_eq (se_str1 B rfl (se_v 3 rfl (.inl rfl))) (se_v 0 rfl (.inl rfl))) (ss_one (ss_ret (se_v 3 rfl (.inl rfl)))) ss_nil))) (ss_one (ss_ret se_non)))
abbrev N_chair_written : List Str := ["size", "text"]
theorem sc_chair_written : FnScope N_chair_written ["size", "text"] (defScope s_chair_written) := ⟨rfl, rfl, rfl, by decide +kernel, rfl, by decide +kernel, by decide +kernel⟩
theorem f_chair_written (B : Bt mg)  (F_number_written : Fc P w K mg base "number_written" s_number_written ["text", "least", "most"] 1 (cF m_number_written))   {f : Addr} {fd : FuncData} (F : Fun K "chair_written" "chair_written" s_chair_written f fd) (hm : mg "chair_written" = some (.ref f)) : Fc P w K mg base "chair_written" s_chair_written ["size", "text"] 2 (cF (m_chair_written)) := by
  have sc := sc_chair_written
  refine fc_body (k := 1) (b_chair_written) (m := m_chair_written) (by unfold m_chair_written; rfl) F hm sc rfl rfl fun b cdv A outer s H E hr => ?_
  exact (ss_one (ss_ret (se_call F_number_written (hr.mono (by decide)) rfl (fun _ _ _ _ _ _ us hl => match us, hl with | [_, _, _], _ => rfl) (sa_cons (sv_v 1 rfl (.inl rfl)) (sa_cons (sv_e se_int) (sa_cons (sv_e (se_sub (se_v 0 rfl (.inl rfl)) se_int)) sa_nil))))))
abbrev N_table_line : List Str := ["size", "table"]
theorem sc_table_line : FnScope N_table_line ["size", "table"] (defScope s_table_line) := ⟨rfl, rfl, rfl, by decide +kernel, rfl, by decide +kernel, by decide +kernel⟩
theorem f_table_line (B : Bt mg)  (F_spaced : Fc P w K mg base "spaced" s_spaced ["numbers"] 1 (cF m_spaced))   {f : Addr} {fd : FuncData} (F : Fun K "table_line" "table_line" s_table_line f fd) (hm : mg "table_line" = some (.ref f)) : Fc P w K mg base "table_line" s_table_line ["size", "table"] 2 (cF (m_table_line)) := by
  have sc := sc_table_line
  refine fc_body (k := 1) (b_table_line) (m := m_table_line) (by unfold m_table_line; rfl) F hm sc rfl rfl fun b cdv A outer s H E hr => ?_
  exact (ss_one (ss_ret (se_fstr (sj_f (se_v 0 rfl (.inl rfl)) (sj_k (sj_f (se_call F_spaced (hr.mono (by decide)) rfl (fun _ _ _ _ _ _ us hl => match us, hl with | [_], _ => rfl) (sa_cons (sv_v 1 rfl (.inl rfl)) sa_nil)) sj_nil))))))
abbrev N_table_from : List Str := ["line", "size", "table", "head", "mark", "rest", "part"]
theorem sc_table_from : FnScope N_table_from ["line"] (defScope s_table_from) := ⟨rfl, rfl, rfl, by decide +kernel, rfl, by decide +kernel, by decide +kernel⟩
theorem f_table_from (B : Bt mg) (G_LEAST_SIZE : ∃ t, mg "LEAST_SIZE" = some (.int 2 t)) (G_MOST_SIZE : ∃ t, mg "MOST_SIZE" = some (.int 10 t)) (F_number_written : Fc P w K mg base "number_written" s_number_written ["text", "least", "most"] 1 (cF m_number_written)) (F_is_table : Fc P w K mg base "is_table" s_is_table ["size", "thing"] 3 (cF m_is_table)) (F_chair_written : Fc P w K mg base "chair_written" s_chair_written ["size", "text"] 2 (cF m_chair_written))   {f : Addr} {fd : FuncData} (F : Fun K "table_from" "table_from" s_table_from f fd) (hm : mg "table_from" = some (.ref f)) : Fc P w K mg base "table_from" s_table_from ["line"] 4 (cF (m_table_from)) := by
  have sc := sc_table_from
  refine fc_body (k := 3) (b_table_from) (m := m_table_from) (by unfold m_table_from; rfl) F hm sc rfl rfl fun b cdv A outer s H E hr => ?_
  exact (ss_cons (ss_asg (.tp [3, 4, 5]) (pg_tup rfl (pgs_cons (pg_name (i := 3) sc.nd rfl (.inl rfl)) (pgs_cons (pg_name (i := 4) sc.nd rfl (.inl rfl)) (pgs_cons (pg_name (i := 5) sc.nd rfl (.inl rfl)) pgs_nil)))) (se_part (se_v 0 rfl (.inl rfl)) se_str)) (ss_cons (ss_set 1 sc.nd rfl (.inr rfl) (se_call F_number_written (hr.mono (by decide)) rfl (fun _ _ _ _ _ _ us hl => match us, hl with | [_, _, _], _ => rfl) (sa_cons (sv_v 3 rfl (.inl rfl)) (sa_cons (sv_e (se_gl rfl G_LEAST_SIZE)) (sa_cons (sv_e (se_gl rfl G_MOST_SIZE)) sa_nil))))) (ss_cons (ss_if (st_isN (se_v 1 rfl (.inr (.inl rfl)))) (ss_one ss_no) ss_nil) (ss_cons (ss_set 2 sc.nd rfl (.inl rfl) (se_tuple B rfl (se_lc (own := [("part", 6)]) (.nm 6) rfl sc.nd (blkOk_by (N := N_table_from) (sc := defScope s_table_from) (by decide +kernel)) (by decide) (fun _ _ _ _ _ => pg_name (i := 6) sc.nd rfl (by first | exact .inl rfl | exact .inr rfl)) (si_seq (se_split (se_v 5 rfl (.inl rfl)) se_str)) (fun _ _ _ _ _ => (se_call F_chair_written (hr.mono (by decide)) rfl (fun _ _ _ _ _ _ us hl => match us, hl with | [_, _], _ => rfl) (sa_cons (sv_v 1) (sa_cons (sv_v 6) sa_nil))))))) (ss_cons (ss_if (st_not (st_tru (se_call F_is_table (hr.mono (by decide)) rfl (fun _ _ _ _ _ _ us hl => match us, hl with | [_, _], _ => rfl) (sa_cons (sv_v 1 rfl (.inr (.inl rfl))) (sa_cons (sv_v 2 rfl (.inl rfl)) sa_nil))))) (ss_one ss_no) ss_nil) (ss_one (ss_ret (se_tup (sd_cons (se_v 1 rfl (.inr (.inl rfl))) (sd_cons (se_v 2 rfl (.inl rfl)) sd_nil))))))))))
abbrev N_law_of : List Str := ["_law_box_here", "_law_some"]
theorem sc_law_of : FnScope N_law_of ["_law_box_here", "_law_some"] (defScope s_law_of) := ⟨rfl, rfl, rfl, by decide +kernel, rfl, by decide +kernel, by decide +kernel⟩
theorem f_law_of (B : Bt mg)  (F_law_take : Fc P w K mg base "_law_take" s_law_take ["_law_box_here", "_law_below"] 1 (cF takeF))   {f : Addr} {fd : FuncData} (F : Fun K "_law_of" "_law_of" s_law_of f fd) (hm : mg "_law_of" = some (.ref f)) : Fc P w K mg base "_law_of" s_law_of ["_law_box_here", "_law_some"] 2 (cF (m_law_of)) := by
  have sc := sc_law_of
  refine fc_body (k := 1) (b_law_of) (m := m_law_of) (by unfold m_law_of; rfl) F hm sc rfl rfl fun b cdv A outer s H E hr => ?_
  exact (ss_one (ss_ret (se_ix (fun _ _ => rfl) (se_v 1 rfl (.inl rfl)) (se_call F_law_take (hr.mono (by decide)) rfl (fun _ _ _ _ _ _ us hl => match us, hl with | [_, _], _ => rfl) (sa_cons (sv_v 0 rfl (.inl rfl)) (sa_cons (sv_e (se_len B rfl (se_v 1 rfl (.inl rfl)))) sa_nil))))))
abbrev N_law_same : List Str := ["_law_found", "_law_due_here"]
theorem sc_law_same : FnScope N_law_same ["_law_found", "_law_due_here"] (defScope s_law_same) := ⟨rfl, rfl, rfl, by decide +kernel, rfl, by decide +kernel, by decide +kernel⟩
theorem f_law_same (B : Bt mg)     {f : Addr} {fd : FuncData} (F : Fun K "_law_same" "_law_same" s_law_same f fd) (hm : mg "_law_same" = some (.ref f)) : Fc P w K mg base "_law_same" s_law_same ["_law_found", "_law_due_here"] 1 (cF (m_law_same)) := by
  have sc := sc_law_same
  refine fc_body (k := 0) (b_law_same) (m := m_law_same) (by unfold m_law_same; rfl) F hm sc rfl rfl fun b cdv A outer s H E hr => ?_
  exact (ss_one (ss_ret (se_same B hr rfl (se_v 0 rfl (.inl rfl)) (se_v 1 rfl (.inl rfl)))))
abbrev N_law_span : List Str := ["_law_box_here", "_law_most"]
theorem sc_law_span : FnScope N_law_span ["_law_box_here", "_law_most"] (defScope s_law_span) := ⟨rfl, rfl, rfl, by decide +kernel, rfl, by decide +kernel, by decide +kernel⟩
theorem f_law_span (B : Bt mg)  (F_law_take : Fc P w K mg base "_law_take" s_law_take ["_law_box_here", "_law_below"] 1 (cF takeF))   {f : Addr} {fd : FuncData} (F : Fun K "_law_span" "_law_span" s_law_span f fd) (hm : mg "_law_span" = some (.ref f)) : Fc P w K mg base "_law_span" s_law_span ["_law_box_here", "_law_most"] 2 (cF (m_law_span)) := by
  have sc := sc_law_span
  refine fc_body (k := 1) (b_law_span) (m := m_law_span) (by unfold m_law_span; rfl) F hm sc rfl rfl fun b cdv A outer s H E hr => ?_
  exact (ss_one (ss_ret (se_add se_int (se_call F_law_take (hr.mono (by decide)) rfl (fun _ _ _ _ _ _ us hl => match us, hl with | [_, _], _ => rfl) (sa_cons (sv_v 0 rfl (.inl rfl)) (sa_cons (sv_e (se_sub (se_v 1 rfl (.inl rfl)) se_int)) sa_nil))))))
abbrev N_law_crowd : List Str := ["_law_box_here", "_law_span_here", "_law_folk", "_law_base", "_law_k"]
theorem sc_law_crowd : FnScope N_law_crowd ["_law_box_here", "_law_span_here", "_law_folk"] (defScope s_law_crowd) := ⟨rfl, rfl, rfl, by decide +kernel, rfl, by decide +kernel, by decide +kernel⟩
theorem f_law_crowd (B : Bt mg)  (F_law_take : Fc P w K mg base "_law_take" s_law_take ["_law_box_here", "_law_below"] 1 (cF takeF)) (F_law_strewn : Fc P w K mg base "_law_strewn" s_law_strewn ["_law_box_here", "_law_some"] 2 (cF strewnF))   {f : Addr} {fd : FuncData} (F : Fun K "_law_crowd" "_law_crowd" s_law_crowd f fd) (hm : mg "_law_crowd" = some (.ref f)) : Fc P w K mg base "_law_crowd" s_law_crowd ["_law_box_here", "_law_span_here", "_law_folk"] 3 (cF (m_law_crowd)) := by
  have sc := sc_law_crowd
  refine fc_body (k := 2) (b_law_crowd) (m := m_law_crowd) (by unfold m_law_crowd; rfl) F hm sc rfl rfl fun b cdv A outer s H E hr => ?_
  exact (ss_cons (ss_if (st_cmp ((op_eqI.or (op_eqD hr.room.units)).or op_eq) (nomark _) ok_eq (se_call F_law_take (hr.mono (by decide)) rfl (fun _ _ _ _ _ _ us hl => match us, hl with | [_, _], _ => rfl) (sa_cons (sv_v 0 rfl (.inl rfl)) (sa_cons (sv_e se_int) sa_nil))) se_int) (ss_cons (ss_set 3 sc.nd rfl (.inr rfl) (se_call F_law_take (hr.mono (by decide)) rfl (fun _ _ _ _ _ _ us hl => match us, hl with | [_, _], _ => rfl) (sa_cons (sv_v 0 rfl (.inl rfl)) (sa_cons (sv_v 1 rfl (.inr (.inl rfl))) sa_nil)))) (ss_one (ss_ret (se_tuple B rfl (se_sorted B rfl (se_lc (own := [("_law_k", 4)]) (.nm 4) rfl sc.nd (blkOk_by (N := N_law_crowd) (sc := defScope s_law_crowd) (by decide +kernel)) (by decide) (fun _ _ _ _ _ => pg_name (i := 4) sc.nd rfl (by first | exact .inl rfl | exact .inr rfl)) (si_r1 B rfl (se_v 2 rfl (.inl rfl))) (fun _ _ _ _ _ => (se_mod (se_add (se_v 3) (se_v 4)) (se_v 1))))))))) ss_nil) (ss_one (ss_ret (se_tuple B rfl (se_sorted B rfl (se_sl (se_call F_law_strewn (hr.mono (by decide)) rfl (fun _ _ _ _ _ _ us hl => match us, hl with | [_, _], _ => rfl) (sa_cons (sv_v 0 rfl (.inl rfl)) (sa_cons (sv_e (se_listRg B rfl rfl rfl (se_v 1 rfl (.inr (.inl rfl))))) sa_nil))) so_n (so_s (se_v 2 rfl (.inl rfl)))))))))
abbrev N_law_climbs : List Str := ["_law_some", "_law_one", "_law_two"]
theorem sc_law_climbs : FnScope N_law_climbs ["_law_some"] (defScope s_law_climbs) := ⟨rfl, rfl, rfl, by decide +kernel, rfl, by decide +kernel, by decide +kernel⟩
theorem f_law_climbs (B : Bt mg)     {f : Addr} {fd : FuncData} (F : Fun K "_law_climbs" "_law_climbs" s_law_climbs f fd) (hm : mg "_law_climbs" = some (.ref f)) : Fc P w K mg base "_law_climbs" s_law_climbs ["_law_some"] 1 (cF (m_law_climbs)) := by
  have sc := sc_law_climbs
  refine fc_body (k := 0) (b_law_climbs) (m := m_law_climbs) (by unfold m_law_climbs; rfl) F hm sc rfl rfl fun b cdv A outer s H E hr => ?_
  exact (ss_one (ss_ret (se_all B rfl rfl (se_lc (own := [("_law_one", 1), ("_law_two", 2)]) (.tp [1, 2]) rfl sc.nd (blkOk_by (N := N_law_climbs) (sc := defScope s_law_climbs) (by decide +kernel)) (by decide) (fun _ _ _ _ _ => pg_tup rfl (pgs_cons (pg_name (i := 1) sc.nd rfl (by first | exact .inl rfl | exact .inr rfl)) (pgs_cons (pg_name (i := 2) sc.nd rfl (by first | exact .inl rfl | exact .inr rfl)) pgs_nil))) (si_z2 B rfl (se_v 0 rfl (.inl rfl)) (se_sl (se_v 0 rfl (.inl rfl)) (so_s se_int) so_n)) (fun _ _ _ _ _ => (se_cmp op_lt (nomark _) okI (se_v 1) (se_v 2)))))))
abbrev N_law_scene : List Str := ["_law_box_here", "_law_most", "_law_span_here", "_law_folk"]
theorem sc_law_scene : FnScope N_law_scene ["_law_box_here", "_law_most"] (defScope s_law_scene) := ⟨rfl, rfl, rfl, by decide +kernel, rfl, by decide +kernel, by decide +kernel⟩
theorem f_law_scene (B : Bt mg)  (F_law_span : Fc P w K mg base "_law_span" s_law_span ["_law_box_here", "_law_most"] 2 (cF m_law_span)) (F_law_take : Fc P w K mg base "_law_take" s_law_take ["_law_box_here", "_law_below"] 1 (cF takeF)) (F_law_crowd : Fc P w K mg base "_law_crowd" s_law_crowd ["_law_box_here", "_law_span_here", "_law_folk"] 3 (cF m_law_crowd))   {f : Addr} {fd : FuncData} (F : Fun K "_law_scene" "_law_scene" s_law_scene f fd) (hm : mg "_law_scene" = some (.ref f)) : Fc P w K mg base "_law_scene" s_law_scene ["_law_box_here", "_law_most"] 4 (cF (m_law_scene)) := by
  have sc := sc_law_scene
  refine fc_body (k := 3) (b_law_scene) (m := m_law_scene) (by unfold m_law_scene; rfl) F hm sc rfl rfl fun b cdv A outer s H E hr => ?_
  exact (ss_cons (ss_set 2 sc.nd rfl (.inl rfl) (se_call F_law_span (hr.mono (by decide)) rfl (fun _ _ _ _ _ _ us hl => match us, hl with | [_, _], _ => rfl) (sa_cons (sv_v 0 rfl (.inl rfl)) (sa_cons (sv_v 1 rfl (.inl rfl)) sa_nil)))) (ss_cons (ss_set 3 sc.nd rfl (.inl rfl) (se_add se_int (se_call F_law_take (hr.mono (by decide)) rfl (fun _ _ _ _ _ _ us hl => match us, hl with | [_, _], _ => rfl) (sa_cons (sv_v 0 rfl (.inl rfl)) (sa_cons (sv_e (se_sub (se_v 2 rfl (.inl rfl)) se_int)) sa_nil))))) (ss_one (ss_ret (se_tup (sd_cons (se_v 2 rfl (.inl rfl)) (sd_cons (se_v 3 rfl (.inl rfl)) (sd_cons (se_call F_law_crowd (hr.mono (by decide)) rfl (fun _ _ _ _ _ _ us hl => match us, hl with | [_, _, _], _ => rfl) (sa_cons (sv_v 0 rfl (.inl rfl)) (sa_cons (sv_v 2 rfl (.inl rfl)) (sa_cons (sv_v 3 rfl (.inl rfl)) sa_nil)))) sd_nil))))))))
theorem cls_ne {K : PySem.W.Frag} {C D : Addr} (h : PySem.W.subIn K (.ref C) (.ref D) = some false) (hs : PySem.W.subIn K (.ref C) (.ref C) = some true) : C ≠ D := fun e => by
  subst e
  rw [hs] at h
  cases h
theorem kone_ne {K : PySem.W.Frag} {C D : Addr} (hc : (PySem.W.clsIn K D).isSome = true) (ht : PySem.W.typeIn K (.ref D) = some (.type "type")) (h : PySem.W.subIn K (.ref C) (.ref D) = some false) (hs : PySem.W.subIn K (.ref C) (.ref C) = some true) : PySem.W.kitOne K (.ref C) (.ref D) = some (decide (C = D)) := by
  have ne := cls_ne h hs
  have e1 : ((Value.ref C == Value.ref D) = true) = False := by simp [ne]
  unfold PySem.W.kitOne PySem.W.kitCls
  rw [if_neg (by rw [e1]; exact id)]
  dsimp only
  rw [if_pos (by rw [hc, ht]; rfl), h, decide_eq_false ne]
theorem eone {K : PySem.W.Frag} {C D : Addr} {b : Bool} (he : PySem.W.subIn K (.ref D) (.type "BaseException") = some true) (hc : (PySem.W.clsIn K D).isSome = true) (ht : PySem.W.typeIn K (.ref D) = some (.type "type")) (h : PySem.W.subIn K (.ref C) (.ref D) = some b) : PySem.W.exmOne K (.ref C) (.ref D) = some b := by
  unfold PySem.W.exmOne PySem.W.kitCls
  rw [if_pos (by rw [he]; rfl)]
  dsimp only
  rw [if_pos (by rw [hc, ht]; rfl), h]
theorem eany {K : PySem.W.Frag} {C : Addr} : ∀ {Ds : List (Addr × Bool)}, (∀ p ∈ Ds, PySem.W.exmOne K (.ref C) (.ref p.1) = some p.2) → PySem.W.exmAny K (.ref C) (Ds.map fun p => .ref p.1) = some (Ds.any fun p => p.2)
  | [], _ => rfl
  | p :: Ds, h => by
    have h1 := h p (List.mem_cons_self ..)
    have h2 := eany (Ds := Ds) fun q hq => h q (List.mem_cons_of_mem _ hq)
    rw [List.map_cons, PySem.W.exmAny, h1, h2, List.any_cons]
theorem cls_some {K : PySem.W.Frag} {C : Addr} {nm q : Str} {N : Addr} {bs bm : List Value} {hd : Bool} {sn : List Str} {sub : List Value} {ab : Bool} {col : Option Bool} {dd : Option Addr} {m0 m1 m2 m3 m5 : Option Value} {newId : String} (h : K.lookup C = some (excClassObj nm q C N bs bm hd sn sub ab col dd m0 m1 m2 m3 m5 newId)) : (PySem.W.clsIn K C).isSome = true := by
  unfold PySem.W.clsIn
  rw [h] <;> rfl
theorem kone_ty {K : PySem.W.Frag} {C : Addr} {T : String} (hm : PySem.W.kitMeta T = true) (h : PySem.W.subIn K (.ref C) (.type T) = some true) : PySem.W.kitOne K (.ref C) (.type T) = some true := by
  unfold PySem.W.kitOne PySem.W.kitCls
  rw [if_neg (by simp)]
  dsimp only
  rw [if_pos hm, h]
structure Cl3 (K : PySem.W.Frag) (mg : Str → Option Value) (bl bs nw : Addr) : Prop where
  mbl : mg "BadLine" = some (.ref bl)
  mbs : mg "BadScript" = some (.ref bs)
  mnw : mg "NotWay" = some (.ref nw)
  mve : mg "ValueError" = none
  ek : ExK K bl
  k1 : PySem.W.kitOne K (.ref bl) (.ref bl) = some true
  k2 : PySem.W.kitOne K (.ref bl) (.type "ValueError") = some true
  k3 : PySem.W.kitAny K (.ref bl) [.ref bs, .ref nw] = some false
  ex : PySem.W.exmAny K (.ref bl) [.ref bl, .ref bs, .ref nw] = some true
  fl : PySem.W.findIn K (.ref bl) "line" = some none
theorem fz_table_from {C : Addr} (B : Bt mg) (TX : ExT P w K mg base "BadLine" C "line") (G_LEAST_SIZE : ∃ t, mg "LEAST_SIZE" = some (.int 2 t)) (G_MOST_SIZE : ∃ t, mg "MOST_SIZE" = some (.int 10 t)) (F_number_written : Fc P w K mg base "number_written" s_number_written ["text", "least", "most"] 1 (cF m_number_written)) (F_is_table : Fc P w K mg base "is_table" s_is_table ["size", "thing"] 3 (cF m_is_table)) (F_chair_written : Fc P w K mg base "chair_written" s_chair_written ["size", "text"] 2 (cF m_chair_written)) {f : Addr} {fd : FuncData} (F : Fun K "table_from" "table_from" s_table_from f fd) (hm : mg "table_from" = some (.ref f)) : FcZ P w K mg base "table_from" s_table_from ["line"] 4 (cZF (x_table_from C)) := by
  have sc := sc_table_from
  refine fcz_body (k := 3) (z_table_from C) (m := x_table_from C) rfl F hm sc rfl rfl fun b cdv A outer s H E hr => ?_
  exact szs_next (ss_asg (.tp [3, 4, 5]) (pg_tup rfl (pgs_cons (pg_name (i := 3) sc.nd rfl (.inl rfl)) (pgs_cons (pg_name (i := 4) sc.nd rfl (.inl rfl)) (pgs_cons (pg_name (i := 5) sc.nd rfl (.inl rfl)) pgs_nil)))) (se_part (se_v 0 rfl (.inl rfl)) se_str)) (szs_next (ss_set 1 sc.nd rfl (.inr rfl) (se_call F_number_written (hr.mono (by decide)) rfl (fun _ _ _ _ _ _ us hl => match us, hl with | [_, _, _], _ => rfl) (sa_cons (sv_v 3 rfl (.inl rfl)) (sa_cons (sv_e (se_gl rfl G_LEAST_SIZE)) (sa_cons (sv_e (se_gl rfl G_MOST_SIZE)) sa_nil)))))
    (szs_if (st_isN (se_v 1 rfl (.inr (.inl rfl)))) (szs_one (sz_raise rfl TX (hr.mono (by decide)) rfl (se_v 0 rfl (.inl rfl))))
    (szs_next (ss_set 2 sc.nd rfl (.inl rfl) (se_tuple B rfl (se_lc (own := [("part", 6)]) (.nm 6) rfl sc.nd (blkOk_by (N := N_table_from) (sc := defScope s_table_from) (by decide +kernel)) (by decide) (fun _ _ _ _ _ => pg_name (i := 6) sc.nd rfl (by first | exact .inl rfl | exact .inr rfl)) (si_seq (se_split (se_v 5 rfl (.inl rfl)) se_str)) (fun _ _ _ _ _ => (se_call F_chair_written (hr.mono (by decide)) rfl (fun _ _ _ _ _ _ us hl => match us, hl with | [_, _], _ => rfl) (sa_cons (sv_v 1) (sa_cons (sv_v 6) sa_nil)))))))
    (szs_if (st_not (st_tru (se_call F_is_table (hr.mono (by decide)) rfl (fun _ _ _ _ _ _ us hl => match us, hl with | [_, _], _ => rfl) (sa_cons (sv_v 1 rfl (.inr (.inl rfl))) (sa_cons (sv_v 2 rfl (.inl rfl)) sa_nil))))) (szs_one (sz_raise rfl TX (hr.mono (by decide)) rfl (se_v 0 rfl (.inl rfl)))) szs_no))))
abbrev N_law_told : List Str := ["_law_words_now", "_law_found", "_law_caught", "_law_fine", "error"]
theorem sc_law_told : FnScope N_law_told ["_law_words_now"] (defScope s_law_told) := ⟨rfl, rfl, rfl, by decide +kernel, rfl, by decide +kernel, by decide +kernel⟩
theorem bindR {α β : Type} {t : Tree α} {f : α → Tree β} {x : β} (h : t.bind f = .ret x) : ∃ a, t = .ret a ∧ f a = .ret x := by
  cases t with
  | ret a => exact ⟨a, rfl, h⟩
  | fail => cases h
  | draw n g => cases h
theorem xtf_C {C D : Addr} {ws : List W} {x : Thr} (h : x_table_from C ws = .ret x) : x.C = C ∧ x.f = "line" ∧ x_table_from D ws = .ret ⟨D, "line", x.d⟩ := by
  unfold x_table_from fnZ z_table_from at h ⊢
  obtain ⟨a, h1, h⟩ := bindR h
  rw [h1]
  unfold zNext at h ⊢
  obtain ⟨o1, h2, h⟩ := bindR h
  dsimp only [Tree.bind]
  rw [h2]
  cases o1 with
  | nx E1 =>
    dsimp only [Tree.bind] at h ⊢
    obtain ⟨o2, h3, h⟩ := bindR h
    rw [h3]
    cases o2 with
    | nx E2 =>
      dsimp only [Tree.bind] at h ⊢
      unfold zIf at h ⊢
      obtain ⟨k, h4, h⟩ := bindR h
      rw [h4]
      cases k with
      | true =>
        unfold zRaise at h ⊢
        obtain ⟨d, h5, h⟩ := bindR h
        dsimp only [Tree.bind]
        rw [h5]
        cases h
        exact ⟨rfl, rfl, rfl⟩
      | false =>
        dsimp only [Tree.bind] at h ⊢
        obtain ⟨o3, h5, h⟩ := bindR h
        rw [h5]
        cases o3 with
        | nx E3 =>
          dsimp only [Tree.bind] at h ⊢
          obtain ⟨k, h6, h⟩ := bindR h
          rw [h6]
          cases k with
          | true =>
            unfold zRaise at h ⊢
            obtain ⟨d, h7, h⟩ := bindR h
            dsimp only [Tree.bind]
            rw [h7]
            cases h
            exact ⟨rfl, rfl, rfl⟩
          | false => cases h
        | rt v => cases h
        | bk E' => cases h
        | ct E' => cases h
    | rt v => cases h
    | bk E' => cases h
    | ct E' => cases h
  | rt v => cases h
  | bk E' => cases h
  | ct E' => cases h
theorem g_law_told {bl bs nw : Addr} (B : Bt mg) (Z : Cl3 K mg bl bs nw) (F_table_from : Fc P w K mg base "table_from" s_table_from ["line"] 4 (cF m_table_from)) (Z_table_from : FcZ P w K mg base "table_from" s_table_from ["line"] 4 (cZF (x_table_from bl)))
    {f : Addr} {fd : FuncData} (F : Fun K "_law_told" "_law_told" s_law_told f fd) (hm : mg "_law_told" = some (.ref f)) : Fc P w K mg base "_law_told" s_law_told ["_law_words_now"] 7 (cF (fnF 1 5 (tBd bl))) := by
  have sc := sc_law_told
  refine fc_body (k := 6) (tBd bl) (m := fnF 1 5 (tBd bl)) rfl F hm sc rfl rfl fun b cdv A outer s H E hr => ?_
  refine ss_cons (ss_asg (.tp [1, 2]) (pg_tup rfl (pgs_cons (pg_name (i := 1) sc.nd rfl (.inl rfl)) (pgs_cons (pg_name (i := 2) sc.nd rfl (.inl rfl)) pgs_nil))) (se_tup (sd_cons se_non (sd_cons se_non sd_nil)))) (ss_cons (ss_try (n := "error") (m := "_law_caught") (cs := [.ref bl, .ref bs, .ref nw]) rfl rfl rfl sc.nd rfl rfl rfl rfl (by decide) ?hes (show 3 ≤ 1000 by decide) (fun X0 LT hp hoc hod hx => PySem.W.exm_tupN3 X0 LT hp hoc hod hx) (fun E' x hz => ?hC) ?hg ?hb) ?rest)
  case hes => exact fun a pn => .cons rfl rfl Z.mbl rfl (.cons rfl rfl Z.mbs rfl (.cons rfl rfl Z.mnw rfl .nil))
  case hC =>
    unfold zCall at hz
    obtain ⟨ws, _, hz⟩ := bindR hz
    rw [(xtf_C (D := bl) hz).1]
    exact Z.ex
  case hg => exact ss_one (ss_set 1 sc.nd rfl (.inl rfl) (se_call F_table_from (hr.mono (by decide)) rfl (fun _ _ _ _ _ _ us hl => match us, hl with | [_], _ => rfl) (sa_cons (sv_v 0 rfl (.inl rfl)) sa_nil)))
  case hb =>
    intro pn xe ρ
    exact szs_one (sz_set 1 sc.nd rfl (.inl rfl) (sze_call Z_table_from (hr.mono (by decide)) rfl (fun _ _ _ _ _ _ us hl => match us, hl with | [_], _ => rfl) (sa_cons (sv_v 0 rfl (.inl rfl)) sa_nil)))
  case rest =>
    have cBL : ClN (cxOf CX0 P w K mg base N_law_told "_law_told" (defScope s_law_told) f cdv A outer s H E).nox "BadLine" (.ref bl) (.ref bl) := cln_own rfl Z.mbl
    have cBS : ClN (cxOf CX0 P w K mg base N_law_told "_law_told" (defScope s_law_told) f cdv A outer s H E).nox "BadScript" (.ref bs) (.ref bs) := cln_own rfl Z.mbs
    have cNW : ClN (cxOf CX0 P w K mg base N_law_told "_law_told" (defScope s_law_told) f cdv A outer s H E).nox "NotWay" (.ref nw) (.ref nw) := cln_own rfl Z.mnw
    have cVE : ClN (cxOf CX0 P w K mg base N_law_told "_law_told" (defScope s_law_told) f cdv A outer s H E).nox "ValueError" (.ty "ValueError") (.type "ValueError") := cln_blt rfl Z.mve rfl
    have h1 : ∀ C k, qT1 bl true C = some k → ExK K C ∧ PySem.W.kitOne K (.ref C) (.ref bl) = some k := fun C k h => by
      unfold qT1 at h
      split at h
      · rename_i e
        subst e
        cases h
        exact ⟨Z.ek, Z.k1⟩
      · cases h
    have h2 : ∀ C k, qT1 bl true C = some k → ExK K C ∧ PySem.W.kitOne K (.ref C) (.type "ValueError") = some k := fun C k h => by
      unfold qT1 at h
      split at h
      · rename_i e
        subst e
        cases h
        exact ⟨Z.ek, Z.k2⟩
      · cases h
    have h3 : ∀ C k, qT1 bl false C = some k → ExK K C ∧ PySem.W.kitAny K (.ref C) [.ref bs, .ref nw] = some k := fun C k h => by
      unfold qT1 at h
      split at h
      · rename_i e
        subst e
        cases h
        exact ⟨Z.ek, Z.k3⟩
      · cases h
    refine ss_cons (ss_if (st_isNx 2 rfl (.inl rfl)) (ss_one (ss_ret (se_v 1 rfl (.inl rfl)))) ss_nil)
      (ss_cons (ss_set 3 sc.nd rfl (.inl rfl) (se_and (se_isX 2 B rfl rfl (.inl rfl) cBL h1) (se_one (se_isX 2 B rfl rfl (.inl rfl) cVE h2))))
      (ss_one (ss_ret (se_if (st_w (sw_and (st_tru (se_v 3 rfl (.inl rfl))) (sw_and1 (st_not (st_tru (se_isXT 2 (us := [.ref bs, .ref nw]) B rfl rfl (.inl rfl) (.cons cBS rfl (.cons cNW rfl .nil)) (show 2 ≤ 1000 by decide) h3)))))) (se_lst (sd_cons (se_fldX 2 (cl := [bl]) rfl (.inl rfl) (by intro C hC; rw [List.mem_singleton.mp hC]; exact ⟨Z.ek, Z.fl⟩)) sd_nil)) se_non))))
theorem told_ev {bl : Addr} {ws : List W} {Q : PyData → Prop} (h : (m_law_told ws).All Q) : (fnF 1 5 (tBd bl) ws).All Q := by
  unfold m_law_told at h
  split at h
  case h_2 => exact h.elim
  rename_i w0
  have run : fnF 1 5 (tBd bl) [.d w0] = ((sTry 4 2 (zCall (x_table_from bl) tgs) (sSet 1 (dCall m_table_from tgs)) [some (.d w0), some (.d .none), some (.d .none), none, none]).bind fun o => match o with | .nx E' => tRst bl E' | r => .ret r).bind outV := rfl
  have ez : zCall (x_table_from bl) tgs [some (.d w0), some (.d .none), some (.d .none), none, none] = x_table_from bl [.d w0] := rfl
  have eg : sSet 1 (dCall m_table_from tgs) [some (.d w0), some (.d .none), some (.d .none), none, none] = (m_table_from [.d w0]).bind fun d => .ret (.nx [some (.d w0), some (.d d), some (.d .none), none, none]) := rfl
  rw [run]
  unfold sTry
  rw [ez, eg]
  by_cases hx : ∃ t, x_table_from 0 [.d w0] = .ret t
  · obtain ⟨t, ht⟩ := hx
    rw [ht] at h
    obtain ⟨_, _, e3⟩ := xtf_C (D := bl) ht
    rw [e3]
    have e4 : tRst bl [some (.d w0), some (.d .none), some (.exn bl "line" t.d), none, none] = .ret (.rt (.list [t.d])) := by
      simp only [tRst, Nat.reduceSub, Nat.reduceAdd, reduceIte, Tree.bind, liftO, dIdx, sAsgL, sPar4, dV, dC, d1, d2, t1, t2, l0, lC, dL, dT, aV, aE, a0, aC, dCall, dCallK, dIf, tTr, tV, truth, asB, tNot, tAnd, tOr, dAnd, dOr, sSet, sAsg, sPar, sRet, s0, sC, sIf, sX, sOwn, sApp, sFrz, frzE, sFor, outV, fnF, lenIs, ent, small, few, putE, putsE, wipeE, it_l, it_t, iS, iR1, iR2, wEn, wZ2, wZ3, dLc, dLf, dSl, oN, oS, pCut, pSub, cI, bD, pIx, pList, pTup, pLen, pNot, qIsN, qNotN, pIsN, pNotN, List.getElem?_cons_succ, List.getElem?_cons_zero, List.set_cons_succ, List.set_cons_zero, List.length_cons, List.length_nil, List.map_cons, List.map_nil, List.foldr_cons, List.foldr_nil, List.replicate_succ, List.replicate_zero, List.cons_append, List.nil_append, sOPar, sOOPar, dOIx, sNest, sCallP, dOLen, fnP, pC, pFrz, dPr, nApp, nIf, nEnd, sN0, sN1, lendE, frzW, sSetK, dGet, dZipD, dPairD, pMax2, sDD, sND, tNeN, sLock, lockE, odcE, tdE, dttE, tC, tLock, tRet, dGetO, dIdxO, tNinD, sPutO, tDen, sUpd, sCpT, iDtt, dSrtD, sParDt, sParDt3, tCall2, fnT, sNewD, isNd, Nat.reduceLeDiff, tIsNx, dIsX, exE, qT1, dFldX, List.mem_singleton, and_self, Bool.not_false, Bool.not_true]
    show ((tRst bl [some (.d w0), some (.d .none), some (.exn bl "line" t.d), none, none]).bind outV).All Q
    rw [e4]
    exact h
  · have hn : ∀ x, x_table_from bl [.d w0] ≠ .ret x := fun x e => hx ⟨_, (xtf_C (D := 0) e).2.2⟩
    have h' : (m_table_from [.d w0]).All Q := by
      split at h
      · rename_i t ht
        exact absurd ⟨t, ht⟩ hx
      · exact h
    split
    · rename_i x e
      exact absurd e (hn x)
    · rw [Tree.bind_assoc, Tree.bind_assoc]
      refine Tree.all_bind.mpr (h'.imp fun d q => ?_)
      have e4 : tRst bl [some (.d w0), some (.d d), some (.d .none), none, none] = .ret (.rt d) := by
        simp only [tRst, Nat.reduceSub, Nat.reduceAdd, reduceIte, Tree.bind, liftO, dIdx, sAsgL, sPar4, dV, dC, d1, d2, t1, t2, l0, lC, dL, dT, aV, aE, a0, aC, dCall, dCallK, dIf, tTr, tV, truth, asB, tNot, tAnd, tOr, dAnd, dOr, sSet, sAsg, sPar, sRet, s0, sC, sIf, sX, sOwn, sApp, sFrz, frzE, sFor, outV, fnF, lenIs, ent, small, few, putE, putsE, wipeE, it_l, it_t, iS, iR1, iR2, wEn, wZ2, wZ3, dLc, dLf, dSl, oN, oS, pCut, pSub, cI, bD, pIx, pList, pTup, pLen, pNot, qIsN, qNotN, pIsN, pNotN, List.getElem?_cons_succ, List.getElem?_cons_zero, List.set_cons_succ, List.set_cons_zero, List.length_cons, List.length_nil, List.map_cons, List.map_nil, List.foldr_cons, List.foldr_nil, List.replicate_succ, List.replicate_zero, List.cons_append, List.nil_append, sOPar, sOOPar, dOIx, sNest, sCallP, dOLen, fnP, pC, pFrz, dPr, nApp, nIf, nEnd, sN0, sN1, lendE, frzW, sSetK, dGet, dZipD, dPairD, pMax2, sDD, sND, tNeN, sLock, lockE, odcE, tdE, dttE, tC, tLock, tRet, dGetO, dIdxO, tNinD, sPutO, tDen, sUpd, sCpT, iDtt, dSrtD, sParDt, sParDt3, tCall2, fnT, sNewD, isNd, Nat.reduceLeDiff, tIsNx, qIsN]
      show ((tRst bl [some (.d w0), some (.d d), some (.d .none), none, none]).bind outV).All Q
      rw [e4]
      exact q
theorem f_law_told {bl bs nw : Addr} (B : Bt mg) (Z : Cl3 K mg bl bs nw) (F_table_from : Fc P w K mg base "table_from" s_table_from ["line"] 4 (cF m_table_from)) (Z_table_from : FcZ P w K mg base "table_from" s_table_from ["line"] 4 (cZF (x_table_from bl)))
    {f : Addr} {fd : FuncData} (F : Fun K "_law_told" "_law_told" s_law_told f fd) (hm : mg "_law_told" = some (.ref f)) : Fc P w K mg base "_law_told" s_law_told ["_law_words_now"] 7 (cF m_law_told) :=
  (g_law_told B Z F_table_from Z_table_from F hm).imp fun os μ Φ ⟨b, ws, e, hb, h⟩ => ⟨b, ws, e, hb, told_ev h⟩
theorem sc_BadLine : FnScope ["self", "line"] ["self", "line"] (defScope sC_BadLine) := ⟨rfl, rfl, rfl, by decide +kernel, rfl, by decide +kernel, by decide +kernel⟩
theorem x_BadLine {C fI : Addr} {fd : FuncData} (B0 : mg "ValueError" = none) (vV : PySem.W.findCls K (.type "ValueError") (.type "type") "__init__" = some (.val (.builtin "ValueError.__init__"))) (T : ExB K C "ValueError.__new__" [.type "ValueError", .type "Exception", .type "BaseException", .type "object"]) (no : PySem.W.findIn K (.ref C) "line" = some none) (F : Fun K "__init__" "BadLine.__init__" sC_BadLine fI fd)
    (gC : mg "BadLine" = some (.ref C)) (exC : PySem.W.subIn K (.ref C) (.type "BaseException") = some true) (tyC : PySem.W.typeIn K (.ref C) = some (.type "type")) (iC : PySem.W.findIn K (.ref C) "__init__" = some (some (.ref fI))) (tI : PySem.W.typeIn K (.ref fI) = some (.type "function")) : ExT P w K mg base "BadLine" C "line" :=
  ext_mk bsVE T (by decide +kernel) gC exC tyC iC tI (ok_init bsVE T no F sc_BadLine "not the line of a table" fun cdv A outer s H E => pss_cons (ps_expr (pe_binit bsVE rfl B0 rfl vV (pa_cons (pv 0) (pa_cons pe_str pa_nil)))) (pss_one (ps_os1 bsVE (pv 0) (pv 1)))) (F.binds fun _ _ _ _ _ _ us hl => match us, hl with | [_, _], _ => rfl)
abbrev N_law_due : List Str := ["_law_words_now", "_law_parts", "_law_span_here", "_law_crowd_here", "_law_part", "_law_mark"]
theorem sc_law_due : FnScope N_law_due ["_law_words_now"] (defScope s_law_due) := ⟨rfl, rfl, rfl, by decide +kernel, rfl, by decide +kernel, by decide +kernel⟩
theorem f_law_due (B : Bt mg)  (F_law_climbs : Fc P w K mg base "_law_climbs" s_law_climbs ["_law_some"] 1 (cF m_law_climbs))   {f : Addr} {fd : FuncData} (F : Fun K "_law_due" "_law_due" s_law_due f fd) (hm : mg "_law_due" = some (.ref f)) : Fc P w K mg base "_law_due" s_law_due ["_law_words_now"] 2 (cF (m_law_due)) := by
  have sc := sc_law_due
  refine fc_body (k := 1) (b_law_due) (m := m_law_due) (by unfold m_law_due; rfl) F hm sc rfl rfl fun b cdv A outer s H E hr => ?_
  exact (ss_cons (ss_set 1 sc.nd rfl (.inl rfl) (se_split (se_v 0 rfl (.inl rfl)) se_str)) (ss_cons (ss_if (st_cmp (op_notInD (units65 hr.room)) rfl ok_ninD (se_ix (fun _ _ => rfl) (se_v 1 rfl (.inl rfl)) se_int) (se_lc (own := [("_law_span_here", 2)]) (.nm 2) rfl sc.nd (blkOk_by (N := N_law_due) (sc := defScope s_law_due) (by decide +kernel)) (by decide) (fun _ _ _ _ _ => pg_name (i := 2) sc.nd rfl (by first | exact .inl rfl | exact .inr rfl)) (si_r2 B rfl se_int se_int) (fun _ _ _ _ _ => (se_add (se_str1 B rfl (se_v 2)) se_str)))) (ss_one (ss_ret (se_lst (sd_cons (se_v 0 rfl (.inl rfl)) sd_nil)))) ss_nil) (ss_cons (ss_set 2 sc.nd rfl (.inr rfl) (se_intS B rfl (se_slS (se_ix (fun _ _ => rfl) (se_v 1 rfl (.inl rfl)) se_int) so_n (so_s (se_neg se_int))))) (ss_cons (ss_if (st_not (st_tru (se_all B rfl rfl (se_lc (own := [("_law_part", 4)]) (.nm 4) rfl sc.nd (blkOk_by (N := N_law_due) (sc := defScope s_law_due) (by decide +kernel)) (by decide) (fun _ _ _ _ _ => pg_name (i := 4) sc.nd rfl (by first | exact .inl rfl | exact .inr rfl)) (si_seq (se_sl (se_v 1 rfl (.inl rfl)) (so_s se_int) so_n)) (fun _ _ _ _ _ => (se_cmp (op_inD (units65 hr.room)) rfl ok_inD (se_v 4) (se_lc (own := [("_law_mark", 5)]) (.nm 5) rfl sc.nd (blkOk_by (N := N_law_due) (by first | decide +kernel | kernel_rfl)) (by decide) (fun _ _ _ _ _ => pg_name (i := 5) sc.nd rfl (by first | exact .inl rfl | exact .inr rfl)) (si_r1 B rfl (se_v 2)) (fun _ _ _ _ _ => (se_str1 B rfl (se_v 5)))))))))) (ss_one (ss_ret (se_lst (sd_cons (se_v 0 rfl (.inl rfl)) sd_nil)))) ss_nil) (ss_cons (ss_set 3 sc.nd rfl (.inl rfl) (se_tuple B rfl (se_lc (own := [("_law_part", 4)]) (.nm 4) rfl sc.nd (blkOk_by (N := N_law_due) (sc := defScope s_law_due) (by decide +kernel)) (by decide) (fun _ _ _ _ _ => pg_name (i := 4) sc.nd rfl (by first | exact .inl rfl | exact .inr rfl)) (si_seq (se_sl (se_v 1 rfl (.inl rfl)) (so_s se_int) so_n)) (fun _ _ _ _ _ => (se_intS B rfl (se_v 4)))))) (ss_one (ss_ret (se_if (st_w (sw_and (st_chain op_lt op_lt se_int (se_len B rfl (se_v 3 rfl (.inl rfl))) (se_v 2 rfl (.inr (.inl rfl)))) (sw_and1 (st_tru (se_call F_law_climbs (hr.mono (by decide)) rfl (fun _ _ _ _ _ _ us hl => match us, hl with | [_], _ => rfl) (sa_cons (sv_v 3 rfl (.inl rfl)) sa_nil)))))) (se_tup (sd_cons (se_v 2 rfl (.inr (.inl rfl))) (sd_cons (se_v 3 rfl (.inl rfl)) sd_nil))) (se_lst (sd_cons (se_v 0 rfl (.inl rfl)) sd_nil))))))))))
abbrev N_law_spoilt : List Str := ["_law_box_here", "_law_words_now", "_law_sign", "_law_spot", "_law_way"]
theorem sc_law_spoilt : FnScope N_law_spoilt ["_law_box_here", "_law_words_now"] (defScope s_law_spoilt) := ⟨rfl, rfl, rfl, by decide +kernel, rfl, by decide +kernel, by decide +kernel⟩
theorem f_law_spoilt (B : Bt mg)  (F_law_of : Fc P w K mg base "_law_of" s_law_of ["_law_box_here", "_law_some"] 2 (cF m_law_of)) (F_law_take : Fc P w K mg base "_law_take" s_law_take ["_law_box_here", "_law_below"] 1 (cF takeF))   {f : Addr} {fd : FuncData} (F : Fun K "_law_spoilt" "_law_spoilt" s_law_spoilt f fd) (hm : mg "_law_spoilt" = some (.ref f)) : Fc P w K mg base "_law_spoilt" s_law_spoilt ["_law_box_here", "_law_words_now"] 3 (cF (m_law_spoilt)) := by
  have sc := sc_law_spoilt
  refine fc_body (k := 2) (b_law_spoilt) (m := m_law_spoilt) (by unfold m_law_spoilt; rfl) F hm sc rfl rfl fun b cdv A outer s H E hr => ?_
  exact (ss_cons (ss_par 3 4 rfl sc.nd rfl rfl (by decide) rfl rfl rfl (sd_cons (se_call F_law_take (hr.mono (by decide)) rfl (fun _ _ _ _ _ _ us hl => match us, hl with | [_, _], _ => rfl) (sa_cons (sv_v 0 rfl (.inl rfl)) (sa_cons (sv_e (se_add (se_lenS B rfl (se_v 1 rfl (.inl rfl))) se_int)) sa_nil))) (sd_cons (se_call F_law_take (hr.mono (by decide)) rfl (fun _ _ _ _ _ _ us hl => match us, hl with | [_, _], _ => rfl) (sa_cons (sv_v 0 rfl (.inl rfl)) (sa_cons (sv_e se_int) sa_nil))) sd_nil))) (ss_cons (ss_set 2 sc.nd rfl (.inl rfl) (se_call F_law_of (hr.mono (by decide)) rfl (fun _ _ _ _ _ _ us hl => match us, hl with | [_, _], _ => rfl) (sa_cons (sv_v 0 rfl (.inl rfl)) (sa_cons (sv_e (se_add (se_listS rfl B rfl se_str) (se_lst (sd_cons se_str (sd_cons se_str (sd_cons se_str sd_nil)))))) sa_nil)))) (ss_cons (ss_if (st_cmp ((op_eqI.or (op_eqD hr.room.units)).or op_eq) (nomark _) ok_eq (se_v 4 rfl (.inl rfl)) se_int) (ss_one (ss_ret (se_add (se_slS (se_v 1 rfl (.inl rfl)) so_n (so_s (se_v 3 rfl (.inl rfl)))) (se_slS (se_v 1 rfl (.inl rfl)) (so_s (se_add (se_v 3 rfl (.inl rfl)) se_int)) so_n)))) ss_nil) (ss_one (ss_ret (se_add (se_add (se_slS (se_v 1 rfl (.inl rfl)) so_n (so_s (se_v 3 rfl (.inl rfl)))) (se_v 2 rfl (.inl rfl))) (se_slS (se_v 1 rfl (.inl rfl)) (so_s (se_add (se_v 3 rfl (.inl rfl)) (se_int1 B rfl (se_cmp ((op_eqI.or (op_eqD hr.room.units)).or op_eq) (nomark _) ok_eq (se_v 4 rfl (.inl rfl)) se_int)))) so_n)))))))
abbrev N_law_right : List Str := ["_law_box_here", "_law_words_due", "_law_soft", "_law_some", "_law_turn", "_law_span_here", "_law_folk", "_law_crowd_here", "_law_bent", "_law_words_now", "_law_mark"]
theorem sc_law_right : FnScope N_law_right ["_law_box_here"] (defScope s_law_right) := ⟨rfl, rfl, rfl, by decide +kernel, rfl, by decide +kernel, by decide +kernel⟩
theorem f_law_right (B : Bt mg)  (F_law_scene : Fc P w K mg base "_law_scene" s_law_scene ["_law_box_here", "_law_most"] 4 (cF m_law_scene)) (F_law_same : Fc P w K mg base "_law_same" s_law_same ["_law_found", "_law_due_here"] 1 (cF m_law_same)) (F_law_spoilt : Fc P w K mg base "_law_spoilt" s_law_spoilt ["_law_box_here", "_law_words_now"] 3 (cF m_law_spoilt)) (F_table_line : Fc P w K mg base "table_line" s_table_line ["size", "table"] 2 (cF m_table_line)) (F_table_from : Fc P w K mg base "table_from" s_table_from ["line"] 4 (cF m_table_from)) (F_law_told : Fc P w K mg base "_law_told" s_law_told ["_law_words_now"] 7 (cF m_law_told)) (F_law_due : Fc P w K mg base "_law_due" s_law_due ["_law_words_now"] 2 (cF m_law_due)) (F_law_take : Fc P w K mg base "_law_take" s_law_take ["_law_box_here", "_law_below"] 1 (cF takeF))   {f : Addr} {fd : FuncData} (F : Fun K "_law_right" "_law_right" s_law_right f fd) (hm : mg "_law_right" = some (.ref f)) : Fc P w K mg base "_law_right" s_law_right ["_law_box_here"] 8 (cF (m_law_right)) := by
  have sc := sc_law_right
  refine fc_body (k := 7) (b_law_right) (m := m_law_right) (by unfold m_law_right; rfl) F hm sc rfl rfl fun b cdv A outer s H E hr => ?_
  exact (ss_cons (ss_asg (.tp [5, 6, 7]) (pg_tup rfl (pgs_cons (pg_name (i := 5) sc.nd rfl (.inl rfl)) (pgs_cons (pg_name (i := 6) sc.nd rfl (.inl rfl)) (pgs_cons (pg_name (i := 7) sc.nd rfl (.inl rfl)) pgs_nil)))) (se_call F_law_scene (hr.mono (by decide)) rfl (fun _ _ _ _ _ _ us hl => match us, hl with | [_, _], _ => rfl) (sa_cons (sv_v 0 rfl (.inl rfl)) (sa_cons (sv_e se_int) sa_nil)))) (ss_cons (ss_set 1 sc.nd rfl (.inl rfl) (se_add (se_add (se_str1 B rfl (se_v 5 rfl (.inl rfl))) se_str) (se_join se_str (se_lc (own := [("_law_mark", 10)]) (.nm 10) rfl sc.nd (blkOk_by (N := N_law_right) (sc := defScope s_law_right) (by decide +kernel)) (by decide) (fun _ _ _ _ _ => pg_name (i := 10) sc.nd rfl (by first | exact .inl rfl | exact .inr rfl)) (si_seq (se_v 7 rfl (.inl rfl))) (fun _ _ _ _ _ => (se_str1 B rfl (se_v 10))))))) (ss_cons (ss_set 2 sc.nd rfl (.inl rfl) (se_list B rfl (se_v 7 rfl (.inl rfl)))) (ss_cons (ss_if (st_not (st_tru (se_call F_law_same (hr.mono (by decide)) rfl (fun _ _ _ _ _ _ us hl => match us, hl with | [_, _], _ => rfl) (sa_cons (sv_e (se_lst (sd_cons (se_call F_table_line (hr.mono (by decide)) rfl (fun _ _ _ _ _ _ us hl => match us, hl with | [_, _], _ => rfl) (sa_cons (sv_v 5 rfl (.inl rfl)) (sa_cons (sv_v 7 rfl (.inl rfl)) sa_nil))) (sd_cons (se_callK ["table", "size"] [1, 0] F_table_line (hr.mono (by decide)) rfl (fun _ _ _ _ _ _ us hl => match us, hl with | [_, _], _ => rfl) (sk_cons (sv_v 2 rfl (.inl rfl)) (sk_cons (sv_v 5 rfl (.inl rfl)) sk_nil))) sd_nil)))) (sa_cons (sv_e (se_mul (se_lst (sd_cons (se_v 1 rfl (.inl rfl)) sd_nil)) se_int)) sa_nil))))) (ss_one (ss_ret se_bl)) ss_nil) (ss_cons (ss_if (st_w (sw_or (st_not (st_tru (se_call F_law_same (hr.mono (by decide)) rfl (fun _ _ _ _ _ _ us hl => match us, hl with | [_, _], _ => rfl) (sa_cons (sv_e (se_callK ["line"] [0] F_table_from (hr.mono (by decide)) rfl (fun _ _ _ _ _ _ us hl => match us, hl with | [_], _ => rfl) (sk_cons (sv_v 1 rfl (.inl rfl)) sk_nil))) (sa_cons (sv_e (se_tup (sd_cons (se_v 5 rfl (.inl rfl)) (sd_cons (se_v 7 rfl (.inl rfl)) sd_nil)))) sa_nil))))) (sw_or1 (st_cmp ((op_neI.or (op_neD hr.room.units)).or op_ne) (nomark _) ok_ne (se_v 2 rfl (.inl rfl)) (se_list B rfl (se_v 7 rfl (.inl rfl))))))) (ss_one (ss_ret se_bl)) ss_nil) (ss_cons (ss_own 3 sc.nd rfl (.inl rfl) (so_lst (sd_cons se_str (sd_cons se_str (sd_cons se_str (sd_cons se_str (sd_cons se_str (sd_cons se_str (sd_cons se_str (sd_cons se_str (sd_cons se_str (sd_cons se_str (sd_cons se_str (sd_cons se_str (sd_cons se_str (sd_cons se_str sd_nil)))))))))))))))) (ss_frz 3 (ss_cons (ss_own 3 sc.nd rfl (.inl rfl) (so_cat (se_v 3 rfl (.inl rfl)) (se_lst (sd_cons se_str (sd_cons se_str (sd_cons se_str (sd_cons se_str (sd_cons se_str (sd_cons se_str (sd_cons se_str (sd_cons se_str (sd_cons se_str (sd_cons se_str sd_nil))))))))))))) (ss_frz 3 (ss_cons (ss_own 3 sc.nd rfl (.inl rfl) (so_cat (se_v 3 rfl (.inl rfl)) (se_lst (sd_cons se_str (sd_cons se_str (sd_cons se_str (sd_cons se_str (sd_cons se_str (sd_cons se_str (sd_cons se_str (sd_cons se_str (sd_cons se_str (sd_cons se_str (sd_cons se_str sd_nil)))))))))))))) (ss_frz 3 (ss_cons (ss_own 3 sc.nd rfl (.inl rfl) (so_cat (se_v 3 rfl (.inl rfl)) (se_lst (sd_cons se_str (sd_cons se_str (sd_cons se_str (sd_cons se_str (sd_cons se_str (sd_cons se_str (sd_cons se_str sd_nil)))))))))) (ss_cons (ss_for (.nm 4) PassesOwn.never rfl (pg_name (i := 4) sc.nd rfl (.inl rfl)) (si_r1 B rfl se_int) (ss_cons (ss_set 8 sc.nd rfl (.inl rfl) (se_call F_law_spoilt (hr.mono (by decide)) rfl (fun _ _ _ _ _ _ us hl => match us, hl with | [_, _], _ => rfl) (sa_cons (sv_v 0 rfl (.inl rfl)) (sa_cons (sv_v 1 rfl (.inl rfl)) sa_nil)))) (ss_one (ss_app 3 rfl (.inl rfl) (se_if (st_cmp ((op_eqI.or (op_eqD hr.room.units)).or op_eq) (nomark _) ok_eq (se_call F_law_take (hr.mono (by decide)) rfl (fun _ _ _ _ _ _ us hl => match us, hl with | [_, _], _ => rfl) (sa_cons (sv_v 0 rfl (.inl rfl)) (sa_cons (sv_e se_int) sa_nil))) se_int) (se_call F_law_spoilt (hr.mono (by decide)) rfl (fun _ _ _ _ _ _ us hl => match us, hl with | [_, _], _ => rfl) (sa_cons (sv_v 0 rfl (.inl rfl)) (sa_cons (sv_v 8 rfl (.inl rfl)) sa_nil))) (se_v 8 rfl (.inl rfl))))))) (ss_frz 3 (ss_one (ss_ret (se_all B rfl rfl (se_lc (own := [("_law_words_now", 9)]) (.nm 9) rfl sc.nd (blkOk_by (N := N_law_right) (sc := defScope s_law_right) (by decide +kernel)) (by decide) (fun _ _ _ _ _ => pg_name (i := 9) sc.nd rfl (by first | exact .inl rfl | exact .inr rfl)) (si_seq (se_v 3 rfl (.inl rfl))) (fun _ _ _ _ _ => (se_call F_law_same (hr.mono (by decide)) rfl (fun _ _ _ _ _ _ us hl => match us, hl with | [_, _], _ => rfl) (sa_cons (sv_e (se_call F_law_told (hr.mono (by decide)) rfl (fun _ _ _ _ _ _ us hl => match us, hl with | [_], _ => rfl) (sa_cons (sv_v 9) sa_nil))) (sa_cons (sv_e (se_call F_law_due (hr.mono (by decide)) rfl (fun _ _ _ _ _ _ us hl => match us, hl with | [_], _ => rfl) (sa_cons (sv_v 9) sa_nil))) sa_nil))))))))))))))))))))))
theorem sc_law_box : FnScope ["_law_cells_here", "_law_k", "_law_cell"] ["_law_cells_here", "_law_k"] (defScope s_law_box) := ⟨rfl, rfl, rfl, by decide +kernel, rfl, by decide +kernel, by decide +kernel⟩
def c_law_box : Ct := fun os μ Φ => ∃ (cs : List Int) (k : Nat), os = [.im (.list (iL cs)), .im (.int (k : Int))] ∧ k < cs.length ∧ ∀ b p q, μ b = none → Φ (.own b) (μ.put b (bx p q 0))
theorem f_law_box (B : Bt mg) {f : Addr} {fd : FuncData} (F : Fun K "_law_box" "_law_box" s_law_box f fd) (hm : mg "_law_box" = some (.ref f)) : Fc P w K mg base "_law_box" s_law_box ["_law_cells_here", "_law_k"] 1 c_law_box := by
  have sc := sc_law_box
  refine fc_of F hm sc (fun os μ Φ h => ?_) fun cdv A outer s H E os μ Φ hr h => ?_
  · obtain ⟨cs, k, rfl, _⟩ := h
    rfl
  · obtain ⟨cs, k, rfl, hk, q⟩ := h
    refine dss_cons (ds_set 2 sc.nd rfl (.inl rfl) (de_ix (fun _ _ => rfl) (de_var 0 rfl (.inl rfl) rfl (de_var 1 rfl (.inl rfl) rfl ⟨_, _, _, .lst _, rfl, atI_iL hk, ?_⟩))))
    refine dss_one (ds_ret (de_lstO (da_cons (de_mul (de_abs B rfl (de_var 2 rfl (.inl rfl) rfl ⟨_, rfl, de_int1 B rfl (de_ge (de_abs B rfl (de_var 2 rfl (.inl rfl) rfl ⟨_, rfl, de_pow (de_int (de_int ⟨_, _, rfl, rfl, ⟨by decide, by decide, by decide⟩, ⟨_, _, rfl, rfl, .inr ⟨_, rfl, ⟨_, _, rfl, rfl, .inr c01, da_cons (de_add (de_add (de_mod (de_var 2 rfl (.inl rfl) rfl (de_int ⟨_, _, rfl, rfl, by decide, de_mul (de_int (de_var 1 rfl (.inl rfl) rfl ⟨_, _, rfl, rfl, .inl ⟨by decide, by decide⟩, .inl ⟨_, _, rfl, rfl, de_int (.inl ⟨_, _, rfl, rfl, da_cons (de_int (da_nil ⟨lz rfl, fun b hb => q b _ _ hb⟩))⟩)⟩⟩))⟩)))))⟩⟩⟩⟩))⟩)))⟩))))))
theorem sc_law_cells : FnScope ["_law_script", "_law_utmost", "_law_cells_here", "_law_k", "_law_cell"] ["_law_script", "_law_utmost"] (defScope s_law_cells) := ⟨rfl, rfl, rfl, by decide +kernel, rfl, by decide +kernel, by decide +kernel⟩
def c_law_cells (K : PySem.W.Frag) : Ct := fun os μ Φ => ∃ (ns : List Int) (u : Nat), os = [.scr K ns, .im (.int (u : Int))] ∧ 0 < u ∧ u ≤ 1000 ∧ ns.length ≤ 63 ∧ ∀ cs : List Int, cs ≠ [] → cs.length ≤ u → Φ (.im (.list (iL cs))) μ
theorem f_law_cells (B : Bt mg) {f : Addr} {fd : FuncData} (F : Fun K "_law_cells" "_law_cells" s_law_cells f fd) (hm : mg "_law_cells" = some (.ref f)) : Fc P w K mg base "_law_cells" s_law_cells ["_law_script", "_law_utmost"] 1 (c_law_cells K) := by
  have sc := sc_law_cells
  refine fc_of F hm sc (fun os μ Φ h => ?_) fun cdv A outer s H E os μ Φ hr h => ?_
  · obtain ⟨ns, u, rfl, _⟩ := h
    rfl
  · obtain ⟨ns, u, rfl, u0, u1, hn, q⟩ := h
    refine dss_cons (ds_set 2 sc.nd rfl (.inl rfl) (de_orL (de_listO B rfl (de_slS (de_var 0 rfl (.inl rfl) rfl (de_var 1 rfl (.inl rfl) rfl ⟨_, rfl, ⟨_, rfl, ⟨_, .lst _, fun p hp => ?_⟩⟩⟩))))))
    rw [cutI_to]
    have go : ∀ (p : Addr) (μ1 : Mu) (cs : List Int), Sub μ μ1 → μ p = none → μ1 p = some ((iL cs).map OV.im) → cs ≠ [] → cs.length ≤ u → (u < ns.length → cs.length = u) →
        DSs (cxOf CX0 P w K mg base ["_law_script", "_law_utmost", "_law_cells_here", "_law_k", "_law_cell"] "_law_cells" (defScope s_law_cells) f cdv A outer s H E).nox (defBody s_law_cells).tail [some (.scr K ns), some (.im (.int (u : Int))), some (.own p), none, none] μ1 { nx := fun _ μ' => Φ (.im .none) μ', rt := Φ } := by
      intro p μ1 cs hs hp h1 hc hcl hcu
      refine dss_cons (ds_for (.tp [3, 4]) PassesOwn.never rfl (pg_tup rfl (pgs_cons (pg_name (i := 3) sc.nd rfl (.inl rfl)) (pgs_cons (pg_name (i := 4) sc.nd rfl (.inl rfl)) pgs_nil))) (di_en B rfl (de_slS (de_var 0 rfl (.inl rfl) rfl (de_var 1 rfl (.inl rfl) rfl ⟨_, rfl, de_int ⟨_, rfl, ⟨_, rfl, ⟨_, .lst, ?_⟩⟩⟩⟩)))))
      refine ⟨fun i ρ' μ' => ∃ cs' x y, ρ' = [some (.scr K ns), some (.im (.int (u : Int))), some (.own p), x, y] ∧ Sub μ μ' ∧ μ' p = some ((iL cs').map OV.im) ∧ cs'.length = cs.length, ⟨cs, none, none, rfl, hs, h1, rfl⟩, fun _ _ _ _ => trivial, fun i z ρ' μ' hz hP => ?_, fun ρ' μ' hP => ?_⟩
      · obtain ⟨cs', x, y, rfl, hs', hp', hl⟩ := hP
        obtain ⟨d, hd, rfl⟩ := prs_at hz
        obtain ⟨c, hc1, rfl⟩ := iL_get hd
        have hi := (List.getElem?_eq_some_iff.mp hc1).1
        have hlen := cutI_len ns u 63
        have hi' : i < (cutI ns (some (u : Int)) (some ((63 : Nat) : Int))).length := hi
        have hul : cs'.length = u := by rw [hl]; exact hcu (by omega)
        refine ⟨_, rfl, ?_⟩
        have em : ((i : Int) % (u : Int)) = ((i % u : Nat) : Int) := by omega
        have hm' : i % u < cs'.length := by rw [hul]; exact Nat.mod_lt _ u0
        have hix : ixN ((iL cs').map OV.im).length ((i : Int) % (u : Int)) = some (i % u) := by
          rw [em]
          exact ixN_nat (by rw [List.length_map, List.length_map]; exact hm')
        refine dss_one (ds_sub (de_add (de_ix (fun _ _ => rfl) (de_var 2 rfl (.inl rfl) rfl (de_mod (de_var 3 rfl (.inl rfl) rfl (de_var 1 rfl (.inl rfl) rfl ⟨_, _, rfl, rfl, by omega, ⟨_, _, _, .own hp', rfl, (by rw [em]; exact atI_iL hm'), de_mul (de_var 4 rfl (.inl rfl) rfl (de_add (de_var 3 rfl (.inl rfl) rfl (de_int (.inl ⟨_, _, rfl, rfl, ⟨_, _, rfl, rfl, .inr ⟨by omega, by omega⟩, .inl ⟨_, _, rfl, rfl, de_var 2 rfl (.inl rfl) rfl (de_mod (de_var 3 rfl (.inl rfl) rfl (de_var 1 rfl (.inl rfl) rfl ⟨_, _, rfl, rfl, by omega, ⟨_, _, _, _, rfl, rfl, hp', hix, ?_⟩⟩)))⟩⟩⟩)))))⟩⟩)))))) (hsub := pg_sub pwe pwe set_list))
        refine ⟨cs'.set (i % u) (cs'[i % u] + c * ((i : Int) + 2)), _, _, rfl, ⟨fun a l e => ?_, hs'.2⟩, ?_, by rw [List.length_set, hl]⟩
        · rw [put_ne (ne_own e hp)]
          exact hs'.1 a l e
        · rw [put_same, ← List.map_set, ← List.map_set]
      · obtain ⟨cs', x, y, rfl, hs', hp', hl⟩ := hP
        refine dss_frz (i := 2) rfl hp' (dss_drop (μ' := μ) ⟨fun a l e => ?_, hs'.2⟩ (dss_one (ds_ret (de_var 2 rfl (.inl rfl) rfl (q cs' ?_ ?_)))))
        · show (if a = p then none else μ' a) = some l
          rw [if_neg (ne_own e hp)]
          exact hs'.1 a l e
        · intro e
          rw [e] at hl
          exact hc (List.length_eq_zero_iff.mp hl.symm)
        · omega
    by_cases hne : ns.take u = []
    · refine ⟨[], ?_, ?_⟩
      · rw [hne]
        exact .own put_same
      · rw [if_neg (by simp)]
        refine de_one (de_lstO (da_cons (de_int (da_nil ⟨lz rfl, fun p2 hp2 => ?_⟩))))
        have hp3 : μ p2 = none := by
          cases z : μ p2 with
          | none => rfl
          | some l =>
            rw [put_ne (ne_own z hp), z] at hp2
            cases hp2
        refine go p2 _ [0] ⟨fun a l e => ?_, rfl, rfl⟩ hp3 put_same (by simp) (by simp; omega) fun hu => ?_
        · rw [put_ne (ne_own e hp3), put_ne (ne_own e hp)]
          exact e
        · have := congrArg List.length hne
          rw [List.length_take, List.length_nil] at this
          omega
    · refine ⟨iL (ns.take u), .own put_same, ?_⟩
      rw [if_pos (by simpa using hne)]
      refine go p _ (ns.take u) ⟨fun a l e => ?_, rfl, rfl⟩ hp put_same hne (by rw [List.length_take]; omega) fun hu => by rw [List.length_take]; omega
      rw [put_ne (ne_own e hp)]
      exact e
abbrev N_law : List Str := ["_law_script", "_law_cells_here", "_law_k", "_law_box_here", "_law_turn"]
theorem sc_law : FnScope N_law ["_law_script"] (defScope s_law) := ⟨rfl, rfl, rfl, by decide +kernel, rfl, by decide +kernel, by decide +kernel⟩
theorem f_law {kr : Nat} (B : Bt mg) (F_law_cells : Fc P w K mg base "_law_cells" s_law_cells ["_law_script", "_law_utmost"] 1 (c_law_cells K)) (F_law_box : Fc P w K mg base "_law_box" s_law_box ["_law_cells_here", "_law_k"] 1 c_law_box) (F_law_right : Fc P w K mg base "_law_right" s_law_right ["_law_box_here"] (kr + 1) cR) {f : Addr} {fd : FuncData} (F : Fun K "law" "law" s_law f fd) : FnG P w K mg base CX0 (kr + 2) f fd ["_law_script"] (spOf (c_law K)) := by
  have sc := sc_law
  refine fg_of F sc (fun os μ Φ h => ?_) fun cdv A outer s H E os μ Φ hr h => ?_
  · obtain ⟨ns, rfl, _⟩ := h
    rfl
  · obtain ⟨ns, rfl, hn, k⟩ := h
    refine dss_cons (ds_set 1 sc.nd rfl (.inl rfl) (de_call F_law_cells (hr.mono (by omega)) rfl (fun _ _ _ _ _ _ us hl => match us, hl with | [_, _], _ => rfl) (da_cons (de_var 0 rfl (.inl rfl) rfl (da_cons (de_int (da_nil ⟨ns, 3, rfl, by decide, by decide, hn, fun cs hc hcl => ?_⟩)))))))
    refine dss_cons (ds_for (.nm 2) PassesOwn.never rfl (pg_name (i := 2) sc.nd rfl (.inl rfl)) (di_range1 B rfl (de_len B rfl (de_var 1 rfl (.inl rfl) rfl ⟨_, .lst _, ⟨_, rfl, by omega, ?_, ?_⟩⟩))))
    · rw [List.length_map, List.length_map]
      omega
    refine ⟨fun i ρ' μ' => ∃ x y, ρ' = [some (.scr K ns), some (.im (.list (iL cs))), x, y, none], ⟨none, none, rfl⟩, fun _ _ _ _ => trivial, fun i z ρ' μ' hz hP => ?_, fun ρ' μ' hP => ?_⟩
    · obtain ⟨x, y, rfl⟩ := hP
      have hi : i < cs.length := by simpa using (List.getElem?_eq_some_iff.mp hz).1
      simp only [List.length_map, Int.toNat_natCast, List.getElem?_map, List.getElem?_range hi, Option.map_some, Option.some.injEq] at hz
      subst hz
      refine ⟨_, rfl, ?_⟩
      refine dss_cons (ds_set 3 sc.nd rfl (.inr rfl) (de_call F_law_box (hr.mono (by omega)) rfl (fun _ _ _ _ _ _ us hl => match us, hl with | [_, _], _ => rfl) (da_cons (de_var 1 rfl (.inl rfl) rfl (da_cons (de_var 2 rfl (.inl rfl) rfl (da_nil ⟨cs, i, rfl, hi, fun b p q hb => ?_⟩)))))))
      refine dss_one (ds_if (dt_not (dt_val (de_all B rfl rfl (de_lc (own := [("_law_turn", 4)]) (.nm 4) rfl sc.nd (blkOk_by (N := N_law) (sc := defScope s_law) (by decide +kernel)) (by decide) (fun _ _ _ _ _ => pg_name (i := 4) sc.nd rfl (.inl rfl)) (di_range1 B rfl (de_int ⟨_, rfl, by decide, by decide, ?_⟩)))))))
      refine ⟨fun i acc μ' => acc = (List.replicate i (PyData.bool true)).map .im ∧ ∃ p q t, μ' b = some (bx p q t), by decide, ⟨rfl, p, q, 0, put_same⟩, fun _ _ _ _ _ _ => trivial, fun acc μ2 h => ?_, fun i acc μ2 o ho h => ?_⟩
      · obtain ⟨rfl, _⟩ := h
        refine ⟨_, rfl, List.replicate 3 true, .im _, true, rfl, ?_⟩
        exact iteF (dss_nil ⟨_, _, rfl⟩)
      · obtain ⟨rfl, p1, q1, t1, h1⟩ := h
        refine ⟨_, rfl, fun Dl hDl => ?_⟩
        have nbD := ne_own h1 hDl
        dsimp only [DTb]
        rw [if_pos rfl]
        intro s1 H1 C1 cl1 fp1
        refine de_call F_law_right hr rfl (fun _ _ _ _ _ _ us hl => match us, hl with | [_], _ => rfl) (da_cons (de_v 3 rfl (da_nil ⟨b, p1, q1, t1, rfl, (put_ne nbD).trans h1, fun μ3 s3 => ?_⟩)))
        obtain ⟨pb1, pb2⟩ := put_back (s3.old Dl _ (fun e => nbD e.symm) put_same)
        obtain ⟨p2, q2, t2, h2⟩ := s3.box p1 q1 t1 ((put_ne nbD).trans h1)
        refine ⟨μ3.del Dl, pb1, pb2, ?_, p2, q2, t2, (if_neg nbD).trans h2⟩
        rw [List.replicate_succ', List.map_append]
        rfl
    · obtain ⟨x, y, rfl⟩ := hP
      exact dss_one (ds_ret (de_bl (k _)))
end
theorem all_mk {l : PySem.W.OpenLaw} {w : World} {K : PySem.W.Frag} {h : Heap} {mg : Str → Option Value} {fa : Addr} (X : K.In h) (G : h.Ns mainGlobals mg) (hfa : mg "law" = some (.ref fa))
    {f0 : Addr} {od0 an0 : Option Addr} {sl0 : Array (Option Value)} {oc0 kV0 dc0 pm0 cd0 ct0 : Value} (a0 : PySem.W.nsIn K mainGlobals "is_chair" = some (some (.ref f0))) (l0 : K.lookup f0 = some ⟨oc0, od0, .func (PySem.W.fnOf "is_chair" "is_chair" (defArgs s_is_chair) (defBody s_is_chair) (defScope s_is_chair) .none kV0 dc0 pm0 an0 cd0 ct0), sl0⟩) (c0 : PySem.W.codeIn K cd0 "is_chair" = true) (k0 : PySem.W.keepIn K (.ref f0) = true)
    {f1 : Addr} {od1 an1 : Option Addr} {sl1 : Array (Option Value)} {oc1 kV1 dc1 pm1 cd1 ct1 : Value} (a1 : PySem.W.nsIn K mainGlobals "all_chairs" = some (some (.ref f1))) (l1 : K.lookup f1 = some ⟨oc1, od1, .func (PySem.W.fnOf "all_chairs" "all_chairs" (defArgs s_all_chairs) (defBody s_all_chairs) (defScope s_all_chairs) .none kV1 dc1 pm1 an1 cd1 ct1), sl1⟩) (c1 : PySem.W.codeIn K cd1 "all_chairs" = true) (k1 : PySem.W.keepIn K (.ref f1) = true)
    {f2 : Addr} {od2 an2 : Option Addr} {sl2 : Array (Option Value)} {oc2 kV2 dc2 pm2 cd2 ct2 : Value} (a2 : PySem.W.nsIn K mainGlobals "is_table" = some (some (.ref f2))) (l2 : K.lookup f2 = some ⟨oc2, od2, .func (PySem.W.fnOf "is_table" "is_table" (defArgs s_is_table) (defBody s_is_table) (defScope s_is_table) .none kV2 dc2 pm2 an2 cd2 ct2), sl2⟩) (c2 : PySem.W.codeIn K cd2 "is_table" = true) (k2 : PySem.W.keepIn K (.ref f2) = true)
    {f3 : Addr} {od3 an3 : Option Addr} {sl3 : Array (Option Value)} {oc3 kV3 dc3 pm3 cd3 ct3 : Value} (a3 : PySem.W.nsIn K mainGlobals "spaced" = some (some (.ref f3))) (l3 : K.lookup f3 = some ⟨oc3, od3, .func (PySem.W.fnOf "spaced" "spaced" (defArgs s_spaced) (defBody s_spaced) (defScope s_spaced) .none kV3 dc3 pm3 an3 cd3 ct3), sl3⟩) (c3 : PySem.W.codeIn K cd3 "spaced" = true) (k3 : PySem.W.keepIn K (.ref f3) = true)
    {f4 : Addr} {od4 an4 : Option Addr} {sl4 : Array (Option Value)} {oc4 kV4 dc4 pm4 cd4 ct4 : Value} (a4 : PySem.W.nsIn K mainGlobals "number_written" = some (some (.ref f4))) (l4 : K.lookup f4 = some ⟨oc4, od4, .func (PySem.W.fnOf "number_written" "number_written" (defArgs s_number_written) (defBody s_number_written) (defScope s_number_written) .none kV4 dc4 pm4 an4 cd4 ct4), sl4⟩) (c4 : PySem.W.codeIn K cd4 "number_written" = true) (k4 : PySem.W.keepIn K (.ref f4) = true)
    {f5 : Addr} {od5 an5 : Option Addr} {sl5 : Array (Option Value)} {oc5 kV5 dc5 pm5 cd5 ct5 : Value} (a5 : PySem.W.nsIn K mainGlobals "chair_written" = some (some (.ref f5))) (l5 : K.lookup f5 = some ⟨oc5, od5, .func (PySem.W.fnOf "chair_written" "chair_written" (defArgs s_chair_written) (defBody s_chair_written) (defScope s_chair_written) .none kV5 dc5 pm5 an5 cd5 ct5), sl5⟩) (c5 : PySem.W.codeIn K cd5 "chair_written" = true) (k5 : PySem.W.keepIn K (.ref f5) = true)
    {f6 : Addr} {od6 an6 : Option Addr} {sl6 : Array (Option Value)} {oc6 kV6 dc6 pm6 cd6 ct6 : Value} (a6 : PySem.W.nsIn K mainGlobals "table_line" = some (some (.ref f6))) (l6 : K.lookup f6 = some ⟨oc6, od6, .func (PySem.W.fnOf "table_line" "table_line" (defArgs s_table_line) (defBody s_table_line) (defScope s_table_line) .none kV6 dc6 pm6 an6 cd6 ct6), sl6⟩) (c6 : PySem.W.codeIn K cd6 "table_line" = true) (k6 : PySem.W.keepIn K (.ref f6) = true)
    {f7 : Addr} {od7 an7 : Option Addr} {sl7 : Array (Option Value)} {oc7 kV7 dc7 pm7 cd7 ct7 : Value} (a7 : PySem.W.nsIn K mainGlobals "table_from" = some (some (.ref f7))) (l7 : K.lookup f7 = some ⟨oc7, od7, .func (PySem.W.fnOf "table_from" "table_from" (defArgs s_table_from) (defBody s_table_from) (defScope s_table_from) .none kV7 dc7 pm7 an7 cd7 ct7), sl7⟩) (c7 : PySem.W.codeIn K cd7 "table_from" = true) (k7 : PySem.W.keepIn K (.ref f7) = true)
    {f8 : Addr} {od8 an8 : Option Addr} {sl8 : Array (Option Value)} {oc8 kV8 dc8 pm8 cd8 ct8 : Value} (a8 : PySem.W.nsIn K mainGlobals "_law_box" = some (some (.ref f8))) (l8 : K.lookup f8 = some ⟨oc8, od8, .func (PySem.W.fnOf "_law_box" "_law_box" (defArgs s_law_box) (defBody s_law_box) (defScope s_law_box) .none kV8 dc8 pm8 an8 cd8 ct8), sl8⟩) (c8 : PySem.W.codeIn K cd8 "_law_box" = true) (k8 : PySem.W.keepIn K (.ref f8) = true)
    {f9 : Addr} {od9 an9 : Option Addr} {sl9 : Array (Option Value)} {oc9 kV9 dc9 pm9 cd9 ct9 : Value} (a9 : PySem.W.nsIn K mainGlobals "_law_take" = some (some (.ref f9))) (l9 : K.lookup f9 = some ⟨oc9, od9, .func (PySem.W.fnOf "_law_take" "_law_take" (defArgs s_law_take) (defBody s_law_take) (defScope s_law_take) .none kV9 dc9 pm9 an9 cd9 ct9), sl9⟩) (c9 : PySem.W.codeIn K cd9 "_law_take" = true) (k9 : PySem.W.keepIn K (.ref f9) = true)
    {f10 : Addr} {od10 an10 : Option Addr} {sl10 : Array (Option Value)} {oc10 kV10 dc10 pm10 cd10 ct10 : Value} (a10 : PySem.W.nsIn K mainGlobals "_law_cells" = some (some (.ref f10))) (l10 : K.lookup f10 = some ⟨oc10, od10, .func (PySem.W.fnOf "_law_cells" "_law_cells" (defArgs s_law_cells) (defBody s_law_cells) (defScope s_law_cells) .none kV10 dc10 pm10 an10 cd10 ct10), sl10⟩) (c10 : PySem.W.codeIn K cd10 "_law_cells" = true) (k10 : PySem.W.keepIn K (.ref f10) = true)
    {f11 : Addr} {od11 an11 : Option Addr} {sl11 : Array (Option Value)} {oc11 kV11 dc11 pm11 cd11 ct11 : Value} (a11 : PySem.W.nsIn K mainGlobals "_law_of" = some (some (.ref f11))) (l11 : K.lookup f11 = some ⟨oc11, od11, .func (PySem.W.fnOf "_law_of" "_law_of" (defArgs s_law_of) (defBody s_law_of) (defScope s_law_of) .none kV11 dc11 pm11 an11 cd11 ct11), sl11⟩) (c11 : PySem.W.codeIn K cd11 "_law_of" = true) (k11 : PySem.W.keepIn K (.ref f11) = true)
    {f12 : Addr} {od12 an12 : Option Addr} {sl12 : Array (Option Value)} {oc12 kV12 dc12 pm12 cd12 ct12 : Value} (a12 : PySem.W.nsIn K mainGlobals "_law_strewn" = some (some (.ref f12))) (l12 : K.lookup f12 = some ⟨oc12, od12, .func (PySem.W.fnOf "_law_strewn" "_law_strewn" (defArgs s_law_strewn) (defBody s_law_strewn) (defScope s_law_strewn) .none kV12 dc12 pm12 an12 cd12 ct12), sl12⟩) (c12 : PySem.W.codeIn K cd12 "_law_strewn" = true) (k12 : PySem.W.keepIn K (.ref f12) = true)
    {f13 : Addr} {od13 an13 : Option Addr} {sl13 : Array (Option Value)} {oc13 kV13 dc13 pm13 cd13 ct13 : Value} (a13 : PySem.W.nsIn K mainGlobals "_law_same" = some (some (.ref f13))) (l13 : K.lookup f13 = some ⟨oc13, od13, .func (PySem.W.fnOf "_law_same" "_law_same" (defArgs s_law_same) (defBody s_law_same) (defScope s_law_same) .none kV13 dc13 pm13 an13 cd13 ct13), sl13⟩) (c13 : PySem.W.codeIn K cd13 "_law_same" = true) (k13 : PySem.W.keepIn K (.ref f13) = true)
    {f14 : Addr} {od14 an14 : Option Addr} {sl14 : Array (Option Value)} {oc14 kV14 dc14 pm14 cd14 ct14 : Value} (a14 : PySem.W.nsIn K mainGlobals "_law_span" = some (some (.ref f14))) (l14 : K.lookup f14 = some ⟨oc14, od14, .func (PySem.W.fnOf "_law_span" "_law_span" (defArgs s_law_span) (defBody s_law_span) (defScope s_law_span) .none kV14 dc14 pm14 an14 cd14 ct14), sl14⟩) (c14 : PySem.W.codeIn K cd14 "_law_span" = true) (k14 : PySem.W.keepIn K (.ref f14) = true)
    {f15 : Addr} {od15 an15 : Option Addr} {sl15 : Array (Option Value)} {oc15 kV15 dc15 pm15 cd15 ct15 : Value} (a15 : PySem.W.nsIn K mainGlobals "_law_crowd" = some (some (.ref f15))) (l15 : K.lookup f15 = some ⟨oc15, od15, .func (PySem.W.fnOf "_law_crowd" "_law_crowd" (defArgs s_law_crowd) (defBody s_law_crowd) (defScope s_law_crowd) .none kV15 dc15 pm15 an15 cd15 ct15), sl15⟩) (c15 : PySem.W.codeIn K cd15 "_law_crowd" = true) (k15 : PySem.W.keepIn K (.ref f15) = true)
    {f16 : Addr} {od16 an16 : Option Addr} {sl16 : Array (Option Value)} {oc16 kV16 dc16 pm16 cd16 ct16 : Value} (a16 : PySem.W.nsIn K mainGlobals "_law_climbs" = some (some (.ref f16))) (l16 : K.lookup f16 = some ⟨oc16, od16, .func (PySem.W.fnOf "_law_climbs" "_law_climbs" (defArgs s_law_climbs) (defBody s_law_climbs) (defScope s_law_climbs) .none kV16 dc16 pm16 an16 cd16 ct16), sl16⟩) (c16 : PySem.W.codeIn K cd16 "_law_climbs" = true) (k16 : PySem.W.keepIn K (.ref f16) = true)
    {f17 : Addr} {od17 an17 : Option Addr} {sl17 : Array (Option Value)} {oc17 kV17 dc17 pm17 cd17 ct17 : Value} (a17 : PySem.W.nsIn K mainGlobals "_law_scene" = some (some (.ref f17))) (l17 : K.lookup f17 = some ⟨oc17, od17, .func (PySem.W.fnOf "_law_scene" "_law_scene" (defArgs s_law_scene) (defBody s_law_scene) (defScope s_law_scene) .none kV17 dc17 pm17 an17 cd17 ct17), sl17⟩) (c17 : PySem.W.codeIn K cd17 "_law_scene" = true) (k17 : PySem.W.keepIn K (.ref f17) = true)
    {f18 : Addr} {od18 an18 : Option Addr} {sl18 : Array (Option Value)} {oc18 kV18 dc18 pm18 cd18 ct18 : Value} (a18 : PySem.W.nsIn K mainGlobals "_law_told" = some (some (.ref f18))) (l18 : K.lookup f18 = some ⟨oc18, od18, .func (PySem.W.fnOf "_law_told" "_law_told" (defArgs s_law_told) (defBody s_law_told) (defScope s_law_told) .none kV18 dc18 pm18 an18 cd18 ct18), sl18⟩) (c18 : PySem.W.codeIn K cd18 "_law_told" = true) (k18 : PySem.W.keepIn K (.ref f18) = true)
    {f19 : Addr} {od19 an19 : Option Addr} {sl19 : Array (Option Value)} {oc19 kV19 dc19 pm19 cd19 ct19 : Value} (a19 : PySem.W.nsIn K mainGlobals "_law_due" = some (some (.ref f19))) (l19 : K.lookup f19 = some ⟨oc19, od19, .func (PySem.W.fnOf "_law_due" "_law_due" (defArgs s_law_due) (defBody s_law_due) (defScope s_law_due) .none kV19 dc19 pm19 an19 cd19 ct19), sl19⟩) (c19 : PySem.W.codeIn K cd19 "_law_due" = true) (k19 : PySem.W.keepIn K (.ref f19) = true)
    {f20 : Addr} {od20 an20 : Option Addr} {sl20 : Array (Option Value)} {oc20 kV20 dc20 pm20 cd20 ct20 : Value} (a20 : PySem.W.nsIn K mainGlobals "_law_spoilt" = some (some (.ref f20))) (l20 : K.lookup f20 = some ⟨oc20, od20, .func (PySem.W.fnOf "_law_spoilt" "_law_spoilt" (defArgs s_law_spoilt) (defBody s_law_spoilt) (defScope s_law_spoilt) .none kV20 dc20 pm20 an20 cd20 ct20), sl20⟩) (c20 : PySem.W.codeIn K cd20 "_law_spoilt" = true) (k20 : PySem.W.keepIn K (.ref f20) = true)
    {f21 : Addr} {od21 an21 : Option Addr} {sl21 : Array (Option Value)} {oc21 kV21 dc21 pm21 cd21 ct21 : Value} (a21 : PySem.W.nsIn K mainGlobals "_law_right" = some (some (.ref f21))) (l21 : K.lookup f21 = some ⟨oc21, od21, .func (PySem.W.fnOf "_law_right" "_law_right" (defArgs s_law_right) (defBody s_law_right) (defScope s_law_right) .none kV21 dc21 pm21 an21 cd21 ct21), sl21⟩) (c21 : PySem.W.codeIn K cd21 "_law_right" = true) (k21 : PySem.W.keepIn K (.ref f21) = true)
    {f22 : Addr} {od22 an22 : Option Addr} {sl22 : Array (Option Value)} {oc22 kV22 dc22 pm22 cd22 ct22 : Value} (a22 : PySem.W.nsIn K mainGlobals "law" = some (some (.ref f22))) (l22 : K.lookup f22 = some ⟨oc22, od22, .func (PySem.W.fnOf "law" "law" (defArgs s_law) (defBody s_law) (defScope s_law) .none kV22 dc22 pm22 an22 cd22 ct22), sl22⟩) (c22 : PySem.W.codeIn K cd22 "law" = true) (k22 : PySem.W.keepIn K (.ref f22) = true)
    {C_NotWay N_NotWay : Addr} {nm_NotWay q_NotWay : Str} {bs_NotWay : List Value} {sn_NotWay : List Str} {su_NotWay : List Value} {ab_NotWay : Bool} {co_NotWay : Option Bool} {dd_NotWay : Option Addr} {m0_NotWay m1_NotWay m2_NotWay m3_NotWay m5_NotWay : Option Value} (aC_NotWay : PySem.W.nsIn K mainGlobals "NotWay" = some (some (.ref C_NotWay))) (xL_NotWay : K.lookup C_NotWay = some (excClassObj nm_NotWay q_NotWay C_NotWay N_NotWay bs_NotWay [.type "ValueError", .type "Exception", .type "BaseException", .type "object"] true sn_NotWay su_NotWay ab_NotWay co_NotWay dd_NotWay m0_NotWay m1_NotWay m2_NotWay m3_NotWay m5_NotWay "ValueError.__new__")) (eC_NotWay : PySem.W.subIn K (.ref C_NotWay) (.type "BaseException") = some true) (tC_NotWay : PySem.W.typeIn K (.ref C_NotWay) = some (.type "type"))
    {C_BadLine N_BadLine : Addr} {nm_BadLine q_BadLine : Str} {bs_BadLine : List Value} {sn_BadLine : List Str} {su_BadLine : List Value} {ab_BadLine : Bool} {co_BadLine : Option Bool} {dd_BadLine : Option Addr} {m0_BadLine m1_BadLine m2_BadLine m3_BadLine m5_BadLine : Option Value} (aC_BadLine : PySem.W.nsIn K mainGlobals "BadLine" = some (some (.ref C_BadLine))) (xL_BadLine : K.lookup C_BadLine = some (excClassObj nm_BadLine q_BadLine C_BadLine N_BadLine bs_BadLine [.type "ValueError", .type "Exception", .type "BaseException", .type "object"] true sn_BadLine su_BadLine ab_BadLine co_BadLine dd_BadLine m0_BadLine m1_BadLine m2_BadLine m3_BadLine m5_BadLine "ValueError.__new__")) (eC_BadLine : PySem.W.subIn K (.ref C_BadLine) (.type "BaseException") = some true) (tC_BadLine : PySem.W.typeIn K (.ref C_BadLine) = some (.type "type"))
    {fI_BadLine : Addr} {odI_BadLine anI_BadLine : Option Addr} {slI_BadLine : Array (Option Value)} {ocI_BadLine kVI_BadLine dcI_BadLine pmI_BadLine cdI_BadLine ctI_BadLine : Value} (sa_BadLine : (PySem.W.findIn K (.ref C_BadLine) "__setattr__" = some (some (.builtin "object.__setattr__")))) (ga_BadLine : (PySem.W.findIn K (.ref C_BadLine) "__getattribute__" = some (some (.builtin "BaseException.__getattribute__")))) (gg_BadLine : (PySem.W.findIn K (.ref C_BadLine) "__getattr__" = some none)) (no_BadLine : (PySem.W.findIn K (.ref C_BadLine) "line" = some none)) (cc_BadLine : (PySem.W.findIn K (.ref C_BadLine) "__class__" = some (some (.builtin "object.__class__")))) (iC_BadLine : (PySem.W.findIn K (.ref C_BadLine) "__init__" = some (some (.ref fI_BadLine)))) (tI_BadLine : PySem.W.typeIn K (.ref fI_BadLine) = some (.type "function")) (lI_BadLine : K.lookup fI_BadLine = some ⟨ocI_BadLine, odI_BadLine, .func (PySem.W.fnOf "__init__" "BadLine.__init__" (defArgs sC_BadLine) (defBody sC_BadLine) (defScope sC_BadLine) .none kVI_BadLine dcI_BadLine pmI_BadLine anI_BadLine cdI_BadLine ctI_BadLine), slI_BadLine⟩) (cI_BadLine : PySem.W.codeIn K cdI_BadLine "BadLine.__init__" = true) (kI_BadLine : PySem.W.keepIn K (.ref fI_BadLine) = true) (kC_BadLine : PySem.W.keepIn K (.ref C_BadLine) = true) (hC_BadLine : PySem.W.hasDictIn K C_BadLine = true) (oC_BadLine : PySem.W.mroIn K C_BadLine (.type "object") = some true)
    {C_BadScript N_BadScript : Addr} {nm_BadScript q_BadScript : Str} {bs_BadScript : List Value} {sn_BadScript : List Str} {su_BadScript : List Value} {ab_BadScript : Bool} {co_BadScript : Option Bool} {dd_BadScript : Option Addr} {m0_BadScript m1_BadScript m2_BadScript m3_BadScript m5_BadScript : Option Value} (aC_BadScript : PySem.W.nsIn K mainGlobals "BadScript" = some (some (.ref C_BadScript))) (xL_BadScript : K.lookup C_BadScript = some (excClassObj nm_BadScript q_BadScript C_BadScript N_BadScript bs_BadScript [.type "ValueError", .type "Exception", .type "BaseException", .type "object"] true sn_BadScript su_BadScript ab_BadScript co_BadScript dd_BadScript m0_BadScript m1_BadScript m2_BadScript m3_BadScript m5_BadScript "ValueError.__new__")) (eC_BadScript : PySem.W.subIn K (.ref C_BadScript) (.type "BaseException") = some true) (tC_BadScript : PySem.W.typeIn K (.ref C_BadScript) = some (.type "type"))
    (s_BadLine_NotWay : PySem.W.subIn K (.ref C_BadLine) (.ref C_NotWay) = some false)
    (s_BadLine_BadLine : PySem.W.subIn K (.ref C_BadLine) (.ref C_BadLine) = some true)
    (s_BadLine_BadScript : PySem.W.subIn K (.ref C_BadLine) (.ref C_BadScript) = some false)
    (gsO : PySem.W.specialIn K (.builtin "object.__class__") "__get__" = some (some (.builtin "getset_descriptor.__get__"))) (tkO : PySem.W.takesIn K (.builtin "object.__class__") = some true) (sVE : PySem.W.subIn K (.ref C_BadLine) (.type "ValueError") = some true) (vV_ValueError : PySem.W.findCls K (.type "ValueError") (.type "type") "__init__" = some (.val (.builtin "ValueError.__init__"))) (zB_ValueError : PySem.W.nsIn K mainGlobals "ValueError" = some none)
    (z_len : PySem.W.nsIn K mainGlobals "len" = some none)
    (z_range : PySem.W.nsIn K mainGlobals "range" = some none)
    (z_list : PySem.W.nsIn K mainGlobals "list" = some none)
    (z_tuple : PySem.W.nsIn K mainGlobals "tuple" = some none)
    (z_sorted : PySem.W.nsIn K mainGlobals "sorted" = some none)
    (z_abs : PySem.W.nsIn K mainGlobals "abs" = some none)
    (z_int : PySem.W.nsIn K mainGlobals "int" = some none)
    (z_str : PySem.W.nsIn K mainGlobals "str" = some none)
    (z_repr : PySem.W.nsIn K mainGlobals "repr" = some none)
    (z_all : PySem.W.nsIn K mainGlobals "all" = some none)
    (z_any : PySem.W.nsIn K mainGlobals "any" = some none)
    (z_max : PySem.W.nsIn K mainGlobals "max" = some none)
    (z_min : PySem.W.nsIn K mainGlobals "min" = some none)
    (z_sum : PySem.W.nsIn K mainGlobals "sum" = some none)
    (z_enumerate : PySem.W.nsIn K mainGlobals "enumerate" = some none)
    (z_zip : PySem.W.nsIn K mainGlobals "zip" = some none)
    (z_isinstance : PySem.W.nsIn K mainGlobals "isinstance" = some none)
    (z_bool : PySem.W.nsIn K mainGlobals "bool" = some none)
    (z_set : PySem.W.nsIn K mainGlobals "set" = some none)
    (z_dict : PySem.W.nsIn K mainGlobals "dict" = some none)
    {tk_LEAST_SIZE : Tok} (gc_LEAST_SIZE : PySem.W.nsIn K mainGlobals "LEAST_SIZE" = some (some (.int 2 tk_LEAST_SIZE)))
    {tk_MOST_SIZE : Tok} (gc_MOST_SIZE : PySem.W.nsIn K mainGlobals "MOST_SIZE" = some (some (.int 10 tk_MOST_SIZE)))
    : ∃ fd : FuncData, (∀ (s : Shared) (v : Value), BindsTo s fd ⟨[v], []⟩ [("_law_script", v)]) ∧ ∀ base : Heap, K.In base → base.Ns mainGlobals mg → FnG l.prog w K mg base CX0 9 fa fd ["_law_script"] (spOf (c_law K)) := by
  have e := hfa.symm.trans (PySem.W.mg_of X G a22)
  cases e
  have B : Bt mg := ⟨PySem.W.mg_none_of X G z_len, PySem.W.mg_none_of X G z_range, PySem.W.mg_none_of X G z_list, PySem.W.mg_none_of X G z_tuple, PySem.W.mg_none_of X G z_sorted, PySem.W.mg_none_of X G z_abs, PySem.W.mg_none_of X G z_int, PySem.W.mg_none_of X G z_str, PySem.W.mg_none_of X G z_repr, PySem.W.mg_none_of X G z_all, PySem.W.mg_none_of X G z_any, PySem.W.mg_none_of X G z_max, PySem.W.mg_none_of X G z_min, PySem.W.mg_none_of X G z_sum, PySem.W.mg_none_of X G z_enumerate, PySem.W.mg_none_of X G z_zip, PySem.W.mg_none_of X G z_isinstance, PySem.W.mg_none_of X G z_bool, PySem.W.mg_none_of X G z_set, PySem.W.mg_none_of X G z_dict⟩
  have G_law_cells := fun base : Heap => f_law_cells (P := l.prog) (w := w) (base := base) B (fun_mk (st := s_law_cells) l10 c10 k10) (PySem.W.mg_of X G a10)
  have G_law_box := fun base : Heap => f_law_box (P := l.prog) (w := w) (base := base) B (fun_mk (st := s_law_box) l8 c8 k8) (PySem.W.mg_of X G a8)
  have H_law_take := fun base : Heap => f_law_take (P := l.prog) (w := w) (base := base)  (fun_mk (st := s_law_take) l9 c9 k9) (PySem.W.mg_of X G a9)
  have G_law_take := fun base : Heap => (H_law_take base).imp take_ok
  have G_law_span := fun base : Heap => f_law_span (P := l.prog) (w := w) (base := base) B (G_law_take base) (fun_mk (st := s_law_span) l14 c14 k14) (PySem.W.mg_of X G a14)
  have H_law_strewn := fun base : Heap => f_law_strewn (P := l.prog) (w := w) (base := base) B (H_law_take base) (fun_mk (st := s_law_strewn) l12 c12 k12) (PySem.W.mg_of X G a12)
  have G_law_strewn := fun base : Heap => (H_law_strewn base).imp strewn_ok
  have G_law_crowd := fun base : Heap => f_law_crowd (P := l.prog) (w := w) (base := base) B (G_law_take base) (G_law_strewn base) (fun_mk (st := s_law_crowd) l15 c15 k15) (PySem.W.mg_of X G a15)
  have G_law_scene := fun base : Heap => f_law_scene (P := l.prog) (w := w) (base := base) B (G_law_span base) (G_law_take base) (G_law_crowd base) (fun_mk (st := s_law_scene) l17 c17 k17) (PySem.W.mg_of X G a17)
  have G_law_same := fun base : Heap => f_law_same (P := l.prog) (w := w) (base := base) B (fun_mk (st := s_law_same) l13 c13 k13) (PySem.W.mg_of X G a13)
  have G_law_of := fun base : Heap => f_law_of (P := l.prog) (w := w) (base := base) B (G_law_take base) (fun_mk (st := s_law_of) l11 c11 k11) (PySem.W.mg_of X G a11)
  have G_law_spoilt := fun base : Heap => f_law_spoilt (P := l.prog) (w := w) (base := base) B (G_law_of base) (G_law_take base) (fun_mk (st := s_law_spoilt) l20 c20 k20) (PySem.W.mg_of X G a20)
  have G_spaced := fun base : Heap => f_spaced (P := l.prog) (w := w) (base := base) B (fun_mk (st := s_spaced) l3 c3 k3) (PySem.W.mg_of X G a3)
  have G_table_line := fun base : Heap => f_table_line (P := l.prog) (w := w) (base := base) B (G_spaced base) (fun_mk (st := s_table_line) l6 c6 k6) (PySem.W.mg_of X G a6)
  have G_number_written := fun base : Heap => f_number_written (P := l.prog) (w := w) (base := base) B (fun_mk (st := s_number_written) l4 c4 k4) (PySem.W.mg_of X G a4)
  have G_is_chair := fun base : Heap => f_is_chair (P := l.prog) (w := w) (base := base) B (fun_mk (st := s_is_chair) l0 c0 k0) (PySem.W.mg_of X G a0)
  have G_all_chairs := fun base : Heap => f_all_chairs (P := l.prog) (w := w) (base := base) B (G_is_chair base) (fun_mk (st := s_all_chairs) l1 c1 k1) (PySem.W.mg_of X G a1)
  have G_is_table := fun base : Heap => f_is_table (P := l.prog) (w := w) (base := base) B (G_all_chairs base) (fun_mk (st := s_is_table) l2 c2 k2) (PySem.W.mg_of X G a2)
  have G_chair_written := fun base : Heap => f_chair_written (P := l.prog) (w := w) (base := base) B (G_number_written base) (fun_mk (st := s_chair_written) l5 c5 k5) (PySem.W.mg_of X G a5)
  have G_table_from := fun base : Heap => f_table_from (P := l.prog) (w := w) (base := base) B ⟨_, PySem.W.mg_of X G gc_LEAST_SIZE⟩ ⟨_, PySem.W.mg_of X G gc_MOST_SIZE⟩ (G_number_written base) (G_is_table base) (G_chair_written base) (fun_mk (st := s_table_from) l7 c7 k7) (PySem.W.mg_of X G a7)
  have TX_BadLine := fun base : Heap => x_BadLine (P := l.prog) (w := w) (base := base) (PySem.W.mg_none_of X G zB_ValueError) vV_ValueError ⟨⟨_, _, _, _, _, _, _, _, _, _, _, _, _, _, xL_BadLine⟩, sa_BadLine, kC_BadLine⟩ no_BadLine (fun_mk (st := sC_BadLine) lI_BadLine cI_BadLine kI_BadLine) (PySem.W.mg_of X G aC_BadLine) eC_BadLine tC_BadLine iC_BadLine tI_BadLine
  have EK_BadLine : ExK K C_BadLine := ⟨cls_some xL_BadLine, ga_BadLine, gg_BadLine, eC_BadLine, cc_BadLine, gsO, tkO, oC_BadLine, hC_BadLine⟩
  have k3 : PySem.W.kitAny K (.ref C_BadLine) [.ref C_BadScript, .ref C_NotWay] = some false := kany_f fun u hu => by
    simp only [List.mem_cons, List.not_mem_nil, or_false] at hu
    rcases hu with rfl | rfl
    · exact (kone_ne (cls_some xL_BadScript) tC_BadScript s_BadLine_BadScript s_BadLine_BadLine).trans (by rw [decide_eq_false (cls_ne s_BadLine_BadScript s_BadLine_BadLine)])
    · exact (kone_ne (cls_some xL_NotWay) tC_NotWay s_BadLine_NotWay s_BadLine_BadLine).trans (by rw [decide_eq_false (cls_ne s_BadLine_NotWay s_BadLine_BadLine)])
  have ex3 : PySem.W.exmAny K (.ref C_BadLine) [.ref C_BadLine, .ref C_BadScript, .ref C_NotWay] = some true := by
    refine eany (Ds := [(C_BadLine, true), (C_BadScript, false), (C_NotWay, false)]) fun p hp => ?_
    simp only [List.mem_cons, List.not_mem_nil, or_false] at hp
    rcases hp with hp | hp | hp
    · rw [hp]; exact eone eC_BadLine (cls_some xL_BadLine) tC_BadLine s_BadLine_BadLine
    · rw [hp]; exact eone eC_BadScript (cls_some xL_BadScript) tC_BadScript s_BadLine_BadScript
    · rw [hp]; exact eone eC_NotWay (cls_some xL_NotWay) tC_NotWay s_BadLine_NotWay
  have Z3 : Cl3 K mg C_BadLine C_BadScript C_NotWay := ⟨PySem.W.mg_of X G aC_BadLine, PySem.W.mg_of X G aC_BadScript, PySem.W.mg_of X G aC_NotWay, PySem.W.mg_none_of X G zB_ValueError, EK_BadLine, kone_self (C := C_BadLine), kone_ty (by decide +kernel) sVE, k3, ex3, no_BadLine⟩
  have Z_tf := fun base : Heap => fz_table_from (P := l.prog) (w := w) (base := base) B (TX_BadLine base) ⟨_, PySem.W.mg_of X G gc_LEAST_SIZE⟩ ⟨_, PySem.W.mg_of X G gc_MOST_SIZE⟩ (G_number_written base) (G_is_table base) (G_chair_written base) (fun_mk (st := s_table_from) l7 c7 k7) (PySem.W.mg_of X G a7)
  have G_law_told := fun base : Heap => f_law_told (P := l.prog) (w := w) (base := base) B Z3 (G_table_from base) (Z_tf base) (fun_mk (st := s_law_told) l18 c18 k18) (PySem.W.mg_of X G a18)
  have G_law_climbs := fun base : Heap => f_law_climbs (P := l.prog) (w := w) (base := base) B (fun_mk (st := s_law_climbs) l16 c16 k16) (PySem.W.mg_of X G a16)
  have G_law_due := fun base : Heap => f_law_due (P := l.prog) (w := w) (base := base) B (G_law_climbs base) (fun_mk (st := s_law_due) l19 c19 k19) (PySem.W.mg_of X G a19)
  have H_law_right := fun base : Heap => f_law_right (P := l.prog) (w := w) (base := base) B (G_law_scene base) (G_law_same base) (G_law_spoilt base) (G_table_line base) (G_table_from base) (G_law_told base) (G_law_due base) (G_law_take base) (fun_mk (st := s_law_right) l21 c21 k21) (PySem.W.mg_of X G a21)
  have G_law_right := fun base : Heap => (H_law_right base).imp (cR_of right_ok)
  exact ⟨_, fun s v => .of_eq rfl, fun base _ _ => f_law B (G_law_cells base) (G_law_box base) (G_law_right base) (fun_mk (st := s_law) l22 c22 k22)⟩
end Nx
open PySem PySem.W PyProof.Rows
set_option maxHeartbeats 0 in
theorem PySem.Challenge.cw_nextstands_k58_tables_as_lines_holds : PySem.Challenge.rw_nextstands_k58_tables_as_lines.Holds := by
  w_on; o_law; k_head; (case hw => w_witness2)
  k_fill
  refine Nx.walk_G (l := PySem.Challenge.rw_nextstands_k58_tables_as_lines) (n := 63) (k := 9) (x := "_law_script") (sp := fun K => Nx.spOf (Nx.c_law K)) rfl (by decide) rfl ⟨⟨rfl, by decide, by decide⟩, rfl⟩ (fun w h Y => PySem.W.kIn_of Y) ?F (fun K H a ns hl _ hS => Nx.law_sp K H a ns hl hS)
  case F =>
    intro w mg fa h KX G hmg
    refine' Nx.all_mk KX G hmg ?a0 ?l0 ?c0 ?k0 ?a1 ?l1 ?c1 ?k1 ?a2 ?l2 ?c2 ?k2 ?a3 ?l3 ?c3 ?k3 ?a4 ?l4 ?c4 ?k4 ?a5 ?l5 ?c5 ?k5 ?a6 ?l6 ?c6 ?k6 ?a7 ?l7 ?c7 ?k7 ?a8 ?l8 ?c8 ?k8 ?a9 ?l9 ?c9 ?k9 ?a10 ?l10 ?c10 ?k10 ?a11 ?l11 ?c11 ?k11 ?a12 ?l12 ?c12 ?k12 ?a13 ?l13 ?c13 ?k13 ?a14 ?l14 ?c14 ?k14 ?a15 ?l15 ?c15 ?k15 ?a16 ?l16 ?c16 ?k16 ?a17 ?l17 ?c17 ?k17 ?a18 ?l18 ?c18 ?k18 ?a19 ?l19 ?c19 ?k19 ?a20 ?l20 ?c20 ?k20 ?a21 ?l21 ?c21 ?k21 ?a22 ?l22 ?c22 ?k22 ?aC_NotWay ?xL_NotWay ?eC_NotWay ?tC_NotWay ?aC_BadLine ?xL_BadLine ?eC_BadLine ?tC_BadLine ?sa_BadLine ?ga_BadLine ?gg_BadLine ?no_BadLine ?cc_BadLine ?iC_BadLine ?tI_BadLine ?lI_BadLine ?cI_BadLine ?kI_BadLine ?kC_BadLine ?hC_BadLine ?oC_BadLine ?aC_BadScript ?xL_BadScript ?eC_BadScript ?tC_BadScript ?s_BadLine_NotWay ?s_BadLine_BadLine ?s_BadLine_BadScript ?gsO ?tkO ?sVE ?vV_ValueError ?zB_ValueError ?z_len ?z_range ?z_list ?z_tuple ?z_sorted ?z_abs ?z_int ?z_str ?z_repr ?z_all ?z_any ?z_max ?z_min ?z_sum ?z_enumerate ?z_zip ?z_isinstance ?z_bool ?z_set ?z_dict ?gc_LEAST_SIZE ?gc_MOST_SIZE
    (case a0 => k_is); (case l0 => k_is); (case c0 => k_is); (case k0 => k_is); (case a1 => k_is); (case l1 => k_is); (case c1 => k_is); (case k1 => k_is); (case a2 => k_is); (case l2 => k_is); (case c2 => k_is); (case k2 => k_is); (case a3 => k_is); (case l3 => k_is); (case c3 => k_is); (case k3 => k_is); (case a4 => k_is); (case l4 => k_is); (case c4 => k_is); (case k4 => k_is); (case a5 => k_is); (case l5 => k_is); (case c5 => k_is); (case k5 => k_is); (case a6 => k_is); (case l6 => k_is); (case c6 => k_is); (case k6 => k_is); (case a7 => k_is); (case l7 => k_is); (case c7 => k_is); (case k7 => k_is); (case a8 => k_is); (case l8 => k_is); (case c8 => k_is); (case k8 => k_is); (case a9 => k_is); (case l9 => k_is); (case c9 => k_is); (case k9 => k_is); (case a10 => k_is); (case l10 => k_is); (case c10 => k_is); (case k10 => k_is); (case a11 => k_is); (case l11 => k_is); (case c11 => k_is); (case k11 => k_is); (case a12 => k_is); (case l12 => k_is); (case c12 => k_is); (case k12 => k_is); (case a13 => k_is); (case l13 => k_is); (case c13 => k_is); (case k13 => k_is); (case a14 => k_is); (case l14 => k_is); (case c14 => k_is); (case k14 => k_is); (case a15 => k_is); (case l15 => k_is); (case c15 => k_is); (case k15 => k_is); (case a16 => k_is); (case l16 => k_is); (case c16 => k_is); (case k16 => k_is); (case a17 => k_is); (case l17 => k_is); (case c17 => k_is); (case k17 => k_is); (case a18 => k_is); (case l18 => k_is); (case c18 => k_is); (case k18 => k_is); (case a19 => k_is); (case l19 => k_is); (case c19 => k_is); (case k19 => k_is); (case a20 => k_is); (case l20 => k_is); (case c20 => k_is); (case k20 => k_is); (case a21 => k_is); (case l21 => k_is); (case c21 => k_is); (case k21 => k_is); (case a22 => k_is); (case l22 => k_is); (case c22 => k_is); (case k22 => k_is); (case aC_NotWay => k_is); (case xL_NotWay => k_is); (case eC_NotWay => k_is); (case tC_NotWay => k_is); (case aC_BadLine => k_is); (case xL_BadLine => k_is); (case eC_BadLine => k_is); (case tC_BadLine => k_is); (case sa_BadLine => k_is); (case ga_BadLine => k_is); (case gg_BadLine => k_is); (case no_BadLine => k_is); (case cc_BadLine => k_is); (case iC_BadLine => k_is); (case tI_BadLine => k_is); (case lI_BadLine => k_is); (case cI_BadLine => k_is); (case kI_BadLine => k_is); (case kC_BadLine => k_is); (case hC_BadLine => k_is); (case oC_BadLine => k_is); (case aC_BadScript => k_is); (case xL_BadScript => k_is); (case eC_BadScript => k_is); (case tC_BadScript => k_is); (case s_BadLine_NotWay => k_is); (case s_BadLine_BadLine => k_is); (case s_BadLine_BadScript => k_is); (case gsO => k_is); (case tkO => k_is); (case sVE => k_is); (case vV_ValueError => k_is); (case zB_ValueError => k_is); (case z_len => k_is); (case z_range => k_is); (case z_list => k_is); (case z_tuple => k_is); (case z_sorted => k_is); (case z_abs => k_is); (case z_int => k_is); (case z_str => k_is); (case z_repr => k_is); (case z_all => k_is); (case z_any => k_is); (case z_max => k_is); (case z_min => k_is); (case z_sum => k_is); (case z_enumerate => k_is); (case z_zip => k_is); (case z_isinstance => k_is); (case z_bool => k_is); (case z_set => k_is); (case z_dict => k_is); (case gc_LEAST_SIZE => k_is); (case gc_MOST_SIZE => k_is)
