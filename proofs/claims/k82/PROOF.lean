import PyProof.Rows.All
import Wide.All
import OpenK.AllK
import Wide.FinOn
import HandS.ForMost
import HandS.Walk
import HandS.Deep
import HandS.Flow
import HandS.SortInts
import HandS.Zip
import HandS.Conv
import HandS.Wide
import HandS.RaiseMore
import HandS.TupAny
import HandS.Style
import KE.GoesNew
import HandS.IsInst
import HandS.TupMul
import HandS.Dict
import HandS.TupLen
import HandS.Iter
import HandS.NoneIn
import HandS.SetFor
import HandS.TupSets
import HandS.Strs
import KE.KDictZip
import KE.GoesMore
import HandS.DictComp
import HandS.SetBool
import KE.SortData
import KE.KDictSum
import KE.KDictDisplayH
import KE.KEqDict
import KE.KDictPairs
import HandS.ExcInit
import KE.KExcInit
import KE.KExcIs
import HandS.ExcOwn
import KE.KTryMore
import PySem.Challenge.RW_nextstands_k82_whole_a_circle_and_the_fu
set_option Elab.async false
set_option linter.all false
set_option maxRecDepth 100000
set_option maxHeartbeats 4000000
namespace Nx
open PySem PySem.Spec PyProof.Rows L2
def WE (X : Cx) (e : Expr) : TE := fun σ H Q => ∀ pins s, Inv X pins σ H s → wpAny (model X.prog X.w) X.A (eval e X.env) (EP X pins σ Q) X.xe s
def WT (X : Cx) (e : Expr) : TT := fun σ H Q => ∀ pins s, Inv X pins σ H s → wpAny (model X.prog X.w) X.A (isTrue e X.env (eval e X.env)) (TP X pins σ Q) X.xe s
def WA (X : Cx) (es : List Expr) : TA := fun σ H Q => ∀ pos pins s, Inv X pins σ H s → wpAny (model X.prog X.w) X.A (spliced (backTo pos (starEach es X.env))) (AP X pins σ Q) X.xe s
def WK (X : Cx) (ks : List Keyword) : TA := fun σ H Q => ∀ pos pins s, Inv X pins σ H s → wpAny (model X.prog X.w) X.A (evalAll ((backToKw pos (keywordEach ks X.env)).map (·.2))) (AP X pins σ Q) X.xe s
def WS (X : Cx) (st : Stmt) : TS := fun D σ H => ∀ pins s, Inv X pins σ H s → wpAny (model X.prog X.w) X.A (exec st X.env) (SP X pins D) X.xe s
def WSs (X : Cx) (st : List Stmt) : TS := fun D σ H => ∀ pins s, Inv X pins σ H s → wpAny (model X.prog X.w) X.A (execs st X.env) (SP X pins D) X.xe s
section
variable {X : Cx} {e : Expr} {es : List Expr} {ks : List Keyword} {st : Stmt} {ss : List Stmt}
theorem pwe : PE X e (WE X e) := ⟨fun pins s _ _ _ I h => h pins s I⟩
theorem pwt : PT X e (WT X e) := ⟨fun pins s _ _ _ I h => h pins s I⟩
theorem pwa : PA X es (WA X es) := ⟨fun pos pins s _ _ _ I h => h pos pins s I⟩
theorem pws : PS X st (WS X st) := ⟨fun pins s _ _ _ I h => h pins s I⟩
theorem pwss : PSs X ss (WSs X ss) := ⟨fun pins s _ _ _ I h => h pins s I⟩
variable {σ : L2.St} {H : Hp}
theorem WE.of {t : TE} {Q : VK} (h : PE X e t) (q : t σ H Q) : WE X e σ H Q := fun pins s I => h.run pins s σ H Q I q
theorem WT.of {t : TT} {Q : Bool → Hp → Prop} (h : PT X e t) (q : t σ H Q) : WT X e σ H Q := fun pins s I => h.run pins s σ H Q I q
theorem WA.of {t : TA} {Q : List V → Hp → Prop} (h : PA X es t) (q : t σ H Q) : WA X es σ H Q := fun pos pins s I => h.run pos pins s σ H Q I q
theorem WK.of {t : TA} {Q : List V → Hp → Prop} (h : PK X ks t) (q : t σ H Q) : WK X ks σ H Q := fun pos pins s I => h.run pos pins s σ H Q I q
theorem WS.of {t : TS} {D : Ends} (h : PS X st t) (q : t D σ H) : WS X st D σ H := fun pins s I => h.run pins s σ H D I q
theorem WSs.of {t : TS} {D : Ends} (h : PSs X ss t) (q : t D σ H) : WSs X ss D σ H := fun pins s I => h.run pins s σ H D I q
end
def Ex (H H' : Hp) : Prop := ∀ a o, H a = some o → H' a = some o
theorem Ex.refl (H : Hp) : Ex H H := fun _ _ h => h
theorem Ex.trans {H H1 H2 : Hp} (a : Ex H H1) (b : Ex H1 H2) : Ex H H2 := fun x o h => b x o (a x o h)
theorem Ex.new {H : Hp} {p : Addr} {o : HO} (h : H p = none) : Ex H (upd H p o) := fun a u e => by
  rw [upd_ne (ne_of_none e h)]
  exact e
theorem Ex.free {H H' : Hp} {p : Addr} (e : Ex H H') (h : H' p = none) : H p = none := by
  cases h1 : H p with
  | none => rfl
  | some o =>
    rw [e p o h1] at h
    cases h
mutual
inductive Dv (H : Hp) : V → PyData → Prop
  | non : Dv H .non .none
  | bl (b : Bool) : Dv H (.bl b) (.bool b)
  | int (i : Int) : Dv H (.int i) (.int i)
  | str (x : Str) : Dv H (.str x) (.str x)
  | lst {a : Addr} {xs : List V} {ds : List PyData} : H a = some (.lst xs) → DvA H xs ds → Dv H (.ref a) (.list ds)
  | tup {a : Addr} {xs : List V} {ds : List PyData} : H a = some (.tup xs) → DvA H xs ds → Dv H (.ref a) (.tuple ds)
inductive DvA (H : Hp) : List V → List PyData → Prop
  | nil : DvA H [] []
  | cons {v : V} {vs : List V} {d : PyData} {ds : List PyData} : Dv H v d → DvA H vs ds → DvA H (v :: vs) (d :: ds)
end
section
variable {H H' : Hp}
mutual
theorem Dv.mono (e : Ex H H') : ∀ {v : V} {d : PyData}, Dv H v d → Dv H' v d
  | _, _, .non => .non
  | _, _, .bl b => .bl b
  | _, _, .int i => .int i
  | _, _, .str x => .str x
  | _, _, .lst h hs => .lst (e _ _ h) (DvA.mono e hs)
  | _, _, .tup h hs => .tup (e _ _ h) (DvA.mono e hs)
theorem DvA.mono (e : Ex H H') : ∀ {vs : List V} {ds : List PyData}, DvA H vs ds → DvA H' vs ds
  | _, _, .nil => .nil
  | _, _, .cons h hs => .cons (Dv.mono e h) (DvA.mono e hs)
end
mutual
theorem Dv.dp {K : PySem.W.Frag} : ∀ {v : V} {d : PyData}, Dv H v d → Dp K H v d
  | _, _, .non => .non
  | _, _, .bl b => .bl b
  | _, _, .int i => .int i
  | _, _, .str x => .str x
  | _, _, .lst h hs => .lst (.inl (.inl h)) (DvA.dp hs)
  | _, _, .tup h hs => .tup (.inl (.inl h)) (DvA.dp hs)
theorem DvA.dp {K : PySem.W.Frag} : ∀ {vs : List V} {ds : List PyData}, DvA H vs ds → DpAll K H vs ds
  | _, _, .nil => .nil
  | _, _, .cons h hs => .cons (Dv.dp h) (DvA.dp hs)
end
theorem DvA.length : ∀ {vs : List V} {ds : List PyData}, DvA H vs ds → vs.length = ds.length
  | _, _, .nil => rfl
  | _, _, .cons _ hs => by rw [List.length_cons, List.length_cons, DvA.length hs]
theorem DvA.get : ∀ {vs : List V} {ds : List PyData} {i : Nat} {d : PyData}, DvA H vs ds → ds[i]? = some d → ∃ v, vs[i]? = some v ∧ Dv H v d
  | _, _, _, _, .nil, e => by simp at e
  | _, _, 0, _, .cons h _, e => by
    simp at e
    subst e
    exact ⟨_, rfl, h⟩
  | _, _, i + 1, d, .cons _ hs, e => by
    obtain ⟨v, h1, h2⟩ := DvA.get (i := i) hs (by simpa using e)
    exact ⟨v, by simpa using h1, h2⟩
theorem DvA.getV : ∀ {vs : List V} {ds : List PyData} {i : Nat} {v : V}, DvA H vs ds → vs[i]? = some v → ∃ d, ds[i]? = some d ∧ Dv H v d
  | _, _, _, _, .nil, e => by simp at e
  | _, _, 0, _, .cons h _, e => by
    simp at e
    subst e
    exact ⟨_, rfl, h⟩
  | _, _, i + 1, d, .cons _ hs, e => by
    obtain ⟨v, h1, h2⟩ := DvA.getV (i := i) hs (by simpa using e)
    exact ⟨v, by simpa using h1, h2⟩
theorem DvA.append : ∀ {vs ws : List V} {ds es : List PyData}, DvA H vs ds → DvA H ws es → DvA H (vs ++ ws) (ds ++ es)
  | _, _, _, _, .nil, s => s
  | _, _, _, _, .cons h t, s => .cons h (DvA.append t s)
theorem DvA.take : ∀ {vs : List V} {ds : List PyData} (n : Nat), DvA H vs ds → DvA H (vs.take n) (ds.take n)
  | _, _, 0, _ => .nil
  | _, _, _ + 1, .nil => .nil
  | _, _, n + 1, .cons r t => .cons r (DvA.take n t)
theorem DvA.drop : ∀ {vs : List V} {ds : List PyData} (n : Nat), DvA H vs ds → DvA H (vs.drop n) (ds.drop n)
  | _, _, 0, r => r
  | _, _, _ + 1, .nil => .nil
  | _, _, n + 1, .cons _ t => DvA.drop n t
theorem DvA.ints : ∀ (ns : List Int) {vs : List V}, DvA H vs (ns.map PyData.int) → vs = ns.map V.int
  | [], _, .nil => rfl
  | n :: ns, _, .cons (.int _) t => by rw [DvA.ints ns t]; rfl
theorem DvA.of_ints : ∀ (ns : List Int), DvA H (ns.map V.int) (ns.map PyData.int)
  | [] => .nil
  | n :: ns => .cons (.int n) (DvA.of_ints ns)
end
def Ez (G G' : Hp) : Prop := ∀ a o, G a = some o → (∀ φ, o ≠ .ext φ) → G' a = some o
theorem Ex.ez {G G' : Hp} (e : Ex G G') : Ez G G' := fun a o h _ => e a o h
section
variable {G G' : Hp}
mutual
theorem Dv.ez (e : Ez G G') : ∀ {v : V} {d : PyData}, Dv G v d → Dv G' v d
  | _, _, .non => .non
  | _, _, .bl b => .bl b
  | _, _, .int i => .int i
  | _, _, .str x => .str x
  | _, _, .lst h hs => .lst (e _ _ h fun _ z => nomatch z) (DvA.ez e hs)
  | _, _, .tup h hs => .tup (e _ _ h fun _ z => nomatch z) (DvA.ez e hs)
theorem DvA.ez (e : Ez G G') : ∀ {vs : List V} {ds : List PyData}, DvA G vs ds → DvA G' vs ds
  | _, _, .nil => .nil
  | _, _, .cons h hs => .cons (Dv.ez e h) (DvA.ez e hs)
end
end
structure ObP where
  p : Hp → V → Prop
  mono : ∀ {G G' : Hp} {v : V}, Ez G G' → p G v → p G' v
  ref : ∀ {G : Hp} {v : V}, p G v → ∃ a, v = .ref a
inductive OV where
  | im (d : PyData) | own (a : Addr) | scr (K : PySem.W.Frag) (ns : List Int) | pr (a : Addr) (d : PyData) | dic (kvs : List (PyData × PyData)) | ob (P : ObP)
def DicAt (G : Hp) (a : Addr) (ks : List PyData) (xs : List V) : Prop :=
  (∃ is : List Int, ks = is.map .int ∧ G a = some (.dK ((is.map fun i => (Sum.inl i : Key)).zip xs))) ∨
  ∃ (iss : List (List Int)) (o : Obj), ks = iss.map (fun is => .tuple (is.map .int)) ∧ G a = some (.frz o (.dT ((iss.map fun is => is.map fun i => (Sum.inl i : Key)).zip xs)))
theorem DicAt.mono {G G' : Hp} (e : Ex G G') {a : Addr} {ks : List PyData} {xs : List V} (h : DicAt G a ks xs) : DicAt G' a ks xs := by
  rcases h with ⟨is, h1, h2⟩ | ⟨iss, o, h1, h2⟩
  · exact .inl ⟨is, h1, e _ _ h2⟩
  · exact .inr ⟨iss, o, h1, e _ _ h2⟩
def RO (G : Hp) (v : V) : OV → Prop
  | .im d => Dv G v d
  | .own a => v = .ref a
  | .scr K ns => ∃ a, v = .ref a ∧ SqL K G a (ns.map V.int)
  | .pr a d => ∃ t v2, v = .ref t ∧ G t = some (.tup [.ref a, v2]) ∧ Dv G v2 d
  | .dic kvs => ∃ a xs, v = .ref a ∧ DicAt G a (kvs.map (·.1)) xs ∧ DvA G xs (kvs.map (·.2))
  | .ob P => P.p G v
abbrev ROs (G : Hp) : List V → List OV → Prop := Paired (RO G)
theorem sql_mono {K : PySem.W.Frag} {G G' : Hp} (e : Ex G G') {a : Addr} {xs : List V} (h : SqL K G a xs) : SqL K G' a xs := by
  rcases h with (h | ⟨o, h⟩) | h
  · exact .inl (.inl (e _ _ h))
  · exact .inl (.inr ⟨o, e _ _ h⟩)
  · exact .inr h
theorem RO.mono {G G' : Hp} (e : Ex G G') {v : V} : ∀ {o : OV}, RO G v o → RO G' v o
  | .im _, h => Dv.mono e h
  | .own _, h => h
  | .scr _ _, ⟨a, h1, h2⟩ => ⟨a, h1, sql_mono e h2⟩
  | .pr _ _, ⟨t, v2, h1, h2, h3⟩ => ⟨t, v2, h1, e _ _ h2, h3.mono e⟩
  | .dic _, ⟨a, xs, h1, h2, h3⟩ => ⟨a, xs, h1, h2.mono e, h3.mono e⟩
  | .ob P, h => P.mono e.ez h
theorem ROs.mono {G G' : Hp} (e : Ex G G') : ∀ {vs : List V} {os : List OV}, ROs G vs os → ROs G' vs os
  | _, _, .nil => .nil
  | _, _, .cons h t => .cons (h.mono e) (ROs.mono e t)
theorem ROs.length {G : Hp} {vs : List V} {os : List OV} (h : ROs G vs os) : vs.length = os.length := Paired.length h
theorem ROs.ims {G : Hp} : ∀ {vs : List V} {ds : List PyData}, ROs G vs (ds.map .im) → DvA G vs ds
  | _, [], .nil => .nil
  | _, _ :: _, .cons h t => .cons h (ROs.ims t)
theorem ROs.of_ims {G : Hp} : ∀ {vs : List V} {ds : List PyData}, DvA G vs ds → ROs G vs (ds.map .im)
  | _, _, .nil => .nil
  | _, _, .cons h t => .cons h (ROs.of_ims t)
theorem ROs.append {G : Hp} : ∀ {vs ws : List V} {os ps : List OV}, ROs G vs os → ROs G ws ps → ROs G (vs ++ ws) (os ++ ps)
  | _, _, _, _, .nil, s => s
  | _, _, _, _, .cons h t, s => .cons h (ROs.append t s)
theorem ROs.get {G : Hp} : ∀ {vs : List V} {os : List OV} {i : Nat} {o : OV}, ROs G vs os → os[i]? = some o → ∃ v, vs[i]? = some v ∧ RO G v o
  | _, _, _, _, .nil, e => by simp at e
  | _, _, 0, _, .cons h _, e => by
    simp at e
    subst e
    exact ⟨_, rfl, h⟩
  | _, _, i + 1, d, .cons _ hs, e => by
    obtain ⟨v, h1, h2⟩ := ROs.get (i := i) hs (by simpa using e)
    exact ⟨v, by simpa using h1, h2⟩
theorem ROs.getV {G : Hp} : ∀ {vs : List V} {os : List OV} {i : Nat} {v : V}, ROs G vs os → vs[i]? = some v → ∃ o, os[i]? = some o ∧ RO G v o
  | _, _, _, _, .nil, e => by simp at e
  | _, _, 0, _, .cons h _, e => by
    simp at e
    subst e
    exact ⟨_, rfl, h⟩
  | _, _, i + 1, d, .cons _ hs, e => by
    obtain ⟨v, h1, h2⟩ := ROs.getV (i := i) hs (by simpa using e)
    exact ⟨v, by simpa using h1, h2⟩
theorem ROs.set {G : Hp} {v : V} {o : OV} (r : RO G v o) : ∀ {vs : List V} {os : List OV} (i : Nat), ROs G vs os → ROs G (vs.set i v) (os.set i o)
  | _, _, _, .nil => .nil
  | _, _, 0, .cons _ t => .cons r t
  | _, _, i + 1, .cons q t => .cons q (ROs.set r i t)
theorem ROs.erase {G : Hp} : ∀ {vs : List V} {os : List OV} (i : Nat), ROs G vs os → ROs G (vs.eraseIdx i) (os.eraseIdx i)
  | _, _, _, .nil => .nil
  | _, _, 0, .cons _ t => t
  | _, _, i + 1, .cons q t => .cons q (ROs.erase i t)
theorem ROs.take {G : Hp} : ∀ {vs : List V} {ds : List OV} (n : Nat), ROs G vs ds → ROs G (vs.take n) (ds.take n)
  | _, _, 0, _ => .nil
  | _, _, _ + 1, .nil => .nil
  | _, _, n + 1, .cons r t => .cons r (ROs.take n t)
theorem ROs.drop {G : Hp} : ∀ {vs : List V} {ds : List OV} (n : Nat), ROs G vs ds → ROs G (vs.drop n) (ds.drop n)
  | _, _, 0, r => r
  | _, _, _ + 1, .nil => .nil
  | _, _, n + 1, .cons _ t => ROs.drop n t
theorem ROs.snoc {G : Hp} {vs : List V} {os : List OV} {v : V} {o : OV} (h : ROs G vs os) (r : RO G v o) : ROs G (vs ++ [v]) (os ++ [o]) := h.append (.cons r .nil)
theorem ROs.reverse {G : Hp} : ∀ {vs : List V} {os : List OV}, ROs G vs os → ROs G vs.reverse os.reverse
  | _, _, .nil => .nil
  | _, _, .cons h t => by
    rw [List.reverse_cons, List.reverse_cons]
    exact (ROs.reverse t).snoc h
structure Cir where
  C : Addr
  sz : Int
  bg : List Int
  ops : List (List Int)
  ent : List Str
inductive Th where
  | dT (kvs : List (List Int × OV))
  | cir (c : Cir)
structure Mu where
  l : Addr → Option (List OV)
  d : Addr → Option Th
  C : Addr
instance : CoeFun Mu (fun _ => Addr → Option (List OV)) := ⟨Mu.l⟩
theorem mu_ext {μ ν : Mu} (h : ∀ b : Addr, μ b = ν b) (hd : μ.d = ν.d) (hC : μ.C = ν.C) : μ = ν := by
  obtain ⟨l, d, C⟩ := μ
  obtain ⟨l', d', C'⟩ := ν
  have h : l = l' := funext h
  cases h
  cases hd
  cases hC
  rfl
def Mu.put (μ : Mu) (a : Addr) (l : List OV) : Mu := { μ with l := fun b => if b = a then some l else μ b }
def Mu.del (μ : Mu) (a : Addr) : Mu := { μ with l := fun b => if b = a then none else μ b }
theorem put_same {μ : Mu} {a : Addr} {l : List OV} : μ.put a l a = some l := if_pos rfl
theorem put_ne {μ : Mu} {a b : Addr} {l : List OV} (h : b ≠ a) : μ.put a l b = μ b := if_neg h
theorem put_put {μ : Mu} {a : Addr} {l m : List OV} : (μ.put a l).put a m = μ.put a m := by
  unfold Mu.put
  congr 1
  funext b
  dsimp only
  split <;> rfl
def Mu.putD (μ : Mu) (a : Addr) (t : Th) : Mu := { μ with d := fun b => if b = a then some t else μ.d b }
def Mu.delD (μ : Mu) (a : Addr) : Mu := { μ with d := fun b => if b = a then none else μ.d b }
theorem putD_same {μ : Mu} {a : Addr} {t : Th} : (μ.putD a t).d a = some t := if_pos rfl
theorem putD_ne {μ : Mu} {a b : Addr} {t : Th} (h : b ≠ a) : (μ.putD a t).d b = μ.d b := if_neg h
def keyT (is : List Int) : List Key := is.map fun i => Sum.inl i
def ThOk (C : Addr) (who : Addr → Option Addr) (G H : Hp) (a : Addr) : Th → Prop
  | .dT kvs => ∃ xs : List V, H a = some (.dT ((kvs.map fun p => keyT p.1).zip xs)) ∧ ROs G xs (kvs.map (·.2))
  | .cir c => ∃ dx q r vb xs ys, H a = some (.ins c.C dx [("size", .int c.sz), ("beginning", vb), ("operations", .ref q), ("entries", .ref r)]) ∧ H dx = some (.own a) ∧ H q = some (.lst xs) ∧ H r = some (.lst ys) ∧
      who dx = some a ∧ who q = some a ∧ who r = some a ∧ q ≠ r ∧ Dv G vb (.tuple (c.bg.map .int)) ∧ DvA G xs (c.ops.map fun is => .tuple (is.map .int)) ∧ DvA G ys (c.ent.map .str)
theorem ThOk.mono {C : Addr} {who : Addr → Option Addr} {G G' H : Hp} {a : Addr} (e : Ex G G') : ∀ {t : Th}, ThOk C who G H a t → ThOk C who G' H a t
  | .dT kvs, ⟨xs, h1, h2⟩ => ⟨xs, h1, h2.mono e⟩
  | .cir c, ⟨dx, q, r, vb, xs, ys, h1, h2, h3, h4, h5, h6, h7, h8, h9, h10, h11⟩ => ⟨dx, q, r, vb, xs, ys, h1, h2, h3, h4, h5, h6, h7, h8, h9.mono e, h10.mono e, h11.mono e⟩
theorem ThOk.keep {C : Addr} {who : Addr → Option Addr} {G H H' : Hp} {a : Addr} (hw : who a = some a) (k : ∀ x, who x = some a → H' x = H x) : ∀ {t : Th}, ThOk C who G H a t → ThOk C who G H' a t
  | .dT kvs, ⟨xs, h1, h2⟩ => ⟨xs, (k _ hw).trans h1, h2⟩
  | .cir c, ⟨dx, q, r, vb, xs, ys, h1, h2, h3, h4, h5, h6, h7, h8, h9, h10, h11⟩ => ⟨dx, q, r, vb, xs, ys, (k _ hw).trans h1, (k _ h5).trans h2, (k _ h6).trans h3, (k _ h7).trans h4, h5, h6, h7, h8, h9, h10, h11⟩
def Mutb : HO → Prop
  | .lst _ => True
  | .dT _ => True
  | .ins _ _ _ => True
  | .own _ => True
  | _ => False
structure Thg (who : Addr → Option Addr) (G H : Hp) (μ : Mu) : Prop where
  ok : ∀ a t, μ.d a = some t → who a = some a ∧ ThOk μ.C who G H a t
  of : ∀ x a, who x = some a → G x = none ∧ μ x = none ∧ (∃ o, H x = some o ∧ Mutb o) ∧ (μ.d a).isSome = true
theorem Thg.keep {who : Addr → Option Addr} {G G' H H' : Hp} {μ μ' : Mu} (h : Thg who G H μ) (e : Ex G G') (hd : μ'.d = μ.d) (hC : μ'.C = μ.C) (k : ∀ x a, who x = some a → H' x = H x ∧ G' x = none ∧ μ' x = none) : Thg who G' H' μ' :=
  ⟨fun a t q => by
    rw [hd] at q
    obtain ⟨h1, h2⟩ := h.ok a t q
    rw [hC]
    exact ⟨h1, (h2.mono e).keep h1 fun x hx => (k x a hx).1⟩, fun x a hx => by
    obtain ⟨h1, h2, h3, h4⟩ := h.of x a hx
    obtain ⟨k1, k2, k3⟩ := k x a hx
    exact ⟨k2, k3, by rw [k1]; exact h3, by rw [hd]; exact h4⟩⟩
structure RM (G H : Hp) (μ : Mu) : Prop where
  ex : Ex G H
  own : ∀ a l, μ a = some l → G a = none ∧ ∃ vs, H a = some (.lst vs) ∧ ROs G vs l
  thg : ∃ who, Thg who G H μ
abbrev Rho := List (Option OV)
structure RV (G : Hp) (ρ : Rho) (σ : L2.St) : Prop where
  len : σ.length = ρ.length
  get : ∀ (i : Nat) o, ρ[i]? = some (some o) → ∃ v, σ[i]? = some (some v) ∧ RO G v o
section
variable {G G' H H' : Hp} {μ : Mu} {ρ : Rho} {σ : L2.St}
theorem RV.mono (h : RV G ρ σ) (e : Ex G G') : RV G' ρ σ := ⟨h.len, fun i o q => let ⟨v, a, b⟩ := h.get i o q; ⟨v, a, b.mono e⟩⟩
theorem RV.set (h : RV G ρ σ) {i : Nat} {v : V} {o : OV} (r : RO G v o) : RV G (ρ.set i (some o)) (σ.set i (some v)) := by
  refine ⟨by rw [List.length_set, List.length_set, h.len], fun j p q => ?_⟩
  by_cases e : i = j
  · subst e
    by_cases hl : i < ρ.length
    · rw [List.getElem?_set_self hl] at q
      cases q
      exact ⟨v, List.getElem?_set_self (by rw [h.len]; exact hl), r⟩
    · rw [List.getElem?_eq_none (by rw [List.length_set]; omega)] at q
      cases q
  · rw [List.getElem?_set_ne e] at q ⊢
    exact h.get j p q
theorem RV.wipe (h : RV G ρ σ) : ∀ (vs : List Nat), RV G (vs.foldr (fun v r => r.set v none) ρ) (L2.wipe σ vs)
  | [] => h
  | v :: vs => by
    have ih := RV.wipe h vs
    refine ⟨by show ((L2.wipe σ vs).set v none).length = _; rw [List.length_set, ih.len, List.foldr_cons, List.length_set], fun j p q => ?_⟩
    rw [List.foldr_cons] at q
    by_cases e : v = j
    · subst e
      by_cases hl : v < (vs.foldr (fun v r => r.set v none) ρ).length
      · rw [List.getElem?_set_self hl] at q
        cases q
      · rw [List.getElem?_eq_none (by rw [List.length_set]; omega)] at q
        cases q
    · rw [List.getElem?_set_ne e] at q
      obtain ⟨v', a, b⟩ := ih.get j p q
      refine ⟨v', ?_, b⟩
      show ((L2.wipe σ vs).set v none)[j]? = _
      rw [List.getElem?_set_ne e]
      exact a
theorem RM.fresh (r : RM G H μ) {p : Addr} (h : H p = none) : μ p = none := by
  cases q : μ p with
  | none => rfl
  | some l =>
    obtain ⟨_, vs, e, _⟩ := r.own p l q
    rw [h] at e
    cases e
theorem Thg.ne {who : Addr → Option Addr} (t : Thg who G H μ) {p x a : Addr} (h : H p = none) (hx : who x = some a) : x ≠ p := fun e => by
  obtain ⟨o, ho, _⟩ := (t.of x a hx).2.2.1
  rw [e, h] at ho
  cases ho
theorem Thg.neL {who : Addr → Option Addr} (t : Thg who G H μ) {p x a : Addr} {l : List OV} (h : μ p = some l) (hx : who x = some a) : x ≠ p := fun e => by
  have := (t.of x a hx).2.1
  rw [e, h] at this
  cases this
theorem RM.lay (r : RM G H μ) {p : Addr} {o : HO} (h : H p = none) : RM (upd G p o) (upd H p o) μ := by
  refine ⟨fun a u e => ?_, fun a l q => ?_, ?_⟩
  · by_cases ha : a = p
    · subst ha
      rw [upd_same] at e ⊢
      exact e
    · rw [upd_ne ha] at e ⊢
      exact r.ex a u e
  · obtain ⟨g, vs, e, w⟩ := r.own a l q
    have ha : a ≠ p := ne_of_none e h
    refine ⟨by rw [upd_ne ha]; exact g, vs, by rw [upd_ne ha]; exact e, w.mono (Ex.new (r.ex.free h))⟩
  · obtain ⟨who, t⟩ := r.thg
    refine ⟨who, t.keep (Ex.new (r.ex.free h)) rfl rfl fun x a hx => ?_⟩
    have n := t.ne h hx
    exact ⟨upd_ne n, by rw [upd_ne n]; exact (t.of x a hx).1, (t.of x a hx).2.1⟩
theorem RM.new (r : RM G H μ) {p : Addr} {vs : List V} {l : List OV} (h : H p = none) (w : ROs G vs l) : RM G (upd H p (.lst vs)) (μ.put p l) := by
  refine ⟨r.ex.trans (Ex.new h), fun a m q => ?_, ?_⟩
  · by_cases ha : a = p
    · subst ha
      rw [put_same] at q
      cases q
      exact ⟨r.ex.free h, vs, upd_same, w⟩
    · rw [put_ne ha] at q
      obtain ⟨g, us, e, w⟩ := r.own a m q
      exact ⟨g, us, by rw [upd_ne ha]; exact e, w⟩
  · obtain ⟨who, t⟩ := r.thg
    refine ⟨who, t.keep (Ex.refl G) rfl rfl fun x a hx => ?_⟩
    have n := t.ne h hx
    exact ⟨upd_ne n, (t.of x a hx).1, by rw [put_ne n]; exact (t.of x a hx).2.1⟩
theorem RM.chg (r : RM G H μ) {p : Addr} {vs : List V} {l m : List OV} (h : μ p = some m) (w : ROs G vs l) : RM G (upd H p (.lst vs)) (μ.put p l) := by
  obtain ⟨g0, us0, e0, _⟩ := r.own p m h
  refine ⟨fun a u e => ?_, fun a m q => ?_, ?_⟩
  · rw [upd_ne (ne_of_none e g0)]
    exact r.ex a u e
  · by_cases ha : a = p
    · subst ha
      rw [put_same] at q
      cases q
      exact ⟨g0, vs, upd_same, w⟩
    · rw [put_ne ha] at q
      obtain ⟨g, us, e, w⟩ := r.own a m q
      exact ⟨g, us, by rw [upd_ne ha]; exact e, w⟩
  · obtain ⟨who, t⟩ := r.thg
    refine ⟨who, t.keep (Ex.refl G) rfl rfl fun x a hx => ?_⟩
    have n := t.neL h hx
    exact ⟨upd_ne n, (t.of x a hx).1, by rw [put_ne n]; exact (t.of x a hx).2.1⟩
theorem RM.frz (r : RM G H μ) {p : Addr} {ds : List PyData} (h : μ p = some (ds.map .im)) : ∃ vs, H p = some (.lst vs) ∧ G p = none ∧ DvA G vs ds ∧ RM (upd G p (.lst vs)) H (μ.del p) := by
  obtain ⟨g0, vs, e0, w⟩ := r.own p _ h
  refine ⟨vs, e0, g0, ROs.ims w, fun a u e => ?_, fun a m q => ?_, ?_⟩
  · by_cases ha : a = p
    · subst ha
      rw [upd_same] at e
      cases e
      exact e0
    · rw [upd_ne ha] at e
      exact r.ex a u e
  · by_cases ha : a = p
    · subst ha
      rw [show μ.del a a = none from if_pos rfl] at q
      cases q
    · rw [show μ.del p a = μ a from if_neg ha] at q
      obtain ⟨g, us, e, w⟩ := r.own a m q
      exact ⟨by rw [upd_ne ha]; exact g, us, e, w.mono (Ex.new g0)⟩
  · obtain ⟨who, t⟩ := r.thg
    refine ⟨who, t.keep (Ex.new g0) rfl rfl fun x a hx => ?_⟩
    have n := t.neL h hx
    exact ⟨rfl, by rw [upd_ne n]; exact (t.of x a hx).1, by rw [show μ.del p x = μ x from if_neg n]; exact (t.of x a hx).2.1⟩
theorem RM.drop (r : RM G H μ) {μ' : Mu} (h : ∀ a l, μ' a = some l → μ a = some l) (hd : μ'.d = μ.d) (hC : μ'.C = μ.C) : RM G H μ' := ⟨r.ex, fun a l q => r.own a l (h a l q), by
  obtain ⟨who, t⟩ := r.thg
  refine ⟨who, t.keep (Ex.refl G) hd hC fun x a hx => ⟨rfl, (t.of x a hx).1, ?_⟩⟩
  cases q : μ' x with
  | none => rfl
  | some l =>
    have := (t.of x a hx).2.1
    rw [h x l q] at this
    cases this⟩
theorem RM.zero (C : Addr) : RM H H ⟨fun _ => none, fun _ => none, C⟩ := ⟨Ex.refl H, fun _ _ h => (nomatch h : False).elim, fun _ => none, fun _ _ h => (nomatch h : False).elim, fun _ _ h => (nomatch h : False).elim⟩
end
end Nx
namespace Nx
open PySem PySem.Spec PyProof.Rows L2
def Fin (G : Hp) (Φ : OV → Mu → Prop) (Q : VK) : Prop := ∀ v o μ' G' H', Φ o μ' → Ex G G' → RM G' H' μ' → RO G' v o → Q v H'
theorem Fin.later {G G' : Hp} {Φ : OV → Mu → Prop} {Q : VK} (f : Fin G Φ Q) (e : Ex G G') : Fin G' Φ Q := fun v o μ' G2 H' h e2 => f v o μ' G2 H' h (e.trans e2)
def DE (X : Cx) (e : Expr) (ρ : Rho) (μ : Mu) (Φ : OV → Mu → Prop) : Prop := ∀ G H σ, RM G H μ → RV G ρ σ → ∀ Q : VK, Fin G Φ Q → WE X e σ H Q
def DT (X : Cx) (e : Expr) (ρ : Rho) (μ : Mu) (Φ : Bool → Mu → Prop) : Prop := ∀ G H σ, RM G H μ → RV G ρ σ → ∀ Q : Bool → Hp → Prop, (∀ b μ' G' H', Φ b μ' → Ex G G' → RM G' H' μ' → Q b H') → WT X e σ H Q
def DA (X : Cx) (es : List Expr) (ρ : Rho) (μ : Mu) (Φ : List OV → Mu → Prop) : Prop := ∀ G H σ, RM G H μ → RV G ρ σ → ∀ Q : List V → Hp → Prop, (∀ vs os μ' G' H', Φ os μ' → Ex G G' → RM G' H' μ' → ROs G' vs os → Q vs H') → WA X es σ H Q
structure DEnds where
  nx : Rho → Mu → Prop
  rt : OV → Mu → Prop
  bk : Rho → Mu → Prop := fun _ _ => False
  ct : Rho → Mu → Prop := fun _ _ => False
def FinS (G : Hp) (P : Rho → Mu → Prop) (Q : L2.St → Hp → Prop) : Prop := ∀ ρ' μ' G' H' σ', P ρ' μ' → Ex G G' → RM G' H' μ' → RV G' ρ' σ' → Q σ' H'
theorem FinS.later {G G' : Hp} {P : Rho → Mu → Prop} {Q : L2.St → Hp → Prop} (f : FinS G P Q) (e : Ex G G') : FinS G' P Q := fun ρ' μ' G2 H' σ' h e2 => f ρ' μ' G2 H' σ' h (e.trans e2)
structure FinE (G : Hp) (D : DEnds) (E : Ends) : Prop where
  nx : FinS G D.nx E.nx
  rt : Fin G D.rt E.rt
  bk : FinS G D.bk E.bk
  ct : FinS G D.ct E.ct
theorem FinE.later {G G' : Hp} {D : DEnds} {E : Ends} (f : FinE G D E) (e : Ex G G') : FinE G' D E := ⟨f.nx.later e, f.rt.later e, f.bk.later e, f.ct.later e⟩
def DS (X : Cx) (st : Stmt) (ρ : Rho) (μ : Mu) (D : DEnds) : Prop := ∀ G H σ, RM G H μ → RV G ρ σ → ∀ E : Ends, FinE G D E → WS X st E σ H
def DSs (X : Cx) (ss : List Stmt) (ρ : Rho) (μ : Mu) (D : DEnds) : Prop := ∀ G H σ, RM G H μ → RV G ρ σ → ∀ E : Ends, FinE G D E → WSs X ss E σ H
section
variable {X : Cx} {a b c e : Expr} {es : List Expr} {ρ : Rho} {μ : Mu} {Φ : OV → Mu → Prop} {pos : Pos}
theorem DE.imp {Ψ : OV → Mu → Prop} (h : DE X e ρ μ Φ) (k : ∀ o μ', Φ o μ' → Ψ o μ') : DE X e ρ μ Ψ := fun G H σ r v Q f => h G H σ r v Q fun v o μ' G' H' q => f v o μ' G' H' (k o μ' q)
theorem DT.imp {Φ Ψ : Bool → Mu → Prop} (h : DT X e ρ μ Φ) (k : ∀ o μ', Φ o μ' → Ψ o μ') : DT X e ρ μ Ψ := fun G H σ r v Q f => h G H σ r v Q fun o μ' G' H' q => f o μ' G' H' (k o μ' q)
theorem DA.imp {Φ Ψ : List OV → Mu → Prop} (h : DA X es ρ μ Φ) (k : ∀ o μ', Φ o μ' → Ψ o μ') : DA X es ρ μ Ψ := fun G H σ r v Q f => h G H σ r v Q fun v o μ' G' H' q => f v o μ' G' H' (k o μ' q)
theorem DSs.imp {ss : List Stmt} {D D' : DEnds} (h : DSs X ss ρ μ D) (k1 : ∀ r m, D.nx r m → D'.nx r m) (k2 : ∀ o m, D.rt o m → D'.rt o m) (k3 : ∀ r m, D.bk r m → D'.bk r m) (k4 : ∀ r m, D.ct r m → D'.ct r m) : DSs X ss ρ μ D' :=
  fun G H σ r v E f => h G H σ r v E ⟨fun ρ' μ' G' H' σ' q => f.nx ρ' μ' G' H' σ' (k1 _ _ q), fun v o μ' G' H' q => f.rt v o μ' G' H' (k2 _ _ q), fun ρ' μ' G' H' σ' q => f.bk ρ' μ' G' H' σ' (k3 _ _ q), fun ρ' μ' G' H' σ' q => f.ct ρ' μ' G' H' σ' (k4 _ _ q)⟩
theorem DS.imp {ss : Stmt} {D D' : DEnds} (h : DS X ss ρ μ D) (k1 : ∀ r m, D.nx r m → D'.nx r m) (k2 : ∀ o m, D.rt o m → D'.rt o m) (k3 : ∀ r m, D.bk r m → D'.bk r m) (k4 : ∀ r m, D.ct r m → D'.ct r m) : DS X ss ρ μ D' :=
  fun G H σ r v E f => h G H σ r v E ⟨fun ρ' μ' G' H' σ' q => f.nx ρ' μ' G' H' σ' (k1 _ _ q), fun v o μ' G' H' q => f.rt v o μ' G' H' (k2 _ _ q), fun ρ' μ' G' H' σ' q => f.bk ρ' μ' G' H' σ' (k3 _ _ q), fun ρ' μ' G' H' σ' q => f.ct ρ' μ' G' H' σ' (k4 _ _ q)⟩
theorem de_frz {ds : List PyData} {p : Addr} (h : DE X e ρ μ fun o μ' => ∃ p ds, o = .own p ∧ μ' p = some (ds.map .im) ∧ Φ (.im (.list ds)) (μ'.del p)) : DE X e ρ μ Φ := fun G H σ r v Q f =>
  h G H σ r v Q fun v o μ' G' H' q e m ro => by
    obtain ⟨p, ds, rfl, hp, q⟩ := q
    obtain ⟨vs, e0, g0, w, m'⟩ := m.frz hp
    have ro : v = .ref p := ro
    subst ro
    exact f _ _ _ _ _ q (e.trans (Ex.new g0)) m' (Dv.lst upd_same (w.mono (Ex.new g0)))
theorem de_var (i : Nat) {x : Str} {o : OV} (hN : X.N[i]? = some x) (hv : Vis X.env.scope x) (hρ : ρ[i]? = some (some o)) (h : Φ o μ) (hd : (x == ("__debug__" : Str)) = false := by decide) (hcd : (x == ("__classdict__" : Str)) = false := by decide) : DE X (.Name x pos) ρ μ Φ := fun G H σ r v Q f => by
  obtain ⟨u, h1, h2⟩ := v.get i o hρ
  exact WE.of (pe_var hN hv hd hcd) ⟨u, h1, f u o μ G H h (Ex.refl G) r h2⟩
theorem de_v (i : Nat) {x : Str} {o : OV} (hρ : ρ[i]? = some (some o)) (h : Φ o μ) (hN : X.N[i]? = some x := by rfl) (hv : Vis X.env.scope x := by first | exact Or.inl rfl | exact Or.inr (Or.inl rfl) | exact Or.inr (Or.inr rfl))
    (hd : (x == ("__debug__" : Str)) = false := by decide) (hcd : (x == ("__classdict__" : Str)) = false := by decide) : DE X (.Name x pos) ρ μ Φ := de_var i hN hv hρ h hd hcd
theorem de_int {i : Int} {j : Nat} (h : Φ (.im (.int i)) μ) : DE X (.Constant (.int i) j pos) ρ μ Φ := fun G H σ r v Q f => WE.of pe_int (f _ _ _ _ _ h (Ex.refl G) r (Dv.int i))
theorem de_bl {i : Bool} {j : Nat} (h : Φ (.im (.bool i)) μ) : DE X (.Constant (.bool i) j pos) ρ μ Φ := fun G H σ r v Q f => WE.of pe_bl (f _ _ _ _ _ h (Ex.refl G) r (Dv.bl i))
theorem de_non {j : Nat} (h : Φ (.im .none) μ) : DE X (.Constant .none j pos) ρ μ Φ := fun G H σ r v Q f => WE.of pe_non (f _ _ _ _ _ h (Ex.refl G) r Dv.non)
def OpD (r : R2) (x y : OV) (μ : Mu) (Φ : OV → Mu → Prop) : Prop := ∀ G H vx vy, RM G H μ → RO G vx x → RO G vy y → ∀ Q : VK, Fin G Φ Q → r vx vy H Q
theorem de_op {op : Operator} {r : R2} (ho : OpR X (binaryOp op) r) (h : DE X a ρ μ fun x μ1 => DE X b ρ μ1 fun y μ2 => OpD r x y μ2 Φ) : DE X (.BinOp a op b pos) ρ μ Φ := fun G H σ m v Q f =>
  WE.of (pe_op ho pwe pwe) (h G H σ m v _ fun vx x μ1 G1 H1 q1 e1 m1 r1 => q1 G1 H1 σ m1 (v.mono e1) _ fun vy y μ2 G2 H2 q2 e2 m2 r2 => q2 G2 H2 vx vy m2 (r1.mono e2) r2 Q (f.later (e1.trans e2)))
theorem de_cmp {op : CmpOp} {r : R2} (ho : OpR X (compareOp op) r) (hm : behindInMarks op b = false) (h : DE X a ρ μ fun x μ1 => DE X b ρ μ1 fun y μ2 => OpD r x y μ2 Φ) : DE X (.Compare a [op] [b] pos) ρ μ Φ := fun G H σ m v Q f =>
  WE.of (pe_cmpR ho pwe pwe hm) (h G H σ m v _ fun vx x μ1 G1 H1 q1 e1 m1 r1 => q1 G1 H1 σ m1 (v.mono e1) _ fun vy y μ2 G2 H2 q2 e2 m2 r2 => q2 G2 H2 vx vy m2 (r1.mono e2) r2 Q (f.later (e1.trans e2)))
theorem dt_cmp {Φ : Bool → Mu → Prop} {op : CmpOp} {r : R2} (ho : OpR X (compareOp op) r) (hm : behindInMarks op b = false) (h : DE X a ρ μ fun x μ1 => DE X b ρ μ1 fun y μ2 => OpD r x y μ2 fun z μ3 => ∃ k, z = .im (.bool k) ∧ Φ k μ3) : DT X (.Compare a [op] [b] pos) ρ μ Φ := fun G H σ m v Q f =>
  WT.of (pt_cmpR ho pwe pwe hm) (h G H σ m v _ fun vx x μ1 G1 H1 q1 e1 m1 r1 => q1 G1 H1 σ m1 (v.mono e1) _ fun vy y μ2 G2 H2 q2 e2 m2 r2 => q2 G2 H2 vx vy m2 (r1.mono e2) r2 _ fun vz z μ3 G3 H3 q3 e3 m3 r3 => by
    obtain ⟨k, rfl, q⟩ := q3
    cases r3
    exact ⟨k, rfl, f k μ3 G3 H3 q ((e1.trans e2).trans e3) m3⟩)
theorem od_I0 {g : Int → Int → Int} {i j : Int} (h : Φ (.im (.int (g i j))) μ) : OpD (rI0 fun i j => .int (g i j)) (.im (.int i)) (.im (.int j)) μ Φ := fun G H vx vy m rx ry Q f => by
  cases rx
  cases ry
  exact ⟨i, j, rfl, rfl, f _ _ μ G H h (Ex.refl G) m (Dv.int _)⟩
theorem od_B0 {g : Int → Int → Bool} {i j : Int} (h : Φ (.im (.bool (g i j))) μ) : OpD (rI0 fun i j => .bl (g i j)) (.im (.int i)) (.im (.int j)) μ Φ := fun G H vx vy m rx ry Q f => by
  cases rx
  cases ry
  exact ⟨i, j, rfl, rfl, f _ _ μ G H h (Ex.refl G) m (Dv.bl _)⟩
theorem od_I {C : Int → Int → Prop} {g : Int → Int → Int} {i j : Int} (hc : C i j) (h : Φ (.im (.int (g i j))) μ) : OpD (rI C fun i j => .int (g i j)) (.im (.int i)) (.im (.int j)) μ Φ := fun G H vx vy m rx ry Q f => by
  cases rx
  cases ry
  exact ⟨i, j, rfl, rfl, hc, f _ _ μ G H h (Ex.refl G) m (Dv.int _)⟩
theorem OpD.or {r r' : R2} {x y : OV} (h : OpD r x y μ Φ ∨ OpD r' x y μ Φ) : OpD (fun x y H Q => r x y H Q ∨ r' x y H Q) x y μ Φ := fun G H vx vy m rx ry Q f => by
  rcases h with h | h
  · exact .inl (h G H vx vy m rx ry Q f)
  · exact .inr (h G H vx vy m rx ry Q f)
def AddD (x y : OV) (μ : Mu) (Φ : OV → Mu → Prop) : Prop :=
  (∃ i j, x = .im (.int i) ∧ y = .im (.int j) ∧ Φ (.im (.int (i + j))) μ) ∨
  (∃ xs ys, x = .im (.list xs) ∧ y = .im (.list ys) ∧ xs.length + ys.length ≤ 100000 ∧ Φ (.im (.list (xs ++ ys))) μ) ∨
  (∃ x' y', x = .im (.str x') ∧ y = .im (.str y') ∧ x'.length + y'.length ≤ 100000 ∧ Φ (.im (.str (x' ++ y'))) μ)
theorem od_cat {xs ys : List PyData} (hz : xs.length + ys.length ≤ 100000) (h : Φ (.im (.list (xs ++ ys))) μ) : OpD rCat (.im (.list xs)) (.im (.list ys)) μ Φ := fun G H vx vy m rx ry Q f => by
  cases rx with
  | lst h1 w1 =>
    cases ry with
    | lst h2 w2 =>
      refine ⟨_, _, _, _, rfl, rfl, m.ex _ _ h1, m.ex _ _ h2, by rw [w1.length, w2.length]; exact Nat.le_trans hz (by decide), fun p hp => ?_⟩
      have n := m.ex.free hp
      exact f _ _ μ _ _ h (Ex.new n) (m.lay hp) (Dv.lst upd_same ((w1.append w2).mono (Ex.new n)))
theorem de_add (h : DE X a ρ μ fun x μ1 => DE X b ρ μ1 fun y μ2 => AddD x y μ2 Φ) : DE X (.BinOp a .Add b pos) ρ μ Φ := by
  refine de_op ((op_add.or op_cat).or op_add_str) (h.imp fun x μ1 h1 => h1.imp fun y μ2 h2 => ?_)
  rcases h2 with ⟨i, j, rfl, rfl, q⟩ | ⟨xs, ys, rfl, rfl, hz, q⟩ | ⟨xs, ys, rfl, rfl, hz, q⟩
  · exact .or (.inl (.or (.inl (od_I0 q))))
  · exact .or (.inl (.or (.inr (od_cat hz q))))
  · refine .or (.inr fun G H vx vy m rx ry Q f => ?_)
    cases rx
    cases ry
    exact ⟨_, _, rfl, rfl, Nat.le_trans hz (by decide), f _ _ _ _ _ q (Ex.refl G) m (Dv.str _)⟩
theorem de_mod (h : DE X a ρ μ fun x μ1 => DE X b ρ μ1 fun y μ2 => ∃ i j, x = .im (.int i) ∧ y = .im (.int j) ∧ 0 < j ∧ Φ (.im (.int (i % j))) μ2) : DE X (.BinOp a .Mod b pos) ρ μ Φ := by
  refine de_op op_mod (h.imp fun x μ1 h1 => h1.imp fun y μ2 h2 => ?_)
  obtain ⟨i, j, rfl, rfl, hj, q⟩ := h2
  exact od_I hj q
theorem de_fdiv (h : DE X a ρ μ fun x μ1 => DE X b ρ μ1 fun y μ2 => ∃ i j, x = .im (.int i) ∧ y = .im (.int j) ∧ CDiv i j ∧ Φ (.im (.int (i / j))) μ2) : DE X (.BinOp a .FloorDiv b pos) ρ μ Φ := by
  refine de_op op_fdiv (h.imp fun x μ1 h1 => h1.imp fun y μ2 h2 => ?_)
  obtain ⟨i, j, rfl, rfl, hj, q⟩ := h2
  exact od_I hj q
theorem de_mul (h : DE X a ρ μ fun x μ1 => DE X b ρ μ1 fun y μ2 => ∃ i j, x = .im (.int i) ∧ y = .im (.int j) ∧ CMul i j ∧ Φ (.im (.int (i * j))) μ2) : DE X (.BinOp a .Mult b pos) ρ μ Φ := by
  refine de_op op_mul (h.imp fun x μ1 h1 => h1.imp fun y μ2 h2 => ?_)
  obtain ⟨i, j, rfl, rfl, hj, q⟩ := h2
  exact od_I hj q
theorem de_pow (h : DE X a ρ μ fun x μ1 => DE X b ρ μ1 fun y μ2 => ∃ i j, x = .im (.int i) ∧ y = .im (.int j) ∧ CPow i j ∧ Φ (.im (.int (i ^ j.toNat))) μ2) : DE X (.BinOp a .Pow b pos) ρ μ Φ := by
  refine de_op op_pow (h.imp fun x μ1 h1 => h1.imp fun y μ2 h2 => ?_)
  obtain ⟨i, j, rfl, rfl, hj, q⟩ := h2
  exact od_I hj q
theorem de_neg (h : DE X a ρ μ fun x μ1 => ∃ i, x = .im (.int i) ∧ Φ (.im (.int (-i))) μ1) : DE X (.UnaryOp .USub a pos) ρ μ Φ := fun G H σ m v Q f =>
  WE.of (pe_un un_neg pwe) (h G H σ m v _ fun vx x μ1 G1 H1 q1 e1 m1 r1 => by
    obtain ⟨i, rfl, q⟩ := q1
    cases r1
    exact ⟨i, rfl, f _ _ _ _ _ q e1 m1 (Dv.int _)⟩)
inductive RdD (μ : Mu) : OV → PyData → Prop
  | im (d : PyData) : RdD μ (.im d) d
  | own {a : Addr} {ds : List PyData} : μ a = some (ds.map .im) → RdD μ (.own a) (.list ds)
theorem RdD.at {G H : Hp} {μ : Mu} (m : RM G H μ) {v : V} {o : OV} {d : PyData} (h : RdD μ o d) (r : RO G v o) : Dv H v d := by
  cases h with
  | im d => exact Dv.mono m.ex r
  | own h =>
    have r : v = _ := r
    subst r
    obtain ⟨_, vs, e, w⟩ := m.own _ _ h
    exact .lst e ((ROs.ims w).mono m.ex)
def CmpI (p : Int → Int → Bool) (Φ : OV → Mu → Prop) (x y : OV) (μ : Mu) : Prop := ∃ i j, x = .im (.int i) ∧ y = .im (.int j) ∧ Φ (.im (.bool (p i j))) μ
theorem de_ge (h : DE X a ρ μ fun x μ1 => DE X b ρ μ1 fun y μ2 => CmpI (fun i j => decide (j ≤ i)) Φ x y μ2) : DE X (.Compare a [.GtE] [b] pos) ρ μ Φ :=
  de_cmp op_ge (nomark _) (h.imp fun x μ1 h1 => h1.imp fun y μ2 ⟨i, j, e1, e2, q⟩ => by subst e1 e2; exact od_B0 q)
def CmpB (Φ : Bool → Mu → Prop) : OV → Mu → Prop := fun z μ3 => ∃ k, z = .im (.bool k) ∧ Φ k μ3
theorem dt_gt {Φ : Bool → Mu → Prop} (h : DE X a ρ μ fun x μ1 => DE X b ρ μ1 fun y μ2 => ∃ i j, x = .im (.int i) ∧ y = .im (.int j) ∧ Φ (decide (j < i)) μ2) : DT X (.Compare a [.Gt] [b] pos) ρ μ Φ :=
  dt_cmp op_gt (nomark _) (h.imp fun x μ1 h1 => h1.imp fun y μ2 ⟨i, j, e1, e2, q⟩ => by subst e1 e2; exact od_B0 ⟨_, rfl, q⟩)
theorem od_eq {x y : OV} {d e : PyData} (hx : RdD μ x d) (hy : RdD μ y e) (sd : SeqAt.shaped d = true) (se : SeqAt.shaped e = true) (h : Φ (.im (.bool (PyData.eqv d e))) μ) : OpD (rEqD X.K) x y μ Φ := fun G H vx vy m rx ry Q f =>
  ⟨d, e, (hx.at m rx).dp, (hy.at m ry).dp, sd, se, f _ _ _ _ _ h (Ex.refl G) m (Dv.bl _)⟩
theorem od_ne {x y : OV} {d e : PyData} (hx : RdD μ x d) (hy : RdD μ y e) (sd : SeqAt.shaped d = true) (se : SeqAt.shaped e = true) (h : Φ (.im (.bool (!PyData.eqv d e))) μ) : OpD (rNeD X.K) x y μ Φ := fun G H vx vy m rx ry Q f =>
  ⟨d, e, (hx.at m rx).dp, (hy.at m ry).dp, sd, se, f _ _ _ _ _ h (Ex.refl G) m (Dv.bl _)⟩
end
end Nx
namespace Nx
open PySem PySem.Spec PyProof.Rows L2
section
variable {X : Cx} {a b c e : Expr} {es rest : List Expr} {ρ : Rho} {μ : Mu} {Φ : OV → Mu → Prop} {pos : Pos}
theorem op_eqI : OpR X (compareOp .Eq) (rI0 fun i j => .bl (decide (i = j))) := opB0 fun i j t u s Q E q => eq_int (by rw [Bool.beq_eq_decide_eq]; exact q)
theorem op_neI : OpR X (compareOp .NotEq) (rI0 fun i j => .bl (!decide (i = j))) := opB0 fun i j t u s Q E q => ne_int (by rw [bne, Bool.beq_eq_decide_eq]; exact q)
theorem dec_strD {a b : Str} : decide (V.str a = V.str b) = decide (a = b) := by
  by_cases h : a = b
  · subst h
    simp
  · have h' : ¬ V.str a = V.str b := fun e => h (V.str.inj e)
    simp [h]
theorem od_eqS {a b : Str} (h : Φ (.im (.bool (decide (a = b)))) μ) : OpD rEq (.im (.str a)) (.im (.str b)) μ Φ := fun G H vx vy m rx ry Q f => by
  cases rx
  cases ry
  refine ⟨rfl, ?_⟩
  rw [dec_strD]
  exact f _ _ _ _ _ h (Ex.refl G) m (Dv.bl _)
theorem od_neS {a b : Str} (h : Φ (.im (.bool (!decide (a = b)))) μ) : OpD rNe (.im (.str a)) (.im (.str b)) μ Φ := fun G H vx vy m rx ry Q f => by
  cases rx
  cases ry
  refine ⟨rfl, ?_⟩
  rw [dec_strD]
  exact f _ _ _ _ _ h (Ex.refl G) m (Dv.bl _)
def InD (x y : OV) (μ : Mu) (f : Bool → Bool) (Φ : OV → Mu → Prop) : Prop :=
  ∃ (n : Int) (ns : List Int), x = .im (.int n) ∧ (RdD μ y (.list (ns.map .int)) ∨ RdD μ y (.tuple (ns.map .int))) ∧ Φ (.im (.bool (f (decide (n ∈ ns))))) μ
theorem inV_ints (n : Int) : ∀ ns : List Int, inV (.int n) (ns.map V.int) = decide (n ∈ ns)
  | [] => rfl
  | m :: ns => by
    have ih := inV_ints n ns
    unfold inV at ih ⊢
    rw [List.map_cons, List.any_cons, ih]
    show ((m == n) || decide (n ∈ ns)) = decide (n ∈ m :: ns)
    by_cases h : n = m
    · subst h
      simp
    · have h' : ¬ m = n := fun e => h e.symm
      simp [h, h']
theorem flat_ints : ∀ ns : List Int, (ns.map V.int).all flatV = true
  | [] => rfl
  | _ :: ns => by
    rw [List.map_cons, List.all_cons, flat_ints ns]
    rfl
theorem od_in {neg : Bool} {x y : OV} (h : InD x y μ (fun k => if neg then !k else k) Φ) : OpD (rIn X.K neg) x y μ Φ := fun G H vx vy m rx ry Q f => by
  obtain ⟨n, ns, rfl, hy, q⟩ := h
  cases rx
  have fin : Q (.bl (if neg then !inV (.int n) (ns.map V.int) else inV (.int n) (ns.map V.int))) H := by
    rw [inV_ints]
    exact f _ _ _ _ _ q (Ex.refl G) m (Dv.bl _)
  rcases hy with hy | hy
  · have d := hy.at m ry
    generalize hd : PyData.list (ns.map .int) = dd at d
    cases d with
    | lst h1 w => cases hd; exact ⟨_, _, rfl, .inl (.inl (.inl h1)), rfl, by rw [w.ints]; exact flat_ints ns, by rw [w.ints]; exact fin⟩
    | _ => cases hd
  · have d := hy.at m ry
    generalize hd : PyData.tuple (ns.map .int) = dd at d
    cases d with
    | tup h1 w => cases hd; exact ⟨_, _, rfl, .inr (.inl (.inl h1)), rfl, by rw [w.ints]; exact flat_ints ns, by rw [w.ints]; exact fin⟩
    | _ => cases hd
def isNon : OV → Bool
  | .im .none => true
  | _ => false
theorem isNon_at {G : Hp} {v : V} : ∀ {o : OV}, RO G v o → decide (v = .non) = isNon o
  | .own a, h => by
    have h : v = .ref a := h
    subst h
    rfl
  | .scr K ns, h => by
    obtain ⟨a, rfl, _⟩ := h
    rfl
  | .pr p d, h => by
    obtain ⟨t, v2, rfl, _⟩ := h
    rfl
  | .dic kvs, h => by
    obtain ⟨t, v2, rfl, _⟩ := h
    rfl
  | .ob P, h => by
    obtain ⟨a, rfl⟩ := P.ref h
    rfl
  | .im d, h => by
    have h : Dv G v d := h
    cases h <;> rfl
theorem od_isN {x y : OV} (hy : y = .im .none) (h : Φ (.im (.bool (isNon x))) μ) : OpD (fun x y H Q => y = .non ∧ Q (.bl (decide (x = .non))) H) x y μ Φ := fun G H vx vy m rx ry Q f => by
  subst hy
  cases ry
  refine ⟨rfl, ?_⟩
  rw [isNon_at rx]
  exact f _ _ _ _ _ h (Ex.refl G) m (Dv.bl _)
theorem od_notN {x y : OV} (hy : y = .im .none) (h : Φ (.im (.bool (!isNon x))) μ) : OpD (fun x y H Q => y = .non ∧ Q (.bl (!decide (x = .non))) H) x y μ Φ := fun G H vx vy m rx ry Q f => by
  subst hy
  cases ry
  refine ⟨rfl, ?_⟩
  rw [isNon_at rx]
  exact f _ _ _ _ _ h (Ex.refl G) m (Dv.bl _)
theorem de_isN {j : Nat} {p' : Pos} (h : DE X a ρ μ fun x μ1 => Φ (.im (.bool (isNon x))) μ1) : DE X (.Compare a [.Is] [.Constant .none j p'] pos) ρ μ Φ :=
  de_cmp op_isN (nomark _) (h.imp fun x μ1 h1 => de_non (od_isN rfl h1))
theorem dt_isN {j : Nat} {p' : Pos} {Φ : Bool → Mu → Prop} (h : DE X a ρ μ fun x μ1 => Φ (isNon x) μ1) : DT X (.Compare a [.Is] [.Constant .none j p'] pos) ρ μ Φ :=
  dt_cmp op_isN (nomark _) (h.imp fun x μ1 h1 => de_non (od_isN rfl ⟨_, rfl, h1⟩))
theorem dt_notN {j : Nat} {p' : Pos} {Φ : Bool → Mu → Prop} (h : DE X a ρ μ fun x μ1 => Φ (!isNon x) μ1) : DT X (.Compare a [.IsNot] [.Constant .none j p'] pos) ρ μ Φ :=
  dt_cmp op_notN (nomark _) (h.imp fun x μ1 h1 => de_non (od_notN rfl ⟨_, rfl, h1⟩))
theorem de_chain {op op' : CmpOp} {p p' : Int → Int → Bool} (ho : OpR X (compareOp op) (rI0 fun i j => .bl (p i j))) (ho' : OpR X (compareOp op') (rI0 fun i j => .bl (p' i j)))
    (h : DE X a ρ μ fun x μ1 => DE X b ρ μ1 fun y μ2 => ∃ i j, x = .im (.int i) ∧ y = .im (.int j) ∧ if p i j = true then DE X c ρ μ2 fun z μ3 => ∃ k, z = .im (.int k) ∧ Φ (.im (.bool (p' j k))) μ3 else Φ (.im (.bool false)) μ2)
    (hm : lastMarks [op, op'] [b, c] = false := by with_unfolding_all rfl) : DE X (.Compare a [op, op'] [b, c] pos) ρ μ Φ := fun G H σ m v Q f =>
  WE.of (pe_chain ho ho' pwe pwe pwe hm) (h G H σ m v _ fun vx x μ1 G1 H1 q1 e1 m1 r1 => q1 G1 H1 σ m1 (v.mono e1) _ fun vy y μ2 G2 H2 q2 e2 m2 r2 => by
    obtain ⟨i, j, rfl, rfl, q⟩ := q2
    cases r1
    cases r2
    refine ⟨i, j, rfl, rfl, _, rfl, ?_⟩
    split at q
    · rename_i hp
      rw [if_pos hp]
      refine q G2 H2 σ m2 (v.mono (e1.trans e2)) _ fun vz z μ3 G3 H3 q3 e3 m3 r3 => ?_
      obtain ⟨k, rfl, q⟩ := q3
      cases r3
      exact ⟨j, k, rfl, rfl, f _ _ _ _ _ q ((e1.trans e2).trans e3) m3 (Dv.bl _)⟩
    · rename_i hp
      rw [if_neg hp]
      exact f _ _ _ _ _ q (e1.trans e2) m2 (Dv.bl _))
def WW (X : Cx) (e : Expr) : TT := fun σ H Q => ∀ whole pins s, Inv X pins σ H s → wpAny (model X.prog X.w) X.A (isTrue e X.env whole) (TP X pins σ Q) X.xe s
theorem pww : PW X e (WW X e) := ⟨fun whole pins s _ _ _ I h => h whole pins s I⟩
theorem WW.of {t : TT} {σ : L2.St} {H : Hp} {Q : Bool → Hp → Prop} (h : PW X e t) (q : t σ H Q) : WW X e σ H Q := fun whole pins s I => h.run whole pins s σ H Q I q
def DW (X : Cx) (e : Expr) (ρ : Rho) (μ : Mu) (Φ : Bool → Mu → Prop) : Prop := ∀ G H σ, RM G H μ → RV G ρ σ → ∀ Q : Bool → Hp → Prop, (∀ b μ' G' H', Φ b μ' → Ex G G' → RM G' H' μ' → Q b H') → WW X e σ H Q
variable {Ψ : Bool → Mu → Prop}
theorem dt_val (h : DE X e ρ μ (CmpB Ψ)) (he : ∀ whole, isTrue e X.env whole = (do let v ← whole; standAt e.pos; holding [v] (truthy v)) := by intro _; rfl) : DT X e ρ μ Ψ := fun G H σ m v Q f =>
  WT.of (pt_val pwe he) (h G H σ m v _ fun vx x μ1 G1 H1 q1 e1 m1 r1 => by
    obtain ⟨k, rfl, q⟩ := q1
    cases r1
    exact ⟨k, rfl, f _ _ _ _ q e1 m1⟩)
theorem dt_not (h : DT X a ρ μ fun k μ1 => Ψ (!k) μ1) : DT X (.UnaryOp .Not a pos) ρ μ Ψ := fun G H σ m v Q f =>
  WT.of (pt_not pwt) (h G H σ m v _ fun k μ1 G1 H1 q1 e1 m1 => f _ _ _ _ q1 e1 m1)
theorem DW.dt (h : DW X e ρ μ Ψ) : DT X e ρ μ Ψ := fun G H σ m v Q f pins s I => h G H σ m v Q f _ pins s I
theorem dw_or1 (h : DT X a ρ μ Ψ) : DW X (.BoolOp .Or [a] pos) ρ μ Ψ := fun G H σ m v Q f => WW.of (pw_or1 pwt) (h G H σ m v Q f)
theorem dw_or (h : DT X a ρ μ fun k μ1 => if k = true then Ψ true μ1 else DW X (.BoolOp .Or (b :: rest) pos) ρ μ1 Ψ) : DW X (.BoolOp .Or (a :: b :: rest) pos) ρ μ Ψ := fun G H σ m v Q f =>
  WW.of (pw_or pwt pww) (h G H σ m v _ fun k μ1 G1 H1 q1 e1 m1 => by
    dsimp only at q1
    split at q1
    · rename_i hk
      subst hk
      rw [if_pos rfl]
      exact f _ _ _ _ q1 e1 m1
    · rename_i hk
      rw [if_neg hk]
      exact q1 G1 H1 σ m1 (v.mono e1) Q fun k μ2 G2 H2 q2 e2 m2 => f _ _ _ _ q2 (e1.trans e2) m2)
theorem de_one {op} (h : DE X a ρ μ Φ) : DE X (.BoolOp op [a] pos) ρ μ Φ := fun G H σ m v Q f => WE.of (pe_one pwe) (h G H σ m v Q f)
theorem de_and (h : DE X a ρ μ fun x μ1 => ∃ k, x = .im (.bool k) ∧ if k = true then DE X (.BoolOp .And (b :: rest) pos) ρ μ1 Φ else Φ (.im (.bool false)) μ1) : DE X (.BoolOp .And (a :: b :: rest) pos) ρ μ Φ := fun G H σ m v Q f =>
  WE.of (pe_and pwe pwe) (h G H σ m v _ fun vx x μ1 G1 H1 q1 e1 m1 r1 => by
    obtain ⟨k, rfl, q⟩ := q1
    cases r1
    refine ⟨k, rfl, ?_⟩
    split at q
    · rename_i hk
      rw [if_pos hk]
      exact q G1 H1 σ m1 (v.mono e1) Q (f.later e1)
    · rename_i hk
      rw [if_neg hk]
      exact f _ _ _ _ _ q e1 m1 (Dv.bl _))
theorem de_ifExp (h : DT X c ρ μ fun k μ1 => if k = true then DE X a ρ μ1 Φ else DE X b ρ μ1 Φ) : DE X (.IfExp c a b pos) ρ μ Φ := fun G H σ m v Q f =>
  WE.of (pe_ifExp pwt pwe pwe) (h G H σ m v _ fun k μ1 G1 H1 q1 e1 m1 => by
    dsimp only at q1
    split at q1
    · rename_i hk
      rw [if_pos hk]
      exact q1 G1 H1 σ m1 (v.mono e1) Q (f.later e1)
    · rename_i hk
      rw [if_neg hk]
      exact q1 G1 H1 σ m1 (v.mono e1) Q (f.later e1))
theorem de_orL (h : DE X a ρ μ fun x μ1 => ∃ ds, RdD μ1 x (.list ds) ∧ if ds ≠ [] then Φ x μ1 else DE X (.BoolOp .Or (b :: rest) pos) ρ μ1 Φ) : DE X (.BoolOp .Or (a :: b :: rest) pos) ρ μ Φ := fun G H σ m v Q f =>
  WE.of (pe_orT pwe pwe) (h G H σ m v _ fun vx x μ1 G1 H1 q1 e1 m1 r1 => by
    obtain ⟨ds, hd, q⟩ := q1
    have d := hd.at m1 r1
    generalize hdd : PyData.list ds = dd at d
    cases d with
    | lst h1 w =>
      cases hdd
      refine ⟨_, .inl ⟨_, .inl (.inl h1), rfl⟩, ?_⟩
      by_cases hn : ds = []
      · rw [if_neg (by simp [hn])] at q
        subst hn
        cases w
        rw [if_neg (by simp)]
        exact q G1 H1 σ m1 (v.mono e1) Q (f.later e1)
      · rw [if_pos hn] at q
        rw [if_pos (by
          cases w with
          | nil => exact absurd rfl hn
          | cons _ _ => rfl)]
        exact f _ _ _ _ _ q e1 m1 r1
    | _ => cases hdd)
end
end Nx
namespace Nx
open PySem PySem.Spec PyProof.Rows L2
section
variable {X : Cx} {a b c e : Expr} {es rest : List Expr} {ρ : Rho} {μ : Mu} {Φ : OV → Mu → Prop} {Λ : List OV → Mu → Prop} {pos : Pos}
theorem da_nil (h : Λ [] μ) : DA X [] ρ μ Λ := fun G H σ m v Q f => WA.of pa_nil (f [] [] μ G H h (Ex.refl G) m .nil)
theorem da_cons (h : DE X e ρ μ fun x μ1 => DA X es ρ μ1 fun xs μ2 => Λ (x :: xs) μ2) (hs : starEach (e :: es) X.env = (false, eval e X.env) :: starEach es X.env := by rfl) : DA X (e :: es) ρ μ Λ := fun G H σ m v Q f =>
  WA.of (pa_cons pwe pwa hs) (h G H σ m v _ fun vx x μ1 G1 H1 q1 e1 m1 r1 => q1 G1 H1 σ m1 (v.mono e1) _ fun vs xs μ2 G2 H2 q2 e2 m2 r2 => f _ _ _ _ _ q2 (e1.trans e2) m2 (.cons (r1.mono e2) r2))
theorem sz {n : Nat} (h : n ≤ 100000) : n ≤ sizeLine := Nat.le_trans h (by decide)
theorem de_lst (h : DA X es ρ μ fun os μ1 => ∃ ds, os = ds.map .im ∧ ds.length ≤ 100000 ∧ Φ (.im (.list ds)) μ1) : DE X (.List es pos) ρ μ Φ := fun G H σ m v Q f =>
  WE.of (pe_lst pwa) (h G H σ m v _ fun vs os μ1 G1 H1 q1 e1 m1 r1 => by
    obtain ⟨ds, rfl, hz, q⟩ := q1
    refine ⟨by rw [r1.length, List.length_map]; exact sz hz, fun p hp => ?_⟩
    have n := m1.ex.free hp
    exact f _ _ _ _ _ q (e1.trans (Ex.new n)) (m1.lay hp) (Dv.lst upd_same (r1.ims.mono (Ex.new n))))
theorem de_lstO (h : DA X es ρ μ fun os μ1 => os.length ≤ 100000 ∧ ∀ p, μ1 p = none → Φ (.own p) (μ1.put p os)) : DE X (.List es pos) ρ μ Φ := fun G H σ m v Q f =>
  WE.of (pe_lst pwa) (h G H σ m v _ fun vs os μ1 G1 H1 q1 e1 m1 r1 => by
    obtain ⟨hz, q⟩ := q1
    refine ⟨by rw [r1.length]; exact sz hz, fun p hp => ?_⟩
    exact f _ _ _ _ _ (q p (m1.fresh hp)) e1 (m1.new hp r1) rfl)
theorem de_tup {x1} (h : DA X es ρ μ fun os μ1 => ∃ ds, os = ds.map .im ∧ ds.length ≤ 100000 ∧ Φ (.im (.tuple ds)) μ1) : DE X (.Tuple es x1 pos) ρ μ Φ := fun G H σ m v Q f =>
  WE.of (pe_tup pwa) (h G H σ m v _ fun vs os μ1 G1 H1 q1 e1 m1 r1 => by
    obtain ⟨ds, rfl, hz, q⟩ := q1
    refine ⟨by rw [r1.length, List.length_map]; exact sz hz, fun p hp => ?_⟩
    have n := m1.ex.free hp
    exact f _ _ _ _ _ q (e1.trans (Ex.new n)) (m1.lay hp) (Dv.tup upd_same (r1.ims.mono (Ex.new n))))
inductive SqD (μ : Mu) : OV → List OV → Prop
  | lst (ds : List PyData) : SqD μ (.im (.list ds)) (ds.map .im)
  | tup (ds : List PyData) : SqD μ (.im (.tuple ds)) (ds.map .im)
  | own {a : Addr} {l : List OV} : μ a = some l → SqD μ (.own a) l
theorem SqD.at {G H : Hp} (m : RM G H μ) {v : V} {o : OV} {l : List OV} (h : SqD μ o l) (r : RO G v o) : ∃ a xs, v = .ref a ∧ (H a = some (.lst xs) ∨ H a = some (.tup xs)) ∧ ROs G xs l := by
  cases h with
  | lst ds =>
    have r : Dv G v (.list ds) := r
    cases r with
    | lst h w => exact ⟨_, _, rfl, .inl (m.ex _ _ h), ROs.of_ims w⟩
  | tup ds =>
    have r : Dv G v (.tuple ds) := r
    cases r with
    | tup h w => exact ⟨_, _, rfl, .inr (m.ex _ _ h), ROs.of_ims w⟩
  | own h =>
    have r : v = _ := r
    subst r
    obtain ⟨_, vs, e, w⟩ := m.own _ _ h
    exact ⟨_, vs, rfl, .inl e, w⟩
theorem sq_or {K : PySem.W.Frag} {H : Hp} {a : Addr} {xs : List V} (h : H a = some (.lst xs) ∨ H a = some (.tup xs)) : SqL K H a xs ∨ SqT K H a xs := by
  rcases h with h | h
  · exact .inl (.inl (.inl h))
  · exact .inr (.inl (.inl h))
theorem ROs.at {G : Hp} {xs : List V} {l : List OV} {i : Int} {o : OV} (w : ROs G xs l) (h : atI l i = some o) : ∃ v, atI xs i = some v ∧ RO G v o := by
  unfold atI at h ⊢
  rw [w.length]
  cases q : ixN l.length i with
  | none =>
    rw [q] at h
    cases h
  | some j =>
    rw [q] at h
    obtain ⟨v, h1, h2⟩ := ROs.get w (show l[j]? = some o from h)
    exact ⟨v, h1, h2⟩
theorem de_ix (hs : PlainIx b) (h : DE X a ρ μ fun x μ1 => DE X b ρ μ1 fun y μ2 => ∃ l i o, SqD μ2 x l ∧ y = .im (.int i) ∧ atI l i = some o ∧ Φ o μ2) : DE X (.Subscript a b pos) ρ μ Φ := fun G H σ m v Q f =>
  WE.of (pe_ix (ix_list.or ix_tup) pwe pwe hs) (h G H σ m v _ fun vx x μ1 G1 H1 q1 e1 m1 r1 => q1 G1 H1 σ m1 (v.mono e1) _ fun vy y μ2 G2 H2 q2 e2 m2 r2 => by
    obtain ⟨l, i, o, hx, rfl, ho, q⟩ := q2
    cases r2
    obtain ⟨p, xs, rfl, hp, w⟩ := hx.at m2 (r1.mono e2)
    obtain ⟨u, h1, h2⟩ := w.at ho
    have fin := f u o μ2 G2 H2 q (e1.trans e2) m2 h2
    rcases hp with hp | hp
    · exact .inl ⟨p, xs, i, u, rfl, rfl, .inl (.inl hp), h1, fin⟩
    · exact .inr ⟨p, xs, i, u, rfl, rfl, .inl (.inl hp), h1, fin⟩)
theorem atI_im {ds : List PyData} {i : Int} {d : PyData} (h : atI ds i = some d) : atI (ds.map OV.im) i = some (.im d) := by
  unfold atI at h ⊢
  rw [List.length_map]
  cases q : ixN ds.length i with
  | none =>
    rw [q] at h
    cases h
  | some j =>
    rw [q] at h
    have h : ds[j]? = some d := h
    show (ds.map OV.im)[j]? = _
    rw [List.getElem?_map, h]
    rfl
def DO (X : Cx) (e : Option Expr) (ρ : Rho) (μ : Mu) (Φ : Option Int → Mu → Prop) : Prop :=
  match e with
  | none => Φ none μ
  | some e => DE X e ρ μ fun x μ1 => ∃ i, x = .im (.int i) ∧ Φ (some i) μ1
def cutO (xs : List OV) (lo hi : Option Int) : List OV := (xs.drop (HT.sIx xs.length 0 lo)).take (HT.sIx xs.length xs.length hi - HT.sIx xs.length 0 lo)
def cutD (xs : List PyData) (lo hi : Option Int) : List PyData := (xs.drop (HT.sIx xs.length 0 lo)).take (HT.sIx xs.length xs.length hi - HT.sIx xs.length 0 lo)
theorem ROs.cut {G : Hp} {xs : List V} {l : List OV} (w : ROs G xs l) (lo hi : Option Int) : ROs G (cutV xs lo hi) (cutO l lo hi) := by
  unfold cutV cutO
  rw [w.length]
  exact (w.drop _).take _
theorem cutO_im (ds : List PyData) (lo hi : Option Int) : cutO (ds.map .im) lo hi = (cutD ds lo hi).map .im := by
  unfold cutO cutD
  rw [List.length_map, List.map_take, List.map_drop]
def WO (X : Cx) (lo : Option Expr) : TO := fun σ H R => match lo with
  | none => R none H
  | some e => WE X e σ H fun x H1 => ∃ i, x = .int i ∧ R (some i) H1
theorem pwo {lo : Option Expr} : PO X lo (WO X lo) := by
  cases lo with
  | none => exact po_none
  | some e => exact po_some pwe
theorem DO.run {lo : Option Expr} {Ψ : Option Int → Mu → Prop} {G H : Hp} {σ : L2.St} {R : Option Int → Hp → Prop} (h : DO X lo ρ μ Ψ) (m : RM G H μ) (v : RV G ρ σ) (k : ∀ o μ1 G1 H1, Ψ o μ1 → Ex G G1 → RM G1 H1 μ1 → R o H1) : WO X lo σ H R := by
  cases lo with
  | none => exact k _ _ _ _ h (Ex.refl G) m
  | some e =>
    refine h G H σ m v _ fun vx x μ1 G1 H1 q1 e1 m1 r1 => ?_
    obtain ⟨i, rfl, q⟩ := q1
    cases r1
    exact ⟨i, rfl, k _ _ _ _ q e1 m1⟩
def cutI (ns : List Int) (lo hi : Option Int) : List Int := (ns.drop (HT.sIx ns.length 0 lo)).take (HT.sIx ns.length ns.length hi - HT.sIx ns.length 0 lo)
theorem cutI_V (ns : List Int) (lo hi : Option Int) : cutV (ns.map V.int) lo hi = (cutI ns lo hi).map V.int := by
  unfold cutV cutI
  rw [List.length_map, List.map_take, List.map_drop]
theorem de_slS {lo hi : Option Expr} {p2 : Pos} (h : DE X e ρ μ fun x μ1 => DO X lo ρ μ1 fun l μ2 => DO X hi ρ μ2 fun u μ3 => ∃ ns, x = .scr X.K ns ∧ Φ (.im (.list ((cutI ns l u).map .int))) μ3) : DE X (.Subscript e (.Slice lo hi none p2) pos) ρ μ Φ := fun G H σ m v Q f =>
  WE.of (pe_slice sl_list pwe pwo pwo) (h G H σ m v _ fun vx x μ1 G1 H1 q1 e1 m1 r1 => q1.run m1 (v.mono e1) fun l μ2 G2 H2 q2 e2 m2 => q2.run m2 (v.mono (e1.trans e2)) fun u μ3 G3 H3 q3 e3 m3 => by
    obtain ⟨ns, rfl, q⟩ := q3
    obtain ⟨a, rfl, ha⟩ := r1
    refine ⟨_, _, rfl, sql_mono (e2.trans (e3.trans m3.ex)) ha, fun p hp => ?_⟩
    have n := m3.ex.free hp
    rw [cutI_V]
    exact f _ _ _ _ _ q (((e1.trans e2).trans e3).trans (Ex.new n)) (m3.lay hp) (Dv.lst upd_same (DvA.of_ints _)))
theorem de_rev {k : Nat} {p1 p2 p3 : Pos} (h : DE X e ρ μ fun x μ1 => ∃ ds, x = .im (.list ds) ∧ Φ (.im (.list ds.reverse)) μ1) : DE X (.Subscript e (.Slice none none (some (.UnaryOp .USub (.Constant (.int 1) k p1) p2)) p3) pos) ρ μ Φ := fun G H σ m v Q f =>
  WE.of (pe_revL pwe) (h G H σ m v _ fun vx x μ1 G1 H1 q1 e1 m1 r1 => by
    obtain ⟨ds, rfl, q⟩ := q1
    cases r1 with
    | lst h1 w1 =>
      refine ⟨_, _, rfl, .inl (.inl (m1.ex _ _ h1)), fun p hp => ?_⟩
      have n := m1.ex.free hp
      have w2 := (ROs.of_ims w1).reverse
      rw [← List.map_reverse] at w2
      exact f _ _ _ _ _ q (e1.trans (Ex.new n)) (m1.lay hp) (Dv.lst upd_same (w2.ims.mono (Ex.new n))))
end
end Nx
namespace Nx
open PySem PySem.Spec PyProof.Rows L2
structure Rm (k : Nat) (A : Around) : Prop where
  room : Room k A
  gds : A.guards = some []
theorem Rm.mono {j k : Nat} {A : Around} (r : Rm k A) (h : j ≤ k) : Rm j A := ⟨r.room.mono h, r.gds⟩
structure FnG (P : Program) (w : World) (K : PySem.W.Frag) (mg : Str → Option Value) (base : Heap) (CX : CXT) (k : Nat) (f : Addr) (fd : FuncData) (ps : List Str) (sp : Sp) : Prop where
  len : ∀ vs H Q E, sp vs H Q E → vs.length = ps.length
  run : ∀ A outer s H args us vs Q E, Rm k A → Env0 P w K mg base A outer s H → BindsTo s fd args (ps.zip us) → Vals vs us → sp vs H Q E → codeAny (model P w) A (.call (.ref f) args) (CR CX outer P w H s Q E) s
theorem FnG.mono {P : Program} {w : World} {K : PySem.W.Frag} {mg : Str → Option Value} {base : Heap} {CX : CXT} {j k : Nat} {f : Addr} {fd : FuncData} {ps : List Str} {sp : Sp} (F : FnG P w K mg base CX j f fd ps sp) (h : j ≤ k) : FnG P w K mg base CX k f fd ps sp :=
  ⟨F.len, fun A outer s H args us vs Q E r => F.run A outer s H args us vs Q E (r.mono h)⟩
section
variable {P : Program} {w : World} {K : PySem.W.Frag} {mg : Str → Option Value} {base : Heap} {CX : CXT}
theorem fng_of {k : Nat} {f : Addr} {x q : Str} {st : Stmt} {fd : FuncData} {N ps : List Str} {sp : Sp} (F : Fun K x q st f fd) (S : FnScope N ps (defScope st)) (len : ∀ vs H Q E, sp vs H Q E → vs.length = ps.length)
    (body : ∀ (cdv : Value) A outer s H vs Q E, Rm k (A.deeper (envOfC q (defScope st) s.heap.objs.size f cdv)) → sp vs H Q E →
      WSs (cxOf CX P w K mg base N q (defScope st) f cdv A outer s H E) (defBody st) { nx := fun _ H' => Q .non H', rt := Q } (start N vs) H) : FnG P w K mg base CX (k + 1) f fd ps sp := by
  obtain ⟨oc, od, kV, doc, pm, an, cdv, ct, osl, rfl, lk, hcd⟩ := F.ex
  constructor
  · exact len
  intro A outer s H args us vs Q E hr e0 hb r hsp
  have inH : ∀ b o, base.get? b = some o → s.heap.get? b = some o := fun b o e => (e0.bs b o e).1
  have KX : K.In s.heap := e0.mod.kin.keeps inH
  have nolim : s.heap.NoLimit := e0.mod.nolimit.keeps inH
  have kinds : ∀ y ∈ ps.zip us, (defScope st).names.lookup y.1 = some .local ∨
      ((defScope st).names.lookup y.1 = some .cell ∧ ((cellsFrom (s.heap.objs.size + 1) (defScope st).names []).lookup y.1).isSome = true) := by
    rintro ⟨n, v⟩ hy
    rcases S.par n (List.of_mem_zip hy).1 with z | z
    · exact Or.inl z
    · exact Or.inr ⟨z, PySem.W.cellsFrom_some _ _ _ (Or.inl z)⟩
  apply codeAny_call_function hr.room.depth (KX _ _ lk) rfl S.co S.gen rfl (PySem.W.codeRec_of KX hcd)
  apply hb _ _ _ _
  apply wpAny_newFunctionEnv_cells S.kind kinds
  intro env he s1 y
  subst he
  refine ⟨nolim.keeps y.toInCall.keep, codeAny_func ?_⟩
  have go := body cdv A outer s H vs Q E ⟨hr.room.deeper _, hr.gds⟩ hsp
  have I : Inv (cxOf CX P w K mg base N q (defScope st) f cdv A outer s H E) [] (start N vs) H s1 := inv_start S hr.room.hd e0 (len _ _ _ _ hsp) r y
  refine wpAny_mono (go [] s1 I) (fun fl s' hs => ?_) (fun _ _ z => z)
  cases fl with
  | ret u =>
    obtain ⟨v, σ', H', J, rv, z⟩ := hs
    exact ⟨v, H', J.os, J.bare, J.base, J.hok, rv, z⟩
  | next =>
    obtain ⟨σ', H', J, z⟩ := hs
    exact ⟨V.non, H', J.os, J.bare, J.base, J.hok, rfl, z⟩
  | brk =>
    obtain ⟨_, _, _, z⟩ := hs
    exact z.elim
  | cont =>
    obtain ⟨_, _, _, z⟩ := hs
    exact z.elim
end
section
variable {X : Cx} {CX : CXT} {k : Nat} {f : Addr} {fd : FuncData} {ps : List Str} {sp : Sp} {E : XK}
theorem run_g {pins : List (Addr × Obj)} {σ : L2.St} {H : Hp} {s : Shared} {Q : VK} {args : Args} {us : List Value} {vs : List V} (F : FnG X.prog X.w X.K X.mg X.base CX k f fd ps sp) (hr : Rm k X.A) (hx : Passes CX X E)
    (I : Inv X pins σ H s) (hb : BindsTo s fd args (ps.zip us)) (r : Vals vs us) (h : sp vs H Q E) : wpAny (model X.prog X.w) X.A (call (.ref f) args.pos args.kw) (EP X pins σ Q) X.xe s := by
  refine wpAny_call (codeAny_mono (F.run X.A X.stack s H args us vs Q E hr I.env0 hb r h) fun z s' hq => ?_)
  match z, hq with
  | .error e, hq => exact hx pins σ H s e s' I hq
  | .ok (.ret u), hq => exact I.after hq
end
abbrev Ct := List OV → Mu → (OV → Mu → Prop) → Prop
def spOf (C : Ct) : Sp := fun vs H Q _ => ∃ os μ G Φ, RM G H μ ∧ ROs G vs os ∧ C os μ Φ ∧ Fin G Φ Q
structure Fc (P : Program) (w : World) (K : PySem.W.Frag) (mg : Str → Option Value) (base : Heap) (x : Str) (st : Stmt) (ps : List Str) (k : Nat) (C : Ct) : Prop where
  ex : ∃ f fd, Fun K x x st f fd ∧ mg x = some (.ref f) ∧ FnG P w K mg base CX0 k f fd ps (spOf C)
section
variable {P : Program} {w : World} {K : PySem.W.Frag} {mg : Str → Option Value} {base : Heap}
theorem rv_start {G : Hp} {N : List Str} {vs : List V} {os : List OV} (r : ROs G vs os) : RV G (os.map some ++ List.replicate (N.length - os.length) none) (start N vs) := by
  unfold L2.start
  refine ⟨by simp only [List.length_append, List.length_map, List.length_replicate, r.length], fun i o h => ?_⟩
  by_cases hi : i < os.length
  · rw [List.getElem?_append_left (by simpa using hi), List.getElem?_map] at h
    have h : os[i]? = some o := by
      cases q : os[i]? with
      | none =>
        rw [q] at h
        cases h
      | some z =>
        rw [q] at h
        cases h
        rfl
    obtain ⟨v, h1, h2⟩ := ROs.get r h
    refine ⟨v, ?_, h2⟩
    rw [List.getElem?_append_left (by rw [List.length_map, r.length]; exact hi), List.getElem?_map, h1]
    rfl
  · rw [List.getElem?_append_right (by simpa using hi), List.getElem?_replicate] at h
    split at h <;> cases h
theorem fc_of {k : Nat} {f : Addr} {x : Str} {st : Stmt} {fd : FuncData} {N ps : List Str} {C : Ct} (F : Fun K x x st f fd) (hm : mg x = some (.ref f)) (S : FnScope N ps (defScope st)) (len : ∀ os μ Φ, C os μ Φ → os.length = ps.length)
    (body : ∀ (cdv : Value) A outer s H E os μ Φ, Rm k (A.deeper (envOfC x (defScope st) s.heap.objs.size f cdv)) → C os μ Φ →
      DSs (cxOf CX0 P w K mg base N x (defScope st) f cdv A outer s H E).nox (defBody st) (os.map some ++ List.replicate (N.length - os.length) none) μ { nx := fun _ μ' => Φ (.im .none) μ', rt := Φ }) : Fc P w K mg base x st ps (k + 1) C := by
  refine ⟨⟨f, fd, F, hm, fng_of F S (fun vs H Q E h => ?_) fun cdv A outer s H vs Q E hr h => ?_⟩⟩
  · obtain ⟨os, μ, G, Φ, _, r, c, _⟩ := h
    rw [r.length]
    exact len _ _ _ c
  · obtain ⟨os, μ, G, Φ, m, r, c, fin⟩ := h
    refine WSs.of (PSs.nox pwss) (body cdv A outer s H E os μ Φ hr c G H _ m (rv_start r) _ ⟨fun ρ' μ' G' H' σ' q e m' _ => fin _ _ _ _ _ q e m' Dv.non, fin, fun _ _ _ _ _ q => q.elim, fun _ _ _ _ _ q => q.elim⟩)
theorem Fc.mono {j k : Nat} {x : Str} {st : Stmt} {ps : List Str} {C : Ct} (F : Fc P w K mg base x st ps j C) (h : j ≤ k) : Fc P w K mg base x st ps k C := by
  obtain ⟨f, fd, a, b, c⟩ := F.ex
  exact ⟨⟨f, fd, a, b, c.mono h⟩⟩
end
section
variable {X : Cx} {a b c e : Expr} {es rest : List Expr} {ρ : Rho} {μ : Mu} {Φ : OV → Mu → Prop} {pos p : Pos} {x : Str} {st : Stmt} {ps : List Str} {k : Nat} {C : Ct}
theorem passE {X : Cx} : Passes CX0 X fun _ _ _ => False := fun _ _ _ _ _ _ _ h => h.elim
theorem de_call (F : Fc X.prog X.w X.K X.mg X.base x st ps k C) (hr : Rm k X.A) (hg : Gl X x)
    (hb : ∀ (kV doc pm : Value) (an : Option Addr) (cdv ct : Value) (us : List Value), us.length = ps.length → bindArgs (PySem.W.fnOf x x (defArgs st) (defBody st) (defScope st) .none kV doc pm an cdv ct) ⟨us, []⟩ = pure (ps.zip us))
    (h : DA X (e :: es) ρ μ fun os μ1 => C os μ1 Φ) (hdb : (x == ("__debug__" : Str)) = false := by decide) (he : starEach (e :: es) X.env = (false, eval e X.env) :: starEach es X.env := by rfl) (hpl : (backTo pos (starEach es X.env)).any (·.1) = false := by rfl) :
    DE X (.Call (.Name x p) (e :: es) [] pos) ρ μ Φ := fun G H σ m v Q f pins s I => by
  obtain ⟨fa, fd, FF, hm, FG⟩ := F.ex
  refine wpAny_Call_Name_kw (ld_glob I hg hm ?_ hdb)
  have hargs : WA X (e :: es) σ H fun vs H1 => spOf C vs H1 Q fun _ _ _ => False := h G H σ m v _ fun vs os μ1 G1 H1 q1 e1 m1 r1 => ⟨os, μ1, G1, Φ, m1, r1, q1, f.later e1⟩
  refine PySem.W.callWith_K (h₀ := X.base) I.ok.mod.kin FF.kp (thn (hargs pos pins s I) fun us s1 ⟨vs, H1, I1, r, q⟩ => ⟨I1.kIn, ?_⟩) he hpl
  refine run_g (args := ⟨us, []⟩) FG hr passE I1 ?_ r q
  obtain ⟨oc, od, kV, doc, pm, an, cdv, ct, osl, rfl, lk, hcd⟩ := FF.ex
  exact .of_eq (hb kV doc pm an cdv ct us (by rw [← r.length]; exact FG.len _ _ _ _ q))
def pick {α : Type} (ix : List Nat) (l : List α) : List α := ix.filterMap fun i => l[i]?
end
end Nx
namespace Nx
open PySem PySem.Spec PyProof.Rows L2
mutual
inductive DR (μ : Mu) : OV → PyData → Prop
  | im (d : PyData) : DR μ (.im d) d
  | own {a : Addr} {l : List OV} {ds : List PyData} : μ a = some l → DRs μ l ds → DR μ (.own a) (.list ds)
inductive DRs (μ : Mu) : List OV → List PyData → Prop
  | nil : DRs μ [] []
  | cons {o : OV} {os : List OV} {d : PyData} {ds : List PyData} : DR μ o d → DRs μ os ds → DRs μ (o :: os) (d :: ds)
end
theorem DRs.ims {μ : Mu} : ∀ ds : List PyData, DRs μ (ds.map .im) ds
  | [] => .nil
  | d :: ds => .cons (.im d) (DRs.ims ds)
mutual
theorem DR.at {G H : Hp} {μ : Mu} (m : RM G H μ) : ∀ {v : V} {o : OV} {d : PyData}, DR μ o d → RO G v o → Dv H v d
  | _, _, _, .im d, r => Dv.mono m.ex r
  | v, _, _, .own (a := a) h hs, r => by
    have r : v = .ref a := r
    subst r
    obtain ⟨_, vs, e, w⟩ := m.own _ _ h
    exact .lst e (DRs.at m hs w)
theorem DRs.at {G H : Hp} {μ : Mu} (m : RM G H μ) : ∀ {vs : List V} {os : List OV} {ds : List PyData}, DRs μ os ds → ROs G vs os → DvA H vs ds
  | _, _, _, .nil, .nil => .nil
  | _, _, _, .cons h hs, .cons r rs => .cons (DR.at m h r) (DRs.at m hs rs)
end
structure Bt (mg : Str → Option Value) : Prop where
  len : mg "len" = none
  range : mg "range" = none
  list : mg "list" = none
  tuple : mg "tuple" = none
  sorted : mg "sorted" = none
  abs : mg "abs" = none
  int : mg "int" = none
  str : mg "str" = none
  repr : mg "repr" = none
  all : mg "all" = none
  any : mg "any" = none
  max : mg "max" = none
  min : mg "min" = none
  sum : mg "sum" = none
  enumerate : mg "enumerate" = none
  zip : mg "zip" = none
  isinstance : mg "isinstance" = none
  bool : mg "bool" = none
  set : mg "set" = none
  dict : mg "dict" = none
section
variable {X : Cx} {a b c e : Expr} {es rest : List Expr} {ρ : Rho} {μ : Mu} {Φ : OV → Mu → Prop} {pos p : Pos} {x : Str}
abbrev CR1 := List V → Hp → VK → Prop
def CallD (r : CR1) (os : List OV) (μ : Mu) (Φ : OV → Mu → Prop) : Prop := ∀ G H vs, RM G H μ → ROs G vs os → ∀ Q : VK, Fin G Φ Q → r vs H Q
theorem de_callB {id : String} {r : CR1} (hc : CallR X (.builtin id) r) (hg : Gl X x) (hm : X.mg x = none) (hv : bootBuiltins x = some (.builtin id)) (h : DA X (e :: es) ρ μ fun os μ1 => CallD r os μ1 Φ) (hn : x ≠ "__name__" := by decide) (hdb : (x == ("__debug__" : Str)) = false := by decide)
    (he : starEach (e :: es) X.env = (false, eval e X.env) :: starEach es X.env := by rfl) (hpl : (backTo pos (starEach es X.env)).any (·.1) = false := by rfl) : DE X (.Call (.Name x p) (e :: es) [] pos) ρ μ Φ := fun G H σ m v Q f =>
  WE.of (pe_callB hc hg hm hv pwa hn hdb he hpl) (h G H σ m v _ fun vs os μ1 G1 H1 q1 e1 m1 r1 => q1 G1 H1 vs m1 r1 Q (f.later e1))
theorem de_callT {T : String} {r : CR1} (hc : CallR X (.type T) r) (hg : Gl X x) (hm : X.mg x = none) (hv : bootBuiltins x = some (.type T)) (h : DA X (e :: es) ρ μ fun os μ1 => CallD r os μ1 Φ) (hn : x ≠ "__name__" := by decide) (hdb : (x == ("__debug__" : Str)) = false := by decide)
    (he : starEach (e :: es) X.env = (false, eval e X.env) :: starEach es X.env := by rfl) (hpl : (backTo pos (starEach es X.env)).any (·.1) = false := by rfl) : DE X (.Call (.Name x p) (e :: es) [] pos) ρ μ Φ := fun G H σ m v Q f =>
  WE.of (pe_callTy hc hg hm hv pwa hn hdb he hpl) (h G H σ m v _ fun vs os μ1 G1 H1 q1 e1 m1 r1 => q1 G1 H1 vs m1 r1 Q (f.later e1))
theorem ro1 {G : Hp} {vs : List V} {o : OV} (r : ROs G vs [o]) : ∃ v, vs = [v] ∧ RO G v o := by
  cases r with
  | cons r t =>
    cases t
    exact ⟨_, rfl, r⟩
theorem de_len (B : Bt X.mg) (hg : Gl X "len") (h : DE X e ρ μ fun o μ1 => ∃ l, SqD μ1 o l ∧ Φ (.im (.int (l.length : Nat))) μ1) (he : starEach [e] X.env = (false, eval e X.env) :: starEach [] X.env := by rfl) (hpl : (backTo pos (starEach [] X.env)).any (·.1) = false := by rfl) : DE X (.Call (.Name "len" p) [e] [] pos) ρ μ Φ :=
  de_callB call_len_seq hg B.len PySem.boot_len (he := he) (hpl := hpl) (da_cons (hs := he) (h.imp fun o μ1 ⟨l, hl, q⟩ => da_nil fun G H vs m r Q f => by
    obtain ⟨v, rfl, r1⟩ := ro1 r
    obtain ⟨a, xs, rfl, hx, w⟩ := hl.at m r1
    refine ⟨a, xs, rfl, sq_or hx, ?_⟩
    rw [w.length]
    exact f _ _ _ _ _ q (Ex.refl G) m (Dv.int _)))
theorem de_abs (B : Bt X.mg) (hg : Gl X "abs") (h : DE X e ρ μ fun o μ1 => ∃ i, o = .im (.int i) ∧ Φ (.im (.int (if i < 0 then -i else i))) μ1) (he : starEach [e] X.env = (false, eval e X.env) :: starEach [] X.env := by rfl) (hpl : (backTo pos (starEach [] X.env)).any (·.1) = false := by rfl) : DE X (.Call (.Name "abs" p) [e] [] pos) ρ μ Φ :=
  de_callB call_abs hg B.abs PyProof.Rows.boot_abs (he := he) (hpl := hpl) (da_cons (hs := he) (h.imp fun o μ1 ⟨i, ho, q⟩ => da_nil fun G H vs m r Q f => by
    obtain ⟨v, rfl, r1⟩ := ro1 r
    subst ho
    cases r1
    exact ⟨i, rfl, f _ _ _ _ _ q (Ex.refl G) m (Dv.int _)⟩))
theorem de_int1 (B : Bt X.mg) (hg : Gl X "int") (h : DE X e ρ μ fun o μ1 => (∃ i, o = .im (.int i) ∧ Φ (.im (.int i)) μ1) ∨ ∃ k, o = .im (.bool k) ∧ Φ (.im (.int (if k then 1 else 0))) μ1) (he : starEach [e] X.env = (false, eval e X.env) :: starEach [] X.env := by rfl) (hpl : (backTo pos (starEach [] X.env)).any (·.1) = false := by rfl) : DE X (.Call (.Name "int" p) [e] [] pos) ρ μ Φ :=
  de_callT call_int1 hg B.int PyProof.Rows.boot_int (he := he) (hpl := hpl) (da_cons (hs := he) (h.imp fun o μ1 hq => da_nil fun G H vs m r Q f => by
    obtain ⟨v, rfl, r1⟩ := ro1 r
    rcases hq with ⟨i, rfl, q⟩ | ⟨k, rfl, q⟩
    · cases r1
      exact .inl ⟨i, rfl, f _ _ _ _ _ q (Ex.refl G) m (Dv.int _)⟩
    · cases r1
      exact .inr ⟨k, rfl, f _ _ _ _ _ q (Ex.refl G) m (Dv.int _)⟩))
theorem de_list (B : Bt X.mg) (hg : Gl X "list") (h : DE X e ρ μ fun o μ1 => ∃ ds, SqD μ1 o (ds.map .im) ∧ Φ (.im (.list ds)) μ1) (he : starEach [e] X.env = (false, eval e X.env) :: starEach [] X.env := by rfl) (hpl : (backTo pos (starEach [] X.env)).any (·.1) = false := by rfl) : DE X (.Call (.Name "list" p) [e] [] pos) ρ μ Φ :=
  de_callT call_list_of hg B.list PyProof.Rows.boot_list (he := he) (hpl := hpl) (da_cons (hs := he) (h.imp fun o μ1 ⟨ds, hl, q⟩ => da_nil fun G H vs m r Q f => by
    obtain ⟨v, rfl, r1⟩ := ro1 r
    obtain ⟨a, xs, rfl, hx, w⟩ := hl.at m r1
    refine ⟨a, xs, rfl, sq_or hx, fun l hl => ?_⟩
    have n := m.ex.free hl
    exact f _ _ _ _ _ q (Ex.new n) (m.lay hl) (Dv.lst upd_same (w.ims.mono (Ex.new n)))))
theorem de_listO (B : Bt X.mg) (hg : Gl X "list") (h : DE X e ρ μ fun o μ1 => ∃ l, SqD μ1 o l ∧ ∀ p, μ1 p = none → Φ (.own p) (μ1.put p l)) (he : starEach [e] X.env = (false, eval e X.env) :: starEach [] X.env := by rfl) (hpl : (backTo pos (starEach [] X.env)).any (·.1) = false := by rfl) : DE X (.Call (.Name "list" p) [e] [] pos) ρ μ Φ :=
  de_callT call_list_of hg B.list PyProof.Rows.boot_list (he := he) (hpl := hpl) (da_cons (hs := he) (h.imp fun o μ1 ⟨ds, hl, q⟩ => da_nil fun G H vs m r Q f => by
    obtain ⟨v, rfl, r1⟩ := ro1 r
    obtain ⟨a, xs, rfl, hx, w⟩ := hl.at m r1
    refine ⟨a, xs, rfl, sq_or hx, fun l hl => ?_⟩
    exact f _ _ _ _ _ (q l (m.fresh hl)) (Ex.refl G) (m.new hl w) rfl))
theorem de_tuple (B : Bt X.mg) (hg : Gl X "tuple") (h : DE X e ρ μ fun o μ1 => ∃ ds, SqD μ1 o (ds.map .im) ∧ Φ (.im (.tuple ds)) μ1) (he : starEach [e] X.env = (false, eval e X.env) :: starEach [] X.env := by rfl) (hpl : (backTo pos (starEach [] X.env)).any (·.1) = false := by rfl) : DE X (.Call (.Name "tuple" p) [e] [] pos) ρ μ Φ :=
  de_callT call_tuple_of hg B.tuple PyProof.Rows.boot_tuple (he := he) (hpl := hpl) (da_cons (hs := he) (h.imp fun o μ1 ⟨ds, hl, q⟩ => da_nil fun G H vs m r Q f => by
    obtain ⟨v, rfl, r1⟩ := ro1 r
    generalize hll : ds.map OV.im = ll at hl
    cases hl with
    | tup ds' =>
      have e12 : ds = ds' := by
        have := congrArg (List.map fun o => match o with | OV.im d => d | _ => PyData.none) hll
        simpa [List.map_map, Function.comp_def] using this
      subst e12
      have rr : Dv G v (.tuple ds) := r1
      cases rr with
      | tup h1 w1 => exact ⟨_, _, rfl, .inr ⟨.inl (.inl (m.ex _ _ h1)), f _ _ _ _ _ q (Ex.refl G) m (Dv.tup h1 w1)⟩⟩
    | lst ds' =>
      have hsq : SqD μ1 (.im (.list ds')) (ds.map .im) := by rw [hll]; exact .lst ds'
      obtain ⟨a, xs, rfl, hx, w⟩ := hsq.at m r1
      have hx : H a = some (.lst xs) := by
        rcases hx with z | z
        · exact z
        · have rr : Dv G (.ref a) (.list ds') := r1
          cases rr with
          | lst h1 _ =>
            have := m.ex _ _ h1
            rw [z] at this
            cases this
      refine ⟨a, xs, rfl, .inl ⟨.inl (.inl hx), fun l hl => ?_⟩⟩
      have n := m.ex.free hl
      exact f _ _ _ _ _ q (Ex.new n) (m.lay hl) (Dv.tup upd_same (w.ims.mono (Ex.new n)))
    | own ho =>
      obtain ⟨_, xs, hx, w⟩ := m.own _ _ ho
      have rr : v = .ref _ := r1
      subst rr
      rw [← hll] at w
      refine ⟨_, xs, rfl, .inl ⟨.inl (.inl hx), fun l hl => ?_⟩⟩
      have n := m.ex.free hl
      exact f _ _ _ _ _ q (Ex.new n) (m.lay hl) (Dv.tup upd_same (w.ims.mono (Ex.new n)))))
def srt (ns : List Int) : List Int := ns.mergeSort (fun a b => decide (a ≤ b))
theorem srt_perm (ns : List Int) : (srt ns).Perm ns := List.mergeSort_perm ns _
theorem srt_pw (ns : List Int) : (srt ns).Pairwise (· ≤ ·) := by
  have h := List.pairwise_mergeSort (le := fun a b : Int => decide (a ≤ b)) (fun a b c h1 h2 => by
    simp only [decide_eq_true_eq] at *
    omega) (fun a b => by
    simp only [Bool.or_eq_true, decide_eq_true_eq]
    omega) ns
  exact h.imp fun {a b} h => by simpa using h
theorem srt_eq {ns ms : List Int} (hp : ms.Perm ns) (hw : ms.Pairwise (· ≤ ·)) : ms = srt ns :=
  (hp.trans (srt_perm ns).symm).eq_of_pairwise (fun x y _ _ h1 h2 => Int.le_antisymm h1 h2) hw (srt_pw ns)
theorem de_sorted (B : Bt X.mg) (hg : Gl X "sorted") (h : DE X e ρ μ fun o μ1 => ∃ ns : List Int, RdD μ1 o (.list (ns.map .int)) ∧ Φ (.im (.list ((srt ns).map .int))) μ1) (he : starEach [e] X.env = (false, eval e X.env) :: starEach [] X.env := by rfl) (hpl : (backTo pos (starEach [] X.env)).any (·.1) = false := by rfl) : DE X (.Call (.Name "sorted" p) [e] [] pos) ρ μ Φ :=
  de_callB cr_sortedI hg B.sorted PyProof.Rows.boot_sorted (he := he) (hpl := hpl) (da_cons (hs := he) (h.imp fun o μ1 ⟨ns, hd, q⟩ => da_nil fun G H vs m r Q f => by
    obtain ⟨v, rfl, r1⟩ := ro1 r
    have d := hd.at m r1
    generalize hdd : PyData.list (ns.map .int) = dd at d
    cases d with
    | lst h1 w =>
      cases hdd
      have e1 := w.ints
      subst e1
      refine ⟨_, ns, rfl, .inl (.inl h1), fun ns' p hp hw hn => ?_⟩
      rw [srt_eq hp hw]
      have n := m.ex.free hn
      exact f _ _ _ _ _ q (Ex.new n) (m.lay hn) (Dv.lst upd_same ((DvA.of_ints _).mono (Ex.new n)))
    | _ => cases hdd))
end
end Nx
namespace Nx
open PySem PySem.Spec PyProof.Rows L2
structure Itd where
  its : List OV
  ok : Mu → Prop
def Gives (J : It) (D : Itd) (G1 : Hp) : Prop := ∃ Gd Y, Walk J D.its.length Gd Y ∧ (∀ G' H' μ', Ex G1 G' → RM G' H' μ' → D.ok μ' → Gd H') ∧
  ∀ i H' x H2 G' μ', Ex G1 G' → RM G' H' μ' → D.ok μ' → Y i H' x H2 → i < D.its.length → ∃ G2 o, Ex G' G2 ∧ RM G2 H2 μ' ∧ D.its[i]? = some o ∧ RO G2 x o
def DI (X : Cx) (tg iter : Expr) (ρ : Rho) (μ : Mu) (Ψ : Itd → Mu → Prop) : Prop := ∃ wi, PI X tg iter wi ∧ ∀ G H σ, RM G H μ → RV G ρ σ → ∀ R : It → Hp → Prop, (∀ J D μ1 G1 H1, Ψ D μ1 → Ex G G1 → RM G1 H1 μ1 → Gives J D G1 → R J H1) → wi σ H R
section
variable {X : Cx} {tg e e2 : Expr} {ρ : Rho} {μ : Mu} {Ψ : Itd → Mu → Prop} {p pos : Pos}
theorem DI.imp {iter : Expr} {Ψ' : Itd → Mu → Prop} (h : DI X tg iter ρ μ Ψ) (k : ∀ D μ', Ψ D μ' → Ψ' D μ') : DI X tg iter ρ μ Ψ' := by
  obtain ⟨wi, a, b⟩ := h
  exact ⟨wi, a, fun G H σ m v R f => b G H σ m v R fun J D μ1 G1 H1 q => f J D μ1 G1 H1 (k _ _ q)⟩
theorem gives_list {K : PySem.W.Frag} {a : Addr} {xs : List V} {ds : List PyData} {G : Hp} (h : G a = some (.lst xs)) (w : DvA G xs ds) : Gives (Itl K a) ⟨ds.map .im, fun _ => True⟩ G := by
  refine ⟨fun H => SqL K H a xs, YAt xs, ?_, fun G' H' μ' e m _ => .inl (.inl (m.ex _ _ (e _ _ h))), fun i H' x H2 G' μ' e m _ y _ => ?_⟩
  · show Walk _ (ds.map OV.im).length _ _
    rw [List.length_map, ← w.length]
    exact walk_list
  · obtain ⟨rfl, hx⟩ := y
    obtain ⟨d, h1, h2⟩ := w.getV hx
    exact ⟨G', .im d, Ex.refl _, m, by rw [List.getElem?_map, h1]; rfl, h2.mono e⟩
theorem gives_tup {K : PySem.W.Frag} {a : Addr} {xs : List V} {ds : List PyData} {G : Hp} (h : G a = some (.tup xs)) (w : DvA G xs ds) : Gives (Itt K a) ⟨ds.map .im, fun _ => True⟩ G := by
  refine ⟨fun H => SqT K H a xs, YAt xs, ?_, fun G' H' μ' e m _ => .inl (.inl (m.ex _ _ (e _ _ h))), fun i H' x H2 G' μ' e m _ y _ => ?_⟩
  · show Walk _ (ds.map OV.im).length _ _
    rw [List.length_map, ← w.length]
    exact walk_tup
  · obtain ⟨rfl, hx⟩ := y
    obtain ⟨d, h1, h2⟩ := w.getV hx
    exact ⟨G', .im d, Ex.refl _, m, by rw [List.getElem?_map, h1]; rfl, h2.mono e⟩
theorem gives_range {lo : Int} {n : Nat} {G : Hp} : Gives (Itr lo n) ⟨(List.range n).map fun (k : Nat) => .im (.int (lo + (k : Int))), fun _ => True⟩ G := by
  refine ⟨fun _ => True, YFn fun i => .int (lo + i), ?_, fun _ _ _ _ _ _ => trivial, fun i H' x H2 G' μ' e m _ y hi => ?_⟩
  · show Walk _ ((List.range n).map _).length _ _
    rw [List.length_map, List.length_range]
    exact walk_range
  · obtain ⟨rfl, rfl⟩ := y
    have hi : i < n := by simpa using hi
    exact ⟨G', .im (.int (lo + (i : Int))), Ex.refl _, m, by rw [List.getElem?_map, List.getElem?_range hi]; rfl, Dv.int _⟩
theorem di_range1 (B : Bt X.mg) (hg : Gl X "range") (h : DE X e ρ μ fun o μ1 => ∃ j : Int, o = .im (.int j) ∧ -100000 ≤ j ∧ j ≤ 100000 ∧ Ψ ⟨(List.range j.toNat).map fun (k : Nat) => .im (.int (k : Int)), fun _ => True⟩ μ1)
    (he : starEach [e] X.env = (false, eval e X.env) :: starEach [] X.env := by rfl) : DI X tg (.Call (.Name "range" p) [e] [] pos) ρ μ Ψ :=
  ⟨_, pi_range1 hg B.range pwa (hs := by rw [he]; rfl), fun G H σ m v R f => (da_cons (Λ := fun os μ1 => ∃ j : Int, os = [.im (.int j)] ∧ -100000 ≤ j ∧ j ≤ 100000 ∧ Ψ ⟨(List.range j.toNat).map fun (k : Nat) => .im (.int (k : Int)), fun _ => True⟩ μ1)
      (h.imp fun o μ1 ⟨j, ho, h1, h2, q⟩ => da_nil ⟨j, by rw [ho], h1, h2, q⟩) he) G H σ m v _ fun vs os μ1 G1 H1 q1 e1 m1 r1 => by
    obtain ⟨j, rfl, h1, h2, q⟩ := q1
    obtain ⟨u, rfl, ru⟩ := ro1 r1
    cases ru
    exact ⟨j, rfl, by omega, by omega, f _ _ _ _ _ q e1 m1 (by have := gives_range (lo := 0) (n := j.toNat) (G := G1); simpa only [Int.zero_add] using this)⟩⟩
def prs (xs ys : List PyData) : List PyData := (xs.zip ys).map fun q => .tuple [q.1, q.2]
theorem prs_get {xs ys : List PyData} {i : Nat} {x y : PyData} (h1 : xs[i]? = some x) (h2 : ys[i]? = some y) : (prs xs ys)[i]? = some (.tuple [x, y]) := by
  unfold prs
  rw [List.getElem?_map, List.getElem?_zip_eq_some (z := (x, y)) |>.mpr ⟨h1, h2⟩]
  rfl
def nums (n : Nat) : List PyData := (List.range n).map fun (k : Nat) => PyData.int (k : Int)
theorem nums_get {n i : Nat} (h : i < n) : (nums n)[i]? = some (.int (i : Int)) := by
  unfold nums
  rw [List.getElem?_map, List.getElem?_range h]
  rfl
theorem pair_new {G H' : Hp} {μ' : Mu} {T : Addr} {x y : V} {d e : PyData} (m : RM G H' μ') (hT : H' T = none) (h1 : Dv G x d) (h2 : Dv G y e) : Ex G (upd G T (.tup [x, y])) ∧ RM (upd G T (.tup [x, y])) (upd H' T (.tup [x, y])) μ' ∧ RO (upd G T (.tup [x, y])) (.ref T) (.im (.tuple [d, e])) := by
  have n := m.ex.free hT
  exact ⟨Ex.new n, m.lay hT, Dv.tup upd_same (.cons (h1.mono (Ex.new n)) (.cons (h2.mono (Ex.new n)) .nil))⟩
end
def setAll (ρ : Rho) : List Nat → List PyData → Rho
  | i :: is, d :: ds => setAll (ρ.set i (some (.im d))) is ds
  | _, _ => ρ
inductive Tgt where
  | nm (i : Nat) | tp (is : List Nat)
def Tgt.put : Tgt → OV → Rho → Option Rho
  | .nm i, o, ρ => some (ρ.set i (some o))
  | .tp is, .im (.tuple ds), ρ => if ds.length = is.length then some (setAll ρ is ds) else none
  | .tp _, _, _ => none
def gNames : List Nat → TGs
  | [] => gNil
  | i :: is => gCons (gName i) (gNames is)
def TgtG (K : PySem.W.Frag) : Tgt → TG
  | .nm i => gName i
  | .tp is => gTup K is.length (gNames is)
theorem names_run {G H : Hp} {Q : L2.St → Hp → Prop} : ∀ (is : List Nat) {xs : List V} {ds : List PyData} {ρ : Rho} {σ : L2.St}, RV G ρ σ → DvA G xs ds → ds.length = is.length → (∀ σ', RV G (setAll ρ is ds) σ' → Q σ' H) → gNames is xs σ H Q
  | [], _, _, _, _, w, .nil, _, q => ⟨rfl, q _ w⟩
  | i :: is, _, _, _, _, w, .cons hd tl, hl, q => ⟨_, _, rfl, names_run is (w.set (o := .im _) hd) tl (by simpa using hl) q⟩
  | i :: is, _, _, _, _, w, .nil, hl, q => by cases hl
theorem tgt_run {K : PySem.W.Frag} {t : Tgt} {G H : Hp} {μ : Mu} {v : V} {o : OV} {ρ ρ' : Rho} {σ : L2.St} {Q : L2.St → Hp → Prop} (m : RM G H μ) (r : RO G v o) (w : RV G ρ σ) (h : t.put o ρ = some ρ') (q : ∀ σ', RV G ρ' σ' → Q σ' H) : TgtG K t v σ H Q := by
  cases t with
  | nm i =>
    cases h
    exact q _ (w.set r)
  | tp is =>
    cases o with
    | own a => cases h
    | scr K ns => cases h
    | pr p d => cases h
    | dic kvs => cases h
    | ob P => cases h
    | im d =>
      cases d with
      | tuple ds =>
        have h : (if ds.length = is.length then some (setAll ρ is ds) else none) = some ρ' := h
        split at h
        · rename_i hl
          cases h
          have r : Dv G v (.tuple ds) := r
          cases r with
          | tup h1 w1 => exact ⟨_, _, rfl, .inl (.inl (m.ex _ _ h1)), by rw [w1.length, hl], names_run is w w1 hl q⟩
        · cases h
      | _ => cases h
end Nx
namespace Nx
open PySem PySem.Spec PyProof.Rows L2
def Tgt.slots : Tgt → List Nat
  | .nm i => [i]
  | .tp is => is
theorem wipe_set {σ : L2.St} {x : Option V} {j : Nat} : ∀ {vs : List Nat}, j ∈ vs → L2.wipe (σ.set j x) vs = L2.wipe σ vs
  | [], h => nomatch h
  | v :: vs, h => by
    show (L2.wipe (σ.set j x) vs).set v none = (L2.wipe σ vs).set v none
    rcases List.mem_cons.mp h with e | e
    · subst e
      have comm : ∀ (ws : List Nat), (L2.wipe (σ.set j x) ws).set j none = (L2.wipe σ ws).set j none := by
        intro ws
        induction ws with
        | nil => exact List.set_set _
        | cons w ws ih =>
          show ((L2.wipe (σ.set j x) ws).set w none).set j none = ((L2.wipe σ ws).set w none).set j none
          by_cases hw : w = j
          · subst hw
            rw [List.set_set, List.set_set]
            exact ih
          · rw [List.set_comm _ _ hw, List.set_comm _ _ hw, ih]
      exact comm vs
    · rw [wipe_set e]
theorem wipe_idem (σ : L2.St) (vs : List Nat) : L2.wipe (L2.wipe σ vs) vs = L2.wipe σ vs := by
  have go : ∀ (ws : List Nat) (τ : L2.St), (∀ i ∈ ws, i ∈ vs) → L2.wipe (L2.wipe τ ws) vs = L2.wipe τ vs := by
    intro ws
    induction ws with
    | nil => intro τ _; rfl
    | cons w ws ih =>
      intro τ h
      show L2.wipe ((L2.wipe τ ws).set w none) vs = _
      rw [wipe_set (h w (List.mem_cons_self ..))]
      exact ih τ fun i hi => h i (List.mem_cons_of_mem _ hi)
  exact go vs σ fun _ h => h
theorem names_runW {G H : Hp} {Q : L2.St → Hp → Prop} (vs : List Nat) : ∀ (is : List Nat) {xs : List V} {ds : List PyData} {ρ : Rho} {σ : L2.St}, (∀ i ∈ is, i ∈ vs) → RV G ρ σ → DvA G xs ds → ds.length = is.length → (∀ σ', RV G (setAll ρ is ds) σ' → L2.wipe σ' vs = L2.wipe σ vs → Q σ' H) → gNames is xs σ H Q
  | [], _, _, _, _, _, w, .nil, _, q => ⟨rfl, q _ w rfl⟩
  | i :: is, _, _, _, _, hs, w, .cons hd tl, hl, q => ⟨_, _, rfl, names_runW vs is (fun j hj => hs j (List.mem_cons_of_mem _ hj)) (w.set (o := .im _) hd) tl (by simpa using hl) fun σ' r e => q σ' r (e.trans (wipe_set (hs i (List.mem_cons_self ..))))⟩
  | i :: is, _, _, _, _, _, w, .nil, hl, q => by cases hl
theorem tgt_runW {K : PySem.W.Frag} {t : Tgt} {G H : Hp} {μ : Mu} {v : V} {o : OV} {ρ ρ' : Rho} {σ : L2.St} {Q : L2.St → Hp → Prop} (vs : List Nat) (hs : ∀ i ∈ t.slots, i ∈ vs) (m : RM G H μ) (r : RO G v o) (w : RV G ρ σ) (h : t.put o ρ = some ρ') (q : ∀ σ', RV G ρ' σ' → L2.wipe σ' vs = L2.wipe σ vs → Q σ' H) : TgtG K t v σ H Q := by
  cases t with
  | nm i =>
    cases h
    exact q _ (w.set r) (wipe_set (hs i (List.mem_cons_self ..)))
  | tp is =>
    cases o with
    | own a => cases h
    | scr K ns => cases h
    | pr p d => cases h
    | dic kvs => cases h
    | ob P => cases h
    | im d =>
      cases d with
      | tuple ds =>
        have h : (if ds.length = is.length then some (setAll ρ is ds) else none) = some ρ' := h
        split at h
        · rename_i hl
          cases h
          have r : Dv G v (.tuple ds) := r
          cases r with
          | tup h1 w1 => exact ⟨_, _, rfl, .inl (.inl (m.ex _ _ h1)), by rw [w1.length, hl], names_runW vs is hs w w1 hl q⟩
        · cases h
      | _ => cases h
def wipeR (ρ : Rho) (vs : List Nat) : Rho := vs.foldr (fun v r => r.set v none) ρ
theorem RV.wipeV {G : Hp} {ρ : Rho} {σ : L2.St} (h : RV G ρ σ) (vs : List Nat) : RV G (wipeR ρ vs) (L2.wipe σ vs) := h.wipe vs
theorem del_put {μ : Mu} {a : Addr} {l : List OV} (h : μ a = none) : (μ.put a l).del a = μ := by
  refine mu_ext (fun b => ?_) rfl rfl
  show (if b = a then none else if b = a then some l else μ b) = μ b
  by_cases e : b = a
  · rw [if_pos e, e, h]
  · rw [if_neg e, if_neg e]
section
variable {X : Cx} {tg iter elt : Expr} {ifs : List Expr} {scope : Scope} {ρ : Rho} {μ : Mu} {Φ : OV → Mu → Prop} {pos : Pos}
abbrev Blk (X : Cx) (scope : Scope) (s : Shared) (H : Hp) (C : Addr) (cl : List (Str × Addr)) (fp : List Addr) : Cx := X.blk s H scope (compEnvC scope cl C X.env) fp
def DEb (X : Cx) (scope : Scope) (e : Expr) (ρ : Rho) (μ : Mu) (Φ : OV → Mu → Prop) : Prop := ∀ s H C cl fp, DE (Blk X scope s H C cl fp) e ρ μ Φ
def DTb (X : Cx) (scope : Scope) (ifs : List Expr) (ρ : Rho) (μ : Mu) (Φ : Bool → Mu → Prop) : Prop := match ifs with
  | [] => Φ true μ
  | [c] => ∀ s H C cl fp, DT (Blk X scope s H C cl fp) c ρ μ Φ
  | _ => False
def WTb (X : Cx) (scope : Scope) (ifs : List Expr) : TT := match ifs with
  | [] => tYes
  | [c] => fun σ H Q => ∀ s H0 C cl fp, WT (Blk X scope s H0 C cl fp) c σ H Q
  | _ => fun _ _ _ => False
theorem pwtb (s : Shared) (H : Hp) (C : Addr) (cl : List (Str × Addr)) (fp : List Addr) : PTs (Blk X scope s H C cl fp) ifs (WTb X scope ifs) := by
  match ifs with
  | [] => exact pts_nil
  | [c] => exact pts_one ⟨fun pins s' σ H' Q I h => h s H C cl fp pins s' I⟩
  | _ :: _ :: _ => exact ⟨fun _ _ _ _ _ _ h => h.elim⟩
theorem DTb.run {G H : Hp} {σ : L2.St} {Ψ : Bool → Mu → Prop} (h : DTb X scope ifs ρ μ Ψ) (m : RM G H μ) (v : RV G ρ σ) {Q : Bool → Hp → Prop} (f : ∀ b μ' G' H', Ψ b μ' → Ex G G' → RM G' H' μ' → Q b H') : WTb X scope ifs σ H Q := by
  match ifs, h with
  | [], h => exact f _ _ _ _ h (Ex.refl G) m
  | [c], h => exact fun s H0 C cl fp => h s H0 C cl fp G H σ m v Q f
def LcD (X : Cx) (scope : Scope) (ifs : List Expr) (elt : Expr) (t : Tgt) (vs : List Nat) (ρ : Rho) (D : Itd) (μ1 : Mu) (done : List OV → Mu → Prop) : Prop :=
  ∃ Pv : Nat → List OV → Mu → Prop, D.its.length ≤ 50000 ∧ Pv 0 [] μ1 ∧ (∀ i acc μ' Dl, Pv i acc μ' → μ' Dl = none → D.ok (μ'.put Dl acc)) ∧ (∀ acc μ', Pv D.its.length acc μ' → done acc μ') ∧
    ∀ i acc μ' o, D.its[i]? = some o → Pv i acc μ' → ∃ ρ', t.put o (wipeR ρ vs) = some ρ' ∧ ∀ Dl, μ' Dl = none →
      DTb X scope ifs ρ' (μ'.put Dl acc) fun k μ2 => if k = true then DEb X scope elt ρ' μ2 fun o' μ3 => ∃ μ4, μ3 = μ4.put Dl acc ∧ μ4 Dl = none ∧ Pv (i + 1) (acc ++ [o']) μ4 else ∃ μ4, μ2 = μ4.put Dl acc ∧ μ4 Dl = none ∧ Pv (i + 1) acc μ4
def WEb (X : Cx) (scope : Scope) (elt : Expr) : TE := fun σ H Q => ∀ s H0 C cl fp, WE (Blk X scope s H0 C cl fp) elt σ H Q
theorem lc_run {own : List (Str × Nat)} {t : Tgt} (hs : ∀ i ∈ t.slots, i ∈ own.map (·.2)) {G : Hp} {σ : L2.St} (v : RV G ρ σ) {J : It} {D : Itd} {μ1 : Mu} {G1 H1 : Hp} {done : List OV → Mu → Prop} {Qd : Addr → Hp → Prop}
    (h : LcD X scope ifs elt t (own.map (·.2)) ρ D μ1 done) (e1 : Ex G G1) (m1 : RM G1 H1 μ1) (gv : Gives J D G1) (fin : ∀ Dl acc μ' G' H', done acc μ' → μ' Dl = none → Ex G1 G' → RM G' H' (μ'.put Dl acc) → Qd Dl H') (Dl : Addr) (hD : H1 Dl = none) :
    ∃ W : Nat → Nat → Hp → Prop, (∃ m, W 0 m (upd H1 Dl (.lst []))) ∧ ∀ i m H, W i m H →
      (J.stop i H ∧ Qd Dl H) ∨ (J.go i H ∧ ∃ Nx : Hp → Prop, (∀ H', Nx H' → ∃ m', m' < m ∧ W (i + 1) m' H') ∧ ∀ x H', J.yld i H x H' → TgtG X.K t x (L2.wipe σ (own.map (·.2))) H' fun σ2 H2 => L2.wipe σ2 (own.map (·.2)) = L2.wipe σ (own.map (·.2)) ∧ WTb X scope ifs σ2 H2 fun b H3 =>
        if b = true then WEb X scope elt σ2 H3 fun y H4 => ∃ acc, H4 Dl = some (.lst acc) ∧ acc.length < sizeLine ∧ Nx (upd H4 Dl (.lst (acc ++ [y]))) else Nx H3) := by
  obtain ⟨Pv, hn, h0, hok, hdone, step⟩ := h
  obtain ⟨Gd, Y, wk, hG, hY⟩ := gv
  refine lc_it wk (Qd := Qd Dl) (fun i H => ∃ acc μ' G', acc.length ≤ i ∧ Pv i acc μ' ∧ μ' Dl = none ∧ Ex G1 G' ∧ RM G' H (μ'.put Dl acc)) ⟨[], μ1, G1, Nat.le_refl _, h0, m1.fresh hD, Ex.refl _, m1.new hD .nil⟩ ?_ ?_ ?_
  · rintro i H _ ⟨acc, μ', G', _, p, n, e, m⟩
    exact hG G' H _ e m (hok i acc μ' Dl p n)
  · rintro i x H H' hi ⟨acc, μ', G', hl, p, n, e, m⟩ y
    obtain ⟨G2, o, e2, m2, ho, r2⟩ := hY i H x H' G' _ e m (hok i acc μ' Dl p n) y hi
    obtain ⟨ρ', hp, hb⟩ := step i acc μ' o ho p
    have v2 : RV G2 (wipeR ρ (own.map (·.2))) (L2.wipe σ (own.map (·.2))) := (v.mono ((e1.trans e).trans e2)).wipeV _
    refine tgt_runW (own.map (·.2)) hs m2 r2 v2 hp fun σ' v3 hw => ⟨hw.trans (wipe_idem _ _), (hb Dl n).run m2 v3 fun b μ3 G3 H3 q3 e3 m3 => ?_⟩
    cases b with
    | true =>
      rw [if_pos rfl] at q3 ⊢
      intro s H0 C cl fp
      refine q3 s H0 C cl fp G3 H3 σ' m3 (v3.mono e3) _ fun vy o' μ4 G4 H4 q4 e4 m4 r4 => ?_
      obtain ⟨μ5, rfl, n5, p5⟩ := q4
      obtain ⟨g5, accv, h5, w5⟩ := m4.own Dl acc put_same
      refine ⟨accv, h5, by rw [w5.length]; exact Nat.lt_of_lt_of_le (show acc.length < 100000 by omega) (by decide), acc ++ [o'], μ5, G4, by rw [List.length_append]; exact Nat.succ_le_succ hl, p5, n5, ((e.trans e2).trans e3).trans e4, ?_⟩
      have m5 := m4.chg (p := Dl) put_same (w5.snoc r4)
      rw [put_put] at m5
      exact m5
    | false =>
      rw [if_neg (by decide)] at q3 ⊢
      obtain ⟨μ5, rfl, n5, p5⟩ := q3
      exact ⟨acc, μ5, G3, Nat.le_succ_of_le hl, p5, n5, (e.trans e2).trans e3, m3⟩
  · rintro H ⟨acc, μ', G', hl, p, n, e, m⟩
    exact fin Dl acc μ' G' H (hdone acc μ' p) n e m
theorem pweb (s : Shared) (H : Hp) (C : Addr) (cl : List (Str × Addr)) (fp : List Addr) : PE (Blk X scope s H C cl fp) elt (WEb X scope elt) := ⟨fun pins s' σ H' Q I h => h s H C cl fp pins s' I⟩
theorem de_lcO {own : List (Str × Nat)} (t : Tgt) (hc : X.calm = true) (hN : X.N.Nodup) (ok : BlkOk X.N X.env.scope scope own) (hs : ∀ i ∈ t.slots, i ∈ own.map (·.2))
    (hg : ∀ s H C cl fp, PG (Blk X scope s H C cl fp) tg (TgtG X.K t)) (h : DI X tg iter ρ μ fun D μ1 => LcD X scope ifs elt t (own.map (·.2)) ρ D μ1 fun acc μ' => ∀ p, μ' p = none → Φ (.own p) (μ'.put p acc))
    (hf : ∀ x, foldedSetIterable iter X.env x = pure x := by intro _; rfl) : DE X (.ListComp elt [⟨tg, iter, ifs, 0⟩] scope pos) ρ μ Φ := by
  obtain ⟨wi, pi, run⟩ := h
  intro G H σ m v Q f
  refine WE.of (pe_lc (own := own) hc hN pi ok hg (fun s H C cl fp => pwtb s H C cl fp) (fun s H C cl fp => pweb s H C cl fp) hf) (run G H σ m v _ fun J D μ1 G1 H1 q e1 m1 gv Dl hD => ?_)
  exact lc_run hs v q e1 m1 gv (Qd := fun Dl H => Q (.ref Dl) H) (fun Dl acc μ' G' H' d n e m' => f _ _ _ _ _ (d Dl n) (e1.trans e) m' rfl) Dl hD
theorem de_lc {own : List (Str × Nat)} (t : Tgt) (hc : X.calm = true) (hN : X.N.Nodup) (ok : BlkOk X.N X.env.scope scope own) (hs : ∀ i ∈ t.slots, i ∈ own.map (·.2))
    (hg : ∀ s H C cl fp, PG (Blk X scope s H C cl fp) tg (TgtG X.K t)) (h : DI X tg iter ρ μ fun D μ1 => LcD X scope ifs elt t (own.map (·.2)) ρ D μ1 fun acc μ' => ∃ ds, acc = ds.map .im ∧ Φ (.im (.list ds)) μ')
    (hf : ∀ x, foldedSetIterable iter X.env x = pure x := by intro _; rfl) : DE X (.ListComp elt [⟨tg, iter, ifs, 0⟩] scope pos) ρ μ Φ := by
  refine de_frz (ds := []) (p := 0) (de_lcO t hc hN ok hs hg (h.imp fun D μ1 hL => ?_) hf)
  obtain ⟨Pv, a, b, c, d, e⟩ := hL
  refine ⟨Pv, a, b, c, fun acc μ' p q hq => ?_, e⟩
  obtain ⟨ds, rfl, z⟩ := d acc μ' p
  exact ⟨q, ds, rfl, put_same, by rw [del_put hq]; exact z⟩
def Xt (μ μ' : Mu) : Prop := ∀ a l, μ a = some l → μ' a = some l
theorem Xt.put {μ : Mu} {p : Addr} {l : List OV} (h : μ p = none) : Xt μ (μ.put p l) := fun a m e => by
  rw [put_ne (fun z => by rw [z, h] at e; cases e)]
  exact e
end
end Nx
namespace Nx
open PySem PySem.Spec PyProof.Rows L2
section
variable {X : Cx} {a b c e o : Expr} {es : List Expr} {st : Stmt} {ss : List Stmt} {ρ : Rho} {μ : Mu} {D : DEnds} {Φ : OV → Mu → Prop} {pos : Pos}
theorem dss_nil (h : D.nx ρ μ) : DSs X [] ρ μ D := fun G H σ m v E f => WSs.of pss_nil (f.nx ρ μ G H σ h (Ex.refl G) m v)
theorem dss_one (h : DS X st ρ μ D) : DSs X [st] ρ μ D := fun G H σ m v E f => WSs.of (pss_one pws) (h G H σ m v E f)
theorem dss_cons (h : DS X st ρ μ { D with nx := fun ρ' μ' => DSs X ss ρ' μ' D }) : DSs X (st :: ss) ρ μ D := fun G H σ m v E f =>
  WSs.of (pss_cons pws pwss) (h G H σ m v _ ⟨fun ρ' μ' G' H' σ' q e m' v' => q G' H' σ' m' v' E (f.later e), f.rt, f.bk, f.ct⟩)
theorem ds_expr (h : DE X e ρ μ fun _ μ1 => D.nx ρ μ1) (hs : swapsWith e none pos.line X.env = pure false := by rfl) : DS X (.Expr e pos) ρ μ D := fun G H σ m v E f =>
  WS.of (ps_expr pwe hs) (h G H σ m v _ fun vx x μ1 G1 H1 q1 e1 m1 r1 => f.nx _ _ _ _ _ q1 e1 m1 (v.mono e1))
theorem ds_ret (h : DE X e ρ μ D.rt) : DS X (.Return (some e) pos) ρ μ D := fun G H σ m v E f => WS.of (ps_ret pwe) (h G H σ m v _ f.rt)
theorem ds_if {s1 s2 : List Stmt} (h : DT X c ρ μ fun k μ1 => if k = true then DSs X s1 ρ μ1 D else DSs X s2 ρ μ1 D) : DS X (.If c s1 s2 pos) ρ μ D := fun G H σ m v E f =>
  WS.of (ps_if pwt pwss pwss) (h G H σ m v _ fun k μ1 G1 H1 q e1 m1 => by
    dsimp only at q
    split at q
    · rename_i hk
      rw [if_pos hk]
      exact q G1 H1 σ m1 (v.mono e1) E (f.later e1)
    · rename_i hk
      rw [if_neg hk]
      exact q G1 H1 σ m1 (v.mono e1) E (f.later e1))
theorem ds_set (i : Nat) {x : Str} {p' : Pos} (hN : X.N.Nodup) (hi : X.N[i]? = some x) (hx : Loc X.env.scope x) (h : DE X e ρ μ fun z μ1 => D.nx (ρ.set i (some z)) μ1) (hs : swapsWith e (some (.Name x p')) pos.line X.env = pure false := by rfl)
    (hf : X.fn x = true ∨ X.env.scope.names.lookup x = some .local := by first | exact .inl rfl | exact .inr rfl | assumption) : DS X (.Assign [.Name x p'] e pos) ρ μ D := fun G H σ m v E f =>
  WS.of (ps_set hN hi hx pwe hs hf) (h G H σ m v _ fun vx z μ1 G1 H1 q1 e1 m1 r1 => f.nx _ _ _ _ _ q1 e1 m1 ((v.mono e1).set r1))
theorem ds_asg (t : Tgt) {tg : Expr} (hg : PG X tg (TgtG X.K t)) (h : DE X e ρ μ fun z μ1 => ∃ ρ', t.put z ρ = some ρ' ∧ D.nx ρ' μ1) (hs : swapsWithSole [tg] e pos.line X.env = pure false := by rfl) (hw : swappedStores [tg] e X.env = pure none := by rfl)
    (h1 : (assignEach [tg] X.env).map (·.2) = [assign tg X.env] := by rfl) : DS X (.Assign [tg] e pos) ρ μ D := fun G H σ m v E f =>
  WS.of (ps_asg pwe hg hs hw h1) (h G H σ m v _ fun vx z μ1 G1 H1 ⟨ρ', hp, q1⟩ e1 m1 r1 => tgt_run m1 r1 (v.mono e1) hp fun σ' v' => f.nx _ _ _ _ _ q1 e1 m1 v')
theorem ds_par (i j : Nat) {x y : Str} {px py pt : Pos} {kt k2 pt2} (hc : X.calm = true) (hN : X.N.Nodup) (hi : X.N[i]? = some x) (hj : X.N[j]? = some y) (hij : i ≠ j)
    (hx : X.env.scope.names.lookup x = some .local) (hy : X.env.scope.names.lookup y = some .local) (hw : swappedStores [.Tuple [.Name x px, .Name y py] kt pt] (.Tuple [a, b] k2 pt2) X.env = pure (some [x, y]))
    (h : DA X [a, b] ρ μ fun os μ1 => ∃ u v, os = [u, v] ∧ D.nx ((ρ.set i (some u)).set j (some v)) μ1)
    (hs : swapsWithSole [.Tuple [.Name x px, .Name y py] kt pt] (.Tuple [a, b] k2 pt2) pos.line X.env = pure false := by rfl) : DS X (.Assign [.Tuple [.Name x px, .Name y py] kt pt] (.Tuple [a, b] k2 pt2) pos) ρ μ D := fun G H σ m v E f =>
  WS.of (ps_par hc hN hi hj hij hx hy pwa hw hs) (h G H σ m v _ fun vs os μ1 G1 H1 q1 e1 m1 r1 => by
    obtain ⟨u, w, rfl, q⟩ := q1
    cases r1 with
    | cons r1 t1 =>
      obtain ⟨z, rfl, r2⟩ := ro1 t1
      exact ⟨_, _, rfl, f.nx _ _ _ _ _ q e1 m1 (((v.mono e1).set r1).set r2)⟩)
theorem ds_par3 (i j l : Nat) {x y z : Str} {px py pz pt : Pos} {kt k2 pt2} (hc : X.calm = true) (hN : X.N.Nodup) (hi : X.N[i]? = some x) (hj : X.N[j]? = some y) (hl : X.N[l]? = some z) (hij : i ≠ j) (hil : i ≠ l) (hjl : j ≠ l)
    (hx : X.env.scope.names.lookup x = some .local) (hy : X.env.scope.names.lookup y = some .local) (hz : X.env.scope.names.lookup z = some .local) (hw : swappedStores [.Tuple [.Name x px, .Name y py, .Name z pz] kt pt] (.Tuple [a, b, c] k2 pt2) X.env = pure (some [x, y, z]))
    (h : DA X [a, b, c] ρ μ fun os μ1 => ∃ u v w, os = [u, v, w] ∧ D.nx (((ρ.set i (some u)).set j (some v)).set l (some w)) μ1)
    (hs : swapsWithSole [.Tuple [.Name x px, .Name y py, .Name z pz] kt pt] (.Tuple [a, b, c] k2 pt2) pos.line X.env = pure false := by rfl) : DS X (.Assign [.Tuple [.Name x px, .Name y py, .Name z pz] kt pt] (.Tuple [a, b, c] k2 pt2) pos) ρ μ D := fun G H σ m v E f =>
  WS.of (ps_par3 hc hN hi hj hl hij hil hjl hx hy hz pwa hw hs) (h G H σ m v _ fun vs os μ1 G1 H1 q1 e1 m1 r1 => by
    obtain ⟨u, w, w', rfl, q⟩ := q1
    cases r1 with
    | cons r1 t1 =>
      cases t1 with
      | cons r2 t2 =>
        obtain ⟨z, rfl, r3⟩ := ro1 t2
        exact ⟨_, _, _, rfl, f.nx _ _ _ _ _ q e1 m1 ((((v.mono e1).set r1).set r2).set r3)⟩)
theorem ds_sub {p' : Pos} (h : DE X e ρ μ fun z μ1 => DE X a ρ μ1 fun x μ2 => DE X b ρ μ2 fun y μ3 => ∃ (p : Addr) (l : List OV) (i : Int) (j : Nat), x = .own p ∧ y = .im (.int i) ∧ μ3 p = some l ∧ ixN l.length i = some j ∧ D.nx ρ (μ3.put p (l.set j z))) (hs : swapsWithSole [.Subscript a b p'] e pos.line X.env = pure false := by rfl)
    (hw : swappedStores [.Subscript a b p'] e X.env = pure none := by rfl) (h1 : (assignEach [.Subscript a b p'] X.env).map (·.2) = [assign (.Subscript a b p') X.env] := by rfl) (hsub : PG X (.Subscript a b p') (gSub (WE X a) (WE X b) rSetL)) : DS X (.Assign [.Subscript a b p'] e pos) ρ μ D := fun G H σ m v E f =>
  WS.of (ps_asg pwe hsub hs hw h1) (h G H σ m v _ fun vz z μ1 G1 H1 q1 e1 m1 r1 => q1 G1 H1 σ m1 (v.mono e1) _ fun vx x μ2 G2 H2 q2 e2 m2 r2 => q2 G2 H2 σ m2 (v.mono (e1.trans e2)) _ fun vy y μ3 G3 H3 q3 e3 m3 r3 => by
    obtain ⟨p, l, i, j, rfl, rfl, hp, hj, q⟩ := q3
    have r2 : vx = .ref p := r2
    subst r2
    cases r3
    obtain ⟨g, vs, hv, w⟩ := m3.own _ _ hp
    refine ⟨p, vs, i, j, rfl, rfl, hv, by rw [w.length]; exact hj, ?_⟩
    exact f.nx _ _ _ _ _ q ((e1.trans e2).trans e3) (m3.chg hp (w.set (r1.mono (e2.trans e3)) j)) (v.mono ((e1.trans e2).trans e3)))
theorem ds_for (t : Tgt) {tg iter : Expr} {body : List Stmt} (hp : PassesOwn (model X.prog X.w) X.A X.env X.xe) (hc : X.calm = true) (hg : PG X tg (TgtG X.K t))
    (h : DI X tg iter ρ μ fun I μ1 => ∃ Pv : Nat → Rho → Mu → Prop, Pv 0 ρ μ1 ∧ (∀ i ρ' μ', Pv i ρ' μ' → I.ok μ') ∧ (∀ (i : Nat) (z : OV) ρ' μ', I.its[i]? = some z → Pv i ρ' μ' → ∃ ρ2, t.put z ρ' = some ρ2 ∧ DSs X body ρ2 μ' { D with nx := Pv (i + 1), ct := Pv (i + 1), bk := D.nx }) ∧ ∀ ρ' μ', Pv I.its.length ρ' μ' → D.nx ρ' μ')
    (hs : ∀ x, foldedSetIterable iter X.env x = pure x := by intro _; rfl) : DS X (.For tg iter body [] pos) ρ μ D := by
  obtain ⟨wi, pi, run⟩ := h
  intro G H σ m v E f
  refine WS.of (ps_for hp hc pi hg pwss hs) (run G H σ m v _ fun J I μ1 G1 H1 q e1 m1 gv => ?_)
  obtain ⟨Pv, h0, hok, step, hd⟩ := q
  obtain ⟨Gd, Y, wk, hG, hY⟩ := gv
  refine for_it wk (D := E) (fun i σ' H' => ∃ ρ' μ' G', Pv i ρ' μ' ∧ Ex G1 G' ∧ RM G' H' μ' ∧ RV G' ρ' σ') ⟨ρ, μ1, G1, h0, Ex.refl _, m1, v.mono e1⟩ ?_ ?_ ?_
  · rintro i σ' H' _ ⟨ρ', μ', G', p, e, m', v'⟩
    exact hG G' H' μ' e m' (hok _ _ _ p)
  · rintro i x σ' H' H2 hi ⟨ρ', μ', G', p, e, m', v'⟩ y
    obtain ⟨G2, z, e2, m2, hz, r2⟩ := hY i H' x H2 G' μ' e m' (hok _ _ _ p) y hi
    obtain ⟨ρ2, hp2, hb⟩ := step i z ρ' μ' hz p
    refine tgt_run m2 r2 (v'.mono e2) hp2 fun σ2 v2 => ?_
    have e02 := (e1.trans e).trans e2
    refine hb G2 H2 σ2 m2 v2 _ ⟨fun ρ3 μ3 G3 H3 σ3 p3 e3 m3 v3 => ⟨ρ3, μ3, G3, p3, (e.trans e2).trans e3, m3, v3⟩, f.rt.later e02, f.nx.later e02, fun ρ3 μ3 G3 H3 σ3 p3 e3 m3 v3 => ⟨ρ3, μ3, G3, p3, (e.trans e2).trans e3, m3, v3⟩⟩
  · rintro σ' H' ⟨ρ', μ', G', p, e, m', v'⟩
    exact f.nx _ _ _ _ _ (hd _ _ p) (e1.trans e) m' v'
theorem ds_setLc {own : List (Str × Nat)} (t : Tgt) (i : Nat) {y : Str} {py spos : Pos} {tg iter elt : Expr} {ifs : List Expr} {scope : Scope} (hc : X.calm = true) (hN : X.N.Nodup) (hy : X.N[i]? = some y) (hyl : X.env.scope.names.lookup y = some .local)
    (hsw : swapsWith (.ListComp elt [⟨tg, iter, ifs, 0⟩] scope pos) (some (.Name y py)) spos.line X.env = pure true) (ok : BlkOk X.N X.env.scope scope own) (hs : ∀ i ∈ t.slots, i ∈ own.map (·.2))
    (hg : ∀ s H C cl fp, PG (Blk X scope s H C cl fp) tg (TgtG X.K t)) (h : DI X tg iter ρ μ fun I μ1 => LcD X scope ifs elt t (own.map (·.2)) ρ I μ1 fun acc μ' => ∃ ds, acc = ds.map .im ∧ D.nx (ρ.set i (some (.im (.list ds)))) μ')
    (hf : ∀ x, foldedSetIterable iter X.env x = pure x := by intro _; rfl) : DS X (.Assign [.Name y py] (.ListComp elt [⟨tg, iter, ifs, 0⟩] scope pos) spos) ρ μ D := by
  obtain ⟨wi, pi, run⟩ := h
  intro G H σ m v E f
  refine WS.of (ps_setLc (own := own) hc hN hy hyl hsw pi ok hg (fun s H C cl fp => pwtb s H C cl fp) (fun s H C cl fp => pweb s H C cl fp) hf) (run G H σ m v _ fun J I μ1 G1 H1 q e1 m1 gv Dl hD => ?_)
  refine lc_run hs v q e1 m1 gv (Qd := fun Dl H => E.nx (σ.set i (some (.ref Dl))) H) (fun Dl acc μ' G' H' d n e m' => ?_) Dl hD
  obtain ⟨ds, rfl, z⟩ := d
  obtain ⟨vs, e0, g0, w, m2⟩ := m'.frz (p := Dl) put_same
  rw [del_put n] at m2
  exact f.nx _ _ _ _ _ z ((e1.trans e).trans (Ex.new g0)) m2 ((v.mono ((e1.trans e).trans (Ex.new g0))).set (o := .im _) (Dv.lst upd_same (w.mono (Ex.new g0))))
variable {apos cpos : Pos}
theorem de_append (h : DE X o ρ μ fun x μ1 => ∃ p l, x = .own p ∧ μ1 p = some l ∧ DE X e ρ μ1 fun y μ2 => ∃ l2, μ2 p = some l2 ∧ l2.length < 100000 ∧ Φ (.im .none) (μ2.put p (l2 ++ [y])))
    (hbase : attributeBase o "append" X.env (eval o X.env) = eval o X.env := by rfl)
    (hfew : ((backTo cpos (starEach [e] X.env)).all (fun x => !x.1) && (backToKw cpos (keywordEach [] X.env)).all (fun x => x.1.isSome) && decide ([e].length + ([] : List Keyword).length + (if ([] : List Keyword).isEmpty then 0 else 1) < 30)) = true := by rfl)
    (hline : (apos.endLine == cpos.line) = true := by rfl) (hs : starEach [e] X.env = (false, eval e X.env) :: starEach [] X.env := by rfl) (hplain : (backTo cpos (starEach [] X.env)).any (·.1) = false := by rfl) :
    DE X (.Call (.Attribute o "append" apos) [e] [] cpos) ρ μ Φ := fun G H σ m v Q f =>
  WE.of (pe_bm PySem.F.plainAttrs_list PySem.F.slot_list_append PySem.F.type_list_append mt_append pwe pwa hbase hfew hline hs hplain) (h G H σ m v _ fun vx x μ1 G1 H1 q1 e1 m1 r1 => by
    obtain ⟨p, l, rfl, hp, q⟩ := q1
    have r1 : vx = .ref p := r1
    subst r1
    obtain ⟨_, vs1, hv1, _⟩ := m1.own _ _ hp
    refine ⟨.inl ⟨rfl, _, .inl (.inl hv1)⟩, ?_⟩
    refine (da_cons (Λ := fun os μ2 => ∃ y l2, os = [y] ∧ μ2 p = some l2 ∧ l2.length < 100000 ∧ Φ (.im .none) (μ2.put p (l2 ++ [y]))) (q.imp fun y μ2 ⟨l2, a1, a2, a3⟩ => da_nil ⟨y, l2, rfl, a1, a2, a3⟩) hs) G1 H1 σ m1 (v.mono e1) _ fun vs os μ2 G2 H2 q2 e2 m2 r2 => ?_
    obtain ⟨y, l2, rfl, hp2, hz, q⟩ := q2
    obtain ⟨u, rfl, ru⟩ := ro1 r2
    obtain ⟨_, ws, hw, ww⟩ := m2.own _ _ hp2
    exact ⟨p, ws, u, rfl, rfl, hw, by rw [ww.length]; exact Nat.lt_of_lt_of_le hz (by decide), f _ _ _ _ _ q (e1.trans e2) (m2.chg hp2 (ww.snoc ru)) Dv.non⟩)
theorem de_popAt (h : DE X o ρ μ fun x μ1 => ∃ p l, x = .own p ∧ μ1 p = some l ∧ DE X e ρ μ1 fun y μ2 => ∃ (l2 : List OV) (i : Nat) (z : OV), y = .im (.int (i : Int)) ∧ i < 100000 ∧ μ2 p = some l2 ∧ l2[i]? = some z ∧ Φ z (μ2.put p (l2.eraseIdx i)))
    (hbase : attributeBase o "pop" X.env (eval o X.env) = eval o X.env := by rfl)
    (hfew : ((backTo cpos (starEach [e] X.env)).all (fun x => !x.1) && (backToKw cpos (keywordEach [] X.env)).all (fun x => x.1.isSome) && decide ([e].length + ([] : List Keyword).length + (if ([] : List Keyword).isEmpty then 0 else 1) < 30)) = true := by rfl)
    (hline : (apos.endLine == cpos.line) = true := by rfl) (hs : starEach [e] X.env = (false, eval e X.env) :: starEach [] X.env := by rfl) (hplain : (backTo cpos (starEach [] X.env)).any (·.1) = false := by rfl) :
    DE X (.Call (.Attribute o "pop" apos) [e] [] cpos) ρ μ Φ := fun G H σ m v Q f =>
  WE.of (pe_bm PySem.F.plainAttrs_list PySem.F.slot_list_pop PySem.F.type_list_pop mt_popAt pwe pwa hbase hfew hline hs hplain) (h G H σ m v _ fun vx x μ1 G1 H1 q1 e1 m1 r1 => by
    obtain ⟨p, l, rfl, hp, q⟩ := q1
    have r1 : vx = .ref p := r1
    subst r1
    obtain ⟨_, vs1, hv1, _⟩ := m1.own _ _ hp
    refine ⟨.inl ⟨rfl, _, .inl (.inl hv1)⟩, ?_⟩
    refine (da_cons (Λ := fun os μ2 => ∃ (l2 : List OV) (i : Nat) (z : OV), os = [.im (.int (i : Int))] ∧ i < 100000 ∧ μ2 p = some l2 ∧ l2[i]? = some z ∧ Φ z (μ2.put p (l2.eraseIdx i))) (q.imp fun y μ2 ⟨l2, i, z, a0, a1, a2, a3, a4⟩ => da_nil ⟨l2, i, z, by rw [a0], a1, a2, a3, a4⟩) hs) G1 H1 σ m1 (v.mono e1) _ fun vs os μ2 G2 H2 q2 e2 m2 r2 => ?_
    obtain ⟨l2, i, z, rfl, hi, hp2, hz, q⟩ := q2
    obtain ⟨u, rfl, ru⟩ := ro1 r2
    cases ru
    obtain ⟨_, ws, hw, ww⟩ := m2.own _ _ hp2
    obtain ⟨y, hy, ry⟩ := ROs.get ww hz
    have hil : i < ws.length := (List.getElem?_eq_some_iff.mp hy).1
    refine ⟨p, ws, i, i, y, rfl, rfl, hw, by omega, by omega, ?_, hy, f _ _ _ _ _ q (e1.trans e2) (m2.chg hp2 (ww.erase i)) ry⟩
    exact (atI_get (i := (i : Int)) (xs := ws) (v := y) (atI_nat hy)).elim fun j hj => by
      have e3 : j = i := by
        have h1 := hj.1
        unfold seqIndex? at h1
        split at h1 <;> simp_all <;> omega
      rw [e3] at hj
      exact hj.1)
end
end Nx
namespace Nx
open PySem PySem.Spec PyProof.Rows L2
def ItO (k : Bool) (h : Heap) (it a : Addr) (i : Nat) : Prop := if k then h.IsListIter it a i else h.IsTupleIter it a i
def SrO (k : Bool) (h : Heap) (a : Addr) (its : Array Value) : Prop := if k then h.IsList a its else h.IsTuple a its
def SqK (k : Bool) (H : Hp) (a : Addr) (xs : List V) : Prop := H a = some (if k then HO.lst xs else HO.tup xs)
def itOb (k : Bool) (a : Addr) : Obj := { cls := .type (if k then "list_iterator" else "tuple_iterator"), data := .fields #[.ref a, .int 0 0] }
theorem draws (k : Bool) {prog : Program} {w : World} {A : Around} (hh : A.handled = none) (it a : Addr) (hne : a ≠ it) (its : Array Value) : Draws prog w A it [it, a] its.size (fun i v => its[i]? = some v) (fun i h => ItO k h it a i ∧ SrO k h a its) := by
  cases k
  · exact Draws.tuple hh it a hne its
  · exact Draws.list hh it a hne its
theorem begins (k : Bool) (a : Addr) (its : Array Value) : Begins (.ref a) (itOb k a) fun h => SrO k h a its := by
  cases k
  · exact begins_tuple a its
  · exact begins_list a its
theorem ItO.new {k : Bool} {h : Heap} {it a : Addr} (e : h.get? it = some (itOb k a)) : ItO k h it a 0 := by
  cases k
  · exact ⟨_, e, rfl, rfl⟩
  · exact ⟨_, e, rfl, rfl⟩
theorem ItO.keep {k : Bool} {h h' : Heap} {it a : Addr} {i : Nat} (x : ItO k h it a i) (e : ∀ o, h.get? it = some o → h'.get? it = some o) : ItO k h' it a i := by
  cases k
  · obtain ⟨o, h1, h2, h3⟩ := x
    exact ⟨o, e o h1, h2, h3⟩
  · obtain ⟨o, h1, h2, h3⟩ := x
    exact ⟨o, e o h1, h2, h3⟩
theorem ItO.obj {k : Bool} {h : Heap} {it a : Addr} {i : Nat} (x : ItO k h it a i) : ∃ o, h.get? it = some o ∧ ∀ v, o.data ≠ .cell v := by
  cases k
  · obtain ⟨o, h1, h2, h3⟩ := x
    exact ⟨o, h1, fun v q => by rw [h3] at q; cases q⟩
  · obtain ⟨o, h1, h2, h3⟩ := x
    exact ⟨o, h1, fun v q => by rw [h3] at q; cases q⟩
theorem SqK.at {X : Cx} {pins : List (Addr × Obj)} {σ : L2.St} {H : Hp} {s : Shared} {k : Bool} {a : Addr} {xs : List V} (I : Inv X pins σ H s) (h : SqK k H a xs) : ∃ its : List Value, Vals xs its ∧ SrO k s.heap a its.toArray := by
  cases k
  · obtain ⟨its, rv, t, _⟩ := I.tuple (X := X) (xs := xs) (a := a) (.inl (.inl h))
    exact ⟨its, rv, t⟩
  · obtain ⟨its, rv, p, _⟩ := I.list (X := X) (xs := xs) (a := a) (.inl (.inl h))
    exact ⟨its, rv, p.isList⟩
theorem mem2 {b e it : Addr} (h : b ∈ [e, it]) : b = e ∨ b = it := by simpa using h
def Jen (k : Bool) (a : Addr) (xs : List V) : It :=
  ⟨fun i H => i < xs.length ∧ SqK k H a xs, fun i H v H' => ∃ T x, v = .ref T ∧ H T = none ∧ H' = upd H T (.tup [.int (i : Nat), x]) ∧ xs[i]? = some x, fun i H => i = xs.length ∧ SqK k H a xs⟩
theorem turn_en {P : Program} {w : World} {K : PySem.W.Frag} {elts : List Expr} {kk : Nat} {tpos : Pos} (k : Bool) (a e it : Addr) (xs : List V) (hei : e ≠ it) :
    Turn P w K (.Tuple elts kk tpos) (Jen k a xs) [e, it] e (fun i h => (∃ old, IsEnum h e it ((i : Nat) : Int) old) ∧ ItO k h it a i) where
  mem := by simp
  obj := fun i h st b hb => by
    obtain ⟨⟨old, he⟩, hi⟩ := st
    rcases mem2 hb with z | z
    · rw [z]
      exact ⟨_, he, fun v q => nomatch q⟩
    · rw [z]
      exact hi.obj
  keep := fun i h h' st kp => by
    obtain ⟨⟨old, he⟩, hi⟩ := st
    exact ⟨⟨old, kp e (by simp) _ he⟩, hi.keep fun o q => kp it (by simp) o q⟩
  item := by
    intro X hP hw hK hc i pins s σ H E I hf st hg
    subst hP hw hK
    obtain ⟨⟨old, he⟩, hit⟩ := st
    obtain ⟨hi, hq⟩ := hg
    obtain ⟨its, rv, hs⟩ := hq.at I
    have na : ∀ b ∈ [e, it], a ≠ b := fun b hb => ne_of_none hq (hf b hb).1
    have W := GoesN.enumFrom (elts := elts) (x1 := kk) (pos := tpos) (A := X.A) 0 (draws (prog := X.prog) (w := X.w) (A := X.A.in1) k (I.ok.hd hc) it a (na it (by simp)) its.toArray) e hei (by
      intro hm
      rcases mem2 hm with z | z
      · exact hei z
      · exact na e (by simp) z.symm) (by simp)
    have hl := rv.length
    refine W.goes i s _ E (by simp; omega) ⟨⟨old, by rw [Int.zero_add]; exact he⟩, hit, hs⟩ fun v h' tk hY st' hk _ => ?_
    obtain ⟨T, t, x, rfl, hT, hx, hTu⟩ := hY
    obtain ⟨⟨old', he'⟩, hit', _⟩ := st'
    have hx' : its[i]? = some x := by simpa using hx
    obtain ⟨y, hy⟩ : ∃ y, xs[i]? = some y := ⟨_, List.getElem?_eq_getElem hi⟩
    obtain ⟨u, hu, ru⟩ := rv.get hy
    rw [hx'] at hu
    cases hu
    have new : ObjOk X.prog X.w (upd H T (.tup [.int (i : Nat), y])) h' T (.tup [.int (i : Nat), y]) :=
      ⟨by show 2 ≤ sizeLine; decide, [.int (0 + (i : Int)) t, x], .cons ⟨t, by rw [Int.zero_add]⟩ (.cons ru .nil), hTu⟩
    have hTn := I.hok.fresh hT
    refine ⟨.ref T, _, I.turnedNew (t' := tk) (ch := [e, it]) hk hf hT new, rfl, ⟨T, y, rfl, hTn, rfl, hy⟩, ⟨⟨old', ?_⟩, hit'⟩, fun b hb => ?_⟩
    · rw [Int.zero_add] at he'
      exact he'
    · have hb' : b ≠ T := fun z => by
        obtain ⟨o, ho, _⟩ : ∃ o, s.heap.get? b = some o ∧ ∀ v, o.data ≠ .cell v := by
          rcases mem2 hb with z | z
          · rw [z]
            exact ⟨_, he, fun v q => nomatch q⟩
          · rw [z]
            exact hit.obj
        have := Heap.lt_size ho
        rw [z] at this
        exact absurd hT (Nat.not_le.mpr this)
      rw [upd_ne hb']
      exact (hf b hb).1
  done := by
    intro X hP hw hK hc i pins s σ H E I hf st hg
    subst hP hw hK
    obtain ⟨⟨old, he⟩, hit⟩ := st
    obtain ⟨rfl, hq⟩ := hg
    obtain ⟨its, rv, hs⟩ := hq.at I
    have na : ∀ b ∈ [e, it], a ≠ b := fun b hb => ne_of_none hq (hf b hb).1
    have W := GoesN.enumFrom (elts := elts) (x1 := kk) (pos := tpos) (A := X.A) 0 (draws (prog := X.prog) (w := X.w) (A := X.A.in1) k (I.ok.hd hc) it a (na it (by simp)) its.toArray) e hei (by
      intro hm
      rcases mem2 hm with z | z
      · exact hei z
      · exact na e (by simp) z.symm) (by simp)
    have hl := rv.length
    have hn : its.toArray.size = xs.length := by simp; omega
    refine W.stops s _ E (by rw [hn]; exact ⟨⟨old, by rw [Int.zero_add]; exact he⟩, hit, hs⟩) fun h' tk hk _ => ?_
    exact I.turnedL hk hf
  self := fun A i s Q E st h => let ⟨⟨_, he⟩, _⟩ := st; wpAny_pyIter_enum he h
set_option maxHeartbeats 1000000 in
theorem meets_en {v : Value} {o : Obj} {Hs : Heap → Prop} (B : Begins v o Hs) :
    Meets (Builtin.«enumerate.__new__» ⟨[.type "enumerate", v], []⟩) (fun _ R s => Hs s.heap ∧
      R (.ok (.ret (.ref (s.heap.push o).objs.size))) { s with heap := (s.heap.push o).push { cls := .type "enumerate", data := .fields #[.none, .bool false, .ref s.heap.objs.size, rawInt 0, .none, .none] } }) :=
  .of_wp fun prog w A R s h => by
    obtain ⟨hp, g, d, tk, os⟩ := s
    obtain ⟨h1, h⟩ := h
    have sub := sub_enumerate
    have it1 : ∀ {A' : Around} {E : Value → Shared → Prop} {Q : Value → Shared → Prop}, Q (.ref hp.objs.size) ⟨hp.push o, g, d, tk, os⟩ → wpAny (model prog w) A' (pyIter v) Q E ⟨hp, g, d, tk, os⟩ := fun q => B.iter prog w _ _ ⟨hp, g, d, tk, os⟩ _ h1 q
    wp_walk using it1
    refine wpAny_stack_any fun st => wpAny_pure ?_
    split
    · rename_i c _ _ _ _ _
      cases (c == Value.type "enumerate") <;> (wp_walk using it1; exact ⟨_, rfl, h⟩)
    · wp_walk using it1
      exact ⟨_, rfl, h⟩
theorem call_en {prog : Program} {w : World} {A : Around} {E : Value → Shared → Prop} {s : Shared} {v : Value} {o : Obj} {Hs : Heap → Prop} {Q : Value → Shared → Prop} (B : Begins v o Hs) (h1 : Hs s.heap)
    (h : ∀ h', IsEnum h' (s.heap.objs.size + 1) s.heap.objs.size 0 .none → h'.get? s.heap.objs.size = some o → (∀ b o, s.heap.get? b = some o → h'.get? b = some o) → Q (.ref (s.heap.objs.size + 1)) { s with heap := h' }) : wpAny (model prog w) A (call (.type "enumerate") [v]) Q E s := by
  refine callType_new F.called_enumerate (by decide) (F.typeCall_enumerate_1 _) (F.newCall_enumerate_1 _) (fun obj => F.args_object_init_2 obj _) F.entry_enumerate_new (meets_en B) ⟨h1, ?_⟩
  have hz : (s.heap.push o).objs.size = s.heap.objs.size + 1 := Heap.size_push ..
  rw [hz]
  have he := Heap.get?_push_size (s.heap.push o) (o := { cls := .type "enumerate", data := .fields #[.none, .bool false, .ref s.heap.objs.size, rawInt 0, .none, .none] }) rfl
  rw [hz] at he
  exact ⟨⟨_, he, rfl⟩, h _ he (Heap.get?_push_of_some _ (Heap.get?_push_size _ B.free)) fun b o x => Heap.get?_push_of_some _ (Heap.get?_push_of_some _ x)⟩
def iEn (ta : TA) : TI := fun σ H R => ta σ H fun vs H1 => ∃ k a xs, vs = [.ref a] ∧ SqK k H1 a xs ∧ R (Jen k a xs) H1
theorem pi_en {X : Cx} {e : Expr} {ta : TA} {p pos tpos : Pos} {elts : List Expr} {kk : Nat} (hg : Gl X "enumerate") (hm : X.mg "enumerate" = none) (ha : PA X [e] ta) (hs : starEach [e] X.env = [(false, eval e X.env)]) :
    PI X (.Tuple elts kk tpos) (.Call (.Name "enumerate" p) [e] [] pos) (iEn ta) := by
  constructor
  intro pins s σ H R I h
  refine Call_ (ld_blt I hg hm boot_enumerate (PyProof.Rows.callWith_type1 (thn (ha.run pos pins s σ H _ I h) fun us s1 ⟨vs, H1, I1, r1, q1⟩ => ?_) hs rfl))
  obtain ⟨k, a, xs, rfl, hq, q⟩ := q1
  obtain rfl := r1.ref1
  obtain ⟨its, rv, hsr⟩ := hq.at I1
  refine call_en (begins k a its.toArray) hsr fun h' he hit hk => wpAny_pyIter_enum he ?_
  refine ⟨s1.heap.objs.size + 1, [s1.heap.objs.size + 1, s1.heap.objs.size], _, _, H1, rfl, I1.kept (t' := s1.toks) hk, turn_en k a (s1.heap.objs.size + 1) s1.heap.objs.size xs (Nat.succ_ne_self _), ⟨⟨.none, he⟩, ItO.new hit⟩, fun b hb => ?_, q⟩
  have hle : s1.heap.objs.size ≤ b := by
    rcases mem2 hb with z | z
    · rw [z]; exact Nat.le_add_right _ _
    · rw [z]; exact Nat.le_refl _
  exact I1.fpOk hle (I1.hok.fresh hle)
theorem walk_en {k : Bool} {a : Addr} {xs : List V} : Walk (Jen k a xs) xs.length (fun H => SqK k H a xs) (YPair (fun i => some (.int (i : Nat))) (fun i => xs[i]?)) :=
  ⟨fun i H hi q => ⟨hi, q⟩, fun H q => ⟨rfl, q⟩, fun i H v H' _ q ⟨T, x, h1, h2, h3, h4⟩ => ⟨T, .int (i : Nat), x, h1, h2, h3, rfl, h4⟩⟩
inductive Seq (ds : List PyData) : OV → Prop
  | lst : Seq ds (.im (.list ds))
  | tup : Seq ds (.im (.tuple ds))
theorem Seq.at {G : Hp} {v : V} {o : OV} {ds : List PyData} (h : Seq ds o) (r : RO G v o) : ∃ k a xs, v = .ref a ∧ SqK k G a xs ∧ DvA G xs ds := by
  cases h with
  | lst =>
    have r : Dv G v (.list ds) := r
    cases r with
    | lst h1 w => exact ⟨true, _, _, rfl, h1, w⟩
  | tup =>
    have r : Dv G v (.tuple ds) := r
    cases r with
    | tup h1 w => exact ⟨false, _, _, rfl, h1, w⟩
section
variable {X : Cx} {tg e e2 e3 : Expr} {ρ : Rho} {μ : Mu} {Ψ : Itd → Mu → Prop} {p pos : Pos}
theorem di_en {elts : List Expr} {kk : Nat} {tpos : Pos} (B : Bt X.mg) (hg : Gl X "enumerate") (h : DE X e ρ μ fun o μ1 => ∃ ds, Seq ds o ∧ Ψ ⟨(prs (nums ds.length) ds).map .im, fun _ => True⟩ μ1)
    (he : starEach [e] X.env = (false, eval e X.env) :: starEach [] X.env := by rfl) (he2 : starEach [e] X.env = [(false, eval e X.env)] := by rfl) : DI X (.Tuple elts kk tpos) (.Call (.Name "enumerate" p) [e] [] pos) ρ μ Ψ :=
  ⟨_, pi_en hg B.enumerate pwa he2, fun G H σ m v R f => (da_cons (Λ := fun os μ1 => ∃ o ds, os = [o] ∧ Seq ds o ∧ Ψ ⟨(prs (nums ds.length) ds).map .im, fun _ => True⟩ μ1)
      (h.imp fun o μ1 ⟨ds, ho, q⟩ => da_nil ⟨o, ds, rfl, ho, q⟩) he) G H σ m v _ fun vs os μ1 G1 H1 q1 e1 m1 r1 => by
    obtain ⟨o, ds, rfl, hd, q⟩ := q1
    obtain ⟨u, rfl, ru⟩ := ro1 r1
    obtain ⟨k, a, xs, rfl, hq, w⟩ := hd.at ru
    refine ⟨k, a, xs, rfl, m1.ex _ _ hq, f _ _ _ _ _ q e1 m1 ?_⟩
    have hlen : ((prs (nums ds.length) ds).map OV.im).length = ds.length := by simp [prs, nums]
    refine ⟨fun H => SqK k H a xs, YPair (fun i => some (.int (i : Nat))) (fun i => xs[i]?), ?_, fun G' H' μ' e m _ => m.ex _ _ (e _ _ hq), fun i H' x H2 G' μ' e m _ y hi => ?_⟩
    · show Walk _ ((prs (nums ds.length) ds).map OV.im).length _ _
      rw [hlen, ← w.length]
      exact walk_en
    · obtain ⟨T, x1, y1, rfl, hT, rfl, h1, h2⟩ := y
      cases h1
      obtain ⟨d, h3, h4⟩ := w.getV h2
      have hi : i < ds.length := by rw [← hlen]; exact hi
      obtain ⟨a1, a2, a3⟩ := pair_new m hT (Dv.int (i : Int)) (h4.mono e)
      exact ⟨_, .im (.tuple [.int (i : Int), d]), a1, a2, by rw [List.getElem?_map, prs_get (nums_get hi) h3]; rfl, a3⟩⟩
end
end Nx
namespace Nx
open PySem PySem.Spec PyProof.Rows L2
def Jz2 (k1 k2 : Bool) (a1 a2 : Addr) (xs ys : List V) : It :=
  ⟨fun i H => i < min xs.length ys.length ∧ SqK k1 H a1 xs ∧ SqK k2 H a2 ys, fun i H v H' => ∃ T x y, v = .ref T ∧ H T = none ∧ H' = upd H T (.tup [x, y]) ∧ xs[i]? = some x ∧ ys[i]? = some y, fun i H => i = min xs.length ys.length ∧ SqK k1 H a1 xs ∧ SqK k2 H a2 ys⟩
def tnz2 (k1 k2 : Bool) (z TI TO i1 i2 a1 a2 : Addr) (i : Nat) (h : Heap) : Prop := IsZip h z TI TO .none ∧ IsTupOf2 h TI (.ref i1) (.ref i2) ∧ (∃ x y, IsTupOf2 h TO x y) ∧ ItO k1 h i1 a1 i ∧ ItO k2 h i2 a2 i
theorem turn_z2 {P : Program} {w : World} {K : PySem.W.Frag} {elts : List Expr} {kk : Nat} {tpos : Pos} (k1 k2 : Bool) (a1 a2 z TI TO i1 i2 : Addr) (xs ys : List V) (hd : [z, TI, TO, i1, i2].Nodup) :
    Turn P w K (.Tuple elts kk tpos) (Jz2 k1 k2 a1 a2 xs ys) [z, TI, TO, i1, i2] z (tnz2 k1 k2 z TI TO i1 i2 a1 a2) := by
  have obj : ∀ i h, tnz2 k1 k2 z TI TO i1 i2 a1 a2 i h → ∀ b ∈ [z, TI, TO, i1, i2], ∃ o, h.get? b = some o ∧ ∀ v, o.data ≠ .cell v := by
    rintro i h ⟨h1, h2, ⟨x, y, h3⟩, h4, h5⟩ b hb
    simp only [List.mem_cons, List.not_mem_nil, or_false] at hb
    rcases hb with rfl | rfl | rfl | rfl | rfl
    · exact ⟨_, h1, fun v q => nomatch q⟩
    · exact ⟨_, h2, fun v q => nomatch q⟩
    · exact ⟨_, h3, fun v q => nomatch q⟩
    · exact h4.obj
    · exact h5.obj
  have goes : ∀ (X : Cx) (i : Nat) (pins : List (Addr × Obj)) (s : Shared) (σ : L2.St) (H : Hp), X.prog = P → X.w = w → X.calm = true → Inv X pins σ H s → (∀ b ∈ [z, TI, TO, i1, i2], FpOk X pins H b) → SqK k1 H a1 xs → SqK k2 H a2 ys →
      ∃ (its jts : List Value), Vals xs its ∧ Vals ys jts ∧ SrO k1 s.heap a1 its.toArray ∧ SrO k2 s.heap a2 jts.toArray ∧ GoesN P w X.A (.Tuple elts kk tpos) z (z :: TI :: TO :: ([i1, a1] ++ [i2, a2])) [z, TO, i1, i2] (min its.toArray.size jts.toArray.size)
        (fun i h₀ v h => ∃ T x y, v = .ref T ∧ h₀.objs.size ≤ T ∧ its.toArray[i]? = some x ∧ jts.toArray[i]? = some y ∧ h.IsTuple T #[x, y])
        (fun i h => IsZip h z TI TO .none ∧ IsTupOf2 h TI (.ref i1) (.ref i2) ∧ (∃ a1 a2, IsTupOf2 h TO a1 a2) ∧ (ItO k1 h i1 a1 i ∧ SrO k1 h a1 its.toArray) ∧ (ItO k2 h i2 a2 i ∧ SrO k2 h a2 jts.toArray)) := by
    intro X i pins s σ H hP hw hc I hf q1 q2
    subst hP hw
    obtain ⟨its, rv, hs1⟩ := q1.at I
    obtain ⟨jts, rw_, hs2⟩ := q2.at I
    have n1 : ∀ b ∈ [z, TI, TO, i1, i2], a1 ≠ b := fun b hb => ne_of_none q1 (hf b hb).1
    have n2 : ∀ b ∈ [z, TI, TO, i1, i2], a2 ≠ b := fun b hb => ne_of_none q2 (hf b hb).1
    have m1 := n1 z (by simp)
    have m3 := n1 TO (by simp)
    have m4 := n1 i1 (by simp)
    have m5 := n1 i2 (by simp)
    have l1 := n2 z (by simp)
    have l3 := n2 TO (by simp)
    have l4 := n2 i1 (by simp)
    have l5 := n2 i2 (by simp)
    simp only [List.nodup_cons, List.mem_cons, List.not_mem_nil, or_false, not_or, List.nodup_nil, and_true, not_false_eq_true] at hd
    obtain ⟨⟨d1, d2, d3, d4⟩, ⟨d5, d6, d7⟩, ⟨d8, d9⟩, d10⟩ := hd
    refine ⟨its, jts, rv, rw_, hs1, hs2, GoesN.zip2 ?_ (draws (A := X.A.in1) k1 (I.ok.hd hc) i1 a1 m4 its.toArray) (draws (A := X.A.in1) k2 (I.ok.hd hc) i2 a2 l5 jts.toArray)⟩
    exact { TIz := fun e => d1 e.symm, TOz := fun e => d2 e.symm, TITO := d5, TIi1 := d6, mem1 := by simp, zf1 := by simp; exact ⟨d3, fun e => m1 e.symm⟩, Tf1 := by simp; exact ⟨d8, fun e => m3 e.symm⟩, TIi2 := d7, mem2 := by simp,
            zf2 := by simp; exact ⟨d4, fun e => l1 e.symm⟩, Tf2 := by simp; exact ⟨d9, fun e => l3 e.symm⟩, sep1_2 := by simp; exact ⟨d10, fun e => l4 e.symm⟩, sep2_1 := by simp; exact ⟨fun e => d10 e.symm, fun e => m5 e.symm⟩ }
  have keepF : ∀ {h h' : Heap} {b : Addr}, b ∉ [z, TI, TO, i1, i2] → b ∉ [z, TO, i1, i2] := fun {h h' b} hb hm => hb (by
    simp only [List.mem_cons, List.not_mem_nil, or_false] at hm ⊢
    rcases hm with e | e | e | e
    · exact .inl e
    · exact .inr (.inr (.inl e))
    · exact .inr (.inr (.inr (.inl e)))
    · exact .inr (.inr (.inr (.inr e))))
  constructor
  · simp
  · exact obj
  · rintro i h h' ⟨h1, h2, ⟨x, y, h3⟩, h4, h5⟩ kp
    exact ⟨kp z (by simp) _ h1, kp TI (by simp) _ h2, ⟨x, y, kp TO (by simp) _ h3⟩, h4.keep (kp i1 (by simp)), h5.keep (kp i2 (by simp))⟩
  · intro X hP hw hK hc i pins s σ H E I hf st hg
    obtain ⟨hi, q1, q2⟩ := hg
    obtain ⟨its, jts, rv, rw_, hs1, hs2, W⟩ := goes X i pins s σ H hP hw hc I hf q1 q2
    subst hP hw hK
    obtain ⟨h1, h2, h3, h4, h5⟩ := id st
    have hl := rv.length
    have hl2 := rw_.length
    refine W.goes i s _ E (by simp; omega) ⟨h1, h2, h3, ⟨h4, hs1⟩, h5, hs2⟩ fun v h' tk hY st' hk _ => ?_
    obtain ⟨T, x, y, rfl, hT, hx, hy, hTu⟩ := hY
    obtain ⟨g1, g2, g3, ⟨g4, _⟩, g5, _⟩ := st'
    obtain ⟨x', hx'⟩ : ∃ y, xs[i]? = some y := ⟨_, List.getElem?_eq_getElem (by omega)⟩
    obtain ⟨y', hy'⟩ : ∃ y, ys[i]? = some y := ⟨_, List.getElem?_eq_getElem (by omega)⟩
    obtain ⟨u, hu, ru⟩ := rv.get hx'
    obtain ⟨u2, hu2, ru2⟩ := rw_.get hy'
    have ex : u = x := by
      have : its[i]? = some x := by simpa using hx
      rw [this] at hu
      exact (Option.some.inj hu).symm
    have ey : u2 = y := by
      have : jts[i]? = some y := by simpa using hy
      rw [this] at hu2
      exact (Option.some.inj hu2).symm
    subst ex ey
    have new : ObjOk X.prog X.w (upd H T (.tup [x', y'])) h' T (.tup [x', y']) := ⟨by show 2 ≤ sizeLine; decide, [u, u2], .cons ru (.cons ru2 .nil), hTu⟩
    refine ⟨.ref T, _, I.turnedNew (t' := tk) (ch := [z, TI, TO, i1, i2]) (fun b o hb => hk b o (keepF (h := h') (h' := h') hb)) hf hT new, rfl, ⟨T, x', y', rfl, I.hok.fresh hT, rfl, hx', hy'⟩, ⟨g1, g2, g3, g4, g5⟩, fun b hb => ?_⟩
    obtain ⟨o, ho, _⟩ := obj i _ st b hb
    have hb' : b ≠ T := fun e => by
      have := Heap.lt_size ho
      rw [e] at this
      exact absurd hT (Nat.not_le.mpr this)
    rw [upd_ne hb']
    exact (hf b hb).1
  · intro X hP hw hK hc i pins s σ H E I hf st hg
    obtain ⟨rfl, q1, q2⟩ := hg
    obtain ⟨its, jts, rv, rw_, hs1, hs2, W⟩ := goes X 0 pins s σ H hP hw hc I hf q1 q2
    subst hP hw hK
    obtain ⟨h1, h2, h3, h4, h5⟩ := id st
    have hl := rv.length
    have hl2 := rw_.length
    have hn : min its.toArray.size jts.toArray.size = min xs.length ys.length := by simp; omega
    refine W.stops s _ E (by rw [hn]; exact ⟨h1, h2, h3, ⟨h4, hs1⟩, h5, hs2⟩) fun h' tk hk _ => ?_
    exact I.turnedL (fun b o hb => hk b o (keepF (h := h') (h' := h') hb)) hf
  · rintro A i s Q E ⟨h1, _⟩ h
    exact wpAny_pyIter_zip h1 h
def iZ2 (ta : TA) : TI := fun σ H R => ta σ H fun vs H1 => ∃ k1 k2 a1 a2 xs ys, vs = [.ref a1, .ref a2] ∧ SqK k1 H1 a1 xs ∧ SqK k2 H1 a2 ys ∧ R (Jz2 k1 k2 a1 a2 xs ys) H1
theorem pi_z2 {X : Cx} {e e2 : Expr} {ta : TA} {p pos tpos : Pos} {elts : List Expr} {kk : Nat} (hg : Gl X "zip") (hm : X.mg "zip" = none) (ha : PA X [e, e2] ta) (hs : starEach [e, e2] X.env = (false, eval e X.env) :: starEach [e2] X.env) (hs2 : (backTo pos (starEach [e2] X.env)).any (·.1) = false) :
    PI X (.Tuple elts kk tpos) (.Call (.Name "zip" p) [e, e2] [] pos) (iZ2 ta) := by
  constructor
  intro pins s σ H R I h
  refine Call_ (ld_blt I hg hm boot_zip (PyProof.Rows.callWith_type1 (thn (ha.run pos pins s σ H _ I h) fun us s1 ⟨vs, H1, I1, r1, q1⟩ => ?_) hs hs2))
  obtain ⟨k1, k2, a1, a2, xs, ys, rfl, hq1, hq2, q⟩ := q1
  obtain ⟨u, u2, rfl, ru, ru2⟩ := r1.two
  cases ru
  cases ru2
  obtain ⟨its, rv, hs1⟩ := hq1.at I1
  obtain ⟨jts, rw_, hs2⟩ := hq2.at I1
  refine zip_begins2 (begins k1 a1 its.toArray) (begins k2 a2 jts.toArray) hs1 hs2 fun h' hz hTI hTO ho1 ho2 _ hk => wpAny_pyIter_zip hz ?_
  refine ⟨s1.heap.objs.size + 4, [s1.heap.objs.size + 4, s1.heap.objs.size + 2, s1.heap.objs.size + 3, s1.heap.objs.size, s1.heap.objs.size + 1], _, _, H1, rfl, I1.kept (t' := s1.toks) hk, turn_z2 k1 k2 a1 a2 _ _ _ _ _ xs ys ?_, ⟨hz, hTI, ⟨_, _, hTO⟩, ItO.new ho1, ItO.new ho2⟩, fun b hb => ?_, q⟩
  · simp only [List.nodup_cons, List.mem_cons, List.not_mem_nil, or_false, not_or, List.nodup_nil, and_true, not_false_eq_true]
    refine ⟨⟨?_, ?_, ?_, ?_⟩, ⟨?_, ?_, ?_⟩, ⟨?_, ?_⟩, ?_⟩ <;> (intro e; have e : (_ : Nat) = _ := e; omega)
  · have hle : s1.heap.objs.size ≤ b := by
      simp only [List.mem_cons, List.not_mem_nil, or_false] at hb
      rcases hb with z | z | z | z | z <;> (subst z; first | exact Nat.le_refl _ | exact Nat.le_add_right _ _)
    exact I1.fpOk hle (I1.hok.fresh hle)
theorem walk_z2 {k1 k2 : Bool} {a1 a2 : Addr} {xs ys : List V} : Walk (Jz2 k1 k2 a1 a2 xs ys) (min xs.length ys.length) (fun H => SqK k1 H a1 xs ∧ SqK k2 H a2 ys) (YPair (fun i => xs[i]?) (fun i => ys[i]?)) :=
  ⟨fun i H hi q => ⟨hi, q⟩, fun H q => ⟨rfl, q⟩, fun i H v H' _ q y => y⟩
section
variable {X : Cx} {tg e e2 e3 : Expr} {ρ : Rho} {μ : Mu} {Ψ : Itd → Mu → Prop} {p pos : Pos}
theorem di_zip2 {elts : List Expr} {kk : Nat} {tpos : Pos} (B : Bt X.mg) (hg : Gl X "zip") (h : DE X e ρ μ fun o μ1 => DE X e2 ρ μ1 fun o2 μ2 => ∃ ds es, Seq ds o ∧ Seq es o2 ∧ Ψ ⟨(prs ds es).map .im, fun _ => True⟩ μ2)
    (he : starEach [e, e2] X.env = (false, eval e X.env) :: starEach [e2] X.env := by rfl) (he2 : starEach [e2] X.env = (false, eval e2 X.env) :: starEach [] X.env := by rfl) (hpl : (backTo pos (starEach [e2] X.env)).any (·.1) = false := by rfl) : DI X (.Tuple elts kk tpos) (.Call (.Name "zip" p) [e, e2] [] pos) ρ μ Ψ :=
  ⟨_, pi_z2 hg B.zip pwa he hpl, fun G H σ m v R f => (da_cons (Λ := fun os μ1 => ∃ o o2 ds es, os = [o, o2] ∧ Seq ds o ∧ Seq es o2 ∧ Ψ ⟨(prs ds es).map .im, fun _ => True⟩ μ1)
      (h.imp fun o μ1 h2 => da_cons (h2.imp fun o2 μ2 ⟨ds, es, h3, h4, q⟩ => da_nil ⟨o, o2, ds, es, rfl, h3, h4, q⟩) he2) he) G H σ m v _ fun vs os μ1 G1 H1 q1 e1 m1 r1 => by
    obtain ⟨o, o2, ds, es, rfl, hd, hd2, q⟩ := q1
    cases r1 with
    | cons r1 t1 =>
      obtain ⟨u, rfl, ru⟩ := ro1 t1
      obtain ⟨k1, a1, xs, rfl, hq1, w1⟩ := hd.at r1
      obtain ⟨k2, a2, ys, rfl, hq2, w2⟩ := hd2.at ru
      refine ⟨k1, k2, a1, a2, xs, ys, rfl, m1.ex _ _ hq1, m1.ex _ _ hq2, f _ _ _ _ _ q e1 m1 ?_⟩
      have hlen : ((prs ds es).map OV.im).length = min xs.length ys.length := by simp [prs, w1.length, w2.length]
      refine ⟨fun H => SqK k1 H a1 xs ∧ SqK k2 H a2 ys, YPair (fun i => xs[i]?) (fun i => ys[i]?), (by show Walk _ ((prs ds es).map OV.im).length _ _; rw [hlen]; exact walk_z2), fun G' H' μ' e m _ => ⟨m.ex _ _ (e _ _ hq1), m.ex _ _ (e _ _ hq2)⟩, fun i H' x H2 G' μ' e m _ y hi => ?_⟩
      obtain ⟨T, x1, y1, rfl, hT, rfl, h1, h2⟩ := y
      obtain ⟨d, h3, h4⟩ := w1.getV h1
      obtain ⟨d2, h5, h6⟩ := w2.getV h2
      obtain ⟨b1, b2, b3⟩ := pair_new m hT (h4.mono e) (h6.mono e)
      exact ⟨_, .im (.tuple [d, d2]), b1, b2, by rw [List.getElem?_map, prs_get h3 h5]; rfl, b3⟩⟩
end
end Nx
namespace Nx
open PySem PySem.Spec PyProof.Rows L2
def Jz3 (k1 k2 k3 : Bool) (a1 a2 a3 : Addr) (xs ys zs : List V) : It :=
  ⟨fun i H => i < min (min xs.length ys.length) zs.length ∧ SqK k1 H a1 xs ∧ SqK k2 H a2 ys ∧ SqK k3 H a3 zs, fun i H v H' => ∃ T x y u, v = .ref T ∧ H T = none ∧ H' = upd H T (.tup [x, y, u]) ∧ xs[i]? = some x ∧ ys[i]? = some y ∧ zs[i]? = some u,
    fun i H => i = min (min xs.length ys.length) zs.length ∧ SqK k1 H a1 xs ∧ SqK k2 H a2 ys ∧ SqK k3 H a3 zs⟩
def tnz3 (k1 k2 k3 : Bool) (z TI TO i1 i2 i3 a1 a2 a3 : Addr) (i : Nat) (h : Heap) : Prop := IsZip h z TI TO .none ∧ IsTupOf3 h TI (.ref i1) (.ref i2) (.ref i3) ∧ (∃ x y u, IsTupOf3 h TO x y u) ∧ ItO k1 h i1 a1 i ∧ ItO k2 h i2 a2 i ∧ ItO k3 h i3 a3 i
theorem turn_z3 {P : Program} {w : World} {K : PySem.W.Frag} {elts : List Expr} {kk : Nat} {tpos : Pos} (k1 k2 k3 : Bool) (a1 a2 a3 z TI TO i1 i2 i3 : Addr) (xs ys zs : List V) (hd : [z, TI, TO, i1, i2, i3].Nodup) :
    Turn P w K (.Tuple elts kk tpos) (Jz3 k1 k2 k3 a1 a2 a3 xs ys zs) [z, TI, TO, i1, i2, i3] z (tnz3 k1 k2 k3 z TI TO i1 i2 i3 a1 a2 a3) := by
  have obj : ∀ i h, tnz3 k1 k2 k3 z TI TO i1 i2 i3 a1 a2 a3 i h → ∀ b ∈ [z, TI, TO, i1, i2, i3], ∃ o, h.get? b = some o ∧ ∀ v, o.data ≠ .cell v := by
    rintro i h ⟨h1, h2, ⟨x, y, u, h3⟩, h4, h5, h6⟩ b hb
    simp only [List.mem_cons, List.not_mem_nil, or_false] at hb
    rcases hb with rfl | rfl | rfl | rfl | rfl | rfl
    · exact ⟨_, h1, fun v q => nomatch q⟩
    · exact ⟨_, h2, fun v q => nomatch q⟩
    · exact ⟨_, h3, fun v q => nomatch q⟩
    · exact h4.obj
    · exact h5.obj
    · exact h6.obj
  have goes : ∀ (X : Cx) (pins : List (Addr × Obj)) (s : Shared) (σ : L2.St) (H : Hp), X.prog = P → X.w = w → X.calm = true → Inv X pins σ H s → (∀ b ∈ [z, TI, TO, i1, i2, i3], FpOk X pins H b) → SqK k1 H a1 xs → SqK k2 H a2 ys → SqK k3 H a3 zs →
      ∃ (its jts uts : List Value), Vals xs its ∧ Vals ys jts ∧ Vals zs uts ∧ SrO k1 s.heap a1 its.toArray ∧ SrO k2 s.heap a2 jts.toArray ∧ SrO k3 s.heap a3 uts.toArray ∧ GoesN P w X.A (.Tuple elts kk tpos) z (z :: TI :: TO :: ([i1, a1] ++ [i2, a2] ++ [i3, a3])) [z, TO, i1, i2, i3] (min (min its.toArray.size jts.toArray.size) uts.toArray.size)
        (fun i h₀ v h => ∃ T x y u, v = .ref T ∧ h₀.objs.size ≤ T ∧ its.toArray[i]? = some x ∧ jts.toArray[i]? = some y ∧ uts.toArray[i]? = some u ∧ h.IsTuple T #[x, y, u])
        (fun i h => IsZip h z TI TO .none ∧ IsTupOf3 h TI (.ref i1) (.ref i2) (.ref i3) ∧ (∃ a1 a2 a3, IsTupOf3 h TO a1 a2 a3) ∧ (ItO k1 h i1 a1 i ∧ SrO k1 h a1 its.toArray) ∧ (ItO k2 h i2 a2 i ∧ SrO k2 h a2 jts.toArray) ∧ (ItO k3 h i3 a3 i ∧ SrO k3 h a3 uts.toArray)) := by
    intro X pins s σ H hP hw hc I hf q1 q2 q3
    subst hP hw
    obtain ⟨its, rv, hs1⟩ := q1.at I
    obtain ⟨jts, rw_, hs2⟩ := q2.at I
    obtain ⟨uts, ru_, hs3⟩ := q3.at I
    have n1 : ∀ b ∈ [z, TI, TO, i1, i2, i3], a1 ≠ b := fun b hb => ne_of_none q1 (hf b hb).1
    have n2 : ∀ b ∈ [z, TI, TO, i1, i2, i3], a2 ≠ b := fun b hb => ne_of_none q2 (hf b hb).1
    have n3 : ∀ b ∈ [z, TI, TO, i1, i2, i3], a3 ≠ b := fun b hb => ne_of_none q3 (hf b hb).1
    simp only [List.nodup_cons, List.mem_cons, List.not_mem_nil, or_false, not_or, List.nodup_nil, and_true, not_false_eq_true] at hd
    obtain ⟨⟨d1, d2, d3, d4, d5⟩, ⟨d6, d7, d8, d9⟩, ⟨d10, d11, d12⟩, ⟨d13, d14⟩, d15⟩ := hd
    refine ⟨its, jts, uts, rv, rw_, ru_, hs1, hs2, hs3, GoesN.zip3 ?_ (draws (A := X.A.in1) k1 (I.ok.hd hc) i1 a1 (n1 i1 (by simp)) its.toArray) (draws (A := X.A.in1) k2 (I.ok.hd hc) i2 a2 (n2 i2 (by simp)) jts.toArray) (draws (A := X.A.in1) k3 (I.ok.hd hc) i3 a3 (n3 i3 (by simp)) uts.toArray)⟩
    have no : ∀ {c i a : Addr}, c ≠ i → a ≠ c → c ∉ [i, a] := fun {c i a} p q hm => by
      rcases mem2 hm with e | e
      · exact p e
      · exact q e.symm
    exact { TIz := fun e => d1 e.symm, TOz := fun e => d2 e.symm, TITO := d6, TIi1 := d7, mem1 := by simp, zf1 := no d3 (n1 z (by simp)), Tf1 := no d10 (n1 TO (by simp)), TIi2 := d8, mem2 := by simp,
            zf2 := no d4 (n2 z (by simp)), Tf2 := no d11 (n2 TO (by simp)), TIi3 := d9, mem3 := by simp, zf3 := no d5 (n3 z (by simp)), Tf3 := no d12 (n3 TO (by simp)), sep1_2 := no d13 (n2 i1 (by simp)), sep1_3 := no d14 (n3 i1 (by simp)),
            sep2_1 := no (fun e => d13 e.symm) (n1 i2 (by simp)), sep2_3 := no d15 (n3 i2 (by simp)), sep3_1 := no (fun e => d14 e.symm) (n1 i3 (by simp)), sep3_2 := no (fun e => d15 e.symm) (n2 i3 (by simp)) }
  have keepF : ∀ {b : Addr}, b ∉ [z, TI, TO, i1, i2, i3] → b ∉ [z, TO, i1, i2, i3] := fun {b} hb hm => hb (by
    simp only [List.mem_cons, List.not_mem_nil, or_false] at hm ⊢
    rcases hm with e | e | e | e | e
    · exact .inl e
    · exact .inr (.inr (.inl e))
    · exact .inr (.inr (.inr (.inl e)))
    · exact .inr (.inr (.inr (.inr (.inl e))))
    · exact .inr (.inr (.inr (.inr (.inr e)))))
  have pickV : ∀ {xs : List V} {its : List Value} {i : Nat} {x : Value}, Vals xs its → i < xs.length → its.toArray[i]? = some x → ∃ x', xs[i]? = some x' ∧ RelV x' x := by
    intro xs its i x rv hi hx
    obtain ⟨x', hx'⟩ : ∃ y, xs[i]? = some y := ⟨_, List.getElem?_eq_getElem hi⟩
    obtain ⟨u, hu, ru⟩ := rv.get hx'
    have : its[i]? = some x := by simpa using hx
    rw [this] at hu
    cases hu
    exact ⟨x', hx', ru⟩
  constructor
  · simp
  · exact obj
  · rintro i h h' ⟨h1, h2, ⟨x, y, u, h3⟩, h4, h5, h6⟩ kp
    exact ⟨kp z (by simp) _ h1, kp TI (by simp) _ h2, ⟨x, y, u, kp TO (by simp) _ h3⟩, h4.keep (kp i1 (by simp)), h5.keep (kp i2 (by simp)), h6.keep (kp i3 (by simp))⟩
  · intro X hP hw hK hc i pins s σ H E I hf st hg
    obtain ⟨hi, q1, q2, q3⟩ := hg
    obtain ⟨its, jts, uts, rv, rw_, ru_, hs1, hs2, hs3, W⟩ := goes X pins s σ H hP hw hc I hf q1 q2 q3
    subst hP hw hK
    obtain ⟨h1, h2, h3, h4, h5, h6⟩ := id st
    have hl := rv.length
    have hl2 := rw_.length
    have hl3 := ru_.length
    refine W.goes i s _ E (by simp; omega) ⟨h1, h2, h3, ⟨h4, hs1⟩, ⟨h5, hs2⟩, h6, hs3⟩ fun v h' tk hY st' hk _ => ?_
    obtain ⟨T, x, y, u, rfl, hT, hx, hy, hu, hTu⟩ := hY
    obtain ⟨g1, g2, g3, ⟨g4, _⟩, ⟨g5, _⟩, g6, _⟩ := st'
    obtain ⟨x', hx', rx⟩ := pickV rv (by omega) hx
    obtain ⟨y', hy', ry⟩ := pickV rw_ (by omega) hy
    obtain ⟨u', hu', ru⟩ := pickV ru_ (by omega) hu
    have new : ObjOk X.prog X.w (upd H T (.tup [x', y', u'])) h' T (.tup [x', y', u']) := ⟨by show 3 ≤ sizeLine; decide, [x, y, u], .cons rx (.cons ry (.cons ru .nil)), hTu⟩
    refine ⟨.ref T, _, I.turnedNew (t' := tk) (ch := [z, TI, TO, i1, i2, i3]) (fun b o hb => hk b o (keepF hb)) hf hT new, rfl, ⟨T, x', y', u', rfl, I.hok.fresh hT, rfl, hx', hy', hu'⟩, ⟨g1, g2, g3, g4, g5, g6⟩, fun b hb => ?_⟩
    obtain ⟨o, ho, _⟩ := obj i _ st b hb
    have hb' : b ≠ T := fun e => by
      have := Heap.lt_size ho
      rw [e] at this
      exact absurd hT (Nat.not_le.mpr this)
    rw [upd_ne hb']
    exact (hf b hb).1
  · intro X hP hw hK hc i pins s σ H E I hf st hg
    obtain ⟨rfl, q1, q2, q3⟩ := hg
    obtain ⟨its, jts, uts, rv, rw_, ru_, hs1, hs2, hs3, W⟩ := goes X pins s σ H hP hw hc I hf q1 q2 q3
    subst hP hw hK
    obtain ⟨h1, h2, h3, h4, h5, h6⟩ := id st
    have hl := rv.length
    have hl2 := rw_.length
    have hl3 := ru_.length
    have hn : min (min its.toArray.size jts.toArray.size) uts.toArray.size = min (min xs.length ys.length) zs.length := by simp; omega
    refine W.stops s _ E (by rw [hn]; exact ⟨h1, h2, h3, ⟨h4, hs1⟩, ⟨h5, hs2⟩, h6, hs3⟩) fun h' tk hk _ => ?_
    exact I.turnedL (fun b o hb => hk b o (keepF hb)) hf
  · rintro A i s Q E ⟨h1, _⟩ h
    exact wpAny_pyIter_zip h1 h
def iZ3 (ta : TA) : TI := fun σ H R => ta σ H fun vs H1 => ∃ k1 k2 k3 a1 a2 a3 xs ys zs, vs = [.ref a1, .ref a2, .ref a3] ∧ SqK k1 H1 a1 xs ∧ SqK k2 H1 a2 ys ∧ SqK k3 H1 a3 zs ∧ R (Jz3 k1 k2 k3 a1 a2 a3 xs ys zs) H1
theorem pi_z3 {X : Cx} {e e2 e3 : Expr} {ta : TA} {p pos tpos : Pos} {elts : List Expr} {kk : Nat} (hg : Gl X "zip") (hm : X.mg "zip" = none) (ha : PA X [e, e2, e3] ta) (hs : starEach [e, e2, e3] X.env = (false, eval e X.env) :: starEach [e2, e3] X.env) (hs2 : (backTo pos (starEach [e2, e3] X.env)).any (·.1) = false) :
    PI X (.Tuple elts kk tpos) (.Call (.Name "zip" p) [e, e2, e3] [] pos) (iZ3 ta) := by
  constructor
  intro pins s σ H R I h
  refine Call_ (ld_blt I hg hm boot_zip (PyProof.Rows.callWith_type1 (thn (ha.run pos pins s σ H _ I h) fun us s1 ⟨vs, H1, I1, r1, q1⟩ => ?_) hs hs2))
  obtain ⟨k1, k2, k3, a1, a2, a3, xs, ys, zs, rfl, hq1, hq2, hq3, q⟩ := q1
  cases r1 with
  | cons ru t1 =>
    obtain ⟨u2, u3, rfl, ru2, ru3⟩ := Vals.two t1
    cases ru
    cases ru2
    cases ru3
    obtain ⟨its, rv, hs1⟩ := hq1.at I1
    obtain ⟨jts, rw_, hs2⟩ := hq2.at I1
    obtain ⟨uts, ru_, hs3⟩ := hq3.at I1
    refine zip_begins3 (begins k1 a1 its.toArray) (begins k2 a2 jts.toArray) (begins k3 a3 uts.toArray) hs1 hs2 hs3 fun h' hz hTI hTO ho1 ho2 ho3 _ hk => wpAny_pyIter_zip hz ?_
    refine ⟨s1.heap.objs.size + 5, [s1.heap.objs.size + 5, s1.heap.objs.size + 3, s1.heap.objs.size + 4, s1.heap.objs.size, s1.heap.objs.size + 1, s1.heap.objs.size + 2], _, _, H1, rfl, I1.kept (t' := s1.toks) hk, turn_z3 k1 k2 k3 a1 a2 a3 _ _ _ _ _ _ xs ys zs ?_, ⟨hz, hTI, ⟨_, _, _, hTO⟩, ItO.new ho1, ItO.new ho2, ItO.new ho3⟩, fun b hb => ?_, q⟩
    · simp only [List.nodup_cons, List.mem_cons, List.not_mem_nil, or_false, not_or, List.nodup_nil, and_true, not_false_eq_true]
      refine ⟨⟨?_, ?_, ?_, ?_, ?_⟩, ⟨?_, ?_, ?_, ?_⟩, ⟨?_, ?_, ?_⟩, ⟨?_, ?_⟩, ?_⟩ <;> (intro e; have e : (_ : Nat) = _ := e; omega)
    · have hle : s1.heap.objs.size ≤ b := by
        simp only [List.mem_cons, List.not_mem_nil, or_false] at hb
        rcases hb with z | z | z | z | z | z <;> (subst z; first | exact Nat.le_refl _ | exact Nat.le_add_right _ _)
      exact I1.fpOk hle (I1.hok.fresh hle)
def trs (xs ys zs : List PyData) : List PyData := (xs.zip (ys.zip zs)).map fun q => .tuple [q.1, q.2.1, q.2.2]
theorem trs_get {xs ys zs : List PyData} {i : Nat} {x y z : PyData} (h1 : xs[i]? = some x) (h2 : ys[i]? = some y) (h3 : zs[i]? = some z) : (trs xs ys zs)[i]? = some (.tuple [x, y, z]) := by
  unfold trs
  rw [List.getElem?_map, List.getElem?_zip_eq_some (z := (x, (y, z))) |>.mpr ⟨h1, List.getElem?_zip_eq_some (z := (y, z)) |>.mpr ⟨h2, h3⟩⟩]
  rfl
section
variable {X : Cx} {tg e e2 e3 : Expr} {ρ : Rho} {μ : Mu} {Ψ : Itd → Mu → Prop} {Φ : OV → Mu → Prop} {p pos : Pos}
theorem di_zip3 {elts : List Expr} {kk : Nat} {tpos : Pos} (B : Bt X.mg) (hg : Gl X "zip") (h : DE X e ρ μ fun o μ1 => DE X e2 ρ μ1 fun o2 μ2 => DE X e3 ρ μ2 fun o3 μ3 => ∃ ds es fs, Seq ds o ∧ Seq es o2 ∧ Seq fs o3 ∧ Ψ ⟨(trs ds es fs).map .im, fun _ => True⟩ μ3)
    (he : starEach [e, e2, e3] X.env = (false, eval e X.env) :: starEach [e2, e3] X.env := by rfl) (he2 : starEach [e2, e3] X.env = (false, eval e2 X.env) :: starEach [e3] X.env := by rfl) (he3 : starEach [e3] X.env = (false, eval e3 X.env) :: starEach [] X.env := by rfl) (hpl : (backTo pos (starEach [e2, e3] X.env)).any (·.1) = false := by rfl) : DI X (.Tuple elts kk tpos) (.Call (.Name "zip" p) [e, e2, e3] [] pos) ρ μ Ψ :=
  ⟨_, pi_z3 hg B.zip pwa he hpl, fun G H σ m v R f => (da_cons (Λ := fun os μ1 => ∃ o o2 o3 ds es fs, os = [o, o2, o3] ∧ Seq ds o ∧ Seq es o2 ∧ Seq fs o3 ∧ Ψ ⟨(trs ds es fs).map .im, fun _ => True⟩ μ1)
      (h.imp fun o μ1 h2 => da_cons (h2.imp fun o2 μ2 h3 => da_cons (h3.imp fun o3 μ3 ⟨ds, es, fs, h4, h5, h6, q⟩ => da_nil ⟨o, o2, o3, ds, es, fs, rfl, h4, h5, h6, q⟩) he3) he2) he) G H σ m v _ fun vs os μ1 G1 H1 q1 e1 m1 r1 => by
    obtain ⟨o, o2, o3, ds, es, fs, rfl, hd, hd2, hd3, q⟩ := q1
    cases r1 with
    | cons r1 t1 =>
      cases t1 with
      | cons r2 t2 =>
        obtain ⟨u, rfl, r3⟩ := ro1 t2
        obtain ⟨k1, a1, xs, rfl, hq1, w1⟩ := hd.at r1
        obtain ⟨k2, a2, ys, rfl, hq2, w2⟩ := hd2.at r2
        obtain ⟨k3, a3, zs, rfl, hq3, w3⟩ := hd3.at r3
        refine ⟨k1, k2, k3, a1, a2, a3, xs, ys, zs, rfl, m1.ex _ _ hq1, m1.ex _ _ hq2, m1.ex _ _ hq3, f _ _ _ _ _ q e1 m1 ?_⟩
        have hlen : ((trs ds es fs).map OV.im).length = min (min xs.length ys.length) zs.length := by simp [trs, w1.length, w2.length, w3.length, Nat.min_assoc]
        refine ⟨fun H => SqK k1 H a1 xs ∧ SqK k2 H a2 ys ∧ SqK k3 H a3 zs, fun i H v H' => ∃ T x y u, v = .ref T ∧ H T = none ∧ H' = upd H T (.tup [x, y, u]) ∧ xs[i]? = some x ∧ ys[i]? = some y ∧ zs[i]? = some u,
          (by show Walk _ ((trs ds es fs).map OV.im).length _ _; rw [hlen]; exact ⟨fun i H hi q => ⟨hi, q⟩, fun H q => ⟨rfl, q⟩, fun i H v H' _ q y => y⟩), fun G' H' μ' e m _ => ⟨m.ex _ _ (e _ _ hq1), m.ex _ _ (e _ _ hq2), m.ex _ _ (e _ _ hq3)⟩, fun i H' x H2 G' μ' e m _ y hi => ?_⟩
        obtain ⟨T, x1, y1, z1, rfl, hT, rfl, h1, h2, h3⟩ := y
        obtain ⟨d1, g1, g2⟩ := w1.getV h1
        obtain ⟨d2, g3, g4⟩ := w2.getV h2
        obtain ⟨d3, g5, g6⟩ := w3.getV h3
        have n := m.ex.free hT
        exact ⟨_, .im (.tuple [d1, d2, d3]), Ex.new n, m.lay hT, by rw [List.getElem?_map, trs_get g1 g3 g5]; rfl, Dv.tup upd_same (.cons ((g2.mono e).mono (Ex.new n)) (.cons ((g4.mono e).mono (Ex.new n)) (.cons ((g6.mono e).mono (Ex.new n)) .nil)))⟩⟩
theorem dv_list {G H : Hp} {μ : Mu} {v : V} {o : OV} {ds : List PyData} (m : RM G H μ) (hd : RdD μ o (.list ds)) (r : RO G v o) : ∃ a xs, v = .ref a ∧ H a = some (.lst xs) ∧ DvA H xs ds := by
  have d := hd.at m r
  generalize hdd : PyData.list ds = dd at d
  cases d with
  | lst h1 w => cases hdd; exact ⟨_, _, rfl, h1, w⟩
  | _ => cases hdd
theorem DvA.bls {H : Hp} : ∀ (bs : List Bool) {vs : List V}, DvA H vs (bs.map PyData.bool) → vs = bs.map V.bl
  | [], _, .nil => rfl
  | n :: ns, _, .cons (.bl _) t => by rw [DvA.bls ns t]; rfl
theorem de_all (B : Bt X.mg) (hc : X.calm = true) (hg : Gl X "all") (h : DE X e ρ μ fun o μ1 => ∃ bs : List Bool, RdD μ1 o (.list (bs.map .bool)) ∧ Φ (.im (.bool (bs.all id))) μ1) (he : starEach [e] X.env = (false, eval e X.env) :: starEach [] X.env := by rfl) (hpl : (backTo pos (starEach [] X.env)).any (·.1) = false := by rfl) : DE X (.Call (.Name "all" p) [e] [] pos) ρ μ Φ :=
  de_callB (cr_all hc) hg B.all PyProof.Rows.boot_all (he := he) (hpl := hpl) (da_cons (hs := he) (h.imp fun o μ1 ⟨bs, hd, q⟩ => da_nil fun G H vs m r Q f => by
    obtain ⟨v, rfl, r1⟩ := ro1 r
    obtain ⟨a, xs, rfl, h1, w⟩ := dv_list m hd r1
    exact ⟨a, bs, rfl, .inl (.inl (by rw [← w.bls]; exact h1)), f _ _ _ _ _ q (Ex.refl G) m (Dv.bl _)⟩))
theorem de_sum (B : Bt X.mg) (hc : X.calm = true) (hg : Gl X "sum") (h : DE X e ρ μ fun o μ1 => ∃ ns : List Int, RdD μ1 o (.list (ns.map .int)) ∧ Φ (.im (.int ns.sum)) μ1) (he : starEach [e] X.env = (false, eval e X.env) :: starEach [] X.env := by rfl) (hpl : (backTo pos (starEach [] X.env)).any (·.1) = false := by rfl) : DE X (.Call (.Name "sum" p) [e] [] pos) ρ μ Φ :=
  de_callB (cr_sum hc) hg B.sum PyProof.Rows.boot_sum (he := he) (hpl := hpl) (da_cons (hs := he) (h.imp fun o μ1 ⟨bs, hd, q⟩ => da_nil fun G H vs m r Q f => by
    obtain ⟨v, rfl, r1⟩ := ro1 r
    obtain ⟨a, xs, rfl, h1, w⟩ := dv_list m hd r1
    exact ⟨a, bs, rfl, .inl (.inl (by rw [← w.ints]; exact h1)), f _ _ _ _ _ q (Ex.refl G) m (Dv.int _)⟩))
end
end Nx
namespace Nx
open PySem PySem.Spec PyProof.Rows L2
theorem law_core {P : Program} {w : World} {K : PySem.W.Frag} {mg mb : Str → Option Value} {k : Nat} {fa a : Addr} {fd : FuncData} {x : Str} {sp : Sp} {s : Shared}
    (KX : K.In s.heap) (hns : s.heap.Ns mainGlobals mg) (hb : s.heap.Ns builtinsNs mb) (hbb : ∀ x : Str, x ≠ "__name__" → mb x = bootBuiltins x) (hlim : s.heap.NoLimit) (hgn : s.gens = #[]) (hr : Rm k callerA)
    (F : ∀ base : Heap, K.In base → base.Ns mainGlobals mg → FnG P w K mg base CX0 k fa fd [x] sp) (bind : ∀ (s : Shared) (u : Value), BindsTo s fd ⟨[u], []⟩ [(x, u)])
    (H : Hp) (hO : Only H) (nd : ∀ b o, H b ≠ none → s.heap.get? b = some o → ∀ es ep, o.data ≠ .dict es ep) (hok : HOk P w H s.heap) (hK : ∀ b, H b ≠ none → K.lookup b = none) (hsp : sp [.ref a] H (fun v _ => v = .bl true) fun _ _ _ => False) :
    codeAny (model P w) callerA (.call (.ref fa) ⟨[.ref a], []⟩) (fun r s' => r = .ok (.ret (.bool true)) ∧ OldK s.heap s'.heap ∧ s'.os = s.os ∧ AllBare s'.gens) s := by
  have up : ∀ {b : Addr} {o : Obj}, s.heap.get? b = some o → H b = none → (hidT s.heap H).get? b = some o := fun e n => hidT_get e n
  have nsUp : ∀ {b : Addr} {m : Str → Option Value}, s.heap.Ns b m → (hidT s.heap H).Ns b m := by
    rintro b m ⟨o, es, ep, e, d, r⟩
    refine ⟨o, es, ep, up e ?_, d, r⟩
    cases q : H b with
    | none => rfl
    | some u => exact absurd d (nd b o (by rw [q]; simp) e es ep)
  have inK : K.In (hidT s.heap H) := by
    intro b o e
    refine up (KX b o e) ?_
    cases q : H b with
    | none => rfl
    | some u =>
      have := hK b (by rw [q]; simp)
      rw [e] at this
      cases this
  have lim : (hidT s.heap H).NoLimit := by
    obtain ⟨mc, h1, h2⟩ := hlim
    exact ⟨mc, nsUp h1, h2⟩
  have env0 : Env0 P w K mg (hidT s.heap H) callerA [] s H :=
    { frames := rfl, mod := ⟨inK, nsUp hns, ⟨mb, nsUp hb, hbb⟩, lim⟩, bs := fun b o e => of_hidT e, bsz := Nat.le_of_eq (hidT_size _ _), funs := trivial, frf := (fun b hb => absurd (show b ∈ ([] : List Addr) from hb) (by simp)), hok := hok, bare := .of_eq hgn }
  have run := (F _ inK (nsUp hns)).run callerA [] s H ⟨[.ref a], []⟩ [.ref a] [.ref a] _ _ hr env0 (bind s (.ref a)) (.cons rfl .nil) hsp
  refine codeAny_mono run fun r s' h => ?_
  match r, h with
  | .error e, h => exact h.elim
  | .ok (.ret u), h =>
    obtain ⟨v, H', os, bare, un, hok', r', q⟩ := h
    have q : v = .bl true := q
    subst q
    have r' : u = Value.bool true := r'
    subst r'
    refine ⟨rfl, OldK.of_keep fun b o e => ?_, os, bare⟩
    cases q : H b with
    | none => exact un.keep b o e q (fun z => nomatch z) (by simp)
    | some u =>
      obtain z | ⟨ob, xs, z⟩ := hO b
      · rw [q] at z
        cases z
      · have e1 := (hok b _ z).1
        have e2 := (hok' b _ (un.frzs b ob _ z)).1
        rw [e] at e1
        cases e1
        exact e2
theorem law_end {P : Program} {w : World} {K : PySem.W.Frag} {mg mb : Str → Option Value} {k : Nat} {fa a : Addr} {fd : FuncData} {x : Str} {sp : Sp} {s : Shared} {vs : List Value} {ns : List Int}
    (KX : K.In s.heap) (hns : s.heap.Ns mainGlobals mg) (hb : s.heap.Ns builtinsNs mb) (hbb : ∀ x : Str, x ≠ "__name__" → mb x = bootBuiltins x) (hlim : s.heap.NoLimit) (hgn : s.gens = #[]) (hr : Rm k callerA)
    (F : ∀ base : Heap, K.In base → base.Ns mainGlobals mg → FnG P w K mg base CX0 k fa fd [x] sp) (bind : ∀ (s : Shared) (u : Value), BindsTo s fd ⟨[u], []⟩ [(x, u)])
    (ha : s.heap.get? a = some { cls := .type "list", data := .seq vs.toArray }) (hi : IntsAre vs ns) (hl : ns.length ≤ sizeLine) (hsp : ∀ H : Hp, Only H → SqL K H a (ns.map V.int) → sp [.ref a] H (fun v _ => v = .bl true) fun _ _ _ => False) :
    codeAny (model P w) callerA (.call (.ref fa) ⟨[.ref a], []⟩) (fun r s' => r = .ok (.ret (.bool true)) ∧ OldK s.heap s'.heap ∧ s'.os = s.os ∧ AllBare s'.gens) s := by
  have rv := vals_ints hi
  have lv := hi.length
  cases hk : K.lookup a with
  | some o =>
    have e := KX a o hk
    rw [ha] at e
    cases e
    have hS : SqL K (fun _ => none) a (ns.map V.int) := .inr ⟨_, vs.toArray, _, hk, rfl, rfl, rfl, by rw [List.size_toArray, lv]; exact hl, by simpa using rv⟩
    exact law_core KX hns hb hbb hlim hgn hr F bind (fun _ => none) (fun _ => .inl rfl) (fun b o z => absurd rfl z) (fun b u z => nomatch z) (fun b z => absurd rfl z) (hsp _ (fun _ => .inl rfl) hS)
  | none =>
    let fz : HO := .frz { cls := .type "list", data := .seq vs.toArray } (.lst (ns.map V.int))
    have at_ : ∀ b u, upd (fun _ => none) a fz b = some u → b = a ∧ u = fz := by
      intro b u z
      by_cases e : b = a
      · subst e
        rw [upd_same] at z
        exact ⟨rfl, (Option.some.inj z).symm⟩
      · rw [upd_ne e] at z
        cases z
    have isA : ∀ b, upd (fun _ => none) a fz b ≠ none → b = a := fun b z => by
      cases q : upd (fun _ => none) a fz b with
      | none => exact absurd q z
      | some u => exact (at_ b u q).1
    have hO : Only (upd (fun _ => none) a fz) := fun b => by
      cases q : upd (fun _ => none) a fz b with
      | none => exact .inl rfl
      | some u => exact .inr ⟨_, _, by rw [(at_ b u q).2]⟩
    refine law_core KX hns hb hbb hlim hgn hr F bind (upd (fun _ => none) a fz) hO (fun b o z e es ep d => ?_) (fun b u z => ?_) (fun b z => ?_) (hsp _ hO (.inl (.inr ⟨_, upd_same⟩)))
    · rw [isA b z, ha] at e
      cases e
      cases d
    · obtain ⟨rfl, rfl⟩ := at_ b u z
      exact ⟨ha, by rw [List.length_map]; exact hl, vs, _, rv, ha⟩
    · rw [isA b z]
      exact hk
theorem walk_G {l : PySem.W.OpenLaw} {n k : Nat} {q : Program} {loose : List Str} {XP : (Str → Option Value) → Heap → Prop} {YP : World → Heap → Prop} {d : DefRec} {K : Params → PySem.W.Frag} {sp : PySem.W.Frag → Sp} {x : Str}
    (hn : l.most = some n) (hn2 : n ≤ sizeLine) (hdf : d.params.defaults = []) (hr : Rm k callerA) (hY : ∀ (w : World) (h : Heap), YP w h → (K w.params).In h)
    (F : ∀ (w : World) (mg : Str → Option Value) (fa : Addr) (h : Heap), (K w.params).In h → h.Ns mainGlobals mg → mg d.name = some (.ref fa) →
      ∃ fd : FuncData, (∀ (s : Shared) (u : Value), BindsTo s fd ⟨[u], []⟩ [(x, u)]) ∧ ∀ base : Heap, (K w.params).In base → base.Ns mainGlobals mg → FnG l.prog w (K w.params) mg base CX0 k fa fd [x] (sp (K w.params)))
    (hsp : ∀ (K : PySem.W.Frag) (H : Hp) (a : Addr) (ns : List Int), ns.length ≤ n → Only H → SqL K H a (ns.map V.int) → sp K [.ref a] H (fun v _ => v = .bl true) fun _ _ _ => False) :
    PySem.W.WalkO q loose XP YP l.row.toRowW d [] (fun f vs => PySem.call f vs) := by
  apply Att.attach_call hn hdf
  intro w s₀ s₁ mg mb fa o pm cd doc a vs ns G Y ho hd hcd hmg hobj hints hlen hgn
  have KX := hY w _ Y
  obtain ⟨fd, hb, hF⟩ := F w mg fa _ KX G.T.g hmg
  exact law_end KX G.T.g G.T.b G.T.builtins G.T.nolimit hgn hr hF hb hobj hints (Nat.le_trans hlen hn2) fun H hO hS => hsp _ H a ns hlen hO hS
end Nx
namespace Nx
open PySem PySem.Spec PyProof.Rows L2
def Sub (μ' μ : Mu) : Prop := (∀ a l, μ' a = some l → μ a = some l) ∧ μ'.d = μ.d ∧ μ'.C = μ.C
theorem Sub.refl (μ : Mu) : Sub μ μ := ⟨fun _ _ h => h, rfl, rfl⟩
section
variable {X : Cx} {e : Expr} {st : Stmt} {ss : List Stmt} {ρ : Rho} {μ μ' : Mu} {D : DEnds} {Φ : OV → Mu → Prop}
theorem dss_drop (h : Sub μ' μ) (k : DSs X ss ρ μ' D) : DSs X ss ρ μ D := fun G H σ m v E f => k G H σ (m.drop h.1 h.2.1 h.2.2) v E f
theorem dss_frz {i : Nat} {p : Addr} {ds : List PyData} (hi : ρ[i]? = some (some (.own p))) (hp : μ p = some (ds.map .im)) (k : DSs X ss (ρ.set i (some (.im (.list ds)))) (μ.del p) D) : DSs X ss ρ μ D := fun G H σ m v E f => by
  obtain ⟨vs, e0, g0, w, m'⟩ := m.frz hp
  have v2 := (v.mono (Ex.new (o := .lst vs) g0)).set (i := i) (v := .ref p) (o := .im (.list ds)) (Dv.lst upd_same (w.mono (Ex.new g0)))
  obtain ⟨u, hu, ru⟩ := v.get i _ hi
  have ru : u = .ref p := ru
  subst ru
  have e1 : σ.set i (some (.ref p)) = σ := by
    apply List.ext_getElem?
    intro j
    by_cases hj : i = j
    · subst hj
      rw [List.getElem?_set_self (List.getElem?_eq_some_iff.mp hu).1, hu]
    · rw [List.getElem?_set_ne hj]
  rw [e1] at v2
  exact k _ H σ m' v2 E (f.later (Ex.new g0))
end
theorem put_get {μ : Mu} {a b : Addr} {l : List OV} : μ.put a l b = if b = a then some l else μ b := rfl
theorem put_back {μ : Mu} {a : Addr} {l : List OV} (h : μ a = some l) : μ = (μ.del a).put a l ∧ (μ.del a) a = none := by
  refine ⟨mu_ext (fun b => ?_) rfl rfl, if_pos rfl⟩
  rw [put_get]
  by_cases e : b = a
  · rw [if_pos e, e, h]
  · rw [if_neg e]
    exact (if_neg e).symm
theorem ne_own {μ : Mu} {a b : Addr} {l : List OV} (h : μ.l a = some l) (n : μ b = none) : a ≠ b := fun e => by
  rw [e, n] at h
  cases h
theorem lz {n : Nat} (h : Nat.ble n 100000 = true) : n ≤ 100000 := Nat.le_of_ble_eq_true h
theorem c01 {k : Bool} : -(2 ^ 64 : Int) < (if k = true then 1 else 0) ∧ (if k = true then (1 : Int) else 0) < 2 ^ 64 := by cases k <;> decide
theorem ixN_nat {n j : Nat} (h : j < n) : ixN n (j : Int) = some j := by
  unfold ixN
  rw [if_pos (by omega), if_pos (by omega), Int.toNat_natCast]
theorem cutI_to (ns : List Int) (u : Nat) : cutI ns none (some (u : Int)) = ns.take u := by
  unfold cutI
  rw [HT.sIx_none, HT.sIx_nat, List.drop_zero, Nat.sub_zero]
  exact List.take_eq_take_iff.mpr (by omega)
theorem cutI_len (ns : List Int) (u v : Nat) : (cutI ns (some (u : Int)) (some (v : Int))).length ≤ ns.length - u := by
  unfold cutI
  rw [HT.sIx_nat, HT.sIx_nat, List.length_take, List.length_drop]
  omega
theorem cutD_to (ns : List PyData) (u : Nat) : cutD ns none (some (u : Int)) = ns.take u := by
  unfold cutD
  rw [HT.sIx_none, HT.sIx_nat, List.drop_zero, Nat.sub_zero]
  exact List.take_eq_take_iff.mpr (by omega)
theorem cutD_from (ns : List PyData) (u : Nat) : cutD ns (some (u : Int)) none = ns.drop u := by
  unfold cutD
  rw [HT.sIx_none, HT.sIx_nat]
  by_cases h : u ≤ ns.length
  · rw [Nat.min_eq_left h]
    exact List.take_of_length_le (by rw [List.length_drop]; omega)
  · rw [Nat.min_eq_right (by omega), List.drop_length, List.drop_of_length_le (by omega)]
    simp
theorem prs_at {ds : List PyData} {i : Nat} {z : OV} (h : ((prs (nums ds.length) ds).map OV.im)[i]? = some z) : ∃ d, ds[i]? = some d ∧ z = .im (.tuple [.int (i : Int), d]) := by
  have hi : i < ds.length := by
    have := (List.getElem?_eq_some_iff.mp h).1
    simpa [prs, nums] using this
  rw [List.getElem?_map, prs_get (nums_get hi) (List.getElem?_eq_getElem hi)] at h
  cases h
  exact ⟨_, List.getElem?_eq_getElem hi, rfl⟩
theorem erase_map {α β : Type} (f : α → β) : ∀ (l : List α) (j : Nat), (l.map f).eraseIdx j = (l.eraseIdx j).map f
  | [], _ => rfl
  | _ :: _, 0 => rfl
  | a :: l, j + 1 => by
    show f a :: (l.map f).eraseIdx j = f a :: (l.eraseIdx j).map f
    rw [erase_map f l j]
theorem erase_perm {α : Type} : ∀ (l : List α) (j : Nat) (h : j < l.length), ([l[j]] ++ l.eraseIdx j).Perm l
  | [], _, h => nomatch h
  | _ :: _, 0, _ => List.Perm.refl _
  | a :: l, j + 1, h => by
    have ih := erase_perm l j (by simpa using h)
    show (l[j]'(by simpa using h) :: a :: l.eraseIdx j).Perm (a :: l)
    exact (List.Perm.swap _ _ _).trans (ih.cons a)
theorem fg_of {P : Program} {w : World} {K : PySem.W.Frag} {mg : Str → Option Value} {base : Heap} {k : Nat} {f : Addr} {x : Str} {st : Stmt} {fd : FuncData} {N ps : List Str} {C : Ct} (F : Fun K x x st f fd) (S : FnScope N ps (defScope st)) (len : ∀ os μ Φ, C os μ Φ → os.length = ps.length)
    (body : ∀ (cdv : Value) A outer s H E os μ Φ, Rm k (A.deeper (envOfC x (defScope st) s.heap.objs.size f cdv)) → C os μ Φ →
      DSs (cxOf CX0 P w K mg base N x (defScope st) f cdv A outer s H E).nox (defBody st) (os.map some ++ List.replicate (N.length - os.length) none) μ { nx := fun _ μ' => Φ (.im .none) μ', rt := Φ }) : FnG P w K mg base CX0 (k + 1) f fd ps (spOf C) := by
  refine fng_of F S (fun vs H Q E h => ?_) fun cdv A outer s H vs Q E hr h => ?_
  · obtain ⟨os, μ, G, Φ, _, r, c, _⟩ := h
    rw [r.length]
    exact len _ _ _ c
  · obtain ⟨os, μ, G, Φ, m, r, c, fin⟩ := h
    refine WSs.of (PSs.nox pwss) (body cdv A outer s H E os μ Φ hr c G H _ m (rv_start r) _ ⟨fun ρ' μ' G' H' σ' q e m' _ => fin _ _ _ _ _ q e m' Dv.non, fin, fun _ _ _ _ _ q => q.elim, fun _ _ _ _ _ q => q.elim⟩)
def c_law (K : PySem.W.Frag) : Ct := fun os μ Φ => ∃ ns : List Int, os = [.scr K ns] ∧ ns.length ≤ 63 ∧ ∀ μ', Φ (.im (.bool true)) μ'
theorem law_sp (K : PySem.W.Frag) (H : Hp) (a : Addr) (ns : List Int) (hn : ns.length ≤ 63) (hS : SqL K H a (ns.map V.int)) : spOf (c_law K) [.ref a] H (fun v _ => v = .bl true) fun _ _ _ => False :=
  ⟨[.scr K ns], ⟨fun _ => none, fun _ => none, 0⟩, H, fun o _ => o = .im (.bool true), RM.zero 0, .cons ⟨a, rfl, hS⟩ .nil, ⟨ns, rfl, hn, fun _ => rfl⟩, fun v o μ' G' H' h e m r => by
    subst h
    cases r
    rfl⟩
abbrev iL (ns : List Int) : List PyData := ns.map .int
theorem atI_iL {cs : List Int} {k : Nat} (h : k < cs.length) : atI ((iL cs).map OV.im) (k : Int) = some (.im (.int cs[k])) := by
  apply atI_nat
  rw [List.getElem?_map, List.getElem?_map, List.getElem?_eq_getElem h]
  rfl
theorem iL_get {cs : List Int} {k : Nat} {d : PyData} (h : (iL cs)[k]? = some d) : ∃ c, cs[k]? = some c ∧ d = .int c := by
  rw [List.getElem?_map] at h
  cases q : cs[k]? with
  | none =>
    rw [q] at h
    cases h
  | some c =>
    rw [q] at h
    cases h
    exact ⟨c, rfl, rfl⟩
end Nx
namespace Nx
open PySem PySem.Spec PyProof.Rows L2
def pile : List Str → Nat
  | [] => 0
  | t :: ts => t.length + 2 + pile ts
theorem textFrom_le : ∀ (ts : List Str) (k : Nat) (acc : Str), (textFrom k acc ts).length ≤ acc.length + pile ts
  | [], k, acc => by
    show acc.length ≤ _
    exact Nat.le_add_right _ _
  | t :: r, k, acc => by
    have ih := textFrom_le r (k + 1) (acc ++ (if k > 0 then ", " else "" : String) ++ t)
    have h2 : (Str.ofString (if k > 0 then ", " else "" : String)).length ≤ 2 := by split <;> decide
    rw [Str.length_append, Str.length_append] at ih
    show (textFrom (k + 1) (acc ++ (if k > 0 then ", " else "" : String) ++ t) r).length ≤ acc.length + (t.length + 2 + pile r)
    omega
theorem listText_le (ts : List Str) : (listText ts).length ≤ pile ts + 2 := by
  have h := textFrom_le ts 0 (Str.ofString "[")
  have e1 : (Str.ofString "[").length = 1 := by decide
  have e2 : (Str.ofString "]").length = 1 := by decide
  show (textFrom 0 (Str.ofString "[") ts ++ Str.ofString "]").length ≤ _
  rw [Str.length_append, e2]
  omega
theorem join_le : ∀ ts : List Str, (Str.join ", " ts).length ≤ pile ts
  | [] => by decide
  | [x] => by
    show x.length ≤ x.length + 2 + 0
    omega
  | x :: y :: r => by
    have ih := join_le (y :: r)
    have e : (Str.ofString ", ").length = 2 := by decide
    show (x ++ Str.ofString ", " ++ Str.join ", " (y :: r)).length ≤ x.length + 2 + pile (y :: r)
    rw [Str.length_append, Str.length_append, e]
    omega
theorem tupleText_le (ts : List Str) : (tupleText ts).length ≤ pile ts + 3 := by
  have h := join_le ts
  have e1 : (Str.ofString "(").length = 1 := by decide
  have e2 : (Str.ofString (if ts.length == 1 then ",)" else ")" : String)).length ≤ 2 := by split <;> decide
  show (Str.ofString "(" ++ Str.join ", " ts ++ Str.ofString (if ts.length == 1 then ",)" else ")" : String)).length ≤ _
  rw [Str.length_append, Str.length_append, e1]
  omega
structure Sd (k w : Nat) (d : PyData) : Prop where
  sh : d.showable = true
  nd : d.hasDict = false
  dp : d.depth ≤ k
  ln : d.shown.length ≤ w
structure SdA (k w : Nat) (ds : List PyData) : Prop where
  sh : PyData.showableAll ds = true
  nd : PyData.hasDictAll ds = false
  dp : PyData.depthAll ds ≤ k
  ln : pile (PyData.shownAll ds) ≤ w
theorem Sd.mono {k w k' w' : Nat} {d : PyData} (h : Sd k w d) (hk : k ≤ k') (hw : w ≤ w') : Sd k' w' d := ⟨h.sh, h.nd, Nat.le_trans h.dp hk, Nat.le_trans h.ln hw⟩
theorem SdA.mono {k w k' w' : Nat} {d : List PyData} (h : SdA k w d) (hk : k ≤ k') (hw : w ≤ w') : SdA k' w' d := ⟨h.sh, h.nd, Nat.le_trans h.dp hk, Nat.le_trans h.ln hw⟩
theorem Sd.none : Sd 0 4 .none := ⟨by simp [PyData.showable], by simp [PyData.hasDict], by simp [PyData.depth], by simp only [PyData.shown]; decide⟩
theorem Sd.bool (b : Bool) : Sd 0 5 (.bool b) := ⟨by simp [PyData.showable], by simp [PyData.hasDict], by simp [PyData.depth], by simp only [PyData.shown]; cases b <;> decide⟩
theorem log_small {n : Nat} (h : n < 10 ^ 60) : n.log2 < 1920 := by
  by_cases h0 : n = 0
  · subst h0
    decide
  · exact (Nat.log2_lt h0).mpr (Nat.lt_of_lt_of_le h (Nat.le_trans (show 10 ^ 60 ≤ 2 ^ 200 by decide) (Nat.pow_le_pow_right (by decide) (by decide))))
theorem Sd.int {i : Int} (h : i.natAbs < 10 ^ 60) : Sd 0 61 (.int i) := by
  refine ⟨by simp only [PyData.showable]; exact decide_eq_true (log_small h), by simp [PyData.hasDict], by simp [PyData.depth], ?_⟩
  simp only [PyData.shown]
  have := int_text_length_le10 (a := i) (k := 60) (by decide) h
  show (Str.ofString (toString i)).length ≤ 61
  rw [PySem.ofString_length]
  exact this
theorem SdA.nil : SdA 0 0 [] := ⟨by simp [PyData.showableAll], by simp [PyData.hasDictAll], by simp [PyData.depthAll], by simp [PyData.shownAll, pile]⟩
theorem SdA.cons {k w k' w' : Nat} {d : PyData} {ds : List PyData} (h : Sd k w d) (t : SdA k' w' ds) : SdA (max k k') (w + 2 + w') (d :: ds) := by
  refine ⟨by simp [PyData.showableAll, h.sh, t.sh], by simp [PyData.hasDictAll, h.nd, t.nd], ?_, ?_⟩
  · have := h.dp
    have := t.dp
    simp only [PyData.depthAll]
    omega
  · have := h.ln
    have := t.ln
    simp only [PyData.shownAll, pile]
    omega
theorem Sd.list {k w : Nat} {ds : List PyData} (h : SdA k w ds) : Sd (k + 1) (w + 2) (.list ds) := by
  refine ⟨by simp only [PyData.showable]; exact h.sh, by simp only [PyData.hasDict]; exact h.nd, by simp only [PyData.depth]; exact Nat.succ_le_succ h.dp, ?_⟩
  simp only [PyData.shown]
  exact Nat.le_trans (listText_le _) (Nat.add_le_add_right h.ln 2)
theorem Sd.tuple {k w : Nat} {ds : List PyData} (h : SdA k w ds) : Sd (k + 1) (w + 3) (.tuple ds) := by
  refine ⟨by simp only [PyData.showable]; exact h.sh, by simp only [PyData.hasDict]; exact h.nd, by simp only [PyData.depth]; exact Nat.succ_le_succ h.dp, ?_⟩
  simp only [PyData.shown]
  exact Nat.le_trans (tupleText_le _) (Nat.add_le_add_right h.ln 3)
theorem SdA.all {k w : Nat} : ∀ {ds : List PyData}, (∀ d ∈ ds, Sd k w d) → SdA k ((w + 2) * ds.length) ds
  | [], _ => SdA.nil.mono (Nat.zero_le _) (Nat.zero_le _)
  | d :: ds, h => by
    have t := SdA.all fun d hd => h d (List.mem_cons_of_mem _ hd)
    refine (SdA.cons (h d (List.mem_cons_self ..)) t).mono (by omega) ?_
    rw [List.length_cons, Nat.mul_add, Nat.mul_one]
    omega
theorem SdA.ints {ns : List Int} (h : ∀ i ∈ ns, i.natAbs < 10 ^ 60) : SdA 0 (63 * ns.length) (iL ns) := by
  have := SdA.all (k := 0) (w := 61) (ds := iL ns) fun d hd => by
    obtain ⟨i, hi, rfl⟩ := List.mem_map.mp hd
    exact Sd.int (h i hi)
  rw [List.length_map] at this
  exact this
end Nx
namespace Nx
open PySem PySem.Spec PyProof.Rows L2
def Jsq (K : PySem.W.Frag) (k : Bool) (a : Addr) : It := if k then Itl K a else Itt K a
def iSq (K : PySem.W.Frag) (tl : TE) : TI := fun σ H R => tl σ H fun x H1 => ∃ k a xs, x = .ref a ∧ SqK k H1 a xs ∧ R (Jsq K k a) H1
theorem pi_sq {X : Cx} {tg l : Expr} {tl : TE} (hl : PE X l tl) : PI X tg l (iSq X.K tl) := by
  constructor
  intro pins s σ H R I h
  refine thn (hl.run pins s σ H _ I h) fun v s1 ⟨x, H1, I1, r1, k, a, xs, e, hq, q⟩ => ?_
  subst e
  cases r1
  obtain ⟨its, rv, hs⟩ := hq.at I1
  refine (begins k a its.toArray).iter _ _ _ _ s1 _ hs ?_
  have fp : ∀ b ∈ [s1.heap.objs.size], FpOk X pins H1 b := fun b hb => by
    rw [List.mem_singleton.mp hb]
    exact I1.fpOk (Nat.le_refl _) (I1.hok.fresh (Nat.le_refl _))
  have I2 : Inv X pins σ H1 { s1 with heap := s1.heap.push (itOb k a) } := I1.kept (t' := s1.toks) fun b o e => Heap.get?_push_of_some _ e
  cases k with
  | true => exact ⟨s1.heap.objs.size, [s1.heap.objs.size], _, _, H1, rfl, I2, turn_list a _, ⟨_, Heap.get?_push_size _ rfl, rfl, rfl⟩, fp, q⟩
  | false => exact ⟨s1.heap.objs.size, [s1.heap.objs.size], _, _, H1, rfl, I2, turn_tuple a _, ⟨_, Heap.get?_push_size _ rfl, rfl, rfl⟩, fp, q⟩
theorem di_seq {X : Cx} {tg e : Expr} {ρ : Rho} {μ : Mu} {Ψ : Itd → Mu → Prop} (h : DE X e ρ μ fun o μ1 => ∃ ds, Seq ds o ∧ Ψ ⟨ds.map .im, fun _ => True⟩ μ1) : DI X tg e ρ μ Ψ :=
  ⟨_, pi_sq pwe, fun G H σ m v R f => h G H σ m v _ fun vx x μ1 G1 H1 q1 e1 m1 r1 => by
    obtain ⟨ds, hd, q⟩ := q1
    obtain ⟨k, a, xs, rfl, hq, w⟩ := hd.at r1
    refine ⟨k, a, xs, rfl, m1.ex _ _ hq, f _ _ _ _ _ q e1 m1 ?_⟩
    cases k with
    | true => exact gives_list hq w
    | false => exact gives_tup hq w⟩
theorem ll {n : Nat} (h : Nat.ble (n + 1) 100000 = true) : n < 100000 := Nat.le_of_ble_eq_true h
theorem Seq.sq {μ : Mu} {ds : List PyData} {o : OV} (h : Seq ds o) : SqD μ o (ds.map .im) := by
  cases h with
  | lst => exact .lst ds
  | tup => exact .tup ds
end Nx
namespace Nx
open PySem PySem.Spec PyProof.Rows L2
theorem Gives.ok {J : It} {its : List OV} {ok1 ok2 : Mu → Prop} {G : Hp} (h : Gives J ⟨its, ok1⟩ G) (hi : ∀ μ, ok2 μ → ok1 μ) : Gives J ⟨its, ok2⟩ G := by
  obtain ⟨Gd, Y, wk, h1, h2⟩ := h
  exact ⟨Gd, Y, wk, fun G' H' μ' e m o => h1 G' H' μ' e m (hi _ o), fun i H' x H2 G' μ' e m o y hl => h2 i H' x H2 G' μ' e m (hi _ o) y hl⟩
theorem SqD.sub {μ μ' : Mu} {o : OV} {l : List OV} (h : SqD μ o l) (s : ∀ (a : Addr) (l : List OV), μ a = some l → μ' a = some l) : SqD μ' o l := by
  cases h with
  | lst => exact .lst _
  | tup => exact .tup _
  | own h => exact .own (s _ _ h)
theorem SqD.put {μ : Mu} {o : OV} {l l' : List OV} {p : Addr} (h : SqD μ o l) (hp : μ p = none) : SqD (μ.put p l') o l := h.sub fun a m e => (put_ne (ne_own (μ := μ) e hp)).trans e
end Nx
namespace Nx
open PySem PySem.Spec PyProof.Rows L2
def dTy : PyData → String
  | .none => "NoneType"
  | .bool _ => "bool"
  | .int _ => "int"
  | .str _ => "str"
  | .list _ => "list"
  | .tuple _ => "tuple"
  | .dict _ => "dict"
inductive TyD (μ : Mu) : OV → String → Prop
  | im (d : PyData) : TyD μ (.im d) (dTy d)
  | own {a : Addr} {l : List OV} : μ a = some l → TyD μ (.own a) "list"
theorem TyD.at {K : PySem.W.Frag} {G H : Hp} {μ : Mu} {o : OV} {T : String} {v : V} (h : TyD μ o T) (m : RM G H μ) (r : RO G v o) : TyX K H v (.type T) := by
  cases h with
  | im d =>
    cases r with
    | non => exact .base .non
    | bl b => exact .base (.bl b)
    | int i => exact .base (.int i)
    | str x => exact .base (.str x)
    | lst h1 w => exact .base (.lst (m.ex _ _ h1))
    | tup h1 w => exact .base (.tup (m.ex _ _ h1))
  | own h =>
    have r : v = .ref _ := r
    subst r
    obtain ⟨_, vs, e, w⟩ := m.own _ _ h
    exact .base (.lst e)
section
variable {X : Cx} {e : Expr} {ρ : Rho} {μ : Mu} {Φ : OV → Mu → Prop} {pos p p2 : Pos} {x : Str}
theorem de_isi {T : String} (B : Bt X.mg) (hg : Gl X "isinstance") (hg2 : Gl X x) (hm : X.mg x = none) (hv : bootBuiltins x = some (.type T)) (h : DE X e ρ μ fun o μ1 => ∃ n b, TyD μ1 o n ∧ kitB n T = some b ∧ Φ (.im (.bool b)) μ1)
    (hn : x ≠ "__name__" := by decide) (hdb : (x == ("__debug__" : Str)) = false := by decide) (he : starEach [e, .Name x p2] X.env = (false, eval e X.env) :: starEach [.Name x p2] X.env := by rfl) (he2 : starEach [.Name x p2] X.env = (false, eval (.Name x p2) X.env) :: starEach [] X.env := by rfl)
    (hpl : (backTo pos (starEach [.Name x p2] X.env)).any (·.1) = false := by rfl) : DE X (.Call (.Name "isinstance" p) [e, .Name x p2] [] pos) ρ μ Φ := fun G H σ m v Q f =>
  WE.of (pe_callB call_isi hg B.isinstance rfl (pa_cons pwe (pa_cons (pe_bltn (v := .ty T) hg2 hm hv rfl hn hdb) pa_nil he2) he) (by decide) (by decide) he hpl) (h G H σ m v _ fun vx o μ1 G1 H1 q1 e1 m1 r1 => by
    obtain ⟨n, b, ht, hk, q⟩ := q1
    exact ⟨vx, .ty T, .type n, .type T, b, rfl, .ty T, ht.at m1 r1, kit_ty hk, f _ _ _ _ _ q e1 m1 (Dv.bl b)⟩)
variable {a b : Expr}
theorem dt_notB {i : Bool} {j : Nat} {p' : Pos} {Φ : Bool → Mu → Prop} (h : DE X a ρ μ fun x μ1 => ∃ k, x = .im (.bool k) ∧ Φ (!decide (k = i)) μ1) : DT X (.Compare a [.IsNot] [.Constant (.bool i) j p'] pos) ρ μ Φ :=
  dt_cmp op_notBl rfl (h.imp fun x μ1 ⟨k, hx, q⟩ => de_bl fun G H vx vy m rx ry Q f => by
    subst hx
    cases rx
    cases ry
    exact ⟨_, _, rfl, rfl, f _ _ _ _ _ ⟨_, rfl, q⟩ (Ex.refl G) m (Dv.bl _)⟩)
end
end Nx
namespace Nx
open PySem PySem.Spec PyProof.Rows L2
end Nx
namespace Nx
open PySem PySem.Spec PyProof.Rows L2
section
variable {G H : Hp} {μ : Mu} {p : Addr} {kvs kvs0 : List (List Int × OV)} {xs : List V} {ρ : Rho} {σ : L2.St}
def kvV (kvs : List (List Int × OV)) (xs : List V) : List (List Key × V) := (kvs.map fun p => keyT p.1).zip xs
theorem ThOk.who {C : Addr} {who who' : Addr → Option Addr} {a : Addr} (hw : ∀ x, who x = some a → who' x = some a) : ∀ {t : Th}, ThOk C who G H a t → ThOk C who' G H a t
  | .dT kvs, h => h
  | .cir c, ⟨dx, q, r, vb, xs, ys, h1, h2, h3, h4, h5, h6, h7, h8, h9, h10, h11⟩ => ⟨dx, q, r, vb, xs, ys, h1, h2, h3, h4, hw _ h5, hw _ h6, hw _ h7, h8, h9, h10, h11⟩
theorem RM.freshD (m : RM G H μ) (h : H p = none) : μ.d p = none := by
  obtain ⟨who, t⟩ := m.thg
  cases z : μ.d p with
  | none => rfl
  | some t' => exact absurd rfl (t.ne h (t.ok p t' z).1)
theorem RM.atD (m : RM G H μ) (h : μ.d p = some (.dT kvs)) : G p = none ∧ μ p = none ∧ ∃ xs, H p = some (.dT (kvV kvs xs)) ∧ ROs G xs (kvs.map (·.2)) := by
  obtain ⟨who, t⟩ := m.thg
  obtain ⟨t1, xs, t2, t3⟩ := t.ok p _ h
  exact ⟨(t.of p p t1).1, (t.of p p t1).2.1, xs, t2, t3⟩
end
end Nx
namespace L2
open PySem PySem.Spec PyProof.Rows
end L2
namespace Nx
open PySem PySem.Spec PyProof.Rows L2
inductive Tree (α : Type) where
  | ret (a : α) | fail | draw (n : Nat) (k : Nat → Tree α)
namespace Tree
variable {α β γ : Type}
def bind : Tree α → (α → Tree β) → Tree β
  | ret a, f => f a
  | fail, _ => fail
  | draw n k, f => draw n fun r => bind (k r) f
def All : Tree α → (α → Prop) → Prop
  | ret a, Q => Q a
  | fail, _ => False
  | draw n k, Q => ∀ r, r < n → All (k r) Q
theorem all_bind {f : α → Tree β} {Q : β → Prop} : ∀ {t : Tree α}, (bind t f).All Q ↔ t.All fun a => (f a).All Q
  | ret a => Iff.rfl
  | fail => Iff.rfl
  | draw n k => ⟨fun h r hr => all_bind.mp (h r hr), fun h r hr => all_bind.mpr (h r hr)⟩
theorem All.imp {Q R : α → Prop} (k : ∀ a, Q a → R a) : ∀ {t : Tree α}, t.All Q → t.All R
  | ret a, h => k a h
  | fail, h => h
  | draw n f, h => fun r hr => All.imp k (h r hr)
end Tree
def liftO {α : Type} : Option α → Tree α
  | some a => .ret a
  | none => .fail
theorem lift_all {α : Type} {Q : α → Prop} : ∀ {o : Option α}, (liftO o).All Q → ∃ a, o = some a ∧ Q a
  | some a, h => ⟨a, rfl, h⟩
  | none, h => h.elim
section
variable {α β σ : Type}
def mapT (f : α → Tree β) : List α → Tree (List β)
  | [] => .ret []
  | x :: xs => (f x).bind fun y => (mapT f xs).bind fun ys => .ret (y :: ys)
def pickT (f : α → Tree (Option β)) : List α → Tree (List β)
  | [] => .ret []
  | x :: xs => (f x).bind fun o => (pickT f xs).bind fun ys => .ret (match o with | some y => y :: ys | none => ys)
theorem mapT_ret {f : α → Tree β} {g : α → β} : ∀ {xs : List α}, (∀ x ∈ xs, f x = .ret (g x)) → mapT f xs = .ret (xs.map g)
  | [], _ => rfl
  | x :: xs, h => by
    rw [mapT, h x (List.mem_cons_self ..), mapT_ret (g := g) fun y hy => h y (List.mem_cons_of_mem _ hy)]
    rfl
theorem pickT_ret {f : α → Tree (Option β)} {g : α → Option β} : ∀ {xs : List α}, (∀ x ∈ xs, f x = .ret (g x)) → pickT f xs = .ret (xs.filterMap g)
  | [], _ => rfl
  | x :: xs, h => by
    rw [pickT, h x (List.mem_cons_self ..), pickT_ret (g := g) fun y hy => h y (List.mem_cons_of_mem _ hy)]
    show Tree.ret _ = _
    rw [List.filterMap_cons]
    cases g x <;> rfl
theorem mapT_map {γ : Type} (f : β → Tree γ) (g : α → β) : ∀ xs : List α, mapT f (xs.map g) = mapT (fun x => f (g x)) xs
  | [] => rfl
  | x :: xs => by rw [List.map_cons, mapT, mapT, mapT_map f g xs]
theorem pickT_map {γ : Type} (f : β → Tree (Option γ)) (g : α → β) : ∀ xs : List α, pickT f (xs.map g) = pickT (fun x => f (g x)) xs
  | [] => rfl
  | x :: xs => by rw [List.map_cons, pickT, pickT, pickT_map f g xs]
end
def bx (p q t : Int) : List OV := [.im (.int p), .im (.int q), .im (.int t)]
abbrev TD := List (List Int × PyData)
def imD (kvs : TD) : List (List Int × OV) := kvs.map fun p => (p.1, .im p.2)
def dttP (kvs : TD) : ObP := ⟨fun G v => ∃ a o xs, v = .ref a ∧ G a = some (.frz o (.dT (kvV (imD kvs) xs))) ∧ DvA G xs (kvs.map (·.2)),
  fun e ⟨a, o, xs, h1, h2, h3⟩ => ⟨a, o, xs, h1, e _ _ h2 (fun _ z => nomatch z), h3.ez e⟩, fun ⟨a, _, _, h, _⟩ => ⟨a, h⟩⟩
def excO (oe : Obj) (C dx : Addr) : Prop := oe.cls = .ref C ∧ oe.dict = some dx ∧ ∃ vs, oe.data = .fields vs
def exnP (C : Addr) (f : Str) (d : PyData) : ObP := ⟨fun G v => ∃ a oe u dx y, v = .ref a ∧ G a = some (.frz oe u) ∧ excO oe C dx ∧ G dx = some (.xd [(f, y)]) ∧ Dv G y d,
  fun e ⟨a, oe, u, dx, y, h1, h2, h3, h4, h5⟩ => ⟨a, oe, u, dx, y, h1, e _ _ h2 (fun _ z => nomatch z), h3, e _ _ h4 (fun _ z => nomatch z), h5.ez e⟩, fun ⟨a, _, _, _, _, h, _⟩ => ⟨a, h⟩⟩
abbrev Exs := List (Addr × Str × PyData)
def exsP (l : Exs) : ObP := ⟨fun G v => ∃ a vs, v = .ref a ∧ G a = some (.lst vs) ∧ Paired (fun v x => (exnP x.1 x.2.1 x.2.2).p G v) vs l,
  fun e ⟨a, vs, h1, h2, h3⟩ => ⟨a, vs, h1, e _ _ h2 (fun _ z => nomatch z), Paired.mono (fun _ x h => (exnP x.1 x.2.1 x.2.2).mono e h) h3⟩, fun ⟨a, _, h, _⟩ => ⟨a, h⟩⟩
inductive W where
  | d (x : PyData) | own (ds : List PyData) | bx | dic (kvs : List (PyData × PyData)) | odc (kvs : List (List Int × PyData)) | cir (c : Cir) | lc (c : Cir) | dtt (kvs : TD) | exn (C : Addr) (f : Str) (d : PyData) | exs (l : Exs) | ll (ls : List (List PyData))
def thW : W → Option Th
  | .odc kvs => some (.dT (kvs.map fun p => (p.1, .im p.2)))
  | .cir c => some (.cir c)
  | _ => none
abbrev Env := List (Option W)
inductive Out where
  | nx (E : Env) | rt (v : PyData) | bk (E : Env) | ct (E : Env)
structure Bs (b : Addr) (μ μ' : Mu) : Prop where
  old : ∀ a l, a ≠ b → μ a = some l → μ' a = some l
  box : ∀ p q t, μ b = some (bx p q t) → ∃ p' q' t', μ' b = some (bx p' q' t')
  thg : ∀ a t, μ.d a = some t → μ'.d a = some t
  cls : μ'.C = μ.C
theorem Bs.refl (b : Addr) (μ : Mu) : Bs b μ μ := ⟨fun _ _ _ h => h, fun p q t h => ⟨p, q, t, h⟩, fun _ _ h => h, rfl⟩
theorem Bs.trans {b : Addr} {μ μ1 μ2 : Mu} (h : Bs b μ μ1) (k : Bs b μ1 μ2) : Bs b μ μ2 :=
  ⟨fun a l n e => k.old a l n (h.old a l n e), fun p q t e => let ⟨p1, q1, t1, e1⟩ := h.box p q t e; k.box p1 q1 t1 e1, fun a t e => k.thg a t (h.thg a t e), k.cls.trans h.cls⟩
theorem Bs.put {b p : Addr} {μ : Mu} {l : List OV} (h : μ p = none) : Bs b μ (μ.put p l) :=
  ⟨fun a m _ e => (put_ne (ne_own e h)).trans e, fun u q t e => ⟨u, q, t, (put_ne (ne_own e h)).trans e⟩, fun _ _ e => e, rfl⟩
theorem Bs.set {b : Addr} {μ : Mu} {p q t : Int} : Bs b μ (μ.put b (bx p q t)) := ⟨fun a l n e => (put_ne n).trans e, fun _ _ _ _ => ⟨p, q, t, put_same⟩, fun _ _ e => e, rfl⟩
theorem Bs.sub {b : Addr} {μ μ' μ2 : Mu} (h : Bs b μ μ') (k : ∀ (a : Addr) (l : List OV), μ' a = some l → (μ a).isSome = true ∨ a = b → μ2 a = some l) (kd : ∀ a t, μ'.d a = some t → (μ.d a).isSome = true → μ2.d a = some t) (kC : μ2.C = μ'.C) : Bs b μ μ2 :=
  ⟨fun a l n e => k a l (h.old a l n e) (.inl (by rw [e]; rfl)), fun p q t e => let ⟨p', q', t', e'⟩ := h.box p q t e; ⟨p', q', t', k b _ e' (.inr rfl)⟩, fun a t e => kd a t (h.thg a t e) (by rw [e]; rfl), kC.trans h.cls⟩
def LlAt (b : Addr) (μ0 : Mu) (p : Addr) (ls : List (List PyData)) : Prop := ∃ ps : List Addr, p ≠ b ∧ μ0 p = some (ps.map .own) ∧ (p :: ps).Nodup ∧ Paired (fun q ds => q ≠ b ∧ μ0 q = some (ds.map .im)) ps ls
def RW (b : Addr) (μ0 μ : Mu) : W → OV → Prop
  | .d x, o => o = .im x
  | .bx, o => o = .own b
  | .own ds, o => ∃ p, o = .own p ∧ p ≠ b ∧ μ0 p = none ∧ μ p = some (ds.map .im)
  | .dic kvs, o => o = .dic kvs
  | .odc kvs, o => ∃ p, o = .own p ∧ μ0.d p = none ∧ μ.d p = some (.dT (kvs.map fun p => (p.1, .im p.2)))
  | .cir c, o => ∃ p, o = .own p ∧ μ0.d p = none ∧ μ.d p = some (.cir c)
  | .lc c, o => ∃ p, o = .own p ∧ μ0.d p = some (.cir c)
  | .dtt kvs, o => o = .ob (dttP kvs)
  | .exn C f d, o => o = .ob (exnP C f d)
  | .exs l, o => o = .ob (exsP l)
  | .ll ls, o => ∃ p, o = .own p ∧ LlAt b μ0 p ls
def perW : W → Option OV
  | .dic kvs => some (.dic kvs)
  | .dtt kvs => some (.ob (dttP kvs))
  | .exn C f d => some (.ob (exnP C f d))
  | .exs l => some (.ob (exsP l))
  | _ => none
theorem RW.th {b : Addr} {μ0 μ : Mu} {w : W} {t : Th} (h : thW w = some t) {o : OV} : RW b μ0 μ w o ↔ ∃ p, o = .own p ∧ μ0.d p = none ∧ μ.d p = some t := by
  cases w <;> cases h <;> exact Iff.rfl
theorem RW.per {b : Addr} {μ0 μ : Mu} {w : W} {o o' : OV} (h : perW w = some o) : RW b μ0 μ w o' ↔ o' = o := by
  cases w <;> cases h <;> exact Iff.rfl
def InjT (E : Env) (ρ : Rho) : Prop := ∀ (i j : Nat) w w' p, E[i]? = some (some w) → E[j]? = some (some w') → (thW w).isSome = true → (thW w').isSome = true → ρ[i]? = some (some (.own p)) → ρ[j]? = some (some (.own p)) → i = j
structure Rel (b : Addr) (μ0 : Mu) (E : Env) (ρ : Rho) (μ : Mu) : Prop where
  len : ρ.length = E.length
  bxs : ∃ p q t, μ b = some (bx p q t)
  bx0 : ∃ p q t, μ0 b = some (bx p q t)
  ext : Bs b μ0 μ
  get : ∀ (i : Nat) w, E[i]? = some (some w) → ∃ o, ρ[i]? = some (some o) ∧ RW b μ0 μ w o
  inj : ∀ (i j : Nat) ds es p, E[i]? = some (some (.own ds)) → E[j]? = some (some (.own es)) → ρ[i]? = some (some (.own p)) → ρ[j]? = some (some (.own p)) → i = j
  injT : InjT E ρ
section
variable {b : Addr} {μ0 μ μ' : Mu} {E : Env} {ρ : Rho}
theorem RW.upto {w : W} {o : OV} (h : RW b μ0 μ w o) (kl : ∀ ds p, w = .own ds → o = .own p → p ≠ b → μ0 p = none → μ p = some (ds.map .im) → μ' p = some (ds.map .im)) (kd : ∀ p t, thW w = some t → o = .own p → μ0.d p = none → μ.d p = some t → μ'.d p = some t) : RW b μ0 μ' w o := by
  cases w with
  | d x => exact h
  | bx => exact h
  | dic kvs => exact h
  | lc c => exact h
  | dtt kvs => exact h
  | exn C f d => exact h
  | exs l => exact h
  | ll ls => exact h
  | own ds =>
    obtain ⟨p, a1, a2, a3, a4⟩ := h
    exact ⟨p, a1, a2, a3, kl ds p rfl a1 a2 a3 a4⟩
  | odc kvs =>
    obtain ⟨p, a1, a2, a3⟩ := h
    exact ⟨p, a1, a2, kd p _ rfl a1 a2 a3⟩
  | cir c =>
    obtain ⟨p, a1, a2, a3⟩ := h
    exact ⟨p, a1, a2, kd p _ rfl a1 a2 a3⟩
theorem get_set {α : Type} {l : List (Option α)} {i j : Nat} {x y : α} (h : (l.set i (some x))[j]? = some (some y)) : (i = j ∧ x = y ∧ i < l.length) ∨ (i ≠ j ∧ l[j]? = some (some y)) := by
  by_cases e : i = j
  · subst e
    by_cases hl : i < l.length
    · rw [List.getElem?_set_self hl] at h
      cases h
      exact .inl ⟨rfl, rfl, hl⟩
    · rw [List.getElem?_eq_none (by rw [List.length_set]; omega)] at h
      cases h
  · rw [List.getElem?_set_ne e] at h
    exact .inr ⟨e, h⟩
theorem get_setN {α : Type} {l : List (Option α)} {v j : Nat} {w : α} (e : (l.set v none)[j]? = some (some w)) : v ≠ j ∧ l[j]? = some (some w) := by
  by_cases h : v = j
  · subst h
    by_cases hl : v < l.length
    · rw [List.getElem?_set_self hl] at e
      cases e
    · rw [List.getElem?_eq_none (by rw [List.length_set]; omega)] at e
      cases e
  · rw [List.getElem?_set_ne h] at e
    exact ⟨h, e⟩
theorem InjT.setN (h : InjT E ρ) {i : Nat} {w : W} {o : Option OV} (hw : thW w = none) : InjT (E.set i (some w)) (ρ.set i o) := fun j k u v p e1 e2 t1 t2 h1 h2 => by
  rcases get_set e1 with ⟨_, rfl, _⟩ | ⟨n1, e1⟩
  · rw [hw] at t1
    cases t1
  rcases get_set e2 with ⟨_, rfl, _⟩ | ⟨n2, e2⟩
  · rw [hw] at t2
    cases t2
  rw [List.getElem?_set_ne n1] at h1
  rw [List.getElem?_set_ne n2] at h2
  exact h j k u v p e1 e2 t1 t2 h1 h2
theorem InjT.none (h : InjT E ρ) {i : Nat} {o : Option OV} : InjT (E.set i .none) (ρ.set i o) := fun j k u v p e1 e2 t1 t2 h1 h2 => by
  obtain ⟨n1, e1⟩ := get_setN e1
  obtain ⟨n2, e2⟩ := get_setN e2
  rw [List.getElem?_set_ne n1] at h1
  rw [List.getElem?_set_ne n2] at h2
  exact h j k u v p e1 e2 t1 t2 h1 h2
theorem InjT.chg (h : InjT E ρ) {i : Nat} {w w0 : W} (h0 : E[i]? = some (some w0)) (hw : (thW w).isSome = true → (thW w0).isSome = true) : InjT (E.set i (some w)) ρ := fun j k u v p e1 e2 t1 t2 h1 h2 => by
  have key : ∀ (j : Nat) u, (E.set i (some w))[j]? = some (some u) → (thW u).isSome = true → ∃ u', E[j]? = some (some u') ∧ (thW u').isSome = true := fun j u e t => by
    rcases get_set e with ⟨rfl, rfl, _⟩ | ⟨_, e⟩
    · exact ⟨w0, h0, hw t⟩
    · exact ⟨u, e, t⟩
  obtain ⟨u', f1, t1⟩ := key j u e1 t1
  obtain ⟨v', f2, t2⟩ := key k v e2 t2
  exact h j k u' v' p f1 f2 t1 t2 h1 h2
theorem InjT.new (h : InjT E ρ) (hl : ρ.length = E.length) {i : Nat} {w : W} {p : Addr} (no : ∀ (j : Nat) u, E[j]? = some (some u) → (thW u).isSome = true → ρ[j]? ≠ some (some (.own p))) : InjT (E.set i (some w)) (ρ.set i (some (.own p))) := fun j k u v q e1 e2 t1 t2 h1 h2 => by
  rcases get_set e1 with ⟨rfl, _, l1⟩ | ⟨n1, e1⟩
  · rcases get_set e2 with ⟨rfl, _, _⟩ | ⟨n2, e2⟩
    · rfl
    · rw [List.getElem?_set_self (by rw [hl]; exact l1)] at h1
      cases h1
      rw [List.getElem?_set_ne n2] at h2
      exact absurd h2 (no k v e2 t2)
  · rw [List.getElem?_set_ne n1] at h1
    rcases get_set e2 with ⟨rfl, _, l2⟩ | ⟨n2, e2⟩
    · rw [List.getElem?_set_self (by rw [hl]; exact l2)] at h2
      cases h2
      exact absurd h1 (no j u e1 t1)
    · rw [List.getElem?_set_ne n2] at h2
      exact h j k u v q e1 e2 t1 t2 h1 h2
theorem Rel.step (R : Rel b μ0 E ρ μ) (s : Bs b μ μ') : Rel b μ0 E ρ μ' := by
  obtain ⟨p, q, t, hb⟩ := R.bxs
  refine ⟨R.len, s.box p q t hb, R.bx0, R.ext.trans s, fun i w e => ?_, R.inj, R.injT⟩
  obtain ⟨o, h1, h2⟩ := R.get i w e
  exact ⟨o, h1, h2.upto (fun ds p _ _ nb _ e => s.old _ _ nb e) fun p t _ _ _ e => s.thg _ _ e⟩
theorem Rel.setP (R : Rel b μ0 E ρ μ) (i : Nat) {w : W} {o : OV} (hw : thW w = none) (hn : ∀ ds, w ≠ .own ds) (r : RW b μ0 μ w o) : Rel b μ0 (E.set i (some w)) (ρ.set i (some o)) μ := by
  refine ⟨by rw [List.length_set, List.length_set, R.len], R.bxs, R.bx0, R.ext, fun j w' e => ?_, fun j k ds es p e1 e2 h1 h2 => ?_, R.injT.setN hw⟩
  · rcases get_set e with ⟨rfl, rfl, hl⟩ | ⟨n, e⟩
    · exact ⟨_, List.getElem?_set_self (by rw [R.len]; exact hl), r⟩
    · obtain ⟨o, a1, a2⟩ := R.get j w' e
      exact ⟨o, by rw [List.getElem?_set_ne n]; exact a1, a2⟩
  · rcases get_set e1 with ⟨_, h, _⟩ | ⟨n1, e1⟩
    · exact absurd h (hn _)
    rcases get_set e2 with ⟨_, h, _⟩ | ⟨n2, e2⟩
    · exact absurd h (hn _)
    rw [List.getElem?_set_ne n1] at h1
    rw [List.getElem?_set_ne n2] at h2
    exact R.inj j k ds es p e1 e2 h1 h2
theorem Rel.setD (R : Rel b μ0 E ρ μ) (i : Nat) (x : PyData) : Rel b μ0 (E.set i (some (.d x))) (ρ.set i (some (.im x))) μ := R.setP i rfl (fun _ h => nomatch h) rfl
theorem Rel.setO (R : Rel b μ0 E ρ μ) (i : Nat) {p : Addr} {ds : List PyData} (hp : μ p = none) : Rel b μ0 (E.set i (some (.own ds))) (ρ.set i (some (.own p))) (μ.put p (ds.map .im)) := by
  obtain ⟨u, q, t, hb⟩ := R.bxs
  have nb : p ≠ b := fun e => by rw [e, hb] at hp; cases hp
  have h0 : μ0 p = none := by
    cases z : μ0 p with
    | none => rfl
    | some l =>
      rw [R.ext.old p l nb z] at hp
      cases hp
  have R' := R.step (Bs.put (b := b) (l := ds.map .im) hp)
  refine ⟨by rw [List.length_set, List.length_set, R.len], R'.bxs, R.bx0, R'.ext, fun j w e => ?_, fun j k xs es u e1 e2 h1 h2 => ?_, R.injT.setN rfl⟩
  · rcases get_set e with ⟨rfl, rfl, hl⟩ | ⟨n, e⟩
    · exact ⟨_, List.getElem?_set_self (by rw [R.len]; exact hl), p, rfl, nb, h0, put_same⟩
    · obtain ⟨o, a1, a2⟩ := R'.get j w e
      exact ⟨o, by rw [List.getElem?_set_ne n]; exact a1, a2⟩
  · have other : ∀ (j : Nat) xs, E[j]? = some (some (.own xs)) → ρ[j]? ≠ some (some (.own p)) := fun j xs e h => by
      obtain ⟨o, a1, u', a2, _, _, a3⟩ := R.get j _ e
      rw [a1, a2] at h
      cases h
      rw [a3] at hp
      cases hp
    rcases get_set e1 with ⟨hj, _, hl⟩ | ⟨n1, e1⟩
    · rcases get_set e2 with ⟨hk, _, _⟩ | ⟨n2, e2⟩
      · exact hj.symm.trans hk
      · rw [← hj, List.getElem?_set_self (by rw [R.len]; exact hl)] at h1
        cases h1
        rw [List.getElem?_set_ne n2] at h2
        exact absurd h2 (other k es e2)
    · rw [List.getElem?_set_ne n1] at h1
      rcases get_set e2 with ⟨hk, _, hl⟩ | ⟨n2, e2⟩
      · rw [← hk, List.getElem?_set_self (by rw [R.len]; exact hl)] at h2
        cases h2
        exact absurd h1 (other j xs e1)
      · rw [List.getElem?_set_ne n2] at h2
        exact R.inj j k xs es u e1 e2 h1 h2
theorem Rel.chg (R : Rel b μ0 E ρ μ) {i : Nat} {p : Addr} {ds es : List PyData} (hi : E[i]? = some (some (.own ds))) (hp : ρ[i]? = some (some (.own p))) : Rel b μ0 (E.set i (some (.own es))) ρ (μ.put p (es.map .im)) := by
  obtain ⟨o, a1, p', a2, nb, h0, hμ⟩ := R.get i _ hi
  rw [hp] at a1
  cases a1
  cases a2
  obtain ⟨u, q, t, hb⟩ := R.bxs
  refine ⟨by rw [List.length_set, R.len], ⟨u, q, t, (put_ne fun e => nb e.symm).trans hb⟩, R.bx0, ⟨fun a l n e => ?_, fun u q t e => ?_, R.ext.thg, R.ext.cls⟩, fun j w e => ?_, fun j k xs ys u e1 e2 h1 h2 => ?_, R.injT.chg hi fun h => nomatch h⟩
  · rw [put_ne (fun z => by rw [z, h0] at e; cases e)]
    exact R.ext.old a l n e
  · obtain ⟨u', q', t', e'⟩ := R.ext.box u q t e
    exact ⟨u', q', t', (put_ne fun e => nb e.symm).trans e'⟩
  · rcases get_set e with ⟨rfl, rfl, hl⟩ | ⟨n, e⟩
    · exact ⟨_, hp, p, rfl, nb, h0, put_same⟩
    · obtain ⟨o, a1, a2⟩ := R.get j w e
      refine ⟨o, a1, a2.upto (fun xs u hw c1 _ _ c4 => ?_) fun _ _ _ _ _ e => e⟩
      subst hw
      rw [put_ne]
      · exact c4
      · intro z
        rw [c1, z] at a1
        exact n (R.inj i j ds xs p hi e hp a1)
  · have back : ∀ (j : Nat) xs, (E.set i (some (.own es)))[j]? = some (some (.own xs)) → ∃ ys, E[j]? = some (some (.own ys)) := fun j xs e => by
      rcases get_set e with ⟨rfl, _, _⟩ | ⟨n, e⟩
      · exact ⟨ds, hi⟩
      · exact ⟨xs, e⟩
    obtain ⟨xs', f1⟩ := back j xs e1
    obtain ⟨ys', f2⟩ := back k ys e2
    exact R.inj j k xs' ys' u f1 f2 h1 h2
theorem Rel.frz (R : Rel b μ0 E ρ μ) {i : Nat} {p : Addr} {ds : List PyData} (hi : E[i]? = some (some (.own ds))) (hp : ρ[i]? = some (some (.own p))) : Rel b μ0 (E.set i (some (.d (.list ds)))) (ρ.set i (some (.im (.list ds)))) (μ.del p) := by
  obtain ⟨o, a1, p', a2, nb, h0, hμ⟩ := R.get i _ hi
  rw [hp] at a1
  cases a1
  cases a2
  have dl : ∀ a, a ≠ p → μ.del p a = μ a := fun a n => if_neg n
  obtain ⟨u, q, t, hb⟩ := R.bxs
  refine ⟨by rw [List.length_set, List.length_set, R.len], ⟨u, q, t, (dl b fun e => nb e.symm).trans hb⟩, R.bx0, ⟨fun a l n e => ?_, fun u q t e => ?_, R.ext.thg, R.ext.cls⟩, fun j w e => ?_, fun j k xs ys u e1 e2 h1 h2 => ?_, R.injT.setN rfl⟩
  · rw [dl a (fun z => by rw [z, h0] at e; cases e)]
    exact R.ext.old a l n e
  · obtain ⟨u', q', t', e'⟩ := R.ext.box u q t e
    exact ⟨u', q', t', (dl b fun e => nb e.symm).trans e'⟩
  · rcases get_set e with ⟨rfl, rfl, hl⟩ | ⟨n, e⟩
    · exact ⟨_, List.getElem?_set_self (by rw [R.len]; exact hl), rfl⟩
    · obtain ⟨o, a1, a2⟩ := R.get j w e
      refine ⟨o, by rw [List.getElem?_set_ne n]; exact a1, a2.upto (fun xs u hw c1 _ _ c4 => ?_) fun _ _ _ _ _ e => e⟩
      subst hw
      rw [dl]
      · exact c4
      · intro z
        rw [c1, z] at a1
        exact n (R.inj i j ds xs p hi e hp a1)
  · rcases get_set e1 with ⟨_, h, _⟩ | ⟨n1, e1⟩
    · cases h
    rcases get_set e2 with ⟨_, h, _⟩ | ⟨n2, e2⟩
    · cases h
    rw [List.getElem?_set_ne n1] at h1
    rw [List.getElem?_set_ne n2] at h2
    exact R.inj j k xs ys u e1 e2 h1 h2
theorem Rel.setT (R : Rel b μ0 E ρ μ) (i : Nat) {p : Addr} {w : W} {t : Th} (hw : thW w = some t) (hp : μ.d p = none) : Rel b μ0 (E.set i (some w)) (ρ.set i (some (.own p))) (μ.putD p t) := by
  have h0 : μ0.d p = none := by
    cases z : μ0.d p with
    | none => rfl
    | some l =>
      rw [R.ext.thg p l z] at hp
      cases hp
  have no : ∀ (j : Nat) u, E[j]? = some (some u) → (thW u).isSome = true → ρ[j]? ≠ some (some (.own p)) := fun j u e t h => by
    obtain ⟨o, a1, a2⟩ := R.get j u e
    obtain ⟨t', ht⟩ := Option.isSome_iff_exists.mp t
    obtain ⟨q, rfl, c1, c2⟩ := (RW.th ht).mp a2
    rw [a1] at h
    cases h
    rw [c2] at hp
    cases hp
  have kd : ∀ a t', μ.d a = some t' → (μ.putD p t).d a = some t' := fun a t' e => (putD_ne fun z => by rw [z, hp] at e; cases e).trans e
  refine ⟨by rw [List.length_set, List.length_set, R.len], R.bxs, R.bx0, ⟨R.ext.old, R.ext.box, fun a t' e => kd a t' (R.ext.thg a t' e), R.ext.cls⟩, fun j w' e => ?_, fun j k ds es q e1 e2 h1 h2 => ?_, R.injT.new R.len no⟩
  · rcases get_set e with ⟨rfl, rfl, hl⟩ | ⟨n, e⟩
    · exact ⟨_, List.getElem?_set_self (by rw [R.len]; exact hl), (RW.th hw).mpr ⟨p, rfl, h0, putD_same⟩⟩
    · obtain ⟨o, a1, a2⟩ := R.get j w' e
      exact ⟨o, by rw [List.getElem?_set_ne n]; exact a1, a2.upto (fun _ _ _ _ _ _ h => h) fun q t' _ _ _ h => kd q t' h⟩
  · rcases get_set e1 with ⟨_, h, _⟩ | ⟨n1, e1⟩
    · rw [h] at hw
      cases hw
    rcases get_set e2 with ⟨_, h, _⟩ | ⟨n2, e2⟩
    · rw [h] at hw
      cases hw
    rw [List.getElem?_set_ne n1] at h1
    rw [List.getElem?_set_ne n2] at h2
    exact R.inj j k ds es q e1 e2 h1 h2
theorem Rel.chgT (R : Rel b μ0 E ρ μ) {i : Nat} {p : Addr} {w0 w : W} {t0 t : Th} (hi : E[i]? = some (some w0)) (hp : ρ[i]? = some (some (.own p))) (h0 : thW w0 = some t0) (hw : thW w = some t) : Rel b μ0 (E.set i (some w)) ρ (μ.putD p t) := by
  obtain ⟨o, a1, a2⟩ := R.get i _ hi
  obtain ⟨p', rfl, c1, c2⟩ := (RW.th h0).mp a2
  rw [hp] at a1
  cases a1
  refine ⟨by rw [List.length_set, R.len], R.bxs, R.bx0, ⟨R.ext.old, R.ext.box, fun a t' e => (putD_ne fun z => by rw [z, c1] at e; cases e).trans (R.ext.thg a t' e), R.ext.cls⟩, fun j w' e => ?_, fun j k xs ys u e1 e2 h1 h2 => ?_, R.injT.chg hi fun _ => by rw [h0]; rfl⟩
  · rcases get_set e with ⟨rfl, rfl, hl⟩ | ⟨n, e⟩
    · exact ⟨_, hp, (RW.th hw).mpr ⟨_, rfl, c1, putD_same⟩⟩
    · obtain ⟨o, b1, b2⟩ := R.get j w' e
      refine ⟨o, b1, b2.upto (fun _ _ _ _ _ _ h => h) fun q t' ht ho _ h => (putD_ne fun z => ?_).trans h⟩
      rw [ho, z] at b1
      exact n (R.injT i j w0 w' _ hi e (by rw [h0]; rfl) (by rw [ht]; rfl) hp b1)
  · rcases get_set e1 with ⟨_, h, _⟩ | ⟨n1, e1⟩
    · rw [h] at hw
      cases hw
    rcases get_set e2 with ⟨_, h, _⟩ | ⟨n2, e2⟩
    · rw [h] at hw
      cases hw
    exact R.inj j k xs ys u e1 e2 h1 h2
theorem Bs.putD {p : Addr} {t : Th} (h : μ.d p = none) : Bs b μ (μ.putD p t) := ⟨fun _ _ _ e => e, fun p q t e => ⟨p, q, t, e⟩, fun a t' e => (putD_ne fun z => by rw [z, h] at e; cases e).trans e, rfl⟩
def NoTh (E : Env) (ρ : Rho) (d : Addr) : Prop := ∀ (j : Nat) w, E[j]? = some (some w) → (thW w).isSome = true → ρ[j]? ≠ some (some (.own d))
theorem NoTh.setN {d : Addr} (h : NoTh E ρ d) {i : Nat} {w : W} {o : Option OV} (hw : thW w = none) : NoTh (E.set i (some w)) (ρ.set i o) d := fun j u e t => by
  rcases get_set e with ⟨_, rfl, _⟩ | ⟨n, e⟩
  · rw [hw] at t
    cases t
  · rw [List.getElem?_set_ne n]
    exact h j u e t
theorem Rel.putD (R : Rel b μ0 E ρ μ) {d : Addr} {t : Th} (h0 : μ0.d d = none) (no : NoTh E ρ d) : Rel b μ0 E ρ (μ.putD d t) := by
  refine ⟨R.len, R.bxs, R.bx0, ⟨R.ext.old, R.ext.box, fun a t' e => (putD_ne fun z => by rw [z, h0] at e; cases e).trans (R.ext.thg a t' e), R.ext.cls⟩, fun j w e => ?_, R.inj, R.injT⟩
  obtain ⟨o, a1, a2⟩ := R.get j w e
  refine ⟨o, a1, a2.upto (fun _ _ _ _ _ _ h => h) fun p t' ht ho _ h => (putD_ne fun z => ?_).trans h⟩
  rw [ho, z] at a1
  exact no j w e (by rw [ht]; rfl) a1
def wipeE (E : Env) (vs : List Nat) : Env := vs.foldr (fun v r => r.set v none) E
theorem Rel.wipeO (R : Rel b μ0 E ρ μ) (v : Nat) (o : Option OV) : Rel b μ0 (E.set v none) (ρ.set v o) μ := by
  refine ⟨by rw [List.length_set, List.length_set, R.len], R.bxs, R.bx0, R.ext, fun j w e => ?_, fun j k xs ys u e1 e2 h1 h2 => ?_, R.injT.none⟩
  · obtain ⟨n, e⟩ := get_setN e
    obtain ⟨o, a1, a2⟩ := R.get j w e
    exact ⟨o, by rw [List.getElem?_set_ne n]; exact a1, a2⟩
  · obtain ⟨n1, e1⟩ := get_setN e1
    obtain ⟨n2, e2⟩ := get_setN e2
    rw [List.getElem?_set_ne n1] at h1
    rw [List.getElem?_set_ne n2] at h2
    exact R.inj j k xs ys u e1 e2 h1 h2
theorem Rel.wipe (R : Rel b μ0 E ρ μ) (v : Nat) : Rel b μ0 (E.set v none) (ρ.set v none) μ := R.wipeO v none
theorem Rel.wipes (R : Rel b μ0 E ρ μ) : ∀ vs : List Nat, Rel b μ0 (wipeE E vs) (wipeR ρ vs) μ
  | [] => R
  | v :: vs => (R.wipes vs).wipe v
def putsE (E : Env) : List Nat → List PyData → Env
  | i :: is, x :: xs => putsE (E.set i (some (.d x))) is xs
  | _, _ => E
def putE : Tgt → PyData → Env → Option Env
  | .nm i, x, E => some (E.set i (some (.d x)))
  | .tp is, .tuple xs, E => if xs.length = is.length then some (putsE E is xs) else none
  | .tp _, _, _ => none
theorem Rel.puts : ∀ (is : List Nat) (xs : List PyData) {E : Env} {ρ : Rho}, Rel b μ0 E ρ μ → Rel b μ0 (putsE E is xs) (setAll ρ is xs) μ
  | [], _, _, _, R => R
  | _ :: _, [], _, _, R => R
  | i :: is, x :: xs, _, _, R => Rel.puts is xs (R.setD i x)
theorem Rel.putT (R : Rel b μ0 E ρ μ) {t : Tgt} {x : PyData} {E' : Env} (h : putE t x E = some E') : ∃ ρ', t.put (.im x) ρ = some ρ' ∧ Rel b μ0 E' ρ' μ := by
  cases t with
  | nm i =>
    cases h
    exact ⟨_, rfl, R.setD i x⟩
  | tp is =>
    cases x with
    | tuple xs =>
      simp only [putE] at h
      split at h
      · rename_i hl
        cases h
        exact ⟨_, if_pos hl, R.puts is xs⟩
      · cases h
    | _ => cases h
end
end Nx
namespace Nx
open PySem PySem.Spec PyProof.Rows L2
abbrev DenE := Env → Tree PyData
abbrev DenB := Env → Tree Bool
abbrev DenL := Env → Tree (List PyData)
abbrev DenS := Env → Tree Out
def wo (b : Addr) : W → OV
  | .d x => .im x
  | .bx => .own b
  | .dic kvs => .dic kvs
  | .own _ => .im .none
  | .odc _ => .im .none
  | .cir _ => .im .none
  | .lc _ => .im .none
  | .dtt kvs => .ob (dttP kvs)
  | .exn C f d => .ob (exnP C f d)
  | .exs l => .ob (exsP l)
  | .ll _ => .im .none
structure SE (b : Addr) (X : Cx) (e : Expr) (f : DenE) : Prop where
  run : ∀ μ0 E ρ μ Φ, Rel b μ0 E ρ μ → (f E).All (fun d => ∀ μ', Bs b μ μ' → Φ (.im d) μ') → DE X e ρ μ Φ
structure ST (b : Addr) (X : Cx) (e : Expr) (f : DenB) : Prop where
  run : ∀ μ0 E ρ μ Φ, Rel b μ0 E ρ μ → (f E).All (fun d => ∀ μ', Bs b μ μ' → Φ d μ') → DT X e ρ μ Φ
structure SW (b : Addr) (X : Cx) (e : Expr) (f : DenB) : Prop where
  run : ∀ μ0 E ρ μ Φ, Rel b μ0 E ρ μ → (f E).All (fun d => ∀ μ', Bs b μ μ' → Φ d μ') → DW X e ρ μ Φ
structure SD (b : Addr) (X : Cx) (es : List Expr) (f : DenL) : Prop where
  run : ∀ μ0 E ρ μ Λ, Rel b μ0 E ρ μ → (f E).All (fun ds => ∀ μ', Bs b μ μ' → Λ (ds.map .im) μ') → DA X es ρ μ Λ
structure SA (b : Addr) (X : Cx) (es : List Expr) (f : Env → Tree (List W)) : Prop where
  run : ∀ μ0 E ρ μ Λ, Rel b μ0 E ρ μ → (f E).All (fun ws => ∀ μ', Bs b μ μ' → Λ (ws.map (wo b)) μ') → DA X es ρ μ Λ
structure SI (b : Addr) (X : Cx) (tg e : Expr) (f : DenL) : Prop where
  run : ∀ μ0 E ρ μ Ψ, Rel b μ0 E ρ μ → (f E).All (fun ds => ∀ μ', Bs b μ μ' → Ψ ⟨ds.map .im, fun _ => True⟩ μ') → DI X tg e ρ μ Ψ
def OutOk (b : Addr) (μ0 : Mu) (D : DEnds) : Out → Prop
  | .nx E => ∀ ρ μ, Rel b μ0 E ρ μ → D.nx ρ μ
  | .bk E => ∀ ρ μ, Rel b μ0 E ρ μ → D.bk ρ μ
  | .ct E => ∀ ρ μ, Rel b μ0 E ρ μ → D.ct ρ μ
  | .rt v => ∀ μ, Bs b μ0 μ → D.rt (.im v) μ
structure SS (b : Addr) (X : Cx) (s : Stmt) (f : DenS) : Prop where
  run : ∀ μ0 E ρ μ D, Rel b μ0 E ρ μ → (f E).All (OutOk b μ0 D) → DS X s ρ μ D
structure SSs (b : Addr) (X : Cx) (ss : List Stmt) (f : DenS) : Prop where
  run : ∀ μ0 E ρ μ D, Rel b μ0 E ρ μ → (f E).All (OutOk b μ0 D) → DSs X ss ρ μ D
def dV (i : Nat) : DenE := fun E => match E[i]? with | some (some (.d x)) => .ret x | _ => .fail
def dC (x : PyData) : DenE := fun _ => .ret x
def d1 (g : PyData → Option PyData) (f : DenE) : DenE := fun E => (f E).bind fun x => liftO (g x)
def d2 (g : PyData → PyData → Option PyData) (f h : DenE) : DenE := fun E => (f E).bind fun x => (h E).bind fun y => liftO (g x y)
def t2 (g : PyData → PyData → Option Bool) (f h : DenE) : DenB := fun E => (f E).bind fun x => (h E).bind fun y => liftO (g x y)
def l0 : DenL := fun _ => .ret []
def lC (f : DenE) (fs : DenL) : DenL := fun E => (f E).bind fun x => (fs E).bind fun xs => .ret (x :: xs)
def small (n : Nat) : Option Unit := if n ≤ 100000 then some () else none
def dL (fs : DenL) : DenE := fun E => (fs E).bind fun xs => (liftO (small xs.length)).bind fun _ => .ret (.list xs)
def dT (fs : DenL) : DenE := fun E => (fs E).bind fun xs => (liftO (small xs.length)).bind fun _ => .ret (.tuple xs)
def aV (i : Nat) : Env → Tree W := fun E => match E[i]? with | some (some (.d x)) => .ret (.d x) | some (some .bx) => .ret .bx | some (some (.dic k)) => .ret (.dic k) | some (some (.dtt k)) => .ret (.dtt k) | some (some (.exn C f d)) => .ret (.exn C f d) | some (some (.exs l)) => .ret (.exs l) | _ => .fail
def aE (f : DenE) : Env → Tree W := fun E => (f E).bind fun x => .ret (.d x)
def a0 : Env → Tree (List W) := fun _ => .ret []
def aC (f : Env → Tree W) (fs : Env → Tree (List W)) : Env → Tree (List W) := fun E => (f E).bind fun x => (fs E).bind fun xs => .ret (x :: xs)
def dCall (F : List W → Tree PyData) (fs : Env → Tree (List W)) : DenE := fun E => (fs E).bind F
def dIf (c : DenB) (f g : DenE) : DenE := fun E => (c E).bind fun k => match k with | true => f E | false => g E
def asB : PyData → Option Bool
  | .bool k => some k
  | _ => none
def truth : PyData → Option Bool
  | .none => some false
  | .bool k => some k
  | .int i => some (i != 0)
  | .list xs => some !xs.isEmpty
  | .tuple xs => some !xs.isEmpty
  | _ => none
def tV (f : DenE) : DenB := fun E => (f E).bind fun x => liftO (asB x)
def tTr (f : DenE) : DenB := fun E => (f E).bind fun x => liftO (truth x)
def tNot (f : DenB) : DenB := fun E => (f E).bind fun k => .ret (!k)
def tAnd (f g : DenB) : DenB := fun E => (f E).bind fun k => match k with | true => g E | false => .ret false
def tOr (f g : DenB) : DenB := fun E => (f E).bind fun k => match k with | true => .ret true | false => g E
def dAnd (f g : DenE) : DenE := fun E => (f E).bind fun x => match x with | .bool true => g E | .bool false => .ret (.bool false) | _ => .fail
def dOr (f g : DenE) : DenE := fun E => (f E).bind fun x => match x with | .bool true => .ret (.bool true) | .bool false => g E | _ => .fail
def few (n : Nat) : Option Unit := if n ≤ 50000 then some () else none
def dLc (t : Tgt) (vs : List Nat) (it : DenL) (elt : DenE) : DenE := fun E => (it E).bind fun xs => (liftO (few xs.length)).bind fun _ =>
  (mapT (fun x => (liftO (putE t x (wipeE E vs))).bind elt) xs).bind fun ys => .ret (.list ys)
def dLf (t : Tgt) (vs : List Nat) (it : DenL) (c : DenB) (elt : DenE) : DenE := fun E => (it E).bind fun xs => (liftO (few xs.length)).bind fun _ =>
  (pickT (fun x => (liftO (putE t x (wipeE E vs))).bind fun E' => (c E').bind fun k => match k with | true => (elt E').bind fun y => .ret (some y) | false => .ret none) xs).bind fun ys => .ret (.list ys)
def sSet (i : Nat) (f : DenE) : DenS := fun E => (f E).bind fun x => .ret (.nx (E.set i (some (.d x))))
def sAsg (t : Tgt) (f : DenE) : DenS := fun E => (f E).bind fun x => (liftO (putE t x E)).bind fun E' => .ret (.nx E')
def sPar (is : List Nat) (fs : DenL) : DenS := fun E => (fs E).bind fun xs => .ret (.nx (putsE E is xs))
def sRet (f : DenE) : DenS := fun E => (f E).bind fun x => .ret (.rt x)
def s0 : DenS := fun E => .ret (.nx E)
def sC (s ss : DenS) : DenS := fun E => (s E).bind fun o => match o with | .nx E' => ss E' | o => .ret o
def sIf (c : DenB) (s1 s2 : DenS) : DenS := fun E => (c E).bind fun k => match k with | true => s1 E | false => s2 E
def sX (f : DenE) : DenS := fun E => (f E).bind fun _ => .ret (.nx E)
def forT (t : Tgt) (body : DenS) : List PyData → Env → Tree Out
  | [], E => .ret (.nx E)
  | x :: xs, E => (liftO (putE t x E)).bind fun E' => (body E').bind fun o => match o with
    | .nx E2 => forT t body xs E2
    | .ct E2 => forT t body xs E2
    | .bk E2 => .ret (.nx E2)
    | .rt v => .ret (.rt v)
def sFor (t : Tgt) (it : DenL) (body : DenS) : DenS := fun E => (it E).bind fun xs => forT t body xs E
def sOwn (i : Nat) (f : DenE) : DenS := fun E => (f E).bind fun x => match x with | .list xs => .ret (.nx (E.set i (some (.own xs)))) | _ => .fail
def sApp (i : Nat) (f : DenE) : DenS := fun E => match E[i]? with | some (some (.own l)) => (f E).bind fun y => (liftO (small (l.length + 1))).bind fun _ => .ret (.nx (E.set i (some (.own (l ++ [y]))))) | _ => .fail
def frzE (i : Nat) (E : Env) : Env := match E[i]? with | some (some (.own l)) => E.set i (some (.d (.list l))) | _ => E
def sFrz (i : Nat) (ss : DenS) : DenS := fun E => ss (frzE i E)
def outV : Out → Tree PyData
  | .rt v => .ret v
  | .nx _ => .ret .none
  | _ => .fail
def noOwn : W → Bool
  | .own _ => false
  | .odc _ => false
  | .cir _ => false
  | .lc _ => false
  | .ll _ => false
  | _ => true
section
variable {b : Addr} {X : Cx} {e x y : Expr} {es : List Expr} {f fx fy fz : DenE} {fs : DenL} {pos : Pos}
open Tree
theorem dV_all {i : Nat} {E : Env} {Q : PyData → Prop} (h : (dV i E).All Q) : ∃ d, E[i]? = some (some (.d d)) ∧ Q d := by
  unfold dV at h
  split at h
  · rename_i d hd
    exact ⟨d, hd, h⟩
  · exact h.elim
theorem se_v (i : Nat) {n : Str} (hN : X.N[i]? = some n := by rfl) (hv : Vis X.env.scope n := by first | exact Or.inl rfl | exact Or.inr (Or.inl rfl) | exact Or.inr (Or.inr rfl)) (hd : (n == ("__debug__" : Str)) = false := by decide) (hcd : (n == ("__classdict__" : Str)) = false := by decide) : SE b X (.Name n pos) (dV i) := .mk fun μ0 E ρ μ Φ R h => by
  obtain ⟨d, hd', q⟩ := dV_all h
  obtain ⟨o, h1, h2⟩ := R.get i _ hd'
  cases h2
  exact de_var i hN hv h1 (q μ (Bs.refl b μ)) hd hcd
theorem se_int {i : Int} {j : Nat} : SE b X (.Constant (.int i) j pos) (dC (.int i)) := .mk fun μ0 E ρ μ Φ R h => de_int (h μ (Bs.refl b μ))
theorem se_bl {i : Bool} {j : Nat} : SE b X (.Constant (.bool i) j pos) (dC (.bool i)) := .mk fun μ0 E ρ μ Φ R h => de_bl (h μ (Bs.refl b μ))
theorem se_non {j : Nat} : SE b X (.Constant .none j pos) (dC .none) := .mk fun μ0 E ρ μ Φ R h => de_non (h μ (Bs.refl b μ))
def G1 (g : PyData → Option PyData) (u : OV) (μ : Mu) (Φ : OV → Mu → Prop) : Prop := ∃ d r, u = .im d ∧ g d = some r ∧ Φ (.im r) μ
theorem se_1 {g : PyData → Option PyData} (hx : SE b X x fx) (hop : ∀ ρ μ Φ, (DE X x ρ μ fun u μ1 => G1 g u μ1 Φ) → DE X e ρ μ Φ) : SE b X e (d1 g fx) := .mk fun μ0 E ρ μ Φ R h =>
  hop ρ μ Φ (hx.run μ0 E ρ μ _ R ((all_bind.mp h).imp fun d q μ1 s1 => let ⟨r, hr, q⟩ := lift_all q; ⟨d, r, rfl, hr, q μ1 s1⟩))
def G2 (g : PyData → PyData → Option PyData) (u v : OV) (μ : Mu) (Φ : OV → Mu → Prop) : Prop := ∃ d d' r, u = .im d ∧ v = .im d' ∧ g d d' = some r ∧ Φ (.im r) μ
theorem se_2 {g : PyData → PyData → Option PyData} (hx : SE b X x fx) (hy : SE b X y fy) (hop : ∀ ρ μ Φ, (DE X x ρ μ fun u μ1 => DE X y ρ μ1 fun v μ2 => G2 g u v μ2 Φ) → DE X e ρ μ Φ) : SE b X e (d2 g fx fy) := .mk fun μ0 E ρ μ Φ R h =>
  hop ρ μ Φ (hx.run μ0 E ρ μ _ R ((all_bind.mp h).imp fun d q μ1 s1 => hy.run μ0 E ρ μ1 _ (R.step s1) ((all_bind.mp q).imp fun d' q μ2 s2 => let ⟨r, hr, q⟩ := lift_all q; ⟨d, d', r, rfl, rfl, hr, q μ2 (s1.trans s2)⟩)))
def OkOp (r : R2) (g : PyData → PyData → Option PyData) : Prop := ∀ d d' v μ Φ, g d d' = some v → Φ (.im v) μ → OpD r (.im d) (.im d') μ Φ
theorem se_op {op : Operator} {r : R2} {g : PyData → PyData → Option PyData} (ho : OpR X (binaryOp op) r) (hk : OkOp r g) (hx : SE b X x fx) (hy : SE b X y fy) : SE b X (.BinOp x op y pos) (d2 g fx fy) :=
  se_2 hx hy fun ρ μ Φ h => de_op ho (h.imp fun u μ1 h1 => h1.imp fun v μ2 ⟨d, d', r, e1, e2, hr, q⟩ => by subst e1 e2; exact hk d d' r μ2 Φ hr q)
def OkCmp (r : R2) (g : PyData → PyData → Option Bool) : Prop := ∀ d d' v μ Φ, g d d' = some v → Φ (.im (.bool v)) μ → OpD r (.im d) (.im d') μ Φ
def bD (g : PyData → PyData → Option Bool) (d d' : PyData) : Option PyData := match g d d' with | some k => some (.bool k) | none => none
theorem bD_some {g : PyData → PyData → Option Bool} {d d' r : PyData} (h : bD g d d' = some r) : ∃ k, g d d' = some k ∧ r = .bool k := by
  unfold bD at h
  split at h
  · cases h
    exact ⟨_, ‹_›, rfl⟩
  · cases h
theorem se_cmp {op : CmpOp} {r : R2} {g : PyData → PyData → Option Bool} (ho : OpR X (compareOp op) r) (hm : behindInMarks op y = false) (hk : OkCmp r g) (hx : SE b X x fx) (hy : SE b X y fy) : SE b X (.Compare x [op] [y] pos) (d2 (bD g) fx fy) :=
  se_2 hx hy fun ρ μ Φ h => de_cmp ho hm (h.imp fun u μ1 h1 => h1.imp fun v μ2 ⟨d, d', r, e1, e2, hr, q⟩ => by
    subst e1 e2
    obtain ⟨k, hk', rfl⟩ := bD_some hr
    exact hk d d' k μ2 Φ hk' q)
theorem st_cmp {op : CmpOp} {r : R2} {g : PyData → PyData → Option Bool} (ho : OpR X (compareOp op) r) (hm : behindInMarks op y = false) (hk : OkCmp r g) (hx : SE b X x fx) (hy : SE b X y fy) : ST b X (.Compare x [op] [y] pos) (t2 g fx fy) := .mk fun μ0 E ρ μ Φ R h =>
  dt_cmp ho hm (hx.run μ0 E ρ μ _ R ((all_bind.mp h).imp fun d q μ1 s1 => hy.run μ0 E ρ μ1 _ (R.step s1) ((all_bind.mp q).imp fun d' q μ2 s2 => let ⟨r, hr, q⟩ := lift_all q; hk d d' r μ2 _ hr ⟨r, rfl, q μ2 (s1.trans s2)⟩)))
theorem dt_tru {ρ : Rho} {μ : Mu} {Φ : Bool → Mu → Prop} (h : DE X x ρ μ fun u μ1 => ∃ d k, u = .im d ∧ truth d = some k ∧ Φ k μ1) (he : ∀ whole, isTrue x X.env whole = (do let v ← whole; standAt x.pos; holding [v] (truthy v)) := by intro _; rfl) : DT X x ρ μ Φ := fun G H σ m v Q f =>
  WT.of (pt_truth pwe he) (h G H σ m v _ fun vx u μ1 G1 H1 q1 e1 m1 r1 => by
    obtain ⟨d, k, rfl, hk, q⟩ := q1
    refine ⟨k, ?_, f _ _ _ _ q e1 m1⟩
    have r1 : Dv G1 vx d := r1
    cases r1 with
    | non => cases hk; rfl
    | bl k => cases hk; rfl
    | int i => cases hk; rfl
    | str x => cases hk
    | lst h1 w =>
      cases hk
      exact .inl ⟨_, .inl (.inl (m1.ex _ _ h1)), by cases w <;> rfl⟩
    | tup h1 w =>
      cases hk
      exact .inr (.inl ⟨_, .inl (.inl (m1.ex _ _ h1)), by cases w <;> rfl⟩))
theorem st_tru (hx : SE b X x fx) (he : ∀ whole, isTrue x X.env whole = (do let v ← whole; standAt x.pos; holding [v] (truthy v)) := by intro _; rfl) : ST b X x (tTr fx) := .mk fun μ0 E ρ μ Φ R h =>
  dt_tru (hx.run μ0 E ρ μ _ R ((all_bind.mp h).imp fun d q μ1 s1 => let ⟨k, hk, q⟩ := lift_all q; ⟨d, k, rfl, hk, q μ1 s1⟩)) he
variable {fb gb : DenB} {rest : List Expr}
theorem st_not (hx : ST b X x fb) : ST b X (.UnaryOp .Not x pos) (tNot fb) := .mk fun μ0 E ρ μ Φ R h => dt_not (hx.run μ0 E ρ μ _ R ((all_bind.mp h).imp fun k q => q))
theorem st_w (h : SW b X e fb) : ST b X e fb := .mk fun μ0 E ρ μ Φ R q => (h.run μ0 E ρ μ Φ R q).dt
theorem sw_or1 (h : ST b X x fb) : SW b X (.BoolOp .Or [x] pos) fb := .mk fun μ0 E ρ μ Φ R q => dw_or1 (h.run μ0 E ρ μ Φ R q)
theorem sw_or (h : ST b X x fb) (k : SW b X (.BoolOp .Or (y :: rest) pos) gb) : SW b X (.BoolOp .Or (x :: y :: rest) pos) (tOr fb gb) := .mk fun μ0 E ρ μ Φ R q =>
  dw_or (h.run μ0 E ρ μ _ R ((all_bind.mp q).imp fun v q μ1 s1 => by
    cases v with
    | true =>
      rw [if_pos rfl]
      exact q μ1 s1
    | false =>
      rw [if_neg (by decide)]
      exact k.run μ0 E ρ μ1 _ (R.step s1) (All.imp (fun v q μ2 s2 => q μ2 (s1.trans s2)) q)))
theorem se_one {op} (h : SE b X x fx) : SE b X (.BoolOp op [x] pos) fx := .mk fun μ0 E ρ μ Φ R q => de_one (h.run μ0 E ρ μ Φ R q)
theorem se_and (h : SE b X x fx) (k : SE b X (.BoolOp .And (y :: rest) pos) fy) : SE b X (.BoolOp .And (x :: y :: rest) pos) (dAnd fx fy) := .mk fun μ0 E ρ μ Φ R q =>
  de_and (h.run μ0 E ρ μ _ R ((all_bind.mp q).imp fun v q μ1 s1 => by
    split at q
    · exact ⟨true, rfl, by rw [if_pos rfl]; exact k.run μ0 E ρ μ1 _ (R.step s1) (All.imp (fun v q μ2 s2 => q μ2 (s1.trans s2)) q)⟩
    · exact ⟨false, rfl, by rw [if_neg (by decide)]; exact q μ1 s1⟩
    · exact q.elim))
def pNot (d : PyData) : Option PyData := match d with | .bool k => some (.bool !k) | _ => none
theorem se_if (hc : ST b X e fb) (hx : SE b X x fx) (hy : SE b X y fy) : SE b X (.IfExp e x y pos) (dIf fb fx fy) := .mk fun μ0 E ρ μ Φ R q =>
  de_ifExp (hc.run μ0 E ρ μ _ R ((all_bind.mp q).imp fun k q μ1 s1 => by
    cases k with
    | true =>
      rw [if_pos rfl]
      exact hx.run μ0 E ρ μ1 _ (R.step s1) (All.imp (fun v q μ2 s2 => q μ2 (s1.trans s2)) q)
    | false =>
      rw [if_neg (by decide)]
      exact hy.run μ0 E ρ μ1 _ (R.step s1) (All.imp (fun v q μ2 s2 => q μ2 (s1.trans s2)) q)))
theorem sd_nil : SD b X [] l0 := .mk fun μ0 E ρ μ Λ R h => da_nil (h μ (Bs.refl b μ))
theorem sd_cons (hx : SE b X x fx) (ht : SD b X es fs) (hs : starEach (x :: es) X.env = (false, eval x X.env) :: starEach es X.env := by rfl) : SD b X (x :: es) (lC fx fs) := .mk fun μ0 E ρ μ Λ R h =>
  da_cons (hx.run μ0 E ρ μ _ R ((all_bind.mp h).imp fun d q μ1 s1 => ht.run μ0 E ρ μ1 _ (R.step s1) ((all_bind.mp q).imp fun ds q μ2 s2 => q μ2 (s1.trans s2)))) hs
theorem small_le {n : Nat} {Q : Unit → Prop} (h : (liftO (small n)).All Q) : n ≤ 100000 ∧ Q () := by
  obtain ⟨a, h1, h2⟩ := lift_all h
  unfold small at h1
  split at h1
  · exact ⟨‹_›, h2⟩
  · cases h1
theorem few_le {n : Nat} {Q : Unit → Prop} (h : (liftO (few n)).All Q) : n ≤ 50000 ∧ Q () := by
  obtain ⟨a, h1, h2⟩ := lift_all h
  unfold few at h1
  split at h1
  · exact ⟨‹_›, h2⟩
  · cases h1
theorem se_lst (h : SD b X es fs) : SE b X (.List es pos) (dL fs) := .mk fun μ0 E ρ μ Φ R q =>
  de_lst (h.run μ0 E ρ μ _ R ((all_bind.mp q).imp fun ds q μ1 s1 => let ⟨hz, q⟩ := small_le (all_bind.mp q); ⟨ds, rfl, hz, q μ1 s1⟩))
theorem se_tup {k : Nat} (h : SD b X es fs) : SE b X (.Tuple es k pos) (dT fs) := .mk fun μ0 E ρ μ Φ R q =>
  de_tup (h.run μ0 E ρ μ _ R ((all_bind.mp q).imp fun ds q μ1 s1 => let ⟨hz, q⟩ := small_le (all_bind.mp q); ⟨ds, rfl, hz, q μ1 s1⟩))
variable {ga : Env → Tree W} {gs : Env → Tree (List W)}
structure SV (b : Addr) (X : Cx) (e : Expr) (f : Env → Tree W) : Prop where
  run : ∀ μ0 E ρ μ Φ, Rel b μ0 E ρ μ → (f E).All (fun w => ∀ μ', Bs b μ μ' → Φ (wo b w) μ') → DE X e ρ μ Φ
theorem sv_v (i : Nat) {n : Str} (hN : X.N[i]? = some n := by rfl) (hv : Vis X.env.scope n := by first | exact Or.inl rfl | exact Or.inr (Or.inl rfl) | exact Or.inr (Or.inr rfl)) (hd : (n == ("__debug__" : Str)) = false := by decide) (hcd : (n == ("__classdict__" : Str)) = false := by decide) : SV b X (.Name n pos) (aV i) := .mk fun μ0 E ρ μ Φ R h => by
  unfold aV at h
  split at h
  · rename_i d hd'
    obtain ⟨o, h1, h2⟩ := R.get i _ hd'
    cases h2
    exact de_var i hN hv h1 (h μ (Bs.refl b μ)) hd hcd
  · rename_i hd'
    obtain ⟨o, h1, h2⟩ := R.get i _ hd'
    cases h2
    exact de_var i hN hv h1 (h μ (Bs.refl b μ)) hd hcd
  · rename_i hd'
    obtain ⟨o, h1, h2⟩ := R.get i _ hd'
    cases h2
    exact de_var i hN hv h1 (h μ (Bs.refl b μ)) hd hcd
  · rename_i hd'
    obtain ⟨o, h1, h2⟩ := R.get i _ hd'
    cases h2
    exact de_var i hN hv h1 (h μ (Bs.refl b μ)) hd hcd
  · rename_i hd'
    obtain ⟨o, h1, h2⟩ := R.get i _ hd'
    cases h2
    exact de_var i hN hv h1 (h μ (Bs.refl b μ)) hd hcd
  · rename_i hd'
    obtain ⟨o, h1, h2⟩ := R.get i _ hd'
    cases h2
    exact de_var i hN hv h1 (h μ (Bs.refl b μ)) hd hcd
  · exact h.elim
theorem sv_e (h : SE b X x fx) : SV b X x (aE fx) := .mk fun μ0 E ρ μ Φ R q => h.run μ0 E ρ μ Φ R ((all_bind.mp q).imp fun d q => q)
theorem sa_nil : SA b X [] a0 := .mk fun μ0 E ρ μ Λ R h => da_nil (h μ (Bs.refl b μ))
theorem sa_cons (hx : SV b X x ga) (ht : SA b X es gs) (hs : starEach (x :: es) X.env = (false, eval x X.env) :: starEach es X.env := by rfl) : SA b X (x :: es) (aC ga gs) := .mk fun μ0 E ρ μ Λ R h =>
  da_cons (hx.run μ0 E ρ μ _ R ((all_bind.mp h).imp fun d q μ1 s1 => ht.run μ0 E ρ μ1 _ (R.step s1) ((all_bind.mp q).imp fun ds q μ2 s2 => q μ2 (s1.trans s2)))) hs
end
end Nx
namespace Nx
open PySem PySem.Spec PyProof.Rows L2
open Tree
def ent : W → W
  | .own _ => .d .none
  | .odc _ => .d .none
  | .cir _ => .d .none
  | .lc _ => .d .none
  | .ll _ => .d .none
  | w => w
def lenIs {α : Type} (n : Nat) (ws : List α) : Option Unit := if ws.length = n then some () else none
theorem lenIs_all {α : Type} {n : Nat} {ws : List α} {Q : Unit → Prop} (h : (liftO (lenIs n ws)).All Q) : ws.length = n ∧ Q () := by
  obtain ⟨a, h1, h2⟩ := lift_all h
  unfold lenIs at h1
  split at h1
  · exact ⟨‹_›, h2⟩
  · cases h1
def fnF (a n : Nat) (body : DenS) : List W → Tree PyData := fun ws => (liftO (lenIs a ws)).bind fun _ => (body (ws.map (fun w => some (ent w)) ++ List.replicate (n - a) none)).bind outV
def cF (F : List W → Tree PyData) : Ct := fun os μ Φ => ∃ b ws, os = ws.map (wo b) ∧ (∃ p q t, μ b = some (bx p q t)) ∧ (F ws).All (fun d => ∀ μ', Bs b μ μ' → Φ (.im d) μ')
section
variable {P : Program} {w : World} {K : PySem.W.Frag} {mg : Str → Option Value} {base : Heap}
theorem Fc.imp {k : Nat} {x : Str} {st : Stmt} {ps : List Str} {C C' : Ct} (F : Fc P w K mg base x st ps k C) (h : ∀ os μ Φ, C' os μ Φ → C os μ Φ) : Fc P w K mg base x st ps k C' := by
  obtain ⟨f, fd, a, b, c⟩ := F.ex
  refine ⟨⟨f, fd, a, b, ⟨fun vs H Q E ⟨os, μ, G, Φ, m, r, q, fi⟩ => c.len vs H Q E ⟨os, μ, G, Φ, m, r, h _ _ _ q, fi⟩, fun A outer s H args us vs Q E r e b v ⟨os, μ, G, Φ, m, r', q, fi⟩ => c.run A outer s H args us vs Q E r e b v ⟨os, μ, G, Φ, m, r', h _ _ _ q, fi⟩⟩⟩⟩
theorem rel_start {b : Addr} {μ : Mu} {ws : List W} (n : Nat) (hb : ∃ p q t, μ b = some (bx p q t)) : Rel b μ (ws.map (fun w => some (ent w)) ++ List.replicate n none) ((ws.map (wo b)).map some ++ List.replicate n none) μ := by
  have key : ∀ (i : Nat) v, (ws.map (fun w => some (ent w)) ++ List.replicate n none)[i]? = some (some v) → ∃ u, ws[i]? = some u ∧ v = ent u ∧ ((ws.map (wo b)).map some ++ List.replicate n none)[i]? = some (some (wo b u)) := fun i v h => by
    by_cases hi : i < ws.length
    · rw [List.getElem?_append_left (by simpa using hi), List.getElem?_map, List.getElem?_eq_getElem hi] at h
      cases h
      refine ⟨_, List.getElem?_eq_getElem hi, rfl, ?_⟩
      rw [List.getElem?_append_left (by simpa using hi), List.getElem?_map, List.getElem?_map, List.getElem?_eq_getElem hi]
      rfl
    · rw [List.getElem?_append_right (by simpa using hi), List.getElem?_replicate] at h
      split at h <;> cases h
  refine ⟨by simp, hb, hb, Bs.refl b μ, fun i v h => ?_, fun i j ds es p h _ _ _ => ?_, fun i j w w' p h _ t _ _ _ => ?_⟩
  · obtain ⟨u, hu, rfl, h2⟩ := key i v h
    refine ⟨_, h2, ?_⟩
    cases u <;> rfl
  · obtain ⟨u, hu, e, h2⟩ := key i _ h
    cases u <;> cases e
  · obtain ⟨u, hu, e, h2⟩ := key i _ h
    subst e
    cases u <;> cases t
theorem fc_body0 {k : Nat} {f : Addr} {x : Str} {st : Stmt} {fd : FuncData} {N ps : List Str} {body : DenS} (F : Fun K x x st f fd) (hm : mg x = some (.ref f)) (S : FnScope N ps (defScope st))
    (hB : ∀ (b : Addr) (cdv : Value) A outer s H E, Rm k (A.deeper (envOfC x (defScope st) s.heap.objs.size f cdv)) → SSs b (cxOf CX0 P w K mg base N x (defScope st) f cdv A outer s H E).nox (defBody st) body) : Fc P w K mg base x st ps (k + 1) (cF (fnF ps.length N.length body)) := by
  refine fc_of F hm S (fun os μ Φ h => ?_) fun cdv A outer s H E os μ Φ hr h => ?_
  · obtain ⟨b, ws, rfl, _, h⟩ := h
    rw [List.length_map]
    exact (lenIs_all (all_bind.mp h)).1
  · obtain ⟨b, ws, rfl, hb, h⟩ := h
    obtain ⟨hl, h⟩ := lenIs_all (all_bind.mp h)
    rw [List.length_map, hl]
    refine (hB b cdv A outer s H E hr).run μ _ _ μ _ (rel_start _ hb) ((all_bind.mp h).imp fun o q => ?_)
    cases o with
    | nx E' => exact fun ρ' μ' R => q μ' R.ext
    | rt v => exact fun μ' s => q μ' s
    | bk E' => exact q.elim
    | ct E' => exact q.elim
theorem fc_body {k a n : Nat} {f : Addr} {x : Str} {st : Stmt} {fd : FuncData} {N ps : List Str} (body : DenS) {m : List W → Tree PyData} (hM : m = fnF a n body) (F : Fun K x x st f fd) (hm : mg x = some (.ref f)) (S : FnScope N ps (defScope st)) (ha : ps.length = a) (hn : N.length = n)
    (hB : ∀ (b : Addr) (cdv : Value) A outer s H E, Rm k (A.deeper (envOfC x (defScope st) s.heap.objs.size f cdv)) → SSs b (cxOf CX0 P w K mg base N x (defScope st) f cdv A outer s H E).nox (defBody st) body) : Fc P w K mg base x st ps (k + 1) (cF m) := by
  subst hM ha hn
  exact fc_body0 F hm S hB
end
section
variable {b : Addr} {X : Cx} {e x y z : Expr} {es : List Expr} {f fx fy fz : DenE} {fs : DenL} {pos p : Pos} {ga : Env → Tree W} {gs : Env → Tree (List W)}
theorem se_call {F : List W → Tree PyData} {nm : Str} {st : Stmt} {ps : List Str} {k : Nat} (FC : Fc X.prog X.w X.K X.mg X.base nm st ps k (cF F)) (hr : Rm k X.A) (hg : Gl X nm)
    (hb : ∀ (kV doc pm : Value) (an : Option Addr) (cdv ct : Value) (us : List Value), us.length = ps.length → bindArgs (PySem.W.fnOf nm nm (defArgs st) (defBody st) (defScope st) .none kV doc pm an cdv ct) ⟨us, []⟩ = pure (ps.zip us))
    (ha : SA b X (x :: es) gs) (hdb : (nm == ("__debug__" : Str)) = false := by decide) (he : starEach (x :: es) X.env = (false, eval x X.env) :: starEach es X.env := by rfl) (hpl : (backTo pos (starEach es X.env)).any (·.1) = false := by rfl) : SE b X (.Call (.Name nm p) (x :: es) [] pos) (dCall F gs) := .mk fun μ0 E ρ μ Φ R h =>
  de_call FC hr hg hb (ha.run μ0 E ρ μ _ R ((all_bind.mp h).imp fun ws q μ1 s1 => ⟨b, ws, rfl, (R.step s1).bxs, q.imp fun d q μ2 s2 => q μ2 (s1.trans s2)⟩)) hdb he hpl
def dCallK (m : Nat) (ix : List Nat) (F : List W → Tree PyData) (fs : Env → Tree (List W)) : DenE := fun E => (fs E).bind fun ws => (liftO (lenIs m ws)).bind fun _ => F (pick ix ws)
def items : PyData → Option (List PyData)
  | .list xs => some xs
  | .tuple xs => some xs
  | _ => none
theorem items_seq {d : PyData} {xs : List PyData} (h : items d = some xs) : Seq xs (.im d) := by
  cases d <;> cases h
  · exact .lst
  · exact .tup
def rg1 : PyData → Option (List PyData)
  | .int j => if -100000 ≤ j ∧ j ≤ 100000 then some (nums j.toNat) else none
  | _ => none
def numsF (i : Int) (n : Nat) : List PyData := (List.range n).map fun (k : Nat) => .int (i + (k : Int))
def rg2 : PyData → PyData → Option (List PyData)
  | .int i, .int j => if -100000 ≤ i ∧ i ≤ 100000 ∧ -100000 ≤ j ∧ j ≤ 100000 then some (numsF i (j - i).toNat) else none
  | _, _ => none
def iS (f : DenE) : DenL := fun E => (f E).bind fun x => liftO (items x)
def iR1 (f : DenE) : DenL := fun E => (f E).bind fun x => liftO (rg1 x)
def iR2 (f g : DenE) : DenL := fun E => (f E).bind fun x => (g E).bind fun y => liftO (rg2 x y)
def wEn (f : DenE) : DenL := fun E => (f E).bind fun x => (liftO (items x)).bind fun xs => .ret (prs (nums xs.length) xs)
def wZ2 (f g : DenE) : DenL := fun E => (f E).bind fun x => (g E).bind fun y => (liftO (items x)).bind fun xs => (liftO (items y)).bind fun ys => .ret (prs xs ys)
def wZ3 (f g h : DenE) : DenL := fun E => (f E).bind fun x => (g E).bind fun y => (h E).bind fun z => (liftO (items x)).bind fun xs => (liftO (items y)).bind fun ys => (liftO (items z)).bind fun zs => .ret (trs xs ys zs)
variable {tg : Expr}
theorem si_seq (hx : SE b X x fx) : SI b X tg x (iS fx) := .mk fun μ0 E ρ μ Ψ R h =>
  di_seq (hx.run μ0 E ρ μ _ R ((all_bind.mp h).imp fun d q μ1 s1 => let ⟨xs, hxs, q⟩ := lift_all q; ⟨xs, items_seq hxs, q μ1 s1⟩))
theorem si_r1 (B : Bt X.mg) (hg : Gl X "range") (hx : SE b X x fx) (he : starEach [x] X.env = (false, eval x X.env) :: starEach [] X.env := by rfl) : SI b X tg (.Call (.Name "range" p) [x] [] pos) (iR1 fx) := .mk fun μ0 E ρ μ Ψ R h =>
  di_range1 B hg (hx.run μ0 E ρ μ _ R ((all_bind.mp h).imp fun d q μ1 s1 => by
    obtain ⟨xs, hxs, q⟩ := lift_all q
    cases d with
    | int j =>
      simp only [rg1] at hxs
      split at hxs
      · rename_i hj
        cases hxs
        refine ⟨j, rfl, hj.1, hj.2, ?_⟩
        have := q μ1 s1
        unfold nums at this
        rw [List.map_map] at this
        exact this
      · cases hxs
    | _ => cases hxs)) he
theorem si_en {elts : List Expr} {kk : Nat} {tpos : Pos} (B : Bt X.mg) (hg : Gl X "enumerate") (hx : SE b X x fx) (he : starEach [x] X.env = (false, eval x X.env) :: starEach [] X.env := by rfl) (he2 : starEach [x] X.env = [(false, eval x X.env)] := by rfl) : SI b X (.Tuple elts kk tpos) (.Call (.Name "enumerate" p) [x] [] pos) (wEn fx) := .mk fun μ0 E ρ μ Ψ R h =>
  di_en B hg (hx.run μ0 E ρ μ _ R ((all_bind.mp h).imp fun d q μ1 s1 => let ⟨xs, hxs, q⟩ := lift_all (all_bind.mp q); ⟨xs, items_seq hxs, q μ1 s1⟩)) he he2
theorem si_z2 {elts : List Expr} {kk : Nat} {tpos : Pos} (B : Bt X.mg) (hg : Gl X "zip") (hx : SE b X x fx) (hy : SE b X y fy) (he : starEach [x, y] X.env = (false, eval x X.env) :: starEach [y] X.env := by rfl) (he2 : starEach [y] X.env = (false, eval y X.env) :: starEach [] X.env := by rfl) (hpl : (backTo pos (starEach [y] X.env)).any (·.1) = false := by rfl) : SI b X (.Tuple elts kk tpos) (.Call (.Name "zip" p) [x, y] [] pos) (wZ2 fx fy) := .mk fun μ0 E ρ μ Ψ R h =>
  di_zip2 B hg (hx.run μ0 E ρ μ _ R ((all_bind.mp h).imp fun d q μ1 s1 => hy.run μ0 E ρ μ1 _ (R.step s1) ((all_bind.mp q).imp fun d' q μ2 s2 => by
    obtain ⟨xs, hxs, q⟩ := lift_all (all_bind.mp q)
    obtain ⟨ys, hys, q⟩ := lift_all (all_bind.mp q)
    exact ⟨xs, ys, items_seq hxs, items_seq hys, q μ2 (s1.trans s2)⟩))) he he2 hpl
theorem si_z3 {elts : List Expr} {kk : Nat} {tpos : Pos} (B : Bt X.mg) (hg : Gl X "zip") (hx : SE b X x fx) (hy : SE b X y fy) (hz : SE b X z fz) (he : starEach [x, y, z] X.env = (false, eval x X.env) :: starEach [y, z] X.env := by rfl) (he2 : starEach [y, z] X.env = (false, eval y X.env) :: starEach [z] X.env := by rfl) (he3 : starEach [z] X.env = (false, eval z X.env) :: starEach [] X.env := by rfl) (hpl : (backTo pos (starEach [y, z] X.env)).any (·.1) = false := by rfl) : SI b X (.Tuple elts kk tpos) (.Call (.Name "zip" p) [x, y, z] [] pos) (wZ3 fx fy fz) := .mk fun μ0 E ρ μ Ψ R h =>
  di_zip3 B hg (hx.run μ0 E ρ μ _ R ((all_bind.mp h).imp fun d q μ1 s1 => hy.run μ0 E ρ μ1 _ (R.step s1) ((all_bind.mp q).imp fun d' q μ2 s2 => hz.run μ0 E ρ μ2 _ ((R.step s1).step s2) ((all_bind.mp q).imp fun d3 q μ3 s3 => by
    obtain ⟨xs, hxs, q⟩ := lift_all (all_bind.mp q)
    obtain ⟨ys, hys, q⟩ := lift_all (all_bind.mp q)
    obtain ⟨zs, hzs, q⟩ := lift_all (all_bind.mp q)
    exact ⟨xs, ys, zs, items_seq hxs, items_seq hys, items_seq hzs, q μ3 ((s1.trans s2).trans s3)⟩)))) he he2 he3 hpl
theorem Bs.del {μ μ' : Mu} {D : Addr} (h : Bs b μ μ') (hD : μ D = none) (hb : D ≠ b) : Bs b μ (μ'.del D) :=
  ⟨fun a l n e => (if_neg (ne_own e hD)).trans (h.old a l n e), fun p q t e => let ⟨p', q', t', e'⟩ := h.box p q t e; ⟨p', q', t', (if_neg fun z => hb z.symm).trans e'⟩, h.thg, h.cls⟩
variable {iter elt c : Expr} {scope : Scope} {fi : DenL} {fb : DenB}
theorem lc_sound {t : Tgt} {vs : List Nat} {E : Env} {ρ : Rho} {μ μ1 μ0 : Mu} {xs : List PyData} {done : List OV → Mu → Prop} (R : Rel b μ0 E ρ μ) (s1 : Bs b μ μ1) (he : ∀ s H C cl fp, SE b (Blk X scope s H C cl fp) elt fx) (hz : xs.length ≤ 50000)
    (q : (mapT (fun x => (liftO (putE t x (wipeE E vs))).bind fx) xs).All fun ys => ∀ μ', Bs b μ μ' → done (ys.map .im) μ') : LcD X scope [] elt t vs ρ ⟨xs.map .im, fun _ => True⟩ μ1 done := by
  refine ⟨fun i acc μ' => Bs b μ μ' ∧ ∃ ds : List PyData, acc = ds.map .im ∧ (mapT (fun x => (liftO (putE t x (wipeE E vs))).bind fx) (xs.drop i)).All fun ys => ∀ μ'', Bs b μ μ'' → done ((ds ++ ys).map .im) μ'', by simpa using hz, ⟨s1, [], rfl, q⟩, fun _ _ _ _ _ _ => trivial, fun acc μ' ⟨s, ds, ha, h⟩ => ?_, fun i acc μ' o ho ⟨s, ds, ha, h⟩ => ?_⟩
  · rw [List.drop_eq_nil_of_le (by simp)] at h
    have := h μ' s
    rw [List.append_nil] at this
    rw [ha]
    exact this
  · dsimp only at ho
    rw [List.getElem?_map] at ho
    cases hx : xs[i]? with
    | none =>
      rw [hx] at ho
      cases ho
    | some x =>
      rw [hx] at ho
      cases ho
      obtain ⟨hi, rfl⟩ := List.getElem?_eq_some_iff.mp hx
      rw [List.drop_eq_getElem_cons hi, mapT] at h
      obtain ⟨E', hE, h⟩ := lift_all (all_bind.mp (all_bind.mp h))
      obtain ⟨ρ', hp, _⟩ := ((R.step s).wipes vs).putT hE
      refine ⟨ρ', hp, fun Dl hD => ?_⟩
      dsimp only [DTb]
      rw [if_pos rfl]
      intro s' H C cl fp
      have s2 : Bs b μ (μ'.put Dl acc) := s.trans (Bs.put hD)
      obtain ⟨ρ2, hp2, R2⟩ := ((R.step s2).wipes vs).putT hE
      rw [hp] at hp2
      cases hp2
      have nb : Dl ≠ b := fun z => by
        obtain ⟨u, q, t, e⟩ := (R.step s).bxs
        rw [z, e] at hD
        cases hD
      refine (he s' H C cl fp).run μ0 E' ρ' _ _ R2 (h.imp fun y h μ3 s3 => ?_)
      obtain ⟨pb1, pb2⟩ := put_back (s3.old Dl acc nb put_same)
      refine ⟨μ3.del Dl, pb1, pb2, (s2.trans s3).del ?_ nb, ds ++ [y], by rw [ha, List.map_append]; rfl, (all_bind.mp h).imp fun ys h => ?_⟩
      · cases z : μ Dl with
        | none => rfl
        | some l =>
          rw [s.old Dl l nb z] at hD
          cases hD
      · rw [List.append_assoc]
        exact h
theorem se_lc {own : List (Str × Nat)} (t : Tgt) (hc : X.calm = true) (hN : X.N.Nodup) (ok : BlkOk X.N X.env.scope scope own) (hs : ∀ i ∈ t.slots, i ∈ own.map (·.2))
    (hg : ∀ s H C cl fp, PG (Blk X scope s H C cl fp) tg (TgtG X.K t)) (hi : SI b X tg iter fi) (he : ∀ s H C cl fp, SE b (Blk X scope s H C cl fp) elt fx) (hf : ∀ x, foldedSetIterable iter X.env x = pure x := by intro _; rfl) : SE b X (.ListComp elt [⟨tg, iter, [], 0⟩] scope pos) (dLc t (own.map (·.2)) fi fx) := .mk fun μ0 E ρ μ Φ R h =>
  de_lc t hc hN ok hs hg (hi.run μ0 E ρ μ _ R ((all_bind.mp h).imp fun xs q μ1 s1 => by
    obtain ⟨hz, q⟩ := few_le (all_bind.mp q)
    exact lc_sound R s1 he hz ((all_bind.mp q).imp fun ys q μ' s => ⟨ys, rfl, q μ' s⟩))) hf
theorem lf_sound {t : Tgt} {vs : List Nat} {E : Env} {ρ : Rho} {μ μ1 μ0 : Mu} {xs : List PyData} {done : List OV → Mu → Prop} (R : Rel b μ0 E ρ μ) (s1 : Bs b μ μ1) (hcn : ∀ s H C cl fp, ST b (Blk X scope s H C cl fp) c fb) (he : ∀ s H C cl fp, SE b (Blk X scope s H C cl fp) elt fx) (hz : xs.length ≤ 50000)
    (q : (pickT (fun x => (liftO (putE t x (wipeE E vs))).bind fun E' => (fb E').bind fun k => match k with | true => (fx E').bind fun y => .ret (some y) | false => .ret none) xs).All fun ys => ∀ μ', Bs b μ μ' → done (ys.map .im) μ') : LcD X scope [c] elt t vs ρ ⟨xs.map .im, fun _ => True⟩ μ1 done := by
  refine ⟨fun i acc μ' => Bs b μ μ' ∧ ∃ ds : List PyData, acc = ds.map .im ∧ (pickT (fun x => (liftO (putE t x (wipeE E vs))).bind fun E' => (fb E').bind fun k => match k with | true => (fx E').bind fun y => .ret (some y) | false => .ret none) (xs.drop i)).All fun ys => ∀ μ'', Bs b μ μ'' → done ((ds ++ ys).map .im) μ'', by simpa using hz, ⟨s1, [], rfl, q⟩, fun _ _ _ _ _ _ => trivial, fun acc μ' ⟨s, ds, ha, h⟩ => ?_, fun i acc μ' o ho ⟨s, ds, ha, h⟩ => ?_⟩
  · rw [List.drop_eq_nil_of_le (by simp)] at h
    have := h μ' s
    rw [List.append_nil] at this
    rw [ha]
    exact this
  · dsimp only at ho
    rw [List.getElem?_map] at ho
    cases hx : xs[i]? with
    | none =>
      rw [hx] at ho
      cases ho
    | some x =>
      rw [hx] at ho
      cases ho
      obtain ⟨hi, rfl⟩ := List.getElem?_eq_some_iff.mp hx
      rw [List.drop_eq_getElem_cons hi, pickT] at h
      obtain ⟨E', hE, h⟩ := lift_all (all_bind.mp (all_bind.mp h))
      obtain ⟨ρ', hp, _⟩ := ((R.step s).wipes vs).putT hE
      refine ⟨ρ', hp, fun Dl hD => ?_⟩
      have s2 : Bs b μ (μ'.put Dl acc) := s.trans (Bs.put hD)
      obtain ⟨ρ2, hp2, R2⟩ := ((R.step s2).wipes vs).putT hE
      rw [hp] at hp2
      cases hp2
      have nb : Dl ≠ b := fun z => by
        obtain ⟨u, q, t, e⟩ := (R.step s).bxs
        rw [z, e] at hD
        cases hD
      have nD : μ Dl = none := by
        cases z : μ Dl with
        | none => rfl
        | some l =>
          rw [s.old Dl l nb z] at hD
          cases hD
      show ∀ s' H C cl fp, DT _ _ _ _ _
      intro s' H C cl fp
      refine (hcn s' H C cl fp).run μ0 E' ρ' _ _ R2 ((all_bind.mp h).imp fun k h μ3 s3 => ?_)
      cases k with
      | true =>
        rw [if_pos rfl]
        intro s' H C cl fp
        refine (he s' H C cl fp).run μ0 E' ρ' _ _ (R2.step s3) ((all_bind.mp h).imp fun y h μ4 s4 => ?_)
        obtain ⟨pb1, pb2⟩ := put_back ((s3.trans s4).old Dl acc nb put_same)
        refine ⟨μ4.del Dl, pb1, pb2, (s2.trans (s3.trans s4)).del nD nb, ds ++ [y], by rw [ha, List.map_append]; rfl, (all_bind.mp h).imp fun ys h => ?_⟩
        rw [List.append_assoc]
        exact h
      | false =>
        rw [if_neg (by decide)]
        obtain ⟨pb1, pb2⟩ := put_back (s3.old Dl acc nb put_same)
        exact ⟨μ3.del Dl, pb1, pb2, (s2.trans s3).del nD nb, ds, ha, (all_bind.mp h).imp fun ys h => h⟩
theorem se_lf {own : List (Str × Nat)} (t : Tgt) (hc : X.calm = true) (hN : X.N.Nodup) (ok : BlkOk X.N X.env.scope scope own) (hs : ∀ i ∈ t.slots, i ∈ own.map (·.2))
    (hg : ∀ s H C cl fp, PG (Blk X scope s H C cl fp) tg (TgtG X.K t)) (hi : SI b X tg iter fi) (hcn : ∀ s H C cl fp, ST b (Blk X scope s H C cl fp) c fb) (he : ∀ s H C cl fp, SE b (Blk X scope s H C cl fp) elt fx) (hf : ∀ x, foldedSetIterable iter X.env x = pure x := by intro _; rfl) : SE b X (.ListComp elt [⟨tg, iter, [c], 0⟩] scope pos) (dLf t (own.map (·.2)) fi fb fx) := .mk fun μ0 E ρ μ Φ R h =>
  de_lc t hc hN ok hs hg (hi.run μ0 E ρ μ _ R ((all_bind.mp h).imp fun xs q μ1 s1 => by
    obtain ⟨hz, q⟩ := few_le (all_bind.mp q)
    exact lf_sound R s1 hcn he hz ((all_bind.mp q).imp fun ys q μ' s => ⟨ys, rfl, q μ' s⟩))) hf
end
end Nx
namespace Nx
open PySem PySem.Spec PyProof.Rows L2
open Tree
section
variable {b : Addr} {X : Cx} {e x y z tg iter elt c : Expr} {es : List Expr} {f fx fy fz : DenE} {fs fi : DenL} {fb : DenB} {pos p : Pos} {st : Stmt} {ss : List Stmt} {g h : DenS} {scope : Scope}
theorem ss_nil : SSs b X [] s0 := .mk fun μ0 E ρ μ D R q => dss_nil (q ρ μ R)
theorem ss_one (hs : SS b X st g) : SSs b X [st] g := .mk fun μ0 E ρ μ D R q => dss_one (hs.run μ0 E ρ μ D R q)
theorem ss_cons (hs : SS b X st g) (ht : SSs b X ss h) : SSs b X (st :: ss) (sC g h) := .mk fun μ0 E ρ μ D R q =>
  dss_cons (hs.run μ0 E ρ μ _ R ((all_bind.mp q).imp fun o q => by
    cases o with
    | nx E' => exact fun ρ' μ' R' => ht.run μ0 E' ρ' μ' D R' q
    | rt v => exact q
    | bk E' => exact q
    | ct E' => exact q))
theorem ss_frz (i : Nat) (ht : SSs b X ss h) : SSs b X ss (sFrz i h) := .mk fun μ0 E ρ μ D R q => by
  unfold sFrz frzE at q
  split at q
  · rename_i l hl
    obtain ⟨o, h1, p, rfl, _, _, hp⟩ := R.get i _ hl
    exact dss_frz h1 hp (ht.run μ0 _ _ _ D (R.frz hl h1) q)
  · exact ht.run μ0 E ρ μ D R q
theorem ss_ret (hx : SE b X x fx) : SS b X (.Return (some x) pos) (sRet fx) := .mk fun μ0 E ρ μ D R q =>
  ds_ret (hx.run μ0 E ρ μ _ R ((all_bind.mp q).imp fun d q μ1 s1 => q μ1 (R.ext.trans s1)))
theorem ss_if {s1 s2 : List Stmt} (hc : ST b X c fb) (h1 : SSs b X s1 g) (h2 : SSs b X s2 h) : SS b X (.If c s1 s2 pos) (sIf fb g h) := .mk fun μ0 E ρ μ D R q =>
  ds_if (hc.run μ0 E ρ μ _ R ((all_bind.mp q).imp fun k q μ1 s1 => by
    cases k with
    | true =>
      rw [if_pos rfl]
      exact h1.run μ0 E ρ μ1 D (R.step s1) q
    | false =>
      rw [if_neg (by decide)]
      exact h2.run μ0 E ρ μ1 D (R.step s1) q))
theorem ss_set (i : Nat) {n : Str} {p' : Pos} (hN : X.N.Nodup) (hi : X.N[i]? = some n) (hl : Loc X.env.scope n) (hx : SE b X x fx) (hs : swapsWith x (some (.Name n p')) pos.line X.env = pure false := by rfl)
    (hf : X.fn n = true ∨ X.env.scope.names.lookup n = some .local := by first | exact .inl rfl | exact .inr rfl | assumption) : SS b X (.Assign [.Name n p'] x pos) (sSet i fx) := .mk fun μ0 E ρ μ D R q =>
  ds_set i hN hi hl (hx.run μ0 E ρ μ _ R ((all_bind.mp q).imp fun d q μ1 s1 => q _ μ1 ((R.step s1).setD i d))) hs hf
theorem ss_asg (t : Tgt) (hg : PG X tg (TgtG X.K t)) (hx : SE b X x fx) (hs : swapsWithSole [tg] x pos.line X.env = pure false := by rfl) (hw : swappedStores [tg] x X.env = pure none := by rfl)
    (h1 : (assignEach [tg] X.env).map (·.2) = [assign tg X.env] := by rfl) : SS b X (.Assign [tg] x pos) (sAsg t fx) := .mk fun μ0 E ρ μ D R q =>
  ds_asg t hg (hx.run μ0 E ρ μ _ R ((all_bind.mp q).imp fun d q μ1 s1 => by
    obtain ⟨E', hE, q⟩ := lift_all (all_bind.mp q)
    obtain ⟨ρ', hp, R'⟩ := (R.step s1).putT hE
    exact ⟨ρ', hp, q ρ' μ1 R'⟩)) hs hw h1
theorem lC_all {fx : DenE} {fs : DenL} {E : Env} {Q : List PyData → Prop} (h : (lC fx fs E).All Q) : (fx E).All fun d => (fs E).All fun ds => Q (d :: ds) := (all_bind.mp h).imp fun d q => (all_bind.mp q).imp fun ds q => q
theorem lC_mk {fx : DenE} {fs : DenL} {E : Env} {Q : List PyData → Prop} (h : (fx E).All fun d => (fs E).All fun ds => Q (d :: ds)) : (lC fx fs E).All Q := all_bind.mpr (h.imp fun d q => all_bind.mpr (q.imp fun ds q => q))
theorem ss_par (i j : Nat) {n m : Str} {px py pt : Pos} {kt k2 pt2} (hc : X.calm = true) (hN : X.N.Nodup) (hi : X.N[i]? = some n) (hj : X.N[j]? = some m) (hij : i ≠ j)
    (hx : X.env.scope.names.lookup n = some .local) (hy : X.env.scope.names.lookup m = some .local) (hw : swappedStores [.Tuple [.Name n px, .Name m py] kt pt] (.Tuple [x, y] k2 pt2) X.env = pure (some [n, m]))
    (ha : SD b X [x, y] (lC fx (lC fy l0)))
    (hs : swapsWithSole [.Tuple [.Name n px, .Name m py] kt pt] (.Tuple [x, y] k2 pt2) pos.line X.env = pure false := by rfl) : SS b X (.Assign [.Tuple [.Name n px, .Name m py] kt pt] (.Tuple [x, y] k2 pt2) pos) (sPar [i, j] (lC fx (lC fy l0))) := .mk fun μ0 E ρ μ D R q =>
  ds_par i j hc hN hi hj hij hx hy hw (ha.run μ0 E ρ μ _ R (by
    have q := lC_all (all_bind.mp q)
    refine lC_mk (q.imp fun d q => lC_mk ((lC_all q).imp fun d' q => fun μ1 s1 => ?_))
    exact ⟨_, _, rfl, q _ μ1 (((R.step s1).setD i d).setD j d')⟩)) hs
theorem ss_for {body : List Stmt} (t : Tgt) (hp : PassesOwn (model X.prog X.w) X.A X.env X.xe) (hc : X.calm = true) (hg : PG X tg (TgtG X.K t)) (hi : SI b X tg iter fi) (hb : SSs b X body g)
    (hs : ∀ x, foldedSetIterable iter X.env x = pure x := by intro _; rfl) : SS b X (.For tg iter body [] pos) (sFor t fi g) := .mk fun μ0 E ρ μ D R q =>
  ds_for t hp hc hg (hi.run μ0 E ρ μ _ R ((all_bind.mp q).imp fun xs q μ1 s1 => by
    refine ⟨fun i ρ' μ' => ∃ E', Rel b μ0 E' ρ' μ' ∧ (forT t g (xs.drop i) E').All (OutOk b μ0 D), ⟨E, R.step s1, q⟩, fun _ _ _ _ => trivial, fun i z ρ' μ' hz hP => ?_, fun ρ' μ' hP => ?_⟩
    · obtain ⟨E', R', q⟩ := hP
      dsimp only at hz
      rw [List.getElem?_map] at hz
      cases hx : xs[i]? with
      | none =>
        rw [hx] at hz
        cases hz
      | some x =>
        rw [hx] at hz
        cases hz
        obtain ⟨hi, rfl⟩ := List.getElem?_eq_some_iff.mp hx
        rw [List.drop_eq_getElem_cons hi, forT] at q
        obtain ⟨E2, hE, q⟩ := lift_all (all_bind.mp q)
        obtain ⟨ρ2, hp2, R2⟩ := R'.putT hE
        refine ⟨ρ2, hp2, hb.run μ0 E2 ρ2 μ' _ R2 ((all_bind.mp q).imp fun o q => ?_)⟩
        cases o with
        | nx E3 => exact fun ρ3 μ3 R3 => ⟨E3, R3, q⟩
        | ct E3 => exact fun ρ3 μ3 R3 => ⟨E3, R3, q⟩
        | bk E3 => exact fun ρ3 μ3 R3 => q ρ3 μ3 R3
        | rt v => exact q
    · obtain ⟨E', R', q⟩ := hP
      dsimp only at q
      rw [List.length_map, List.drop_length] at q
      exact q ρ' μ' R')) hs
theorem ss_setLc {own : List (Str × Nat)} (t : Tgt) (i : Nat) {n : Str} {py spos : Pos} (hc : X.calm = true) (hN : X.N.Nodup) (hy : X.N[i]? = some n) (hyl : X.env.scope.names.lookup n = some .local)
    (hsw : swapsWith (.ListComp elt [⟨tg, iter, [], 0⟩] scope pos) (some (.Name n py)) spos.line X.env = pure true) (ok : BlkOk X.N X.env.scope scope own) (hs : ∀ i ∈ t.slots, i ∈ own.map (·.2))
    (hg : ∀ s H C cl fp, PG (Blk X scope s H C cl fp) tg (TgtG X.K t)) (hi : SI b X tg iter fi) (he : ∀ s H C cl fp, SE b (Blk X scope s H C cl fp) elt fx)
    (hf : ∀ x, foldedSetIterable iter X.env x = pure x := by intro _; rfl) : SS b X (.Assign [.Name n py] (.ListComp elt [⟨tg, iter, [], 0⟩] scope pos) spos) (sSet i (dLc t (own.map (·.2)) fi fx)) := .mk fun μ0 E ρ μ D R h =>
  ds_setLc t i hc hN hy hyl hsw ok hs hg (hi.run μ0 E ρ μ _ R ((all_bind.mp (all_bind.mp h)).imp fun xs q μ1 s1 => by
    obtain ⟨hz, q⟩ := few_le (all_bind.mp q)
    exact lc_sound R s1 he hz ((all_bind.mp q).imp fun ys q μ' s => ⟨ys, rfl, q _ μ' ((R.step s).setD i _)⟩))) hf
structure SO (b : Addr) (X : Cx) (e : Expr) (f : DenE) : Prop where
  run : ∀ μ0 E ρ μ Φ, Rel b μ0 E ρ μ → (f E).All (fun d => ∃ ds, d = .list ds ∧ ∀ μ' p, Bs b μ μ' → μ' p = none → Φ (.own p) (μ'.put p (ds.map .im))) → DE X e ρ μ Φ
theorem so_lst (h : SD b X es fs) : SO b X (.List es pos) (dL fs) := .mk fun μ0 E ρ μ Φ R q =>
  de_lstO (h.run μ0 E ρ μ _ R ((all_bind.mp q).imp fun ds q μ1 s1 => by
    obtain ⟨hz, xs, e, q⟩ := small_le (all_bind.mp q)
    cases e
    exact ⟨by rw [List.length_map]; exact hz, fun p hp => q μ1 p s1 hp⟩))
theorem ss_own (i : Nat) {n : Str} {p' : Pos} (hN : X.N.Nodup) (hi : X.N[i]? = some n) (hl : Loc X.env.scope n) (hx : SO b X x fx) (hs : swapsWith x (some (.Name n p')) pos.line X.env = pure false := by rfl)
    (hf : X.fn n = true ∨ X.env.scope.names.lookup n = some .local := by first | exact .inl rfl | exact .inr rfl | assumption) : SS b X (.Assign [.Name n p'] x pos) (sOwn i fx) := .mk fun μ0 E ρ μ D R q =>
  ds_set i hN hi hl (hx.run μ0 E ρ μ _ R ((all_bind.mp q).imp fun d q => by
    cases d with
    | list xs => exact ⟨xs, rfl, fun μ' p s hp => q _ _ ((R.step s).setO i hp)⟩
    | _ => exact q.elim)) hs hf
theorem ss_app (i : Nat) {n : Str} {np apos cpos : Pos} (hN : X.N[i]? = some n) (hv : Vis X.env.scope n) (hx : SE b X x fx) (hd : (n == ("__debug__" : Str)) = false := by decide) (hcd : (n == ("__classdict__" : Str)) = false := by decide)
    (hbase : attributeBase (.Name n np) "append" X.env (eval (.Name n np) X.env) = eval (.Name n np) X.env := by rfl)
    (hfew : ((backTo cpos (starEach [x] X.env)).all (fun x => !x.1) && (backToKw cpos (keywordEach [] X.env)).all (fun x => x.1.isSome) && decide ([x].length + ([] : List Keyword).length + (if ([] : List Keyword).isEmpty then 0 else 1) < 30)) = true := by rfl)
    (hline : (apos.endLine == cpos.line) = true := by rfl) (hst : starEach [x] X.env = (false, eval x X.env) :: starEach [] X.env := by rfl) (hplain : (backTo cpos (starEach [] X.env)).any (·.1) = false := by rfl)
    (hs : swapsWith (.Call (.Attribute (.Name n np) "append" apos) [x] [] cpos) none pos.line X.env = pure false := by rfl) : SS b X (.Expr (.Call (.Attribute (.Name n np) "append" apos) [x] [] cpos) pos) (sApp i fx) := .mk fun μ0 E ρ μ D R q => by
  unfold sApp at q
  split at q
  · rename_i l hl
    obtain ⟨o, h1, p, rfl, nb, h0, hp⟩ := R.get i _ hl
    refine ds_expr (de_append (de_var i hN hv h1 ⟨p, _, rfl, hp, hx.run μ0 E ρ μ _ R ((all_bind.mp q).imp fun y q μ2 s2 => ?_)⟩ hd hcd) hbase hfew hline hst hplain) hs
    obtain ⟨hz, q⟩ := small_le (all_bind.mp q)
    refine ⟨_, s2.old p _ nb hp, by rw [List.length_map]; omega, ?_⟩
    have := q ρ _ ((R.step s2).chg (es := l ++ [y]) hl h1)
    rw [List.map_append] at this
    exact this
  · exact q.elim
end
end Nx
namespace Nx
open PySem PySem.Spec PyProof.Rows L2
open Tree
instance {i j : Int} : Decidable (CMul i j) := by unfold CMul; infer_instance
instance {i j : Int} : Decidable (CDiv i j) := by unfold CDiv; infer_instance
instance {i j : Int} : Decidable (CPow i j) := by unfold CPow; infer_instance
def pAdd : PyData → PyData → Option PyData
  | .int i, .int j => some (.int (i + j))
  | .list xs, .list ys => if xs.length + ys.length ≤ 100000 then some (.list (xs ++ ys)) else none
  | .tuple xs, .tuple ys => if xs.length + ys.length ≤ 100000 then some (.tuple (xs ++ ys)) else none
  | .str x, .str y => if x.length + y.length ≤ 100000 then some (.str (x ++ y)) else none
  | _, _ => none
def pSub : PyData → PyData → Option PyData
  | .int i, .int j => some (.int (i - j))
  | _, _ => none
def pMod : PyData → PyData → Option PyData
  | .int i, .int j => if 0 < j then some (.int (i % j)) else none
  | _, _ => none
def pNeg : PyData → Option PyData
  | .int i => some (.int (-i))
  | _ => none
section
variable {b : Addr} {X : Cx} {e x y z : Expr} {es : List Expr} {f fx fy fz : DenE} {fs fi : DenL} {fb : DenB} {pos p : Pos}
theorem od_catT {xs ys : List PyData} {μ : Mu} {Φ : OV → Mu → Prop} (hz : xs.length + ys.length ≤ 100000) (h : Φ (.im (.tuple (xs ++ ys))) μ) : OpD (rCatA X.K) (.im (.tuple xs)) (.im (.tuple ys)) μ Φ := fun G H vx vy m rx ry Q f => by
  cases rx with
  | tup h1 w1 =>
    cases ry with
    | tup h2 w2 =>
      refine ⟨_, _, _, _, rfl, rfl, .inl (.inl (m.ex _ _ h1)), .inl (.inl (m.ex _ _ h2)), by rw [w1.length, w2.length]; exact Nat.le_trans hz (by decide), fun e => ?_, fun _ e => ?_, fun _ _ p hp => ?_⟩
      · subst e
        cases w1
        exact f _ _ _ _ _ h (Ex.refl G) m (Dv.tup h2 w2)
      · subst e
        cases w2
        rw [List.append_nil] at h
        exact f _ _ _ _ _ h (Ex.refl G) m (Dv.tup h1 w1)
      · have n := m.ex.free hp
        exact f _ _ _ _ _ h (Ex.new n) (m.lay hp) (Dv.tup upd_same ((w1.append w2).mono (Ex.new n)))
theorem se_add (hx : SE b X x fx) (hy : SE b X y fy) : SE b X (.BinOp x .Add y pos) (d2 pAdd fx fy) := by
  refine se_op (((op_add.or op_cat).or op_add_str).or op_catA) (fun d d' v μ Φ hg q => ?_) hx hy
  unfold pAdd at hg
  split at hg
  · cases hg
    exact .or (.inl (.or (.inl (.or (.inl (od_I0 q))))))
  · split at hg
    · rename_i hz
      cases hg
      exact .or (.inl (.or (.inl (.or (.inr (od_cat hz q))))))
    · cases hg
  · split at hg
    · rename_i hz
      cases hg
      exact .or (.inr (od_catT hz q))
    · cases hg
  · split at hg
    · rename_i hz
      cases hg
      refine .or (.inl (.or (.inr fun G H vx vy m rx ry Q f => ?_)))
      cases rx
      cases ry
      exact ⟨_, _, rfl, rfl, Nat.le_trans hz (by decide), f _ _ _ _ _ q (Ex.refl G) m (Dv.str _)⟩
    · cases hg
  · cases hg
theorem se_sub (hx : SE b X x fx) (hy : SE b X y fy) : SE b X (.BinOp x .Sub y pos) (d2 pSub fx fy) := by
  refine se_op op_sub (fun d d' v μ Φ hg q => ?_) hx hy
  unfold pSub at hg
  split at hg
  · cases hg
    exact od_I0 q
  · cases hg
theorem se_mod (hx : SE b X x fx) (hy : SE b X y fy) : SE b X (.BinOp x .Mod y pos) (d2 pMod fx fy) := by
  refine se_op op_mod (fun d d' v μ Φ hg q => ?_) hx hy
  unfold pMod at hg
  split at hg
  · split at hg
    · rename_i hj
      cases hg
      exact od_I hj q
    · cases hg
  · cases hg
theorem se_neg (hx : SE b X x fx) : SE b X (.UnaryOp .USub x pos) (d1 pNeg fx) := se_1 hx fun ρ μ Φ h => de_neg (h.imp fun u μ1 ⟨d, r, e1, hr, q⟩ => by
  subst e1
  cases d <;> cases hr
  exact ⟨_, rfl, q⟩)
def cI (g : Int → Int → Bool) : PyData → PyData → Option Bool
  | .int i, .int j => some (g i j)
  | _, _ => none
theorem okI {g : Int → Int → Bool} : OkCmp (rI0 fun i j => .bl (g i j)) (cI g) := fun d d' v μ Φ hg q => by
  unfold cI at hg
  split at hg
  · cases hg
    exact od_B0 q
  · cases hg
def pEq (d e : PyData) : Option Bool := match d, e with
  | .int i, .int j => some (decide (i = j))
  | .str i, .str j => some (decide (i = j))
  | d, e => if SeqAt.shaped d && SeqAt.shaped e then some (PyData.eqv d e) else none
def pNe (d e : PyData) : Option Bool := match pEq d e with
  | some k => some !k
  | none => none
theorem ok_eq : OkCmp (fun x y H Q => (rI0 (fun i j => .bl (decide (i = j))) x y H Q ∨ rEqD X.K x y H Q) ∨ rEq x y H Q) pEq := fun d d' v μ Φ hg q => by
  unfold pEq at hg
  split at hg
  · cases hg
    exact .or (.inl (.or (.inl (od_B0 q))))
  · cases hg
    exact .or (.inr (od_eqS q))
  · split at hg
    · rename_i hs
      cases hg
      obtain ⟨h1, h2⟩ := Bool.and_eq_true_iff.mp hs
      exact .or (.inl (.or (.inr (od_eq (.im _) (.im _) h1 h2 q))))
    · cases hg
theorem ok_ne : OkCmp (fun x y H Q => (rI0 (fun i j => .bl (!decide (i = j))) x y H Q ∨ rNeD X.K x y H Q) ∨ rNe x y H Q) pNe := fun d d' v μ Φ hg q => by
  unfold pNe at hg
  split at hg
  · rename_i k hk
    cases hg
    unfold pEq at hk
    split at hk
    · cases hk
      exact .or (.inl (.or (.inl (od_B0 q))))
    · cases hk
      exact .or (.inr (od_neS q))
    · split at hk
      · rename_i hs
        cases hk
        obtain ⟨h1, h2⟩ := Bool.and_eq_true_iff.mp hs
        exact .or (.inl (.or (.inr (od_ne (.im _) (.im _) h1 h2 q))))
      · cases hk
  · cases hg
def asI : List PyData → Option (List Int)
  | [] => some []
  | .int i :: ds => match asI ds with
    | some is => some (i :: is)
    | none => none
  | _ :: _ => none
theorem asI_some : ∀ {ds : List PyData} {is : List Int}, asI ds = some is → ds = iL is
  | [], _, h => by cases h; rfl
  | .int i :: ds, is, h => by
    rw [asI] at h
    split at h
    · rename_i js hj
      cases h
      rw [asI_some hj]
      rfl
    · cases h
  | .none :: _, _, h => by cases h
  | .bool _ :: _, _, h => by cases h
  | .str _ :: _, _, h => by cases h
  | .list _ :: _, _, h => by cases h
  | .tuple _ :: _, _, h => by cases h
  | .dict _ :: _, _, h => by cases h
theorem asI_iL : ∀ is : List Int, asI (iL is) = some is
  | [] => rfl
  | i :: is => by
    show (match asI (iL is) with | some is => some (i :: is) | none => none) = _
    rw [asI_iL is]
def memI (n : Int) : List Int → Bool
  | [] => false
  | m :: ms => decide (m = n) || memI n ms
theorem memI_eq (n : Int) : ∀ ms, memI n ms = decide (n ∈ ms)
  | [] => rfl
  | m :: ms => by
    rw [memI, memI_eq n ms]
    by_cases h : n = m
    · subst h
      simp
    · have h' : ¬ m = n := fun e => h e.symm
      simp [h, h']
def pIn : PyData → PyData → Option Bool
  | .int n, .list ds => match asI ds with | some ns => some (memI n ns) | none => none
  | .int n, .tuple ds => match asI ds with | some ns => some (memI n ns) | none => none
  | _, _ => none
def pNin (d e : PyData) : Option Bool := match pIn d e with
  | some k => some !k
  | none => none
theorem pIn_ok {d e : PyData} {k : Bool} (h : pIn d e = some k) : ∃ (n : Int) (ns : List Int), d = .int n ∧ (e = .list (iL ns) ∨ e = .tuple (iL ns)) ∧ k = decide (n ∈ ns) := by
  unfold pIn at h
  split at h
  · split at h
    · rename_i ns hs
      cases h
      exact ⟨_, ns, rfl, .inl (by rw [asI_some hs]), memI_eq _ _⟩
    · cases h
  · split at h
    · rename_i ns hs
      cases h
      exact ⟨_, ns, rfl, .inr (by rw [asI_some hs]), memI_eq _ _⟩
    · cases h
  · cases h
theorem ok_in : OkCmp (rIn X.K false) pIn := fun d d' v μ Φ hg q => by
  obtain ⟨n, ns, rfl, h, rfl⟩ := pIn_ok hg
  exact od_in (neg := false) ⟨n, ns, rfl, h.imp (fun e => by rw [e]; exact .im _) (fun e => by rw [e]; exact .im _), q⟩
theorem ok_nin : OkCmp (rIn X.K true) pNin := fun d d' v μ Φ hg q => by
  unfold pNin at hg
  split at hg
  · rename_i k hk
    cases hg
    obtain ⟨n, ns, rfl, h, rfl⟩ := pIn_ok hk
    exact od_in (neg := true) ⟨n, ns, rfl, h.imp (fun e => by rw [e]; exact .im _) (fun e => by rw [e]; exact .im _), q⟩
  · cases hg
def pIsN (d : PyData) : Option PyData := some (.bool (match d with | .none => true | _ => false))
def pNotN (d : PyData) : Option PyData := some (.bool (match d with | .none => false | _ => true))
theorem isNon_im (d : PyData) : isNon (.im d) = (match d with | .none => true | _ => false) := by cases d <;> rfl
theorem se_isN {j : Nat} {p' : Pos} (hx : SE b X x fx) : SE b X (.Compare x [.Is] [.Constant .none j p'] pos) (d1 pIsN fx) := se_1 hx fun ρ μ Φ h => de_isN (h.imp fun u μ1 ⟨d, r, e1, hr, q⟩ => by
  subst e1
  cases hr
  rw [isNon_im]
  exact q)
def t1 (g : PyData → Option Bool) (f : DenE) : DenB := fun E => (f E).bind fun x => liftO (g x)
def qIsN (d : PyData) : Option Bool := some (match d with | .none => true | _ => false)
def qNotN (d : PyData) : Option Bool := some (match d with | .none => false | _ => true)
theorem st_isN {j : Nat} {p' : Pos} (hx : SE b X x fx) : ST b X (.Compare x [.Is] [.Constant .none j p'] pos) (t1 qIsN fx) := .mk fun μ0 E ρ μ Φ R h =>
  dt_isN (hx.run μ0 E ρ μ _ R ((all_bind.mp h).imp fun d q μ1 s1 => by rw [isNon_im]; exact q μ1 s1))
theorem st_notN {j : Nat} {p' : Pos} (hx : SE b X x fx) : ST b X (.Compare x [.IsNot] [.Constant .none j p'] pos) (t1 qNotN fx) := .mk fun μ0 E ρ μ Φ R h =>
  dt_notN (hx.run μ0 E ρ μ _ R ((all_bind.mp h).imp fun d q μ1 s1 => by
    rw [isNon_im]
    cases d <;> exact q μ1 s1))
def qNotB (i : Bool) : PyData → Option Bool
  | .bool k => some (!decide (k = i))
  | _ => none
def dCh (p p' : Int → Int → Bool) (f g h : DenE) : DenE := fun E => (f E).bind fun x => (g E).bind fun y => match x, y with
  | .int i, .int j => (match p i j with
    | true => (h E).bind fun z => match z with | .int k => .ret (.bool (p' j k)) | _ => .fail
    | false => .ret (.bool false))
  | _, _ => .fail
theorem se_chain {op op' : CmpOp} {p p' : Int → Int → Bool} (ho : OpR X (compareOp op) (rI0 fun i j => .bl (p i j))) (ho' : OpR X (compareOp op') (rI0 fun i j => .bl (p' i j))) (hx : SE b X x fx) (hy : SE b X y fy) (hz : SE b X z fz)
    (hm : lastMarks [op, op'] [y, z] = false := by with_unfolding_all rfl) : SE b X (.Compare x [op, op'] [y, z] pos) (dCh p p' fx fy fz) := .mk fun μ0 E ρ μ Φ R h =>
  de_chain ho ho' (hx.run μ0 E ρ μ _ R ((all_bind.mp h).imp fun d q μ1 s1 => hy.run μ0 E ρ μ1 _ (R.step s1) ((all_bind.mp q).imp fun d' q μ2 s2 => by
    split at q
    · refine ⟨_, _, rfl, rfl, ?_⟩
      split at q
      · rename_i hp
        rw [if_pos hp]
        refine hz.run μ0 E ρ μ2 _ ((R.step s1).step s2) ((all_bind.mp q).imp fun d3 q μ3 s3 => ?_)
        split at q
        · exact ⟨_, rfl, q μ3 ((s1.trans s2).trans s3)⟩
        · exact q.elim
      · rename_i hp
        rw [if_neg (by rw [hp]; decide)]
        exact q μ2 (s1.trans s2)
    · exact q.elim))) hm
end
end Nx
namespace Nx
open PySem PySem.Spec PyProof.Rows L2
open Tree
def pLen (d : PyData) : Option PyData := match items d with | some xs => some (.int (xs.length : Nat)) | none => none
def pList (d : PyData) : Option PyData := match items d with | some xs => some (.list xs) | none => none
def pTup (d : PyData) : Option PyData := match items d with | some xs => some (.tuple xs) | none => none
def ins (i : Int) : List Int → List Int
  | [] => [i]
  | j :: js => if i ≤ j then i :: j :: js else j :: ins i js
def isrt : List Int → List Int
  | [] => []
  | i :: is => ins i (isrt is)
theorem ins_perm (i : Int) : ∀ js : List Int, (ins i js).Perm (i :: js)
  | [] => List.Perm.refl _
  | j :: js => by
    rw [ins]
    split
    · exact List.Perm.refl _
    · exact ((ins_perm i js).cons j).trans (List.Perm.swap i j js)
theorem ins_pw (i : Int) : ∀ {js : List Int}, js.Pairwise (· ≤ ·) → (ins i js).Pairwise (· ≤ ·)
  | [], _ => by simp [ins]
  | j :: js, h => by
    obtain ⟨h1, h2⟩ := List.pairwise_cons.mp h
    rw [ins]
    split
    · rename_i hij
      exact List.pairwise_cons.mpr ⟨fun x hx => by
        rcases List.mem_cons.mp hx with rfl | hx
        · exact hij
        · exact Int.le_trans hij (h1 x hx), h⟩
    · rename_i hij
      refine List.pairwise_cons.mpr ⟨fun x hx => ?_, ins_pw i h2⟩
      rcases List.mem_cons.mp ((ins_perm i js).mem_iff.mp hx) with rfl | hx
      · omega
      · exact h1 x hx
theorem isrt_perm : ∀ is : List Int, (isrt is).Perm is
  | [] => List.Perm.refl _
  | i :: is => (ins_perm i (isrt is)).trans ((isrt_perm is).cons i)
theorem isrt_pw : ∀ is : List Int, (isrt is).Pairwise (· ≤ ·)
  | [] => .nil
  | i :: is => ins_pw i (isrt_pw is)
theorem isrt_eq (is : List Int) : isrt is = srt is := srt_eq (isrt_perm is) (isrt_pw is)
def onI (g : List Int → Option PyData) : PyData → Option PyData
  | .list ds => match asI ds with | some ns => g ns | none => none
  | _ => none
theorem onI_some {g : List Int → Option PyData} {d r : PyData} (h : onI g d = some r) : ∃ ns, d = .list (iL ns) ∧ g ns = some r := by
  unfold onI at h
  split at h
  · split at h
    · rename_i ns hs
      exact ⟨ns, by rw [asI_some hs], h⟩
    · cases h
  · cases h
def pSrt : PyData → Option PyData := onI fun ns => some (.list (iL (isrt ns)))
def sumI : List Int → Int
  | [] => 0
  | i :: is => i + sumI is
theorem sumI_eq : ∀ is : List Int, sumI is = is.sum
  | [] => rfl
  | i :: is => by rw [sumI, sumI_eq is, List.sum_cons]
def pSum : PyData → Option PyData := onI fun ns => some (.int (sumI ns))
def pIsi (T : String) (d : PyData) : Option PyData := match kitB (dTy d) T with | some k => some (.bool k) | none => none
def pIx (d i : PyData) : Option PyData := match items d, i with | some xs, .int i => atI xs i | _, _ => none
section
variable {b : Addr} {X : Cx} {e x y z : Expr} {es : List Expr} {f fx fy fz : DenE} {fs fi : DenL} {fb : DenB} {pos p p2 pos2 : Pos}
theorem items_sq {μ : Mu} {d : PyData} {xs : List PyData} (h : items d = some xs) : SqD μ (.im d) (xs.map .im) := (items_seq h).sq
theorem se_len (B : Bt X.mg) (hg : Gl X "len") (hx : SE b X x fx) (he : starEach [x] X.env = (false, eval x X.env) :: starEach [] X.env := by rfl) (hpl : (backTo pos (starEach [] X.env)).any (·.1) = false := by rfl) : SE b X (.Call (.Name "len" p) [x] [] pos) (d1 pLen fx) := se_1 hx fun ρ μ Φ h => de_len B hg (h.imp fun u μ1 ⟨d, r, e1, hr, q⟩ => by
  subst e1
  unfold pLen at hr
  split at hr
  · rename_i xs hxs
    cases hr
    exact ⟨_, items_sq hxs, by rw [List.length_map]; exact q⟩
  · cases hr) he hpl
theorem se_list (B : Bt X.mg) (hg : Gl X "list") (hx : SE b X x fx) (he : starEach [x] X.env = (false, eval x X.env) :: starEach [] X.env := by rfl) (hpl : (backTo pos (starEach [] X.env)).any (·.1) = false := by rfl) : SE b X (.Call (.Name "list" p) [x] [] pos) (d1 pList fx) := se_1 hx fun ρ μ Φ h => de_list B hg (h.imp fun u μ1 ⟨d, r, e1, hr, q⟩ => by
  subst e1
  unfold pList at hr
  split at hr
  · rename_i xs hxs
    cases hr
    exact ⟨_, items_sq hxs, q⟩
  · cases hr) he hpl
theorem so_list (B : Bt X.mg) (hg : Gl X "list") (hx : SE b X x fx) (he : starEach [x] X.env = (false, eval x X.env) :: starEach [] X.env := by rfl) (hpl : (backTo pos (starEach [] X.env)).any (·.1) = false := by rfl) : SO b X (.Call (.Name "list" p) [x] [] pos) (d1 pList fx) := .mk fun μ0 E ρ μ Φ R h =>
  de_listO B hg (hx.run μ0 E ρ μ _ R ((all_bind.mp h).imp fun d q μ1 s1 => by
    obtain ⟨r, hr, ds, rfl, q⟩ := lift_all q
    unfold pList at hr
    split at hr
    · rename_i xs hxs
      cases hr
      exact ⟨_, items_sq hxs, fun p hp => q μ1 p s1 hp⟩
    · cases hr)) he hpl
theorem se_tuple (B : Bt X.mg) (hg : Gl X "tuple") (hx : SE b X x fx) (he : starEach [x] X.env = (false, eval x X.env) :: starEach [] X.env := by rfl) (hpl : (backTo pos (starEach [] X.env)).any (·.1) = false := by rfl) : SE b X (.Call (.Name "tuple" p) [x] [] pos) (d1 pTup fx) := se_1 hx fun ρ μ Φ h => de_tuple B hg (h.imp fun u μ1 ⟨d, r, e1, hr, q⟩ => by
  subst e1
  unfold pTup at hr
  split at hr
  · rename_i xs hxs
    cases hr
    exact ⟨_, items_sq hxs, q⟩
  · cases hr) he hpl
theorem se_sorted (B : Bt X.mg) (hg : Gl X "sorted") (hx : SE b X x fx) (he : starEach [x] X.env = (false, eval x X.env) :: starEach [] X.env := by rfl) (hpl : (backTo pos (starEach [] X.env)).any (·.1) = false := by rfl) : SE b X (.Call (.Name "sorted" p) [x] [] pos) (d1 pSrt fx) := se_1 hx fun ρ μ Φ h => de_sorted B hg (h.imp fun u μ1 ⟨d, r, e1, hr, q⟩ => by
  subst e1
  obtain ⟨ns, rfl, h2⟩ := onI_some hr
  cases h2
  refine ⟨ns, .im _, ?_⟩
  rw [← isrt_eq]
  exact q) he hpl
theorem se_sum (B : Bt X.mg) (hc : X.calm = true) (hg : Gl X "sum") (hx : SE b X x fx) (he : starEach [x] X.env = (false, eval x X.env) :: starEach [] X.env := by rfl) (hpl : (backTo pos (starEach [] X.env)).any (·.1) = false := by rfl) : SE b X (.Call (.Name "sum" p) [x] [] pos) (d1 pSum fx) := se_1 hx fun ρ μ Φ h => de_sum B hc hg (h.imp fun u μ1 ⟨d, r, e1, hr, q⟩ => by
  subst e1
  obtain ⟨ns, rfl, h2⟩ := onI_some hr
  cases h2
  refine ⟨ns, .im _, ?_⟩
  rw [← sumI_eq]
  exact q) he hpl
theorem se_isi {T : String} {n : Str} (B : Bt X.mg) (hg : Gl X "isinstance") (hg2 : Gl X n) (hm : X.mg n = none) (hv : bootBuiltins n = some (.type T)) (hx : SE b X x fx)
    (hn : n ≠ "__name__" := by decide) (hdb : (n == ("__debug__" : Str)) = false := by decide) (he : starEach [x, .Name n p2] X.env = (false, eval x X.env) :: starEach [.Name n p2] X.env := by rfl) (he2 : starEach [.Name n p2] X.env = (false, eval (.Name n p2) X.env) :: starEach [] X.env := by rfl)
    (hpl : (backTo pos (starEach [.Name n p2] X.env)).any (·.1) = false := by rfl) : SE b X (.Call (.Name "isinstance" p) [x, .Name n p2] [] pos) (d1 (pIsi T) fx) := se_1 hx fun ρ μ Φ h => de_isi B hg hg2 hm hv (h.imp fun u μ1 ⟨d, r, e1, hr, q⟩ => by
  subst e1
  unfold pIsi at hr
  split at hr
  · rename_i k hk
    cases hr
    exact ⟨_, k, .im d, hk, q⟩
  · cases hr) hn hdb he he2 hpl
theorem se_ix (hs : PlainIx y) (hx : SE b X x fx) (hy : SE b X y fy) : SE b X (.Subscript x y pos) (d2 pIx fx fy) := se_2 hx hy fun ρ μ Φ h => de_ix hs (h.imp fun u μ1 h1 => h1.imp fun v μ2 ⟨d, d', r, e1, e2, hr, q⟩ => by
  subst e1 e2
  unfold pIx at hr
  cases hxs : items d with
  | none =>
    rw [hxs] at hr
    cases hr
  | some xs =>
    rw [hxs] at hr
    cases d' with
    | int i => exact ⟨_, i, _, items_sq hxs, rfl, atI_im hr, q⟩
    | _ => cases hr)
def oN : Env → Tree (Option Int) := fun _ => .ret none
def oS (f : DenE) : Env → Tree (Option Int) := fun E => (f E).bind fun x => match x with | .int i => .ret (some i) | _ => .fail
structure SOp (b : Addr) (X : Cx) (e : Option Expr) (f : Env → Tree (Option Int)) : Prop where
  run : ∀ μ0 E ρ μ Φ, Rel b μ0 E ρ μ → (f E).All (fun d => ∀ μ', Bs b μ μ' → Φ d μ') → DO X e ρ μ Φ
theorem so_n : SOp b X none oN := .mk fun μ0 E ρ μ Φ R h => h μ (Bs.refl b μ)
theorem so_s (hx : SE b X x fx) : SOp b X (some x) (oS fx) := .mk fun μ0 E ρ μ Φ R h => hx.run μ0 E ρ μ _ R ((all_bind.mp h).imp fun d q μ1 s1 => by
  split at q
  · exact ⟨_, rfl, q μ1 s1⟩
  · exact q.elim)
def pCut (d : PyData) (lo hi : Option Int) : Option PyData := match d with
  | .list xs => some (.list (cutD xs lo hi))
  | .tuple xs => some (.tuple (cutD xs lo hi))
  | _ => none
def dSl (f : DenE) (lo hi : Env → Tree (Option Int)) : DenE := fun E => (f E).bind fun x => (lo E).bind fun l => (hi E).bind fun u => liftO (pCut x l u)
variable {lo hi : Option Expr} {fl fu : Env → Tree (Option Int)}
theorem se_sl (hx : SE b X x fx) (hl : SOp b X lo fl) (hu : SOp b X hi fu) : SE b X (.Subscript x (.Slice lo hi none p2) pos) (dSl fx fl fu) := .mk fun μ0 E ρ μ Φ R h => by
  have hD : DE X x ρ μ fun u μ1 => DO X lo ρ μ1 fun l μ2 => DO X hi ρ μ2 fun v μ3 => ∃ d r, u = .im d ∧ pCut d l v = some r ∧ Φ (.im r) μ3 :=
    hx.run μ0 E ρ μ _ R ((all_bind.mp h).imp fun d q μ1 s1 => hl.run μ0 E ρ μ1 (fun l μ2 => DO X hi ρ μ2 fun v μ3 => ∃ d' r, OV.im d = .im d' ∧ pCut d' l v = some r ∧ Φ (.im r) μ3) (R.step s1) ((all_bind.mp q).imp fun l q μ2 s2 => hu.run μ0 E ρ μ2 (fun v μ3 => ∃ d' r, OV.im d = .im d' ∧ pCut d' l v = some r ∧ Φ (.im r) μ3) ((R.step s1).step s2) ((all_bind.mp q).imp fun u q μ3 s3 => by
      obtain ⟨r, hr, q⟩ := lift_all q
      exact ⟨d, r, rfl, hr, q μ3 ((s1.trans s2).trans s3)⟩)))
  intro G H σ m v Q f
  refine WE.of (pe_slice (SlR.or sl_list sl_tupA) pwe pwo pwo) (hD G H σ m v _ fun vx x μ1 G1 H1 q1 e1 m1 r1 => q1.run m1 (v.mono e1) fun l μ2 G2 H2 q2 e2 m2 => q2.run m2 (v.mono (e1.trans e2)) fun u μ3 G3 H3 q3 e3 m3 => ?_)
  obtain ⟨d, r, rfl, hr, q⟩ := q3
  have r3 : Dv G3 vx d := r1.mono (e2.trans e3)
  cases r3 with
  | @lst a xs ds h1 w =>
    cases hr
    refine .inl ⟨_, _, rfl, .inl (.inl (m3.ex _ _ h1)), fun p hp => ?_⟩
    have n := m3.ex.free hp
    have w2 := (ROs.of_ims w).cut l u
    rw [cutO_im] at w2
    exact f _ _ _ _ _ q (((e1.trans e2).trans e3).trans (Ex.new n)) (m3.lay hp) (Dv.lst upd_same (w2.ims.mono (Ex.new n)))
  | @tup a xs ds h1 w =>
    cases hr
    have wl := w.length
    refine .inr ⟨a, xs, rfl, .inl (.inl (m3.ex _ _ h1)), fun ⟨z1, z2⟩ => ?_, fun _ p hp => ?_⟩
    · have ec : cutD ds l u = ds := by
        unfold cutD
        rw [wl] at z1 z2
        rw [z1, z2, List.drop_zero, Nat.sub_zero, List.take_length]
      rw [ec] at q
      exact f _ _ _ _ _ q ((e1.trans e2).trans e3) m3 (Dv.tup h1 w)
    · have n := m3.ex.free hp
      have w2 := (ROs.of_ims w).cut l u
      rw [cutO_im] at w2
      exact f _ _ _ _ _ q (((e1.trans e2).trans e3).trans (Ex.new n)) (m3.lay hp) (Dv.tup upd_same (w2.ims.mono (Ex.new n)))
  | _ => cases hr
def pRev : PyData → Option PyData
  | .list xs => some (.list xs.reverse)
  | _ => none
theorem se_rev {k : Nat} {p1 p3 p4 : Pos} (hx : SE b X x fx) : SE b X (.Subscript x (.Slice none none (some (.UnaryOp .USub (.Constant (.int 1) k p1) p3)) p4) pos) (d1 pRev fx) := se_1 hx fun ρ μ Φ h => de_rev (h.imp fun u μ1 ⟨d, r, e1, hr, q⟩ => by
  subst e1
  cases d <;> cases hr
  exact ⟨_, rfl, q⟩)
def lrg (f : List PyData → PyData) (o : Option (List PyData)) : Option PyData := match o with | some xs => some (f xs) | none => none
theorem rgv_dv {H : Hp} (i j : Int) : DvA H (rgV i j) (numsF i (j - i).toNat) := by
  unfold rgV numsF
  generalize (j - i).toNat = n
  have go : ∀ l : List Nat, DvA H (l.map fun (k : Nat) => V.int (i + (k : Int))) (l.map fun (k : Nat) => PyData.int (i + (k : Int))) := by
    intro l
    induction l with
    | nil => exact .nil
    | cons k l ih => exact .cons (.int _) ih
  exact go _
theorem rg1_some {d : PyData} {xs : List PyData} (h : rg1 d = some xs) : ∃ j : Int, d = .int j ∧ -100000 ≤ j ∧ j ≤ 100000 ∧ xs = nums j.toNat := by
  cases d with
  | int j =>
    simp only [rg1] at h
    split at h
    · next hj =>
      cases h
      exact ⟨j, rfl, hj.1, hj.2, rfl⟩
    · cases h
  | _ => cases h
theorem rg1_dv {H : Hp} (j : Int) : DvA H (rgV 0 j) (nums j.toNat) := by
  have h := rgv_dv (H := H) 0 j
  have e : numsF 0 (j - 0).toNat = nums j.toNat := by
    unfold numsF nums
    rw [show j - 0 = j by omega]
    congr 1
    funext k
    rw [Int.zero_add]
  rw [e] at h
  exact h
theorem se_listRg (B : Bt X.mg) (hc : X.calm = true) (hg : Gl X "list") (hg2 : Gl X "range") (hx : SE b X x fx) (he : starEach [x] X.env = (false, eval x X.env) :: starEach [] X.env := by rfl) (he2 : starEach [.Call (.Name "range" p2) [x] [] pos2] X.env = (false, eval (.Call (.Name "range" p2) [x] [] pos2) X.env) :: starEach [] X.env := by rfl) : SE b X (.Call (.Name "list" p) [.Call (.Name "range" p2) [x] [] pos2] [] pos) (d1 (fun d => lrg .list (rg1 d)) fx) := se_1 hx fun ρ μ Φ h G H σ m v Q f =>
  WE.of (pe_listRg hc hg B.list (prg_1 hg2 B.range pwe he) he2) (h G H σ m v _ fun vx u μ1 G1 H1 q1 e1 m1 r1 => by
    obtain ⟨d, r, rfl, hr, q⟩ := q1
    simp only [lrg] at hr
    split at hr
    · next xs hxs =>
      cases hr
      obtain ⟨j, rfl, j1, j2, rfl⟩ := rg1_some hxs
      cases r1
      refine ⟨_, rfl, ⟨by omega, by omega, by omega, by omega, by omega⟩, fun l hl => ?_⟩
      have fr := m1.ex.free hl
      exact f _ _ _ _ _ q (e1.trans (Ex.new fr)) (m1.lay hl) (Dv.lst upd_same (rg1_dv j))
    · cases hr)
end
end Nx
namespace Nx
open PySem PySem.Spec PyProof.Rows L2
open Tree
section
variable {b : Addr} {X : Cx} {e x y z tg iter elt c : Expr} {es : List Expr} {f fx fy fz : DenE} {fs fi : DenL} {fb : DenB} {pos p : Pos} {st : Stmt} {ss : List Stmt}
def sParO (i j : Nat) (fx fy : DenE) : DenS := fun E => (fx E).bind fun d => (fy E).bind fun d' => match d' with | .list xs => .ret (.nx ((E.set i (some (.d d))).set j (some (.own xs)))) | _ => .fail
theorem ss_parO (i j : Nat) {n m : Str} {px py pt : Pos} {kt k2 pt2} (hc : X.calm = true) (hN : X.N.Nodup) (hi : X.N[i]? = some n) (hj : X.N[j]? = some m) (hij : i ≠ j)
    (hx : X.env.scope.names.lookup n = some .local) (hy : X.env.scope.names.lookup m = some .local) (hw : swappedStores [.Tuple [.Name n px, .Name m py] kt pt] (.Tuple [x, y] k2 pt2) X.env = pure (some [n, m]))
    (h1 : SE b X x fx) (h2 : SO b X y fy) (e1 : starEach [x, y] X.env = (false, eval x X.env) :: starEach [y] X.env := by rfl) (e2 : starEach [y] X.env = (false, eval y X.env) :: starEach [] X.env := by rfl)
    (hs : swapsWithSole [.Tuple [.Name n px, .Name m py] kt pt] (.Tuple [x, y] k2 pt2) pos.line X.env = pure false := by rfl) : SS b X (.Assign [.Tuple [.Name n px, .Name m py] kt pt] (.Tuple [x, y] k2 pt2) pos) (sParO i j fx fy) := .mk fun μ0 E ρ μ D R q =>
  ds_par i j hc hN hi hj hij hx hy hw (da_cons (h1.run μ0 E ρ μ _ R ((all_bind.mp q).imp fun d q μ1 s1 => da_cons (h2.run μ0 E ρ μ1 _ (R.step s1) ((all_bind.mp q).imp fun d' q => by
    cases d' with
    | list xs => exact ⟨xs, rfl, fun μ2 p s2 hp => da_nil ⟨_, _, rfl, q _ _ ((((R.step s1).step s2).setD i d).setO j hp)⟩⟩
    | _ => exact q.elim)) e2)) e1) hs
end
theorem de_fdivW {X : Cx} {a b : Expr} {ρ : Rho} {μ : Mu} {Φ : OV → Mu → Prop} {pos : Pos} (h : DE X a ρ μ fun x μ1 => DE X b ρ μ1 fun y μ2 => ∃ i j, x = .im (.int i) ∧ y = .im (.int j) ∧ CDivW i j ∧ Φ (.im (.int (i / j))) μ2) : DE X (.BinOp a .FloorDiv b pos) ρ μ Φ := by
  refine de_op op_fdivW (h.imp fun x μ1 h1 => h1.imp fun y μ2 h2 => ?_)
  obtain ⟨i, j, rfl, rfl, hj, q⟩ := h2
  exact od_I hj q
def takeF : List W → Tree PyData
  | [.bx, .d (.int n)] => if 0 < n ∧ n < 4611686018427387904 then .draw n.toNat fun r => .ret (.int (r : Int)) else .fail
  | _ => .fail
def c_take : Ct := fun os μ Φ => ∃ b n p q t, os = [.own b, .im (.int n)] ∧ μ b = some (bx p q t) ∧ 0 < n ∧ n < 4611686018427387904 ∧ ∀ r p' t', 0 ≤ r → r < n → Φ (.im (.int r)) (μ.put b (bx p' q t'))
theorem take_ok : ∀ os μ Φ, cF takeF os μ Φ → c_take os μ Φ := fun os μ Φ h => by
  obtain ⟨b, ws, rfl, ⟨p, q, t, hb⟩, h⟩ := h
  unfold takeF at h
  split at h
  · rename_i n
    split at h
    · next hn =>
      refine ⟨b, n, p, q, t, rfl, hb, hn.1, hn.2, fun r p' t' r0 r1 => ?_⟩
      have := h r.toNat (by omega) _ (Bs.set (b := b) (μ := μ) (p := p') (q := q) (t := t'))
      rw [Int.toNat_of_nonneg r0] at this
      exact this
    · exact h.elim
  · exact h.elim
def strewnT : Nat → List PyData → Tree (List PyData)
  | 0, _ => .ret []
  | n + 1, l => .draw l.length fun r => match l[r]? with
    | some x => (strewnT n (l.eraseIdx r)).bind fun xs => .ret (x :: xs)
    | none => .fail
def strewnF : List W → Tree PyData
  | [.bx, .d (.list ds)] => if ds.length ≤ 1000 then (strewnT ds.length ds).bind fun xs => .ret (.list xs) else .fail
  | _ => .fail
theorem strewn_perm {Q : List PyData → Prop} : ∀ (n : Nat) (ds es : List PyData), ds.length = n → es.Perm ds → (strewnT n ds).All Q → Q es
  | 0, ds, es, hl, hp, h => by
    have : ds = [] := List.length_eq_zero_iff.mp hl
    subst this
    rw [hp.eq_nil]
    exact h
  | n + 1, ds, es, hl, hp, h => by
    cases es with
    | nil =>
      have := hp.length_eq
      simp at this
      omega
    | cons x es =>
      have hx : x ∈ ds := hp.mem_iff.mp (List.mem_cons_self ..)
      obtain ⟨r, hr, e⟩ := List.mem_iff_getElem.mp hx
      have h := h r hr
      dsimp only at h
      rw [List.getElem?_eq_getElem hr, e] at h
      have h := all_bind.mp h
      have pp := erase_perm ds r hr
      rw [e] at pp
      refine strewn_perm (Q := fun xs => Q (x :: xs)) n (ds.eraseIdx r) es (by rw [List.length_eraseIdx]; simp [hr]; omega) ?_ h
      exact (List.perm_cons x).mp (hp.trans pp.symm)
theorem strewn_all {Q : List PyData → Prop} : ∀ (n : Nat) (ds : List PyData), ds.length = n → (∀ es : List PyData, es.Perm ds → Q es) → (strewnT n ds).All Q
  | 0, ds, hl, h => h [] (by rw [List.length_eq_zero_iff.mp hl])
  | n + 1, ds, hl, h => fun r hr => by
    dsimp only
    rw [List.getElem?_eq_getElem hr]
    refine all_bind.mpr (strewn_all n _ (by rw [List.length_eraseIdx]; simp [hr]; omega) fun es hp => h _ ?_)
    exact (hp.cons _).trans (erase_perm ds r hr)
def c_strewn : Ct := fun os μ Φ => ∃ (b : Addr) (ds : List PyData) (p q t : Int), os = [.own b, .im (.list ds)] ∧ μ b = some (bx p q t) ∧ ds.length ≤ 1000 ∧ ∀ es p' t', es.Perm ds → Φ (.im (.list es)) (μ.put b (bx p' q t'))
theorem strewn_ok : ∀ os μ Φ, cF strewnF os μ Φ → c_strewn os μ Φ := fun os μ Φ h => by
  obtain ⟨b, ws, rfl, ⟨p, q, t, hb⟩, h⟩ := h
  unfold strewnF at h
  split at h
  · rename_i ds
    split at h
    · next hn => exact ⟨b, ds, p, q, t, rfl, hb, hn, fun es p' t' hp => strewn_perm _ ds es rfl hp (all_bind.mp h) _ Bs.set⟩
    · exact h.elim
  · exact h.elim
end Nx
namespace Nx
open PySem PySem.Spec PyProof.Rows L2
open Tree
end Nx
namespace Nx
open PySem PySem.Spec PyProof.Rows L2
open Tree
abbrev cLt := cI fun i j => decide (i < j)
def cR : Ct := fun os μ Φ => ∃ b p q t, os = [.own b] ∧ μ b = some (bx p q t) ∧ ∀ μ', Bs b μ μ' → Φ (.im (.bool true)) μ'
theorem cR_of {F : List W → Tree PyData} (h : (F [.bx]).All fun d => d = .bool true) : ∀ os μ Φ, cR os μ Φ → cF F os μ Φ := fun os μ Φ ⟨b, p, q, t, e, hb, k⟩ => ⟨b, [.bx], e, ⟨p, q, t, hb⟩, h.imp fun d e μ' s => by rw [e]; exact k μ' s⟩
end Nx
namespace Nx
open PySem PySem.Spec PyProof.Rows L2
open Tree
def in1 (t1 : Tgt) (vs1 : List Nat) (c : DenB) (elt : DenE) (E1 : Env) : PyData → Tree (Option PyData) := fun y => (liftO (putE t1 y (wipeE E1 vs1))).bind fun E2 => (c E2).bind fun k => match k with | true => (elt E2).bind fun z => .ret (some z) | false => .ret none
end Nx
namespace Nx
open PySem PySem.Spec PyProof.Rows L2
open Tree
section
variable {b : Addr} {X : Cx} {x y o e tg : Expr} {fx fy : DenE} {pos p p2 pos2 apos cpos : Pos} {k : Nat}
def sAsgL (is : List Nat) (f : DenE) : DenS := fun E => (f E).bind fun d => match d with
  | .list ds => if ds.length = is.length then .ret (.nx (putsE E is ds)) else .fail
  | _ => .fail
def pIdx (d y : PyData) : Option PyData := match d with
  | .list ds => if SeqAt.shaped (.list ds) = true ∧ SeqAt.shaped y = true then (match ds.findIdx? fun z => PyData.eqv z y with | some j => some (.int (j : Nat)) | none => none) else none
  | _ => none
def dIdx (fx fy : DenE) : DenE := fun E => (fx E).bind fun d => match d with
  | .list ds => (fy E).bind fun y => liftO (pIdx (.list ds) y)
  | _ => .fail
end
end Nx
namespace Nx
open PySem PySem.Spec PyProof.Rows L2
open Tree
end Nx
namespace Nx
open PySem PySem.Spec PyProof.Rows L2
open Tree
def asT : PyData → Option (List Int)
  | .tuple ds => asI ds
  | _ => none
def tpl (t : List Int) : PyData := .tuple (iL t)
def kT (t : List Int) : Int := TS.code 1000 t
def insT (t : List Int) : List (List Int) → List (List Int)
  | [] => [t]
  | u :: us => if kT t ≤ kT u then t :: u :: us else u :: insT t us
def srtT : List (List Int) → List (List Int)
  | [] => []
  | t :: ts => insT t (srtT ts)
def bdT (d : Nat) (t : List Int) : Bool := decide (t.length = d) && t.all fun x => decide (0 ≤ x) && decide (x < 1000)
def hdLen : List (List Int) → Nat
  | [] => 1
  | t :: _ => t.length
end Nx
namespace Nx
open PySem PySem.Spec PyProof.Rows L2
open Tree
end Nx
namespace Nx
open PySem PySem.Spec PyProof.Rows L2
open Tree
section
variable {b : Addr} {X : Cx} {x y tg : Expr} {fx fy : DenE} {pos q1 q2 q3 : Pos} {k3 : Nat}
def sPar4 (i1 i2 i3 i4 : Nat) (fx fy : DenE) : DenS := fun E => (fx E).bind fun u => (fy E).bind fun w => .ret (.nx ((((E.set i1 (some (.d u))).set i2 (some (.d w))).set i3 (some (.own []))).set i4 (some (.own []))))
end
end Nx
namespace Nx
open PySem PySem.Spec PyProof.Rows L2
open Tree
end Nx
namespace Nx
open PySem PySem.Spec PyProof.Rows L2
open Tree
end Nx
namespace Nx
open PySem PySem.Spec PyProof.Rows L2
open Tree
def dOIx (i : Nat) (fy : DenE) : DenE := fun E => match E[i]? with
  | some (some (.own l)) => (fy E).bind fun y => match y with | .int j => liftO (atI l j) | _ => .fail
  | _ => .fail
section
variable {b : Addr} {X : Cx} {x y : Expr} {fx fy : DenE} {pos : Pos}
theorem se_ixO (i : Nat) {n : Str} {np : Pos} (hs : PlainIx y) (hy : SE b X y fy) (hN : X.N[i]? = some n := by rfl) (hv : Vis X.env.scope n := by first | exact Or.inl rfl | exact Or.inr (Or.inl rfl) | exact Or.inr (Or.inr rfl)) (hd : (n == ("__debug__" : Str)) = false := by decide) (hcd : (n == ("__classdict__" : Str)) = false := by decide) : SE b X (.Subscript (.Name n np) y pos) (dOIx i fy) := .mk fun μ0 E ρ μ Φ R q => by
  unfold dOIx at q
  split at q
  · rename_i l hl
    obtain ⟨o, h1, p, rfl, nb, h0, hp⟩ := R.get i _ hl
    refine de_ix hs (de_var i hN hv h1 (hy.run μ0 E ρ μ _ R ((all_bind.mp q).imp fun y q μ2 s2 => ?_)) hd hcd)
    cases y with
    | int j =>
      obtain ⟨d, hd', q⟩ := lift_all q
      exact ⟨l.map .im, j, .im d, .own (s2.old p _ nb hp), rfl, atI_im hd', q μ2 s2⟩
    | _ => exact q.elim
  · exact q.elim
end
end Nx
namespace Nx
open PySem PySem.Spec PyProof.Rows L2
open Tree
section
variable {b : Addr} {X : Cx} {x y : Expr} {fx fy : DenE} {pos : Pos}
def sOPar (i j : Nat) (fx fy : DenE) : DenS := fun E => (fx E).bind fun d => match d with | .list xs => (fy E).bind fun e => .ret (.nx ((E.set i (some (.own xs))).set j (some (.d e)))) | _ => .fail
def sOOPar (i j : Nat) (fx fy : DenE) : DenS := fun E => (fx E).bind fun d => match d with | .list xs => (fy E).bind (fun e => match e with | .list ys => .ret (.nx ((E.set i (some (.own xs))).set j (some (.own ys)))) | _ => .fail) | _ => .fail
end
end Nx
namespace Nx
open PySem PySem.Spec PyProof.Rows L2
open Tree
end Nx
namespace Nx
open PySem PySem.Spec PyProof.Rows L2
open Tree
end Nx
namespace Nx
open PySem PySem.Spec PyProof.Rows L2
open Tree
section
variable {b : Addr} {X : Cx} {e x y tg : Expr} {fx fy : DenE} {pos : Pos}
def sNest (i j k : Nat) (fx fy : DenE) : DenS := fun E => (fx E).bind fun u => (fy E).bind fun w => match w with | .tuple [a, c] => .ret (.nx (((E.set i (some (.d u))).set j (some (.d a))).set k (some (.d c)))) | _ => .fail
end
end Nx
namespace Nx
open PySem PySem.Spec PyProof.Rows L2
open Tree
def dPr (i : Nat) (f : DenE) : DenE := fun E => match E[i]? with | some (some (.own ds)) => (f E).bind fun x => .ret (.tuple [.list ds, x]) | _ => .fail
def pC (g : DenS) (h : DenE) : DenE := fun E => (g E).bind fun o => match o with | .nx E' => h E' | _ => .fail
def pFrz (i : Nat) (h : DenE) : DenE := fun E => h (frzE i E)
def fnP (a n : Nat) (body : DenE) : List W → Tree PyData := fun ws => (liftO (lenIs a ws)).bind fun _ => body (ws.map (fun w => some (ent w)) ++ List.replicate (n - a) none)
section
variable {b : Addr} {X : Cx} {e x y : Expr} {es : List Expr} {fx : DenE} {g : DenS} {h : DenE} {st : Stmt} {ss : List Stmt} {pos : Pos} {ρ : Rho} {μ : Mu} {Φ : OV → Mu → Prop}
def sCallP (i j : Nat) (F : List W → Tree PyData) (fs : Env → Tree (List W)) : DenS := fun E => (fs E).bind fun ws => (F ws).bind fun d => match d with | .tuple [.list ds, x] => .ret (.nx ((E.set i (some (.own ds))).set j (some (.d x)))) | _ => .fail
def dOLen (i : Nat) : DenE := fun E => match E[i]? with | some (some (.own l)) => .ret (.int l.length) | _ => .fail
end
end Nx
namespace Nx
open PySem PySem.Spec PyProof.Rows L2
open Tree
end Nx
namespace Nx
open PySem PySem.Spec PyProof.Rows L2
open Tree
end Nx
namespace Nx
open PySem PySem.Spec PyProof.Rows L2
open Tree
end Nx
namespace Nx
open PySem PySem.Spec PyProof.Rows L2
open Tree
end Nx
namespace Nx
open PySem PySem.Spec PyProof.Rows L2
open Tree
section
variable {b : Addr} {X : Cx} {x y z : Expr} {fx fy fz : DenE} {pos : Pos}
def sIx (i : Nat) (fy fz : DenE) : DenS := fun E => (fz E).bind fun z => match E[i]? with
  | some (some (.own l)) => (fy E).bind fun y => match y with | .int j => (match ixN l.length j with | some m => .ret (.nx (E.set i (some (.own (l.set m z))))) | none => .fail) | _ => .fail
  | _ => .fail
theorem ss_ix (i : Nat) {n : Str} {np p' : Pos} (hN : X.N[i]? = some n) (hv : Vis X.env.scope n) (hy : SE b X y fy) (hz : SE b X z fz) (hsub : PG X (.Subscript (.Name n np) y p') (gSub (WE X (.Name n np)) (WE X y) rSetL)) (hd : (n == ("__debug__" : Str)) = false := by decide) (hcd : (n == ("__classdict__" : Str)) = false := by decide)
    (hs : swapsWithSole [.Subscript (.Name n np) y p'] z pos.line X.env = pure false := by rfl)
    (hw : swappedStores [.Subscript (.Name n np) y p'] z X.env = pure none := by rfl) (h1 : (assignEach [.Subscript (.Name n np) y p'] X.env).map (·.2) = [assign (.Subscript (.Name n np) y p') X.env] := by rfl) : SS b X (.Assign [.Subscript (.Name n np) y p'] z pos) (sIx i fy fz) := .mk fun μ0 E ρ μ D R q =>
  ds_sub (hz.run μ0 E ρ μ _ R ((all_bind.mp q).imp fun d q μ1 s1 => by
    split at q
    · rename_i l hl
      have R1 := R.step s1
      obtain ⟨o, h1, p, rfl, nb, h0, hp⟩ := R1.get i _ hl
      refine de_var i hN hv h1 (hy.run μ0 E ρ μ1 _ R1 ((all_bind.mp q).imp fun u q μ2 s2 => ?_)) hd hcd
      cases u with
      | int j =>
        dsimp only at q
        split at q
        · rename_i m hm
          refine ⟨p, l.map .im, j, m, rfl, rfl, s2.old p _ nb hp, by rw [List.length_map]; exact hm, ?_⟩
          have := q ρ _ ((R1.step s2).chg (es := l.set m d) hl h1)
          rw [List.map_set] at this
          exact this
        · exact q.elim
      | _ => exact q.elim
    · exact q.elim)) hs hw h1 hsub
end
end Nx
namespace Nx
open PySem PySem.Spec PyProof.Rows L2
open Tree
mutual
inductive Ld (b : Addr) (μ : Mu) : OV → PyData → Prop
  | im (d : PyData) : Ld b μ (.im d) d
  | own {q : Addr} {os : List OV} {ds : List PyData} : q ≠ b → μ q = some os → LdA b μ os ds → Ld b μ (.own q) (.list ds)
inductive LdA (b : Addr) (μ : Mu) : List OV → List PyData → Prop
  | nil : LdA b μ [] []
  | cons {o : OV} {os : List OV} {d : PyData} {ds : List PyData} : Ld b μ o d → LdA b μ os ds → LdA b μ (o :: os) (d :: ds)
end
def lendH (b : Addr) (μ : Mu) (who : Addr → Option Addr) (G H : Hp) : Hp := fun a => if a ≠ b ∧ (μ a).isSome = true ∨ (who a).isSome = true then H a else G a
section
variable {b : Addr} {μ : Mu} {G H : Hp} {who : Addr → Option Addr}
theorem lend_ex (m : RM G H μ) (t : Thg who G H μ) : Ex G (lendH b μ who G H) := fun a o e => by
  unfold lendH
  rw [if_neg]
  · exact e
  · rintro (⟨_, h⟩ | h)
    · obtain ⟨l, hl⟩ := Option.isSome_iff_exists.mp h
      rw [(m.own a l hl).1] at e
      cases e
    · obtain ⟨c, hc⟩ := Option.isSome_iff_exists.mp h
      rw [(t.of a c hc).1] at e
      cases e
theorem lend_at {a : Addr} {l : List OV} (h : a ≠ b) (hl : μ a = some l) : lendH b μ who G H a = H a := if_pos (.inl ⟨h, by rw [hl]; rfl⟩)
mutual
theorem Ld.dv (m : RM G H μ) (t : Thg who G H μ) : ∀ {o : OV} {d : PyData}, Ld b μ o d → ∀ {v : V}, RO G v o → Dv (lendH b μ who G H) v d
  | _, _, .im d, v, r => Dv.mono (lend_ex m t) r
  | _, _, .own hq hl ha, v, r => by
    have r : v = .ref _ := r
    subst r
    obtain ⟨_, vs, hv, w⟩ := m.own _ _ hl
    exact .lst ((lend_at hq hl).trans hv) (LdA.dv m t ha w)
theorem LdA.dv (m : RM G H μ) (t : Thg who G H μ) : ∀ {os : List OV} {ds : List PyData}, LdA b μ os ds → ∀ {vs : List V}, ROs G vs os → DvA (lendH b μ who G H) vs ds
  | _, _, .nil, _, .nil => .nil
  | _, _, .cons h hs, _, .cons r s => .cons (Ld.dv m t h r) (LdA.dv m t hs s)
end
theorem LdA.ims : ∀ ds : List PyData, LdA b μ (ds.map .im) ds
  | [] => .nil
  | d :: ds => .cons (.im d) (LdA.ims ds)
end
theorem LlAt.ld {b : Addr} {μ0 μ : Mu} {p : Addr} {ls : List (List PyData)} (h : LlAt b μ0 p ls) (s : Bs b μ0 μ) : Ld b μ (.own p) (.list (ls.map .list)) := by
  obtain ⟨ps, pb, hp, nd, hP⟩ := h
  refine .own pb (s.old _ _ pb hp) ?_
  clear hp nd
  induction hP with
  | nil => exact .nil
  | cons r _ ih => exact .cons (.own r.1 (s.old _ _ r.1 r.2) (LdA.ims _)) ih
section
variable {b : Addr} {X : Cx} {e x y : Expr} {es : List Expr} {f : DenB} {fx fy : DenE} {st : Stmt} {ss : List Stmt} {pos p apos cpos rp : Pos} {gs : Env → Tree (List W)}
structure Nst (b : Addr) (μ0 : Mu) (E : Env) (ρ : Rho) (μ : Mu) (h i : Nat) (q p : Addr) (l es : List PyData) : Prop where
  rel : Rel b μ0 E ρ μ
  rh : ρ[h]? = some (some (.own q))
  mq : μ q = some ((l.map .im).set i (.own p))
  li : l[i]? = some (.list es)
  mp : μ p = some (es.map .im)
  pb : p ≠ b
  qb : q ≠ b
  pq : p ≠ q
  p0 : μ0 p = none
  q0 : μ0 q = none
  np : ∀ (j : Nat) ds c, E[j]? = some (some (.own ds)) → ρ[j]? = some (some (.own c)) → c ≠ p
  nq : ∀ (j : Nat) ds c, E[j]? = some (some (.own ds)) → ρ[j]? = some (some (.own c)) → c ≠ q
theorem Nst.step {μ0 μ μ' : Mu} {E : Env} {ρ : Rho} {h i : Nat} {q p : Addr} {l es : List PyData} (N : Nst b μ0 E ρ μ h i q p l es) (s : Bs b μ μ') : Nst b μ0 E ρ μ' h i q p l es :=
  ⟨N.rel.step s, N.rh, s.old _ _ N.qb N.mq, N.li, s.old _ _ N.pb N.mp, N.pb, N.qb, N.pq, N.p0, N.q0, N.np, N.nq⟩
def nApp (fx : DenE) (f : List PyData → DenS) : List PyData → DenS := fun l E => (fx E).bind fun y => (liftO (small (l.length + 1))).bind fun _ => f (l ++ [y]) E
def frzW : Option W → Option W
  | some (.own l) => some (.d (.list l))
  | some (.odc _) => none
  | some (.cir _) => none
  | some (.lc _) => none
  | some (.ll ls) => some (.d (.list (ls.map .list)))
  | w => w
def lendE (h : Nat) (l : List PyData) (E : Env) : Env := (E.set h (some (.d (.list l)))).map frzW
def nIf (h : Nat) (ft : DenB) (f : List PyData → DenS) : List PyData → DenS := fun l E => (ft (lendE h l E)).bind fun k => match k with | true => .ret (.rt (.bool false)) | false => f l E
def nEnd (i : Nat) (fx : DenE) (g : DenS) : List PyData → DenS := fun l E => match l[i]? with | some (.list es) => (liftO (small (es.length + 1))).bind fun _ => (fx E).bind fun _ => g E | _ => .fail
def sN0 (h : Nat) (F : DenE) (fy : DenE) (f : List PyData → DenS) : DenS := fun E => (liftO (if h < E.length then some () else none)).bind fun _ => (F E).bind fun d => match d with | .list es => (fy E).bind fun y => f [.list es, y] (E.set h none) | _ => .fail
def sN1 (h : Nat) (fx : DenE) (F : DenE) (f : List PyData → DenS) : DenS := fun E => (liftO (if h < E.length then some () else none)).bind fun _ => (fx E).bind fun x => (F E).bind fun d => match d with | .list es => f [x, .list es] (E.set h none) | _ => .fail
end
end Nx
namespace Nx
open PySem PySem.Spec PyProof.Rows L2
open Tree
end Nx
namespace Nxz
open PySem
open PySem.Sem (wp)
end Nxz
namespace Nx
open PySem PySem.Spec PyProof.Rows L2
open Tree
def zipDic : PyData → PyData → Option (List (PyData × PyData))
  | .tuple ks, .list ds => match asI ks with
    | some is => if is.Nodup ∧ is.length = ds.length ∧ is.length ≤ 1000 then some ((iL is).zip ds) else none
    | none => none
  | _, _ => none
def asP : List PyData → Option (List (Int × PyData))
  | [] => some []
  | .tuple [.int k, d] :: r => match asP r with
    | some ps => some ((k, d) :: ps)
    | none => none
  | _ => none
def pairDic : PyData → Option (List (PyData × PyData))
  | .list ps => match asP ps with
    | some qs => if (qs.map (·.1)).Nodup ∧ qs.length ≤ 1000 then some (qs.map fun q => (.int q.1, q.2)) else none
    | none => none
  | _ => none
inductive DK' where
  | i (n : Int) | t (ns : List Int)
  deriving DecidableEq
def keyD : PyData → Option DK'
  | .int n => some (.i n)
  | .tuple ds => match asI ds with | some ns => some (.t ns) | none => none
  | _ => none
def lookD : List (PyData × PyData) → DK' → Option PyData
  | [], _ => none
  | (k, v) :: r, x => if keyD k = some x then some v else lookD r x
def dZipD (f g : DenE) : Env → Tree (List (PyData × PyData)) := fun E => (f E).bind fun x => (g E).bind fun y => liftO (zipDic x y)
def dPairD (f : DenE) : Env → Tree (List (PyData × PyData)) := fun E => (f E).bind fun x => liftO (pairDic x)
section
variable {b : Addr} {X : Cx} {e x y : Expr} {fx fy : DenE} {pos pos2 p p2 : Pos} {st : Stmt}
def sSetK (i : Nat) (f : Env → Tree (List (PyData × PyData))) : DenS := fun E => (f E).bind fun kvs => .ret (.nx (E.set i (some (.dic kvs))))
def dGet (i : Nat) (f : DenE) : DenE := fun E => match E[i]? with
  | some (some (.dic kvs)) => (f E).bind fun k => (liftO (keyD k)).bind fun k => liftO (lookD kvs k)
  | _ => .fail
end
end Nx
namespace Nx
open PySem PySem.Spec PyProof.Rows L2
open Tree
section
variable {b : Addr} {X : Cx} {e x y : Expr} {fx fy : DenE} {pos pos2 p p2 : Pos}
def pMax2 : PyData → PyData → Option PyData
  | .int i, .int j => some (.int (max i j))
  | _, _ => none
end
end Nx
namespace Nx
open PySem PySem.Spec PyProof.Rows L2
open Tree
end Nx
namespace Nx
open PySem PySem.Spec PyProof.Rows L2
open Tree
section
variable {G G' : Hp}
theorem RO.ez (e : Ez G G') {v : V} : ∀ {o : OV}, RO G v o → RO G' v o
  | .im _, h => Dv.ez e h
  | .own _, h => h
  | .scr _ _, ⟨a, h1, h2⟩ => ⟨a, h1, by
    rcases h2 with (h | ⟨o, h⟩) | h
    · exact .inl (.inl (e _ _ h fun _ z => nomatch z))
    · exact .inl (.inr ⟨o, e _ _ h fun _ z => nomatch z⟩)
    · exact .inr h⟩
  | .pr _ _, ⟨t, v2, h1, h2, h3⟩ => ⟨t, v2, h1, e _ _ h2 (fun _ z => nomatch z), Dv.ez e h3⟩
  | .dic _, ⟨a, xs, h1, h2, h3⟩ => ⟨a, xs, h1, by
    rcases h2 with ⟨is, h2, h4⟩ | ⟨iss, o, h2, h4⟩
    · exact .inl ⟨is, h2, e _ _ h4 (fun _ z => nomatch z)⟩
    · exact .inr ⟨iss, o, h2, e _ _ h4 (fun _ z => nomatch z)⟩, DvA.ez e h3⟩
  | .ob P, h => P.mono e h
theorem ROs.ez (e : Ez G G') : ∀ {vs : List V} {os : List OV}, ROs G vs os → ROs G' vs os
  | _, _, .nil => .nil
  | _, _, .cons h t => .cons (RO.ez e h) (ROs.ez e t)
theorem ThOk.ez {C : Addr} {who : Addr → Option Addr} {H : Hp} {a : Addr} (e : Ez G G') : ∀ {t : Th}, ThOk C who G H a t → ThOk C who G' H a t
  | .dT kvs, ⟨xs, h1, h2⟩ => ⟨xs, h1, h2.ez e⟩
  | .cir c, ⟨dx, q, r, vb, xs, ys, h1, h2, h3, h4, h5, h6, h7, h8, h9, h10, h11⟩ => ⟨dx, q, r, vb, xs, ys, h1, h2, h3, h4, h5, h6, h7, h8, h9.ez e, h10.ez e, h11.ez e⟩
theorem ez_upd {p : Addr} {f g : Heap → Prop} (h : G p = some (.ext f)) : Ez G (upd G p (.ext g)) := fun a o e n => by
  rw [upd_ne (fun z => by rw [z, h] at e; cases e; exact n f rfl)]
  exact e
theorem RM.ext {H : Hp} {μ : Mu} (r : RM G H μ) {p : Addr} {f g : Heap → Prop} (h : G p = some (.ext f)) : RM (upd G p (.ext g)) (upd H p (.ext g)) μ := by
  refine ⟨fun a u e => ?_, fun a l q => ?_, ?_⟩
  · by_cases ha : a = p
    · subst ha
      rw [upd_same] at e ⊢
      exact e
    · rw [upd_ne ha] at e ⊢
      exact r.ex a u e
  · obtain ⟨g0, vs, e, w⟩ := r.own a l q
    have ha : a ≠ p := fun z => by rw [z, h] at g0; cases g0
    exact ⟨by rw [upd_ne ha]; exact g0, vs, by rw [upd_ne ha]; exact e, w.ez (ez_upd h)⟩
  · obtain ⟨who, t⟩ := r.thg
    have ne : ∀ x a, who x = some a → x ≠ p := fun x a hx z => by
      have := (t.of x a hx).1
      rw [z, h] at this
      cases this
    refine ⟨who, fun a th q => ?_, fun x a hx => ?_⟩
    · obtain ⟨h1, h2⟩ := t.ok a th q
      exact ⟨h1, (h2.ez (ez_upd h)).keep h1 fun x hx => upd_ne (ne x a hx)⟩
    · obtain ⟨h1, h2, h3, h4⟩ := t.of x a hx
      exact ⟨by rw [upd_ne (ne x a hx)]; exact h1, h2, by rw [upd_ne (ne x a hx)]; exact h3, h4⟩
end
end Nx
namespace Nx
open PySem PySem.Spec PyProof.Rows L2
open Tree
def lookT : TD → List Int → Option PyData
  | [], _ => none
  | (k, v) :: r, t => if k = t then some v else lookT r t
def putT : TD → List Int → PyData → TD
  | [], t, d => [(t, d)]
  | (k, v) :: r, t, d => if k = t then (k, d) :: r else (k, v) :: putT r t d
theorem imD_snd (kvs : TD) : (imD kvs).map (·.2) = (kvs.map (·.2)).map OV.im := by
  unfold imD
  rw [List.map_map, List.map_map]
  rfl
def odcE (E : Env) (i : Nat) : Option TD := match E[i]? with | some (some (.odc kvs)) => some kvs | _ => none
theorem odcE_some {E : Env} {i : Nat} {kvs : TD} (h : odcE E i = some kvs) : E[i]? = some (some (.odc kvs)) := by
  unfold odcE at h
  split at h
  · rename_i e
    cases h
    exact e
  · cases h
def tdE (E : Env) (i : Nat) : Option TD := match E[i]? with | some (some (.odc kvs)) => some kvs | some (some (.dtt kvs)) => some kvs | _ => none
def TdO (kvs : TD) (μ : Mu) (o : OV) : Prop := (∃ p, o = .own p ∧ μ.d p = some (.dT (imD kvs))) ∨ o = .ob (dttP kvs)
theorem TdO.step {b : Addr} {kvs : TD} {μ μ' : Mu} {o : OV} (s : Bs b μ μ') (h : TdO kvs μ o) : TdO kvs μ' o := h.imp (fun ⟨p, e, h⟩ => ⟨p, e, s.thg _ _ h⟩) id
theorem TdO.at {G H : Hp} {μ : Mu} {kvs : TD} {o : OV} {v : V} (m : RM G H μ) (h : TdO kvs μ o) (r : RO G v o) : ∃ a xs, v = .ref a ∧ Rd H a (.dT (kvV (imD kvs) xs)) ∧ DvA G xs (kvs.map (·.2)) := by
  rcases h with ⟨p, rfl, h⟩ | rfl
  · have r : v = .ref p := r
    obtain ⟨_, _, xs, h1, h2⟩ := m.atD h
    rw [imD_snd] at h2
    exact ⟨p, xs, r, .inl h1, ROs.ims h2⟩
  · obtain ⟨a, o, xs, h1, h2, h3⟩ := r
    exact ⟨a, xs, h1, .inr ⟨o, m.ex _ _ h2⟩, h3⟩
def isNd (kvs : TD) : Option Unit := if (kvs.map (·.1)).Nodup then some () else none
def tDen (f : DenE) : Env → Tree (List Int) := fun E => (f E).bind fun x => liftO (asT x)
section
variable {b : Addr} {X : Cx} {e x y z : Expr} {fx fy fz : DenE} {pos p apos cpos : Pos} {st : Stmt} {k : Nat}
theorem Rel.odc {μ0 μ : Mu} {E : Env} {ρ : Rho} {i : Nat} {kvs : TD} (R : Rel b μ0 E ρ μ) (h : odcE E i = some kvs) : ∃ p, ρ[i]? = some (some (.own p)) ∧ μ0.d p = none ∧ μ.d p = some (.dT (imD kvs)) := by
  obtain ⟨o, h1, p, rfl, h2, h3⟩ := R.get i _ (odcE_some h)
  exact ⟨p, h1, h2, h3⟩
def sNewD (i : Nat) : DenS := fun E => .ret (.nx (E.set i (some (.odc []))))
def dGetO (i : Nat) (fk fz : DenE) : DenE := fun E => match tdE E i with
  | some kvs => (tDen fk E).bind fun t => (fz E).bind fun z => .ret ((lookT kvs t).getD z)
  | none => .fail
def dIdxO (i : Nat) (fk : DenE) : DenE := fun E => match tdE E i with
  | some kvs => (tDen fk E).bind fun t => liftO (lookT kvs t)
  | none => .fail
def tNinD (i : Nat) (fk : DenE) : DenB := fun E => match tdE E i with
  | some kvs => (tDen fk E).bind fun t => .ret (lookT kvs t).isNone
  | none => .fail
def sPutO (i : Nat) (fk fv : DenE) : DenS := fun E => match odcE E i with
  | some kvs => (liftO (isNd kvs)).bind fun _ => (liftO (small kvs.length)).bind fun _ => (fv E).bind fun d => (tDen fk E).bind fun t => .ret (.nx (E.set i (some (.odc (putT kvs t d)))))
  | none => .fail
end
end Nx
namespace Nx
open PySem PySem.Spec PyProof.Rows L2
open Tree
end Nx
namespace Nx
open PySem PySem.Spec PyProof.Rows L2
open Tree
def lockE (i : Nat) (E : Env) : Env := match odcE E i with | some kvs => E.set i (some (.dtt kvs)) | none => E
def sLock (i : Nat) (g : DenS) : DenS := fun E => g (lockE i E)
def dttE (E : Env) (i : Nat) : Option TD := match E[i]? with | some (some (.dtt kvs)) => some kvs | _ => none
def keysT (kvs : TD) : List (List Int) := kvs.map (·.1)
section
variable {b : Addr} {X : Cx} {e x y z tg : Expr} {es : List Expr} {fx fy fz : DenE} {pos p apos cpos : Pos} {st : Stmt} {ss : List Stmt} {k : Nat} {g : DenS} {gs : Env → Tree (List W)}
def pSrtD (kvs : TD) : Option PyData := if 1 ≤ hdLen (keysT kvs) ∧ kvs.length ≤ 1000 ∧ (keysT kvs).all (bdT (hdLen (keysT kvs))) = true then some (.list ((srtT (keysT kvs)).map tpl)) else none
def dSrtD (i : Nat) : DenE := fun E => match tdE E i with | some kvs => liftO (pSrtD kvs) | none => .fail
def iDtt (i : Nat) : DenL := fun E => match dttE E i with | some kvs => .ret ((keysT kvs).map tpl) | none => .fail
def tC (g : DenS) (h : Env → Tree TD) : Env → Tree TD := fun E => (g E).bind fun o => match o with | .nx E' => h E' | _ => .fail
def tRet (i : Nat) : Env → Tree TD := fun E => match odcE E i with | some kvs => .ret kvs | none => .fail
def tCall2 (F : List W → Tree TD) (gs : Env → Tree (List W)) : Env → Tree TD := fun E => (gs E).bind F
def sParDt (i j : Nat) (ft : Env → Tree TD) (fy : DenE) : DenS := fun E => (ft E).bind fun kvs => (fy E).bind fun d => .ret (.nx ((E.set i (some (.dtt kvs))).set j (some (.d d))))
end
section
variable {P : Program} {w : World} {K : PySem.W.Frag} {mg : Str → Option Value} {base : Heap}
def fnT (a n : Nat) (body : Env → Tree TD) : List W → Tree TD := fun ws => (liftO (lenIs a ws)).bind fun _ => body (ws.map (fun w => some (ent w)) ++ List.replicate (n - a) none)
end
end Nx
namespace Nx
open PySem PySem.Spec PyProof.Rows L2
open Tree
end Nx
namespace Nx
open PySem PySem.Spec PyProof.Rows L2
open Tree
def putAll (kvs : TD) (qs : TD) : TD := qs.foldl (fun acc p => putT acc p.1 p.2) kvs
def asTP : List PyData → Option TD
  | [] => some []
  | .tuple [k, d] :: r => match asT k, asTP r with
    | some t, some ps => some ((t, d) :: ps)
    | _, _ => none
  | _ => none
def lTP (x : PyData) : Option TD := match x with | .list ds => asTP ds | _ => none
def sUpd (i : Nat) (fx : DenE) : DenS := fun E => match odcE E i with
  | some kvs => (liftO (isNd kvs)).bind fun _ => (liftO (if kvs.isEmpty then none else some ())).bind fun _ => (fx E).bind fun x => (liftO (lTP x)).bind fun qs => (liftO (isNd qs)).bind fun _ => (liftO (small (kvs.length + qs.length))).bind fun _ => .ret (.nx (E.set i (some (.odc (putAll kvs qs)))))
  | none => .fail
end Nx
namespace Nx
open PySem PySem.Spec PyProof.Rows L2
open Tree
section
variable {b : Addr} {X : Cx} {x y z e tg kx vx : Expr} {es : List Expr} {fx fy fz fk fv : DenE} {pos p q1 : Pos} {k kt : Nat} {st : Stmt} {ρ : Rho} {μ μ0 : Mu} {E : Env}
theorem NoTh.setT {d p : Addr} (h : NoTh E ρ d) {i : Nat} {w : W} (hd : p ≠ d) (hl : ρ.length = E.length) : NoTh (E.set i (some w)) (ρ.set i (some (.own p))) d := fun j u e t => by
  rcases get_set e with ⟨rfl, rfl, hl'⟩ | ⟨n, e⟩
  · rw [List.getElem?_set_self (by rw [hl]; exact hl')]
    intro z
    cases z
    exact hd rfl
  · rw [List.getElem?_set_ne n]
    exact h j u e t
def sDD (i j l : Nat) (fk fx fk2 fy fz : DenE) : DenS := fun E => (tDen fk E).bind fun t => (fx E).bind fun d => (tDen fk2 E).bind fun t' => (fy E).bind fun d' => (fz E).bind fun c => .ret (.nx (((E.set i (some (.odc [(t, d)]))).set j (some (.odc [(t', d')]))).set l (some (.d c))))
def sND (i j : Nat) (fy : DenE) : DenS := fun E => (fy E).bind fun c => .ret (.nx ((E.set i (some (.odc []))).set j (some (.d c))))
def tNeN (i : Nat) : DenB := fun E => match tdE E i with | some kvs => .ret (!kvs.isEmpty) | none => .fail
def sCpT (i j : Nat) : DenS := fun E => match dttE E j with | some kvs => .ret (.nx (E.set i (some (.dtt kvs)))) | none => .fail
def sParDt3 (i j l : Nat) (ft : Env → Tree TD) (fy fz : DenE) : DenS := fun E => (ft E).bind fun kvs => (fy E).bind fun d => (fz E).bind fun d' => .ret (.nx (((E.set i (some (.dtt kvs))).set j (some (.d d))).set l (some (.d d'))))
end
section
variable {b : Addr} {X : Cx} {ss : List Stmt}
def tLock (i : Nat) (h : Env → Tree TD) : Env → Tree TD := fun E => h (lockE i E)
end
end Nx
set_option maxHeartbeats 4000000
namespace PySem
namespace HandSPX
open PySem.W PySem.Calls PyProof.Rows
open Builtin Builtin.ObjectAttr
end HandSPX
end PySem
namespace Nx
open PySem PySem.Spec PyProof.Rows L2
end Nx
set_option maxHeartbeats 4000000
namespace Nx
open PySem PySem.Spec PyProof.Rows L2
structure Thr where
  C : Addr
  f : Str
  d : PyData
def Wsh (P : Rho → Prop) (W : WX) (b : Addr) (x : Thr) (G : Hp) (μ : Mu) : Prop := ∀ ρ' μ' G' H' σ' dx y, P ρ' → Bs b μ μ' → Ex G G' → RM G' H' μ' → RV G' ρ' σ' → G' dx = some (.xd [(x.f, y)]) → Dv G' y x.d → W (.ref x.C) (some dx) σ' H'
theorem Wsh.later {P : Rho → Prop} {W : WX} {b : Addr} {x : Thr} {G G1 : Hp} {μ μ1 : Mu} (h : Wsh P W b x G μ) (e : Ex G G1) (s : Bs b μ μ1) : Wsh P W b x G1 μ1 := fun ρ' μ' G' H' σ' dx y p s' e' => h ρ' μ' G' H' σ' dx y p (s.trans s') (e.trans e')
section
variable {P : Rho → Prop} {X : Cx} {b : Addr} {st : Stmt} {ss s1 s2 : List Stmt} {e c : Expr} {es : List Expr} {ρ : Rho} {μ0 μ : Mu} {x : Thr} {pos p p2 : Pos} {n : Str}
abbrev Cz := List OV → Mu → Addr → Thr → Prop
def spZ (C : Cz) : Sp := fun vs H _ E => ∃ os μ G b x, RM G H μ ∧ ROs G vs os ∧ C os μ b x ∧ ∀ μ' G' H' dx y, Bs b μ μ' → Ex G G' → RM G' H' μ' → G' dx = some (.xd [(x.f, y)]) → Dv G' y x.d → E (.ref x.C) (some dx) H'
structure FcZ (P : Program) (w : World) (K : PySem.W.Frag) (mg : Str → Option Value) (base : Heap) (n : Str) (st : Stmt) (ps : List Str) (k : Nat) (C : Cz) : Prop where
  ex : ∃ f fd, Fun K n n st f fd ∧ mg n = some (.ref f) ∧ FnG P w K mg base (L2.CX P w) k f fd ps (spZ C)
theorem FcZ.mono {P : Program} {w : World} {K : PySem.W.Frag} {mg : Str → Option Value} {base : Heap} {j k : Nat} {n : Str} {st : Stmt} {ps : List Str} {C : Cz} (F : FcZ P w K mg base n st ps j C) (h : j ≤ k) : FcZ P w K mg base n st ps k C := by
  obtain ⟨f, fd, a, b, c⟩ := F.ex
  exact ⟨⟨f, fd, a, b, c.mono h⟩⟩
end
end Nx
set_option maxHeartbeats 8000000
namespace PySem.W
open PySem PySem.Spec PySem.Calls PyProof.Rows
end PySem.W
set_option maxHeartbeats 4000000
namespace Nx
open PySem PySem.Spec PyProof.Rows L2
inductive Nms (X : Cx) : List Expr → List Value → Prop
  | nil : Nms X [] []
  | cons {x : Str} {p : Pos} {c : Value} {es : List Expr} {cs : List Value} (hg : Gl X x) (hd : (x == ("__debug__" : Str)) = false) (hm : X.mg x = some c) (he : starEach (.Name x p :: es) X.env = (false, eval (.Name x p) X.env) :: starEach es X.env) (r : Nms X es cs) : Nms X (.Name x p :: es) (c :: cs)
section
variable {X : Cx} {pins : List (Addr × Obj)} {σ : L2.St} {H : Hp} {s : Shared}
theorem Nms.len : ∀ {es : List Expr} {cs : List Value}, Nms X es cs → es.length = cs.length
  | _, _, .nil => rfl
  | _, _, .cons _ _ _ _ r => congrArg (· + 1) r.len
end
end Nx
set_option maxHeartbeats 4000000
namespace Nx
open PySem PySem.Spec PyProof.Rows L2
section
variable {X : Cx} {e : Expr} {es : List Expr} {ρ : Rho} {μ : Mu} {Φ : OV → Mu → Prop} {pos p p2 tpos : Pos} {n f : Str} {C : Addr} {d : PyData} {kt : Nat}
def ClN (X : Cx) (n : Str) (c : V) (u : Value) : Prop := ClsV c u ∧ (∀ p, PE X (.Name n p) (L2.tC c))
inductive ClNs (X : Cx) : List Expr → List V → List Value → Prop
  | nil : ClNs X [] [] []
  | cons {n : Str} {p : Pos} {c : V} {u : Value} {es : List Expr} {cs : List V} {us : List Value} (h : ClN X n c u) (he : starEach (.Name n p :: es) X.env = (false, eval (.Name n p) X.env) :: starEach es X.env) (r : ClNs X es cs us) : ClNs X (.Name n p :: es) (c :: cs) (u :: us)
theorem ClNs.cls : ∀ {es : List Expr} {cs : List V} {us : List Value}, ClNs X es cs us → Paired ClsV cs us
  | _, _, _, .nil => .nil
  | _, _, _, .cons h _ r => .cons h.1 r.cls
end
end Nx
set_option maxHeartbeats 4000000
namespace Nx
open PySem PySem.Spec PyProof.Rows L2
end Nx
set_option maxHeartbeats 4000000
namespace Nx
open PySem PySem.Spec PyProof.Rows L2
open Tree
abbrev DenZ := Env → Tree Thr
abbrev PT : Rho → Prop := fun _ => True
end Nx
set_option maxHeartbeats 4000000
namespace Nx
open PySem PySem.Spec PyProof.Rows L2
open Tree
end Nx
set_option maxHeartbeats 4000000
namespace Nx
open PySem PySem.Spec PyProof.Rows L2
open Tree
inductive FnN (X : Cx) : List Expr → List Str → List V → Prop
  | nil : FnN X [] [] []
  | cons {n : Str} {p : Pos} {fa : Addr} {es : List Expr} {ns : List Str} {vs : List V} (hg : Gl X n) (hm : X.mg n = some (.ref fa)) (hd : (n == ("__debug__" : Str)) = false) (he : starEach (.Name n p :: es) X.env = (false, eval (.Name n p) X.env) :: starEach es X.env) (r : FnN X es ns vs) : FnN X (.Name n p :: es) (n :: ns) (.ref fa :: vs)
theorem FnN.get {X : Cx} : ∀ {es : List Expr} {ns : List Str} {vs : List V}, FnN X es ns vs → ∀ {k : Nat} {n : Str}, ns[k]? = some n → ∃ fa, vs[k]? = some (.ref fa) ∧ X.mg n = some (.ref fa)
  | _, _, _, .nil, k, n, h => by simp at h
  | _, _, _, .cons (fa := fa) hg hm hd he r, 0, n, h => by
    cases h
    exact ⟨fa, rfl, hm⟩
  | _, _, _, .cons hg hm hd he r, k + 1, n, h => r.get h
end Nx
set_option maxHeartbeats 4000000
namespace Nx
open PySem PySem.Spec PyProof.Rows L2
open Tree
def clsS (s : Stmt) (j : Nat) : Stmt := match s with
  | .ClassDef _ _ _ body _ _ _ _ _ _ _ => body.getD j (.Pass ⟨0, 0, 0, 0⟩)
  | s => s
end Nx
set_option maxHeartbeats 4000000
namespace Nx
open PySem PySem.Spec PyProof.Rows L2
open Tree
def exE (E : Env) (i : Nat) : Option (Addr × Str × PyData) := match E[i]? with | some (some (.exn C f d)) => some (C, f, d) | _ => none
theorem exE_some {E : Env} {i : Nat} {C : Addr} {f : Str} {d : PyData} (h : exE E i = some (C, f, d)) : E[i]? = some (some (.exn C f d)) := by
  unfold exE at h
  split at h
  · rename_i e
    cases h
    exact e
  · cases h
theorem Rel.base {b : Addr} {μ0 μ : Mu} {E : Env} {ρ : Rho} (R : Rel b μ0 E ρ μ) (h : E.all (fun o => match o with | some w => noOwn w | none => true) = true) : Rel b μ E ρ μ := by
  refine ⟨R.len, R.bxs, R.bxs, Bs.refl b μ, fun i w e => ?_, R.inj, R.injT⟩
  obtain ⟨o, h1, h2⟩ := R.get i w e
  have hw : noOwn w = true := List.all_eq_true.mp h (some w) (List.mem_of_getElem? e)
  refine ⟨o, h1, ?_⟩
  cases w <;> first | exact h2 | cases hw
section
variable {b : Addr} {X : Cx} {pos p p2 np tpos : Pos} {n m : Str} {es : List Expr} {kt : Nat}
theorem Rel.exn {μ0 μ : Mu} {E : Env} {ρ : Rho} {i : Nat} {C : Addr} {f : Str} {d : PyData} (R : Rel b μ0 E ρ μ) (h : exE E i = some (C, f, d)) : ρ[i]? = some (some (.ob (exnP C f d))) := by
  obtain ⟨o, h1, h2⟩ := R.get i _ (exE_some h)
  have h2 : o = .ob (exnP C f d) := h2
  rw [h2] at h1
  exact h1
end
end Nx
set_option maxHeartbeats 4000000
namespace Nx
open PySem PySem.Spec PyProof.Rows L2
open Tree
end Nx
set_option maxHeartbeats 4000000
namespace Nx
open PySem PySem.Spec PyProof.Rows L2
end Nx
set_option maxHeartbeats 4000000
namespace PySem
namespace HandSPX
open PySem.W PySem.Calls PyProof.Rows
open Builtin Builtin.ObjectAttr
end HandSPX
end PySem
namespace Nx
open PySem PySem.Spec PyProof.Rows L2
end Nx
set_option maxHeartbeats 4000000
namespace Nx
open PySem PySem.Spec PyProof.Rows L2
open Tree
def exsE (E : Env) (i : Nat) : Option Exs := match E[i]? with | some (some (.exs l)) => some l | _ => none
theorem exsE_some {E : Env} {i : Nat} {l : Exs} (h : exsE E i = some l) : E[i]? = some (some (.exs l)) := by
  unfold exsE at h
  split at h
  · rename_i e
    cases h
    exact e
  · cases h
section
variable {b : Addr} {X : Cx} {pos pos2 p p2 np apos : Pos} {n m x f : Str} {es : List Expr} {e : Expr} {C : Addr} {g : DenE} {gs : Env → Tree Exs} {body : List Stmt} {gb : DenS} {fa : Env → Tree (List W)} {kws : List Keyword}
theorem Rel.exs {μ0 μ : Mu} {E : Env} {ρ : Rho} {i : Nat} {l : Exs} (R : Rel b μ0 E ρ μ) (h : exsE E i = some l) : ρ[i]? = some (some (.ob (exsP l))) := by
  obtain ⟨o, h1, h2⟩ := R.get i _ (exsE_some h)
  have h2 : o = .ob (exsP l) := h2
  rw [h2] at h1
  exact h1
end
end Nx
set_option maxHeartbeats 4000000
namespace Nx
open PySem PySem.Spec PyProof.Rows L2
open Tree
end Nx
set_option maxHeartbeats 4000000
namespace Nx
open PySem PySem.Spec PyProof.Rows L2
open Tree
abbrev OwnAt (b : Addr) (μ μ2 : Mu) : List Addr → List (List PyData) → Prop := Paired fun q ds => q ≠ b ∧ μ q = none ∧ μ2 q = some (ds.map .im)
theorem OwnAt.step {b : Addr} {μ μ2 μ3 : Mu} (s : Bs b μ2 μ3) : ∀ {ps : List Addr} {ls : List (List PyData)}, OwnAt b μ μ2 ps ls → OwnAt b μ μ3 ps ls
  | _, _, .nil => .nil
  | _, _, .cons h t => .cons ⟨h.1, h.2.1, s.old _ _ h.1 h.2.2⟩ (OwnAt.step s t)
theorem OwnAt.back {b : Addr} {μ μ1 μ2 : Mu} (k : ∀ q, q ≠ b → μ1 q = none → μ q = none) : ∀ {ps : List Addr} {ls : List (List PyData)}, OwnAt b μ1 μ2 ps ls → OwnAt b μ μ2 ps ls
  | _, _, .nil => .nil
  | _, _, .cons h t => .cons ⟨h.1, k _ h.1 h.2.1, h.2.2⟩ (OwnAt.back k t)
theorem OwnAt.none {b : Addr} {μ μ2 : Mu} : ∀ {ps : List Addr} {ls : List (List PyData)}, OwnAt b μ μ2 ps ls → ∀ q ∈ ps, q ≠ b ∧ μ q = none ∧ (μ2 q).isSome = true
  | _, _, .nil, q, hq => nomatch hq
  | _, _, .cons h t, q, hq => by
    rcases List.mem_cons.mp hq with rfl | hq
    · exact ⟨h.1, h.2.1, by rw [h.2.2]; rfl⟩
    · exact OwnAt.none t q hq
theorem Bs.fresh {b : Addr} {μ μ' : Mu} (s : Bs b μ μ') {p : Addr} (pb : p ≠ b) (h : μ' p = none) : μ p = none := by
  cases z : μ p with
  | none => rfl
  | some l =>
    rw [s.old p l pb z] at h
    cases h
section
variable {b : Addr} {X : Cx} {e x y tg iter elt c : Expr} {es es1 es2 : List Expr} {f fx fy : DenE} {fi : DenL} {fb : DenB} {pos p rp pos2 cpos : Pos} {ss : List Stmt} {st : Stmt} {scope : Scope} {gs : Env → Tree (List W)} {fl fl1 fl2 : Env → Tree (List (List PyData))} {g : DenS}
structure NsA (b : Addr) (μ0 : Mu) (E : Env) (ρ : Rho) (μ : Mu) (h : Nat) (q : Addr) (ps : List Addr) (ls : List (List PyData)) : Prop where
  rel : Rel b μ0 E ρ μ
  rh : ρ[h]? = some (some (.own q))
  qb : q ≠ b
  q0 : μ0 q = none
  mq : μ q = some (ps.map .own)
  nd : (q :: ps).Nodup
  ow : OwnAt b μ0 μ ps ls
  np : ∀ (j : Nat) ds c, E[j]? = some (some (.own ds)) → ρ[j]? = some (some (.own c)) → c ∉ q :: ps
theorem NsA.step {μ0 μ μ' : Mu} {E : Env} {ρ : Rho} {h : Nat} {q : Addr} {ps : List Addr} {ls : List (List PyData)} (N : NsA b μ0 E ρ μ h q ps ls) (s : Bs b μ μ') : NsA b μ0 E ρ μ' h q ps ls :=
  ⟨N.rel.step s, N.rh, N.qb, N.q0, s.old _ _ N.qb N.mq, N.nd, N.ow.step s, N.np⟩
theorem NsA.some {μ0 μ : Mu} {E : Env} {ρ : Rho} {h : Nat} {q : Addr} {ps : List Addr} {ls : List (List PyData)} (N : NsA b μ0 E ρ μ h q ps ls) {r : Addr} (hr : r ∈ q :: ps) : r ≠ b ∧ μ0 r = none ∧ (μ r).isSome = true := by
  rcases List.mem_cons.mp hr with rfl | hr
  · exact ⟨N.qb, N.q0, by rw [N.mq]; rfl⟩
  · exact N.ow.none r hr
end
end Nx
set_option maxHeartbeats 4000000
namespace Nx
open PySem PySem.Spec PyProof.Rows L2
structure CirT (K : PySem.W.Frag) (C : Addr) : Prop where
  cl : Cls K C
  fs : NoAttr K C "size"
  fb : NoAttr K C "beginning"
  fo : NoAttr K C "operations"
  fe : NoAttr K C "entries"
def cfl (sz : Int) (vb : V) (q r : Addr) : List (Str × V) := [("size", .int sz), ("beginning", vb), ("operations", .ref q), ("entries", .ref r)]
theorem cfl_s {sz : Int} {vb : V} {q r : Addr} : (cfl sz vb q r).lookup ("size" : Str) = some (.int sz) := by unfold cfl; simp [List.lookup]
theorem cfl_b {sz : Int} {vb : V} {q r : Addr} : (cfl sz vb q r).lookup ("beginning" : Str) = some vb := by
  unfold cfl
  rw [List.lookup_cons, show (("beginning" : Str) == ("size" : Str)) = false from by decide +kernel]
  simp [List.lookup]
theorem cfl_o {sz : Int} {vb : V} {q r : Addr} : (cfl sz vb q r).lookup ("operations" : Str) = some (.ref q) := by
  unfold cfl
  rw [List.lookup_cons, show (("operations" : Str) == ("size" : Str)) = false from by decide +kernel]
  dsimp only
  rw [List.lookup_cons, show (("operations" : Str) == ("beginning" : Str)) = false from by decide +kernel]
  simp [List.lookup]
theorem cfl_e {sz : Int} {vb : V} {q r : Addr} : (cfl sz vb q r).lookup ("entries" : Str) = some (.ref r) := by
  unfold cfl
  rw [List.lookup_cons, show (("entries" : Str) == ("size" : Str)) = false from by decide +kernel]
  dsimp only
  rw [List.lookup_cons, show (("entries" : Str) == ("beginning" : Str)) = false from by decide +kernel]
  dsimp only
  rw [List.lookup_cons, show (("entries" : Str) == ("operations" : Str)) = false from by decide +kernel]
  simp [List.lookup]
theorem cfl_no {sz : Int} {vb : V} {q r : Addr} {m : Str} (h1 : (m == ("size" : Str)) = false) (h2 : (m == ("beginning" : Str)) = false) (h3 : (m == ("operations" : Str)) = false) (h4 : (m == ("entries" : Str)) = false) : (cfl sz vb q r).lookup m = none := by
  unfold cfl
  rw [List.lookup_cons, h1]
  dsimp only
  rw [List.lookup_cons, h2]
  dsimp only
  rw [List.lookup_cons, h3]
  dsimp only
  rw [List.lookup_cons, h4]
  rfl
def opD (is : List Int) : PyData := .tuple (is.map .int)
structure CirAt (who : Addr → Option Addr) (G H : Hp) (p : Addr) (c : Cir) (dx q r : Addr) (vb : V) (xs ys : List V) : Prop where
  h1 : H p = some (.ins c.C dx (cfl c.sz vb q r))
  h2 : H dx = some (.own p)
  h3 : H q = some (.lst xs)
  h4 : H r = some (.lst ys)
  wp : who p = some p
  wd : who dx = some p
  wq : who q = some p
  wr : who r = some p
  qr : q ≠ r
  db : Dv G vb (.tuple (c.bg.map .int))
  dx_ : DvA G xs (c.ops.map opD)
  dy : DvA G ys (c.ent.map .str)
section
variable {G H : Hp} {μ : Mu} {p : Addr} {c : Cir}
theorem RM.cir (m : RM G H μ) (h : μ.d p = some (.cir c)) : ∃ who dx q r vb xs ys, Thg who G H μ ∧ CirAt who G H p c dx q r vb xs ys := by
  obtain ⟨who, t⟩ := m.thg
  obtain ⟨wp, dx, q, r, vb, xs, ys, h1, h2, h3, h4, h5, h6, h7, h8, h9, h10, h11⟩ := t.ok p _ h
  exact ⟨who, dx, q, r, vb, xs, ys, t, ⟨h1, h2, h3, h4, wp, h5, h6, h7, h8, h9, h10, h11⟩⟩
theorem RM.chgC {who : Addr → Option Addr} {dx q r : Addr} {vb : V} {xs ys zs : List V} {c' : Cir} {x0 : Addr} (m : RM G H μ) (t : Thg who G H μ) (h : μ.d p = some (.cir c)) (A : CirAt who G H p c dx q r vb xs ys) (hx : who x0 = some p) (hl : ∃ us, H x0 = some (.lst us))
    (A' : CirAt who G (upd H x0 (.lst zs)) p c' dx q r vb (if x0 = q then zs else xs) (if x0 = r then zs else ys)) : RM G (upd H x0 (.lst zs)) (μ.putD p (.cir c')) := by
  obtain ⟨g0, m0, _, _⟩ := t.of x0 p hx
  refine ⟨fun a o e => ?_, fun a l e => ?_, who, fun a t' ha => ?_, fun x a hx' => ?_⟩
  · rw [upd_ne (ne_of_none e g0)]
    exact m.ex a o e
  · obtain ⟨g', vs, hv, w⟩ := m.own a l e
    have hn : a ≠ x0 := fun z => by
      have e : μ a = some l := e
      rw [z, m0] at e
      cases e
    exact ⟨g', vs, by rw [upd_ne hn]; exact hv, w⟩
  · by_cases hp : a = p
    · subst hp
      rw [putD_same] at ha
      cases ha
      exact ⟨A'.wp, dx, q, r, vb, _, _, A'.h1, A'.h2, A'.h3, A'.h4, A'.wd, A'.wq, A'.wr, A'.qr, A'.db, A'.dx_, A'.dy⟩
    · rw [putD_ne hp] at ha
      obtain ⟨t1, t2⟩ := t.ok a t' ha
      refine ⟨t1, t2.keep t1 fun x hxa => upd_ne fun z => ?_⟩
      rw [z, hx] at hxa
      cases hxa
      exact hp rfl
  · obtain ⟨t1, t2, t3, t4⟩ := t.of x a hx'
    refine ⟨t1, t2, ?_, ?_⟩
    · by_cases hp : x = x0
      · subst hp
        exact ⟨_, upd_same, trivial⟩
      · obtain ⟨o, ho, hm⟩ := t3
        exact ⟨o, (upd_ne hp).trans ho, hm⟩
    · by_cases hp : a = p
      · subst hp
        rw [putD_same]
        rfl
      · rw [putD_ne hp]
        exact t4
theorem CirAt.ne {who : Addr → Option Addr} {dx q r : Addr} {vb : V} {xs ys : List V} (A : CirAt who G H p c dx q r vb xs ys) : q ≠ p ∧ q ≠ dx ∧ r ≠ p ∧ r ≠ dx := by
  refine ⟨fun z => ?_, fun z => ?_, fun z => ?_, fun z => ?_⟩
  · have := A.h3; rw [z, A.h1] at this; cases this
  · have := A.h3; rw [z, A.h2] at this; cases this
  · have := A.h4; rw [z, A.h1] at this; cases this
  · have := A.h4; rw [z, A.h2] at this; cases this
theorem RM.cops {who : Addr → Option Addr} {dx q r : Addr} {vb : V} {xs ys zs : List V} (m : RM G H μ) (t : Thg who G H μ) (h : μ.d p = some (.cir c)) (A : CirAt who G H p c dx q r vb xs ys) {ops : List (List Int)} (w : DvA G zs (ops.map opD)) : RM G (upd H q (.lst zs)) (μ.putD p (.cir { c with ops := ops })) := by
  obtain ⟨n1, n2, n3, n4⟩ := A.ne
  refine m.chgC t h A A.wq ⟨_, A.h3⟩ ?_
  rw [if_pos rfl, if_neg A.qr]
  exact ⟨(upd_ne n1.symm).trans A.h1, (upd_ne n2.symm).trans A.h2, upd_same, (upd_ne A.qr.symm).trans A.h4, A.wp, A.wd, A.wq, A.wr, A.qr, A.db, w, A.dy⟩
theorem RM.cent {who : Addr → Option Addr} {dx q r : Addr} {vb : V} {xs ys zs : List V} (m : RM G H μ) (t : Thg who G H μ) (h : μ.d p = some (.cir c)) (A : CirAt who G H p c dx q r vb xs ys) {ent : List Str} (w : DvA G zs (ent.map .str)) : RM G (upd H r (.lst zs)) (μ.putD p (.cir { c with ent := ent })) := by
  obtain ⟨n1, n2, n3, n4⟩ := A.ne
  refine m.chgC t h A A.wr ⟨_, A.h4⟩ ?_
  rw [if_neg (Ne.symm A.qr), if_pos rfl]
  exact ⟨(upd_ne n3.symm).trans A.h1, (upd_ne n4.symm).trans A.h2, (upd_ne A.qr).trans A.h3, upd_same, A.wp, A.wd, A.wq, A.wr, A.qr, A.db, A.dx_, w⟩
end
def IsC (C : Addr) (k : Addr → Cir → Mu → Prop) : OV → Mu → Prop := fun o μ => ∃ p c, o = .own p ∧ μ.d p = some (.cir c) ∧ c.C = C ∧ k p c μ
section
variable {X : Cx} {e o x : Expr} {es : List Expr} {ρ : Rho} {μ : Mu} {Φ : OV → Mu → Prop} {pos apos cpos p1 p2 : Pos} {C : Addr}
theorem de_csize (T : CirT X.K C) (h : DE X e ρ μ (IsC C fun _ c μ1 => Φ (.im (.int c.sz)) μ1)) (hb : attributeBase e "size" X.env (eval e X.env) = eval e X.env := by rfl) : DE X (.Attribute e "size" pos) ρ μ Φ := fun G H σ m v Q f =>
  WE.of (pe_fld pwe hb) (h G H σ m v _ fun vx o μ1 G1 H1 q1 e1 m1 r1 => by
    obtain ⟨p, c, rfl, hc, rfl, q⟩ := q1
    have r1 : vx = .ref p := r1
    subst r1
    obtain ⟨who, dx, q0, r0, vb, xs, ys, t, A⟩ := m1.cir hc
    exact ⟨p, c.C, dx, _, .int c.sz, rfl, A.h1, T.cl, T.fs, cfl_s, f _ _ _ _ _ q e1 m1 (Dv.int _)⟩)
theorem de_cbeg (T : CirT X.K C) (h : DE X e ρ μ (IsC C fun _ c μ1 => Φ (.im (.tuple (c.bg.map .int))) μ1)) (hb : attributeBase e "beginning" X.env (eval e X.env) = eval e X.env := by rfl) : DE X (.Attribute e "beginning" pos) ρ μ Φ := fun G H σ m v Q f =>
  WE.of (pe_fld pwe hb) (h G H σ m v _ fun vx o μ1 G1 H1 q1 e1 m1 r1 => by
    obtain ⟨p, c, rfl, hc, rfl, q⟩ := q1
    have r1 : vx = .ref p := r1
    subst r1
    obtain ⟨who, dx, q0, r0, vb, xs, ys, t, A⟩ := m1.cir hc
    exact ⟨p, c.C, dx, _, vb, rfl, A.h1, T.cl, T.fb, cfl_b, f _ _ _ _ _ q e1 m1 A.db⟩)
theorem de_clen (B : Bt X.mg) (hg : Gl X "len") (T : CirT X.K C) (h : DE X e ρ μ (IsC C fun _ c μ1 => Φ (.im (.int (c.ops.length : Nat))) μ1)) (hb : attributeBase e "operations" X.env (eval e X.env) = eval e X.env := by rfl)
    (he : starEach [.Attribute e "operations" apos] X.env = (false, eval (.Attribute e "operations" apos) X.env) :: starEach [] X.env := by rfl) (hpl : (backTo pos (starEach [] X.env)).any (·.1) = false := by rfl) : DE X (.Call (.Name "len" p1) [.Attribute e "operations" apos] [] pos) ρ μ Φ := fun G H σ m v Q f =>
  WE.of (pe_callB call_len_seq hg B.len PySem.boot_len (pa_cons (pe_fld pwe hb) pa_nil he) (by decide) (by decide) he hpl) (h G H σ m v _ fun vx o μ1 G1 H1 q1 e1 m1 r1 => by
    obtain ⟨p, c, rfl, hc, rfl, q⟩ := q1
    have r1 : vx = .ref p := r1
    subst r1
    obtain ⟨who, dx, q0, r0, vb, xs, ys, t, A⟩ := m1.cir hc
    refine ⟨p, c.C, dx, _, .ref q0, rfl, A.h1, T.cl, T.fo, cfl_o, q0, xs, rfl, .inl (.inl (.inl A.h3)), ?_⟩
    have el : xs.length = c.ops.length := by rw [A.dx_.length, List.length_map]
    rw [el]
    exact f _ _ _ _ _ q e1 m1 (Dv.int _))
end
end Nx
set_option maxHeartbeats 4000000
namespace Nx
open PySem PySem.Spec PyProof.Rows L2
section
variable {X : Cx} {e o x : Expr} {es : List Expr} {ρ : Rho} {μ : Mu} {Φ : OV → Mu → Prop} {D : DEnds} {pos apos fpos cpos p1 p2 p3 p4 tpos : Pos} {C : Addr}
theorem de_centA {txt : Str} {j : Nat} (T : CirT X.K C) (h : DE X e ρ μ (IsC C fun p c μ1 => c.ent.length < 100000 ∧ Φ (.im .none) (μ1.putD p (.cir { c with ent := c.ent ++ [txt] })))) (hb : attributeBase e "entries" X.env (eval e X.env) = eval e X.env := by rfl)
    (hbase : attributeBase (.Attribute e "entries" fpos) "append" X.env (eval (.Attribute e "entries" fpos) X.env) = eval (.Attribute e "entries" fpos) X.env := by rfl)
    (hfew : ((backTo cpos (starEach [.Constant (.str txt) j p3] X.env)).all (fun x => !x.1) && (backToKw cpos (keywordEach [] X.env)).all (fun x => x.1.isSome) && decide ([Expr.Constant (.str txt) j p3].length + ([] : List Keyword).length + (if ([] : List Keyword).isEmpty then 0 else 1) < 30)) = true := by rfl)
    (hline : (apos.endLine == cpos.line) = true := by rfl) (hs : starEach [.Constant (.str txt) j p3] X.env = (false, eval (.Constant (.str txt) j p3) X.env) :: starEach [] X.env := by rfl) (hplain : (backTo cpos (starEach [] X.env)).any (·.1) = false := by rfl) :
    DE X (.Call (.Attribute (.Attribute e "entries" fpos) "append" apos) [.Constant (.str txt) j p3] [] cpos) ρ μ Φ := fun G H σ m v Q f =>
  WE.of (pe_bm PySem.F.plainAttrs_list PySem.F.slot_list_append PySem.F.type_list_append mt_append (pe_fld pwe hb) (pa_cons pe_str pa_nil hs) hbase hfew hline hs hplain) (h G H σ m v _ fun vx o μ1 G1 H1 q1 e1 m1 r1 => by
    obtain ⟨p, c, rfl, hc, rfl, hz, q⟩ := q1
    have r1 : vx = .ref p := r1
    subst r1
    obtain ⟨who, dx, q0, r0, vb, xs, ys, t, A⟩ := m1.cir hc
    refine ⟨p, c.C, dx, _, .ref r0, rfl, A.h1, T.cl, T.fe, cfl_e, .inl ⟨rfl, _, .inl (.inl A.h4)⟩, ?_⟩
    have el : ys.length = c.ent.length := by rw [A.dy.length, List.length_map]
    have w : DvA G1 (ys ++ [.str txt]) ((c.ent ++ [txt]).map .str) := by
      rw [List.map_append]
      exact A.dy.append (.cons (.str txt) .nil)
    exact ⟨r0, ys, .str txt, rfl, rfl, A.h4, by rw [el]; exact Nat.lt_of_lt_of_le hz (by decide), f _ _ _ _ _ q e1 (m1.cent t hc A w) Dv.non⟩)
theorem de_copsA {i k : Nat} {n : Str} {z : Int} (T : CirT X.K C) (hN : X.N[i]? = some n) (hv : Vis X.env.scope n) (hi : ρ[i]? = some (some (.im (.int z)))) (h : DE X e ρ μ (IsC C fun p c μ1 => c.ops.length < 100000 ∧ Φ (.im .none) (μ1.putD p (.cir { c with ops := c.ops ++ [[z]] })))) (hb : attributeBase e "operations" X.env (eval e X.env) = eval e X.env := by rfl)
    (hd : (n == ("__debug__" : Str)) = false := by decide) (hcd : (n == ("__classdict__" : Str)) = false := by decide)
    (hbase : attributeBase (.Attribute e "operations" fpos) "append" X.env (eval (.Attribute e "operations" fpos) X.env) = eval (.Attribute e "operations" fpos) X.env := by rfl)
    (hfew : ((backTo cpos (starEach [.Tuple [.Name n p3] k tpos] X.env)).all (fun x => !x.1) && (backToKw cpos (keywordEach [] X.env)).all (fun x => x.1.isSome) && decide ([Expr.Tuple [.Name n p3] k tpos].length + ([] : List Keyword).length + (if ([] : List Keyword).isEmpty then 0 else 1) < 30)) = true := by rfl)
    (hline : (apos.endLine == cpos.line) = true := by rfl) (hs : starEach [.Tuple [.Name n p3] k tpos] X.env = (false, eval (.Tuple [.Name n p3] k tpos) X.env) :: starEach [] X.env := by rfl) (hs2 : starEach [.Name n p3] X.env = (false, eval (.Name n p3) X.env) :: starEach [] X.env := by rfl) (hplain : (backTo cpos (starEach [] X.env)).any (·.1) = false := by rfl) :
    DE X (.Call (.Attribute (.Attribute e "operations" fpos) "append" apos) [.Tuple [.Name n p3] k tpos] [] cpos) ρ μ Φ := fun G H σ m v Q f =>
  WE.of (pe_bm PySem.F.plainAttrs_list PySem.F.slot_list_append PySem.F.type_list_append mt_append (pe_fld pwe hb) (pa_cons (pe_tup (pa_cons (pe_var hN hv hd hcd) pa_nil hs2)) pa_nil hs) hbase hfew hline hs hplain) (h G H σ m v _ fun vx o μ1 G1 H1 q1 e1 m1 r1 => by
    obtain ⟨p, c, rfl, hc, rfl, hz, q⟩ := q1
    have r1 : vx = .ref p := r1
    subst r1
    obtain ⟨who, dx, q0, r0, vb, xs, ys, t, A⟩ := m1.cir hc
    obtain ⟨u, hu, ru⟩ := v.get i _ hi
    cases ru
    refine ⟨p, c.C, dx, _, .ref q0, rfl, A.h1, T.cl, T.fo, cfl_o, .inl ⟨rfl, _, .inl (.inl A.h3)⟩, .int z, hu, (by show 1 ≤ sizeLine; rw [sizeLine_eq]; decide), fun tp htp => ?_⟩
    have gt : G1 tp = none := m1.ex.free htp
    have e2 : Ex G1 (upd G1 tp (.tup [.int z])) := Ex.new gt
    have m2 := m1.lay (o := .tup [.int z]) htp
    have t2 : Thg who (upd G1 tp (.tup [.int z])) (upd H1 tp (.tup [.int z])) μ1 := t.keep e2 rfl rfl fun x a hx => by
      have nx := t.ne htp hx
      exact ⟨upd_ne nx, by rw [upd_ne nx]; exact (t.of x a hx).1, (t.of x a hx).2.1⟩
    have ne : ∀ {x : Addr} {o : HO}, H1 x = some o → x ≠ tp := fun h => ne_of_none h htp
    have A2 : CirAt who (upd G1 tp (.tup [.int z])) (upd H1 tp (.tup [.int z])) p c dx q0 r0 vb xs ys := ⟨(upd_ne (ne A.h1)).trans A.h1, (upd_ne (ne A.h2)).trans A.h2, (upd_ne (ne A.h3)).trans A.h3, (upd_ne (ne A.h4)).trans A.h4, A.wp, A.wd, A.wq, A.wr, A.qr, A.db.mono e2, A.dx_.mono e2, A.dy.mono e2⟩
    have el : xs.length = c.ops.length := by rw [A.dx_.length, List.length_map]
    have w : DvA (upd G1 tp (.tup [.int z])) (xs ++ [.ref tp]) ((c.ops ++ [[z]]).map opD) := by
      rw [List.map_append]
      exact A2.dx_.append (.cons (.tup upd_same (.cons (.int z) .nil)) .nil)
    exact ⟨q0, xs, .ref tp, rfl, rfl, A2.h3, by rw [el]; exact Nat.lt_of_lt_of_le hz (by decide), f _ _ _ _ _ q (e1.trans e2) (m2.cops t2 hc A2 w) Dv.non⟩)
theorem ds_cdel {j : Nat} (T : CirT X.K C) (h : DE X e ρ μ (IsC C fun p c μ1 => c.ops ≠ [] ∧ c.ops.length < 100000 ∧ D.nx ρ (μ1.putD p (.cir { c with ops := c.ops.dropLast })))) (hb : attributeBase e "operations" X.env (eval e X.env) = eval e X.env := by rfl) :
    DS X (.Delete [.Subscript (.Attribute e "operations" fpos) (.UnaryOp .USub (.Constant (.int 1) j p3) p2) tpos] pos) ρ μ D := fun G H σ m v E f =>
  WS.of (ps_delL (pe_fld pwe hb) (pe_un un_neg pe_int)) (h G H σ m v _ fun vx o μ1 G1 H1 q1 e1 m1 r1 => by
    obtain ⟨p, c, rfl, hc, rfl, hne, hz, q⟩ := q1
    have r1 : vx = .ref p := r1
    subst r1
    obtain ⟨who, dx, q0, r0, vb, xs, ys, t, A⟩ := m1.cir hc
    have el : xs.length = c.ops.length := by rw [A.dx_.length, List.length_map]
    have h0 : 0 < c.ops.length := List.length_pos_iff.mpr hne
    refine ⟨p, c.C, dx, _, .ref q0, rfl, A.h1, T.cl, T.fo, cfl_o, 1, rfl, q0, xs, -1, xs.length - 1, rfl, rfl, A.h3, by decide, by decide, ?_, ?_⟩
    · show (if (decide (0 ≤ -1 + (xs.length : Int)) && decide (-1 + (xs.length : Int) < xs.length)) = true then some ((-1 + (xs.length : Int)).toNat) else none) = _
      rw [if_pos (by simp; omega)]
      congr 1
      omega
    · have ed : ∀ zs : List V, zs.eraseIdx (zs.length - 1) = zs.dropLast := fun zs => by
        rw [List.eraseIdx_eq_take_drop_succ, List.dropLast_eq_take, List.drop_eq_nil_of_le (by omega), List.append_nil]
      rw [ed]
      have w : DvA G1 xs.dropLast (c.ops.dropLast.map opD) := by
        rw [List.dropLast_eq_take, List.map_dropLast, List.dropLast_eq_take, el, List.length_map]
        exact A.dx_.take _
      exact f.nx _ _ _ _ _ q e1 (m1.cops t hc A w) (v.mono e1))
theorem de_ccalls {i1 i2 : Nat} {n t : Str} {scope : Scope} {sp ip ep np tp2 : Pos} (T : CirT X.K C) (hc : X.calm = true) (hN : X.N.Nodup) (ok : BlkOk X.N X.env.scope scope [(n, i1), (t, i2)]) (hl1 : i1 < ρ.length) (hl2 : i2 < ρ.length)
    (hg : ∀ s H C cl fp, PG (Blk X scope s H C cl fp) (.Name t tp2) (gName i2)) (hg1 : ∀ s H C cl fp, PG (Blk X scope s H C cl fp) (.Name n np) (gName i1))
    (hi1 : ∀ s H C cl fp, PI (Blk X scope s H C cl fp) (.Name n np) (.Name t ip) (iTup X.K (tVar i2))) (hel : ∀ s H C cl fp, PE (Blk X scope s H C cl fp) (.Name n ep) (tVar i1))
    (h : DE X e ρ μ (IsC C fun p c μ1 => c.ops.flatten.length < 100000 ∧ Φ (.im (.list (c.ops.flatten.map .int))) μ1)) (hb : attributeBase e "operations" X.env (eval e X.env) = eval e X.env := by rfl)
    (hf : ∀ x, foldedSetIterable (.Attribute e "operations" fpos) X.env x = pure x := by intro _; rfl) (hf1 : ∀ env x, foldedSetIterable (.Name t ip) env x = pure x := by intro _ _; rfl) :
    DE X (.ListComp (.Name n ep) [⟨.Name t tp2, .Attribute e "operations" fpos, [], 0⟩, ⟨.Name n np, .Name t ip, [], 0⟩] scope pos) ρ μ Φ := fun G H σ m v Q f => by
  refine WE.of (pe_lc2 (own := [(n, i1), (t, i2)]) (vs1 := [i1]) hc hN (pi_list (pe_fld pwe hb)) ok (by simp) hg (fun s H C cl fp => pwtb (ifs := []) s H C cl fp) hi1 hg1 (fun s H C cl fp => pwtb (ifs := []) s H C cl fp) hel hf hf1) ?_
  refine h G H σ m v _ fun vx o μ1 G1 H1 q1 e1 m1 r1 => ?_
  obtain ⟨p, c, rfl, hcc, rfl, hz, q⟩ := q1
  have r1 : vx = .ref p := r1
  subst r1
  obtain ⟨who, dx, q0, r0, vb, xs, ys, t0, A⟩ := m1.cir hcc
  refine ⟨p, c.C, dx, _, .ref q0, rfl, A.h1, T.cl, T.fo, cfl_o, q0, rfl, ⟨xs, .inl (.inl A.h3)⟩, fun Dl hD => ?_⟩
  have el : xs.length = c.ops.length := by rw [A.dx_.length, List.length_map]
  have hq : q0 ≠ Dl := ne_of_none A.h3 hD
  obtain ⟨flat, hflat⟩ : ∃ flat : Nat → List V, flat = fun i => ((c.ops.take i).flatten).map V.int := ⟨_, rfl⟩
  have keep : ∀ {x : Addr} {o : HO} (u : HO), H1 x = some o → upd H1 Dl u x = some o := fun u h => (upd_ne (ne_of_none h hD)).trans h
  refine ⟨fun i mm Hc => mm = xs.length - i ∧ i ≤ xs.length ∧ Hc = upd H1 Dl (.lst (flat i)), ⟨_, rfl, Nat.zero_le _, by rw [hflat]; rfl⟩, ?_⟩
  rintro i mm Hc ⟨rfl, hi, rfl⟩
  have hS : SqL X.K (upd H1 Dl (.lst (flat i))) q0 xs := .inl (.inl (keep _ A.h3))
  by_cases hl : i < xs.length
  · refine .inr ⟨walk_list.goes i _ hl hS, fun H' => H' = upd H1 Dl (.lst (flat (i + 1))), fun H' e => ⟨xs.length - (i + 1), by omega, rfl, by omega, e⟩, fun x H' y => ?_⟩
    obtain ⟨rfl, hx⟩ := walk_list.yields i _ x H' hl hS y
    obtain ⟨d, hd, hv⟩ := A.dx_.getV hx
    rw [List.getElem?_map] at hd
    cases hop : c.ops[i]? with
    | none =>
      rw [hop] at hd
      cases hd
    | some op =>
      rw [hop] at hd
      cases hd
      have hnext : flat (i + 1) = flat i ++ op.map V.int := by
        rw [hflat]
        dsimp only
        rw [List.take_add_one, hop, Option.toList_some, List.flatten_append, List.map_append]
        simp
      have hlen : (flat (i + 1)).length ≤ c.ops.flatten.length := by
        rw [hflat]
        have := congrArg (fun l => (List.flatten l).length) (List.take_append_drop (i + 1) c.ops)
        simp only [List.flatten_append, List.length_append] at this
        rw [List.length_map]
        omega
      have hlen2 : (flat i).length + op.length ≤ c.ops.flatten.length := by
        rw [hnext, List.length_append, List.length_map] at hlen
        exact hlen
      have hv : Dv G1 x (.tuple (op.map .int)) := hv
      cases hv with
      | @tup a us ds ha wa =>
        have eu := DvA.ints op wa
        subst eu
        have hA := m1.ex _ _ ha
        refine ⟨(wipe_set (by simp)).trans (wipe_idem _ _), ?_⟩
        dsimp only [WTb, tYes]
        rw [if_pos rfl]
        have hi2 : i2 < σ.length := by rw [v.len]; exact hl2
        have hi1' : i1 < σ.length := by rw [v.len]; exact hl1
        refine ⟨.ref a, List.getElem?_set_self (by simp [L2.wipe]; exact hi2), a, rfl, ⟨_, .inl (.inl (keep _ hA))⟩, ?_⟩
        refine ⟨fun j kk Hc => kk = op.length - j ∧ j ≤ op.length ∧ Hc = upd H1 Dl (.lst (flat i ++ (op.take j).map V.int)), ⟨_, rfl, Nat.zero_le _, by simp⟩, ?_⟩
        rintro j kk Hc ⟨rfl, hj, rfl⟩
        have hS2 : SqT X.K (upd H1 Dl (.lst (flat i ++ (op.take j).map V.int))) a (op.map V.int) := .inl (.inl (keep _ hA))
        have hol : (op.map V.int).length = op.length := List.length_map ..
        by_cases hjl : j < op.length
        · refine .inr ⟨walk_tup.goes j _ (by rw [hol]; exact hjl) hS2, fun H' => H' = upd H1 Dl (.lst (flat i ++ (op.take (j + 1)).map V.int)), fun H' e => ⟨op.length - (j + 1), by omega, rfl, by omega, e⟩, fun z H' y => ?_⟩
          obtain ⟨rfl, hz'⟩ := walk_tup.yields j _ z H' (by rw [hol]; exact hjl) hS2 y
          refine ⟨(wipe_set (by simp)).trans (wipe_idem _ _), ?_⟩
          dsimp only [WTb, tYes]
          rw [if_pos rfl]
          refine ⟨z, List.getElem?_set_self (by simp [L2.wipe]; exact hi1'), _, upd_same, ?_, ?_⟩
          · rw [List.length_append, List.length_map, List.length_take]
            exact Nat.lt_of_lt_of_le (show (flat i).length + min j op.length < 100000 by omega) (by rw [sizeLine_eq]; decide)
          · rw [List.getElem?_map] at hz'
            cases ho : op[j]? with
            | none =>
              rw [ho] at hz'
              cases hz'
            | some z0 =>
              rw [ho] at hz'
              cases hz'
              rw [List.take_add_one, ho, Option.toList_some, List.map_append, List.append_assoc, upd_upd]
              simp
        · have : j = op.length := by omega
          subst this
          refine .inl ⟨by have := (walk_tup (K := X.K) (a := a) (xs := op.map V.int)).stops _ hS2; rw [hol] at this; exact this, ?_⟩
          rw [hnext, List.take_length]
  · have : i = xs.length := by omega
    subst this
    refine .inl ⟨walk_list.stops _ hS, ?_⟩
    have e0 : flat xs.length = c.ops.flatten.map V.int := by
      rw [hflat, el]
      dsimp only
      rw [List.take_length]
    rw [e0]
    have gD : G1 Dl = none := m1.ex.free hD
    refine f _ _ _ _ _ q (e1.trans (Ex.new gD)) (m1.lay hD) (Dv.lst upd_same (DvA.of_ints _))
end
end Nx
set_option maxHeartbeats 4000000
namespace Nx
open PySem PySem.Spec PyProof.Rows L2
open Tree
structure FcM (P : Program) (w : World) (K : PySem.W.Frag) (mg : Str → Option Value) (base : Heap) (C : Addr) (m q : Str) (st : Stmt) (ps : List Str) (k : Nat) (Cn : Ct) : Prop where
  ex : ∃ f fd, Fun K m q st f fd ∧ Meth K C m f ∧ FnG P w K mg base CX0 k f fd ps (spOf Cn)
theorem FcM.mono {P : Program} {w : World} {K : PySem.W.Frag} {mg : Str → Option Value} {base : Heap} {C : Addr} {m q : Str} {st : Stmt} {ps : List Str} {j k : Nat} {Cn : Ct} (F : FcM P w K mg base C m q st ps j Cn) (h : j ≤ k) : FcM P w K mg base C m q st ps k Cn := by
  obtain ⟨f, fd, a, b, c⟩ := F.ex
  exact ⟨⟨f, fd, a, b, c.mono h⟩⟩
section
variable {P : Program} {w : World} {K : PySem.W.Frag} {mg : Str → Option Value} {base : Heap}
theorem fcm_of {k : Nat} {f C : Addr} {m q : Str} {st : Stmt} {fd : FuncData} {N ps : List Str} {Cn : Ct} (F : Fun K m q st f fd) (hm : Meth K C m f) (S : FnScope N ps (defScope st)) (len : ∀ os μ Φ, Cn os μ Φ → os.length = ps.length)
    (body : ∀ (cdv : Value) A outer s H E os μ Φ, Rm k (A.deeper (envOfC q (defScope st) s.heap.objs.size f cdv)) → Cn os μ Φ →
      DSs (cxOf CX0 P w K mg base N q (defScope st) f cdv A outer s H E).nox (defBody st) (os.map some ++ List.replicate (N.length - os.length) none) μ { nx := fun _ μ' => Φ (.im .none) μ', rt := Φ }) : FcM P w K mg base C m q st ps (k + 1) Cn := by
  refine ⟨⟨f, fd, F, hm, fng_of F S (fun vs H Q E h => ?_) fun cdv A outer s H vs Q E hr h => ?_⟩⟩
  · obtain ⟨os, μ, G, Φ, _, r, c, _⟩ := h
    rw [r.length]
    exact len _ _ _ c
  · obtain ⟨os, μ, G, Φ, m, r, c, fin⟩ := h
    exact WSs.of (PSs.nox pwss) (body cdv A outer s H E os μ Φ hr c G H _ m (rv_start r) _ ⟨fun ρ' μ' G' H' σ' q e m' _ => fin _ _ _ _ _ q e m' Dv.non, fin, fun _ _ _ _ _ q => q.elim, fun _ _ _ _ _ q => q.elim⟩)
end
def NoF (m : Str) : Prop := (m == ("size" : Str)) = false ∧ (m == ("beginning" : Str)) = false ∧ (m == ("operations" : Str)) = false ∧ (m == ("entries" : Str)) = false
section
variable {X : Cx} {e o : Expr} {es : List Expr} {ρ : Rho} {μ : Mu} {Φ : OV → Mu → Prop} {pos apos : Pos} {C : Addr} {m q : Str} {st : Stmt} {ps : List Str} {k : Nat} {Cn : Ct}
theorem de_meth0 {pl : Sem Bool} (T : CirT X.K C) (F : FcM X.prog X.w X.K X.mg X.base C m q st ps k Cn) (hr : Rm k X.A) (hn : NoF m) (h1 : ps.length = 1)
    (hb : ∀ (kV doc pm : Value) (an : Option Addr) (cdv ct : Value) (us : List Value), us.length = ps.length → bindArgs (PySem.W.fnOf m q (defArgs st) (defBody st) (defScope st) .none kV doc pm an cdv ct) ⟨us, []⟩ = pure (ps.zip us))
    (h : DE X o ρ μ (IsC C fun p c μ1 => Cn [.own p] μ1 Φ))
    (ht : eval (.Call (.Attribute o m apos) [] [] pos) X.env = (do
      let ov ← eval o X.env
      standAt apos.atName
      let (f, first) ← holding [ov] (getMethod ov m pl)
      callWith pos f first (backTo pos (starEach [] X.env)) (backToKw pos (keywordEach [] X.env))) := by rfl) : DE X (.Call (.Attribute o m apos) [] [] pos) ρ μ Φ := fun G H σ mm v Q f pins s I => by
  obtain ⟨fa, fd, FF, hM, FG⟩ := F.ex
  have hw : WE X o σ H (fun x H1 => ∃ a dx fs, x = .ref a ∧ H1 a = some (.ins C dx fs) ∧ fs.lookup m = none ∧ spOf Cn [x] H1 Q (fun _ _ _ => False)) := h G H σ mm v _ fun vx x μ1 G1 H1 hx e1 m1 r1 => by
    obtain ⟨p, c, rfl, hc, rfl, q1⟩ := hx
    have r1 : vx = .ref p := r1
    subst r1
    obtain ⟨who, dx, q0, r0, vb, xs, ys, t, A⟩ := m1.cir hc
    exact ⟨p, dx, _, rfl, A.h1, cfl_no hn.1 hn.2.1 hn.2.2.1 hn.2.2.2, [.own p], μ1, G1, Φ, m1, .cons rfl .nil, q1, f.later e1⟩
  refine PySem.W.methodCall_KW (pl := pl) (thn (hw pins s I) fun u s1 ⟨x, H1, I1, rx, a, dx, fs, ex, ea, l, q1⟩ => ?_) ht
  subst ex
  obtain rfl : u = Value.ref a := rx
  refine getmeth_ok I1 ea T.cl hM l ?_
  refine PySem.W.callWith_K0 (first := [.ref a]) I1.kIn hM.kp ?_
  refine run_g (args := ⟨[.ref a], []⟩) (us := [.ref a]) (vs := [.ref a]) FG hr passE I1 ?_ (.cons rfl .nil) q1
  obtain ⟨oc, od, kV, doc, pm, an, cdv, ct, osl, rfl, lk, hcd⟩ := FF.ex
  exact .of_eq (hb kV doc pm an cdv ct [.ref a] (by rw [h1]; rfl))
theorem de_meth {pl : Sem Bool} (T : CirT X.K C) (F : FcM X.prog X.w X.K X.mg X.base C m q st ps k Cn) (hr : Rm k X.A) (hn : NoF m)
    (hb : ∀ (kV doc pm : Value) (an : Option Addr) (cdv ct : Value) (us : List Value), us.length = ps.length → bindArgs (PySem.W.fnOf m q (defArgs st) (defBody st) (defScope st) .none kV doc pm an cdv ct) ⟨us, []⟩ = pure (ps.zip us))
    (h : DE X o ρ μ (IsC C fun p c μ1 => DA X (e :: es) ρ μ1 fun os μ2 => Cn (.own p :: os) μ2 Φ))
    (hst : starEach (e :: es) X.env = (false, eval e X.env) :: starEach es X.env := by rfl) (hpl : (backTo pos (starEach es X.env)).any (·.1) = false := by rfl)
    (ht : eval (.Call (.Attribute o m apos) (e :: es) [] pos) X.env = (do
      let ov ← eval o X.env
      standAt apos.atName
      let (f, first) ← holding [ov] (getMethod ov m pl)
      callWith pos f first (backTo pos (starEach (e :: es) X.env)) (backToKw pos (keywordEach [] X.env))) := by rfl) : DE X (.Call (.Attribute o m apos) (e :: es) [] pos) ρ μ Φ := fun G H σ mm v Q f pins s I => by
  obtain ⟨fa, fd, FF, hM, FG⟩ := F.ex
  have hw : WE X o σ H (fun x H1 => ∃ a dx fs, x = .ref a ∧ H1 a = some (.ins C dx fs) ∧ fs.lookup m = none ∧ WA X (e :: es) σ H1 fun vs H2 => spOf Cn (x :: vs) H2 Q (fun _ _ _ => False)) := h G H σ mm v _ fun vx x μ1 G1 H1 hx e1 m1 r1 => by
    obtain ⟨p, c, rfl, hc, rfl, q1⟩ := hx
    have r1 : vx = .ref p := r1
    subst r1
    obtain ⟨who, dx, q0, r0, vb, xs, ys, t, A⟩ := m1.cir hc
    refine ⟨p, dx, _, rfl, A.h1, cfl_no hn.1 hn.2.1 hn.2.2.1 hn.2.2.2, ?_⟩
    exact q1 G1 H1 σ m1 (v.mono e1) _ fun vs os μ2 G2 H2 q2 e2 m2 r2 => ⟨.own p :: os, μ2, G2, Φ, m2, .cons rfl r2, q2, f.later (e1.trans e2)⟩
  refine PySem.W.methodCall_KW (pl := pl) (thn (hw pins s I) fun u s1 ⟨x, H1, I1, rx, a, dx, fs, ex, ea, l, q1⟩ => ?_) ht
  subst ex
  obtain rfl : u = Value.ref a := rx
  refine getmeth_ok I1 ea T.cl hM l ?_
  refine PySem.W.callWith_K (first := [.ref a]) (h₀ := X.base) I.ok.mod.kin hM.kp (thn (q1 pos pins s1 I1) fun us s2 ⟨vs, H2, I2, r, q2⟩ => ⟨I2.kIn, ?_⟩) hst hpl
  refine run_g (args := ⟨.ref a :: us, []⟩) (us := .ref a :: us) (vs := .ref a :: vs) FG hr passE I2 ?_ (.cons rfl r) q2
  obtain ⟨oc, od, kV, doc, pm, an, cdv, ct, osl, rfl, lk, hcd⟩ := FF.ex
  refine .of_eq (hb kV doc pm an cdv ct (.ref a :: us) ?_)
  have := FG.len _ _ _ _ q2
  rw [← this, List.length_cons, List.length_cons, r.length]
end
def spCI (C : Addr) : Sp := fun vs H Q _ => ∃ (a dx : Addr) (sz : Int) (vt : V) (d : PyData) (bg : List Int) (G H0 : Hp) (μ : Mu), vs = [.ref a, .int sz, vt] ∧ H0 a = none ∧ H0 dx = none ∧ dx ≠ a ∧ H = upd (upd H0 dx (.own a)) a (.ins C dx []) ∧ RM G H0 μ ∧ Dv G vt d ∧ (d = .tuple (bg.map .int) ∨ d = .list (bg.map .int)) ∧
  ∀ G' H', Ex G G' → RM G' H' (μ.putD a (.cir ⟨C, sz, bg, [], []⟩)) → Q .non H'
theorem RM.mkC {G H : Hp} {μ : Mu} {C a dx q r : Addr} {sz : Int} {vb : V} {bg : List Int} (m : RM G H μ) (ha : H a = none) (hd : H dx = none) (hq : H q = none) (hr : H r = none) (n1 : dx ≠ a) (n2 : q ≠ a) (n3 : q ≠ dx) (n4 : r ≠ a) (n5 : r ≠ dx) (n6 : q ≠ r) (hb : Dv G vb (.tuple (bg.map .int))) :
    RM G (upd (upd (upd (upd H dx (.own a)) q (.lst [])) r (.lst [])) a (.ins C dx (cfl sz vb q r))) (μ.putD a (.cir ⟨C, sz, bg, [], []⟩)) := by
  obtain ⟨who, t⟩ := m.thg
  have hμa := m.freshD ha
  obtain ⟨H', hH'⟩ : ∃ H', H' = upd (upd (upd (upd H dx (.own a)) q (.lst [])) r (.lst [])) a (.ins C dx (cfl sz vb q r)) := ⟨_, rfl⟩
  rw [← hH']
  have ea : H' a = some (.ins C dx (cfl sz vb q r)) := by rw [hH', upd_same]
  have er : H' r = some (.lst []) := by rw [hH', upd_ne n4, upd_same]
  have eq' : H' q = some (.lst []) := by rw [hH', upd_ne n2, upd_ne n6, upd_same]
  have ed : H' dx = some (.own a) := by rw [hH', upd_ne n1, upd_ne n5.symm, upd_ne n3.symm, upd_same]
  have eo : ∀ x, x ≠ a → x ≠ dx → x ≠ q → x ≠ r → H' x = H x := fun x h1 h2 h3 h4 => by rw [hH', upd_ne h1, upd_ne h4, upd_ne h3, upd_ne h2]
  have old : ∀ x o, H x = some o → H' x = some o := fun x o h => (eo x (ne_of_none h ha) (ne_of_none h hd) (ne_of_none h hq) (ne_of_none h hr)).trans h
  have wne : ∀ x y, who x = some y → x ≠ a ∧ x ≠ dx ∧ x ≠ q ∧ x ≠ r := fun x y h => ⟨t.ne ha h, t.ne hd h, t.ne hq h, t.ne hr h⟩
  refine ⟨fun x o h => old x o (m.ex x o h), fun x l h => ?_, fun x => if x = a ∨ x = dx ∨ x = q ∨ x = r then some a else who x, fun x t' hx => ?_, fun x y hx => ?_⟩
  · obtain ⟨g, vs, hv, w⟩ := m.own x l h
    exact ⟨g, vs, old _ _ hv, w⟩
  · by_cases hp : x = a
    · subst hp
      rw [putD_same] at hx
      cases hx
      exact ⟨if_pos (.inl rfl), dx, q, r, vb, [], [], ea, ed, eq', er, if_pos (.inr (.inl rfl)), if_pos (.inr (.inr (.inl rfl))), if_pos (.inr (.inr (.inr rfl))), n6, hb, .nil, .nil⟩
    · rw [putD_ne hp] at hx
      obtain ⟨t1, t2⟩ := t.ok x t' hx
      obtain ⟨k1, k2, k3, k4⟩ := wne _ _ t1
      refine ⟨(if_neg (by rintro (h | h | h | h); exact k1 h; exact k2 h; exact k3 h; exact k4 h)).trans t1, (t2.keep t1 fun y hy => ?_).who fun y hy => ?_⟩
      · obtain ⟨k1, k2, k3, k4⟩ := wne _ _ hy
        exact eo y k1 k2 k3 k4
      · obtain ⟨k1, k2, k3, k4⟩ := wne _ _ hy
        exact (if_neg (by rintro (h | h | h | h); exact k1 h; exact k2 h; exact k3 h; exact k4 h)).trans hy
  · by_cases hn : x = a ∨ x = dx ∨ x = q ∨ x = r
    · rw [if_pos hn] at hx
      cases hx
      refine ⟨?_, ?_, ?_, by rw [putD_same]; rfl⟩
      · rcases hn with rfl | rfl | rfl | rfl
        · exact m.ex.free ha
        · exact m.ex.free hd
        · exact m.ex.free hq
        · exact m.ex.free hr
      · rcases hn with rfl | rfl | rfl | rfl
        · exact m.fresh ha
        · exact m.fresh hd
        · exact m.fresh hq
        · exact m.fresh hr
      · rcases hn with rfl | rfl | rfl | rfl
        · exact ⟨_, ea, trivial⟩
        · exact ⟨_, ed, trivial⟩
        · exact ⟨_, eq', trivial⟩
        · exact ⟨_, er, trivial⟩
    · rw [if_neg hn] at hx
      obtain ⟨t1, t2, ⟨o, ho, hm⟩, t4⟩ := t.of x y hx
      refine ⟨t1, t2, ⟨o, old _ _ ho, hm⟩, ?_⟩
      have hy : y ≠ a := fun z => by rw [z, hμa] at t4; cases t4
      rw [putD_ne hy]
      exact t4
end Nx
set_option maxHeartbeats 4000000
namespace Nx
open PySem PySem.Spec PyProof.Rows L2
open Tree
theorem RM.cong {G H H' : Hp} {μ : Mu} (e : H = H') (m : RM G H' μ) : RM G H μ := by
  rw [e]
  exact m
theorem put_cfl {sz : Int} {vb : V} {q r : Addr} : putF "entries" (.ref r) (putF "operations" (.ref q) (putF "beginning" vb (putF "size" (.int sz) []))) = cfl sz vb q r := by
  have k1 : ¬ (("size" : Str) = "beginning") := by decide +kernel
  have k2 : ¬ (("size" : Str) = "operations") := by decide +kernel
  have k3 : ¬ (("size" : Str) = "entries") := by decide +kernel
  have k4 : ¬ (("beginning" : Str) = "operations") := by decide +kernel
  have k5 : ¬ (("beginning" : Str) = "entries") := by decide +kernel
  have k6 : ¬ (("operations" : Str) = "entries") := by decide +kernel
  unfold cfl
  simp only [putF, if_neg k1, if_neg k2, if_neg k3, if_neg k4, if_neg k5, if_neg k6]
section
variable {P : Program} {w : World} {K : PySem.W.Frag} {mg : Str → Option Value} {base : Heap}
theorem ok_cinit {f C : Addr} {q : Str} {st : Stmt} {fd : FuncData} (B : Bt mg) (T : CirT K C) (F : Fun K "__init__" q st f fd) (S : FnScope ["self", "size", "table"] ["self", "size", "table"] (defScope st))
    (hB : ∀ (cdv : Value) A outer s H E, ∃ tt : TE, PSs (cxOf CX0 P w K mg base ["self", "size", "table"] q (defScope st) f cdv A outer s H E).nox (defBody st) (tSeq (sFld K (tVar 0) (tVar 1) "size") (tSeq (sFld K (tVar 0) tt "beginning") (tSeq (sFld K (tVar 0) (tLst tNil) "operations") (sFld K (tVar 0) (tLst tNil) "entries")))) ∧
      ∀ σ H' Q, tt σ H' Q ↔ (tVar 2 σ H' fun v H1 => ∃ a xs, v = .ref a ∧ ((SqL K H1 a xs ∧ ∀ l, H1 l = none → Q (.ref l) (upd H1 l (.tup xs))) ∨ (SqT K H1 a xs ∧ Q (.ref a) H1)))) :
    FnOk P w K mg base CX0 1 f fd ["self", "size", "table"] (spCI C) := by
  refine F.ok S (fun vs H Q E h => ?_) (fun cdv A outer s H vs Q E hr h => ?_)
  · obtain ⟨a, dx, sz, vt, d, bg, G, H0, μ, rfl, _⟩ := h
    rfl
  · obtain ⟨a, dx, sz, vt, d, bg, G, H0, μ, rfl, ha, hdx, ne, rfl, m, dv, hd, fin⟩ := h
    obtain ⟨tt, hP, htt⟩ := hB cdv A outer s (upd (upd H0 dx (.own a)) a (.ins C dx [])) E
    refine ⟨_, hP, ?_⟩
    refine ⟨.int sz, rfl, .ref a, rfl, a, C, dx, [], rfl, upd_same, T.cl, T.fs, (by show 0 < 1000; decide), ?_⟩
    -- the rest, from the beginning's address on
    have rest : ∀ (vb : V) (G1 H1 : Hp), Ex G G1 → RM G1 H1 μ → H1 a = none → H1 dx = none → Dv G1 vb (.tuple (bg.map .int)) → ∀ Hc : Hp, Hc = upd (upd H1 dx (.own a)) a (.ins C dx (putF "size" (.int sz) [])) → ∀ σ : L2.St, σ = start ["self", "size", "table"] [.ref a, .int sz, vt] →
        (tVar 0 σ Hc fun x H2 => ∃ a' C' dx' fs, x = .ref a' ∧ H2 a' = some (.ins C' dx' fs) ∧ Cls K C' ∧ NoAttr K C' "beginning" ∧ fs.length < 1000 ∧
          (tSeq (sFld K (tVar 0) (tLst tNil) "operations") (sFld K (tVar 0) (tLst tNil) "entries")) { nx := fun _ H' => Q .non H', rt := Q } σ (upd H2 a' (.ins C' dx' (putF "beginning" vb fs)))) := by
      intro vb G1 H1 e1 m1 h1 h2 db Hc eHc σ eσ
      subst eHc eσ
      refine ⟨.ref a, rfl, a, C, dx, _, rfl, upd_same, T.cl, T.fb, (by show 1 < 1000; decide), ?_⟩
      refine ⟨(by show 0 ≤ sizeLine; exact Nat.zero_le _), fun q0 hq0 => ?_⟩
      have qa : q0 ≠ a := fun z => by rw [z, upd_same] at hq0; cases hq0
      have qd : q0 ≠ dx := fun z => by rw [z, upd_ne ne, upd_ne ne, upd_same] at hq0; cases hq0
      rw [upd_ne qa, upd_ne qa, upd_ne qd] at hq0
      refine ⟨.ref a, rfl, a, C, dx, _, rfl, (upd_ne (Ne.symm qa)).trans upd_same, T.cl, T.fo, (by show 2 < 1000; decide), ?_⟩
      refine ⟨(by show 0 ≤ sizeLine; exact Nat.zero_le _), fun r0 hr0 => ?_⟩
      have ra : r0 ≠ a := fun z => by rw [z, upd_same] at hr0; cases hr0
      have rq : r0 ≠ q0 := fun z => by rw [z, upd_ne qa, upd_same] at hr0; cases hr0
      have rd : r0 ≠ dx := fun z => by rw [z, upd_ne ne, upd_ne (Ne.symm qd), upd_ne ne, upd_ne ne, upd_same] at hr0; cases hr0
      rw [upd_ne ra, upd_ne rq, upd_ne ra, upd_ne ra, upd_ne rd] at hr0
      refine ⟨.ref a, rfl, a, C, dx, _, rfl, (upd_ne (Ne.symm ra)).trans upd_same, T.cl, T.fe, (by show 3 < 1000; decide), ?_⟩
      rw [put_cfl]
      refine fin G1 _ e1 (RM.cong ?_ (m1.mkC h1 h2 hq0 hr0 ne qa qd ra rd (Ne.symm rq) db))
      funext b
      simp only [upd]
      by_cases k1 : b = a
      · simp only [k1, if_true]
      · by_cases k2 : b = r0
        · simp only [k1, k2, if_true, if_false, ra]
        · by_cases k3 : b = q0
          · simp only [k3, if_true, if_false, qa, Ne.symm rq]
          · by_cases k4 : b = dx
            · simp only [k4, if_true, if_false, ne, Ne.symm qd, Ne.symm rd]
            · simp only [k1, k2, k3, k4, if_false]
    refine (htt _ _ _).mpr ⟨vt, rfl, ?_⟩
    obtain ⟨Hc, hHc⟩ : ∃ Hc, Hc = upd (upd (upd H0 dx (.own a)) a (.ins C dx [])) a (.ins C dx (putF "size" (.int sz) [])) := ⟨_, rfl⟩
    have eHc : Hc = upd (upd H0 dx (.own a)) a (.ins C dx (putF "size" (.int sz) [])) := by
      rw [hHc]
      funext b
      simp only [upd]
      by_cases k1 : b = a
      · simp only [k1, if_true]
      · simp only [k1, if_false]
    rw [← hHc]
    have keep : ∀ {x : Addr} {o : HO}, H0 x = some o → Hc x = some o := fun {x o} h => by
      rw [eHc, upd_ne (ne_of_none h ha), upd_ne (ne_of_none h hdx)]
      exact h
    rcases hd with rfl | rfl
    · have dv' : Dv G vt (.tuple (bg.map .int)) := dv
      cases dv with
      | @tup ta us ds hta wa => exact ⟨ta, us, rfl, .inr ⟨.inl (.inl (keep (m.ex _ _ hta))), rest (.ref ta) G H0 (Ex.refl G) m ha hdx dv' Hc eHc _ rfl⟩⟩
    · cases dv with
      | @lst ta us ds hta wa =>
        refine ⟨ta, us, rfl, .inl ⟨.inl (.inl (keep (m.ex _ _ hta))), fun l hl => ?_⟩⟩
        have la : l ≠ a := fun z => by rw [z, eHc, upd_same] at hl; cases hl
        have ld : l ≠ dx := fun z => by rw [z, eHc, upd_ne ne, upd_same] at hl; cases hl
        have l0 : H0 l = none := by rw [eHc, upd_ne la, upd_ne ld] at hl; exact hl
        have gl := m.ex.free l0
        refine rest (.ref l) (upd G l (.tup us)) (upd H0 l (.tup us)) (Ex.new gl) (m.lay l0) (by rw [upd_ne (Ne.symm la)]; exact ha) (by rw [upd_ne (Ne.symm ld)]; exact hdx) (.tup upd_same (wa.mono (Ex.new gl))) _ ?_ _ rfl
        rw [eHc]
        funext b
        simp only [upd]
        by_cases k1 : b = l
        · simp only [k1, if_true, if_false, la, ld]
        · by_cases k2 : b = a
          · simp only [k2, if_true, if_false, Ne.symm la]
          · by_cases k3 : b = dx
            · simp only [k3, if_true, if_false, ne, Ne.symm ld]
            · simp only [k1, k2, k3, if_false]
end
section
variable {X : Cx} {e1 e2 : Expr} {ρ : Rho} {μ : Mu} {Φ : OV → Mu → Prop} {p pos : Pos} {C fI : Addr} {fd : FuncData} {k : Nat} {n : Str}
theorem de_cmake (M : Mk X.K C fI) (FI : FnOk X.prog X.w X.K X.mg X.base CX0 k fI fd ["self", "size", "table"] (spCI C)) (bI : Binds X.K fd ["self", "size", "table"] []) (hr : Rm (k + 1) X.A) (hg : Gl X n) (hm : X.mg n = some (.ref C))
    (h : DA X [e1, e2] ρ μ fun os μ1 => ∃ sz d bg, os = [.im (.int sz), .im d] ∧ (d = .tuple (bg.map .int) ∨ d = .list (bg.map .int)) ∧ ∀ a, μ1.d a = none → Φ (.own a) (μ1.putD a (.cir ⟨C, sz, bg, [], []⟩))) (hdb : (n == ("__debug__" : Str)) = false := by decide)
    (h1 : starEach [e1, e2] X.env = (false, eval e1 X.env) :: starEach [e2] X.env := by rfl) (h2 : starEach [e2] X.env = (false, eval e2 X.env) :: starEach [] X.env := by rfl) (hpl : (backTo pos (starEach [e2] X.env)).any (·.1) = false := by rfl) :
    DE X (.Call (.Name n p) [e1, e2] [] pos) ρ μ Φ := fun G H σ m v Q f =>
  WE.of (pe_make (E := fun _ _ _ => False) M FI hr.room hg hm bI .nil passE pwa hdb h1 hpl) (h G H σ m v _ fun vs os μ1 G1 H1 q1 ee m1 r1 x dx hx hdx hne => by
    obtain ⟨sz, d, bg, rfl, hd, q⟩ := q1
    cases r1 with
    | cons ra rb =>
      cases rb with
      | cons rb rc =>
        cases rc
        cases ra
        exact ⟨x, dx, sz, _, d, bg, G1, H1, μ1, rfl, hx, hdx, hne, rfl, m1, rb, hd, fun G' H' e' m' => ⟨rfl, f _ _ _ _ _ (q x (m1.freshD hx)) (ee.trans e') m' rfl⟩⟩)
end
end Nx
set_option maxHeartbeats 4000000
namespace Nx
open PySem PySem.Spec PyProof.Rows L2
open Tree
def cirW : Option (Option W) → Option Cir
  | some (some (.cir c)) => some c
  | some (some (.lc c)) => some c
  | _ => none
def cirAt (C : Addr) (i : Nat) (E : Env) : Option Cir := (cirW E[i]?).bind fun c => if c.C = C then some c else none
def cirM (C : Addr) (i : Nat) (E : Env) : Option Cir := match E[i]? with | some (some (.cir c)) => if c.C = C then some c else none | _ => none
theorem cirM_some {C : Addr} {i : Nat} {E : Env} {c : Cir} (h : cirM C i E = some c) : E[i]? = some (some (.cir c)) ∧ c.C = C := by
  unfold cirM at h
  split at h
  · split at h
    · cases h
      exact ⟨‹_›, ‹_›⟩
    · cases h
  · cases h
theorem Rel.cirO {b : Addr} {μ0 μ : Mu} {E : Env} {ρ : Rho} {C : Addr} {i : Nat} {c : Cir} (R : Rel b μ0 E ρ μ) (h : cirAt C i E = some c) : ∃ p, ρ[i]? = some (some (.own p)) ∧ μ.d p = some (.cir c) ∧ c.C = C := by
  unfold cirAt at h
  cases hE : E[i]? with
  | none =>
    rw [hE] at h
    cases h
  | some w0 =>
    rw [hE] at h
    have key : ∀ c', (if c'.C = C then some c' else none) = some c → c' = c ∧ c.C = C := fun c' h => by
      split at h
      · cases h
        exact ⟨rfl, ‹_›⟩
      · cases h
    cases w0 with
    | none => cases h
    | some w =>
      cases w with
      | cir c' =>
        obtain ⟨rfl, hC⟩ := key c' h
        obtain ⟨o, h1, p, rfl, _, h3⟩ := R.get i _ hE
        exact ⟨p, h1, h3, hC⟩
      | lc c' =>
        obtain ⟨rfl, hC⟩ := key c' h
        obtain ⟨o, h1, p, rfl, h3⟩ := R.get i _ hE
        exact ⟨p, h1, R.ext.thg _ _ h3, hC⟩
      | d x => cases h
      | bx => cases h
      | own ds => cases h
      | dic kvs => cases h
      | odc kvs => cases h
      | dtt kvs => cases h
      | exn C f d => cases h
      | exs l => cases h
      | ll ls => cases h
def dCg (C : Addr) (i : Nat) (g : Cir → Option PyData) : DenE := fun E => (liftO (cirAt C i E)).bind fun c => liftO (g c)
def gSz (c : Cir) : Option PyData := some (.int c.sz)
def gBg (c : Cir) : Option PyData := some (.tuple (c.bg.map .int))
def gLn (c : Cir) : Option PyData := some (.int (c.ops.length : Nat))
def gCs (c : Cir) : Option PyData := if c.ops.flatten.length < 100000 then some (.list (c.ops.flatten.map .int)) else none
def slots (i j : Nat) (E : Env) : Option Unit := if i < E.length ∧ j < E.length then some () else none
def dCcs (C : Addr) (i i1 i2 : Nat) : DenE := fun E => (liftO (slots i1 i2 E)).bind fun _ => dCg C i gCs E
section
variable {b : Addr} {X : Cx} {e x : Expr} {es : List Expr} {f fx : DenE} {pos apos cpos fpos p1 p2 p3 tpos : Pos} {C : Addr} {st : Stmt} {ss : List Stmt}
theorem se_csize (T : CirT X.K C) (i : Nat) {n : Str} (hN : X.N[i]? = some n := by rfl) (hv : Vis X.env.scope n := by first | exact Or.inl rfl | exact Or.inr (Or.inl rfl) | exact Or.inr (Or.inr rfl)) (hd : (n == ("__debug__" : Str)) = false := by decide) (hcd : (n == ("__classdict__" : Str)) = false := by decide)
    (hb : attributeBase (.Name n p1) "size" X.env (eval (.Name n p1) X.env) = eval (.Name n p1) X.env := by rfl) : SE b X (.Attribute (.Name n p1) "size" pos) (dCg C i gSz) := .mk fun μ0 E ρ μ Φ R h => by
  obtain ⟨c, hc, h⟩ := lift_all (all_bind.mp h)
  obtain ⟨p, h1, h2, h3⟩ := R.cirO hc
  exact de_csize T (de_var i hN hv h1 ⟨p, c, rfl, h2, h3, h μ (Bs.refl b μ)⟩ hd hcd) hb
theorem se_cbeg (T : CirT X.K C) (i : Nat) {n : Str} (hN : X.N[i]? = some n := by rfl) (hv : Vis X.env.scope n := by first | exact Or.inl rfl | exact Or.inr (Or.inl rfl) | exact Or.inr (Or.inr rfl)) (hd : (n == ("__debug__" : Str)) = false := by decide) (hcd : (n == ("__classdict__" : Str)) = false := by decide)
    (hb : attributeBase (.Name n p1) "beginning" X.env (eval (.Name n p1) X.env) = eval (.Name n p1) X.env := by rfl) : SE b X (.Attribute (.Name n p1) "beginning" pos) (dCg C i gBg) := .mk fun μ0 E ρ μ Φ R h => by
  obtain ⟨c, hc, h⟩ := lift_all (all_bind.mp h)
  obtain ⟨p, h1, h2, h3⟩ := R.cirO hc
  exact de_cbeg T (de_var i hN hv h1 ⟨p, c, rfl, h2, h3, h μ (Bs.refl b μ)⟩ hd hcd) hb
theorem se_clen {n : Str} (i : Nat) (B : Bt X.mg) (hg : Gl X "len") (T : CirT X.K C) (hN : X.N[i]? = some n := by rfl) (hv : Vis X.env.scope n := by first | exact Or.inl rfl | exact Or.inr (Or.inl rfl) | exact Or.inr (Or.inr rfl)) (hd : (n == ("__debug__" : Str)) = false := by decide) (hcd : (n == ("__classdict__" : Str)) = false := by decide)
    (hb : attributeBase (.Name n p1) "operations" X.env (eval (.Name n p1) X.env) = eval (.Name n p1) X.env := by rfl)
    (he : starEach [.Attribute (.Name n p1) "operations" apos] X.env = (false, eval (.Attribute (.Name n p1) "operations" apos) X.env) :: starEach [] X.env := by rfl) (hpl : (backTo pos (starEach [] X.env)).any (·.1) = false := by rfl) : SE b X (.Call (.Name "len" p2) [.Attribute (.Name n p1) "operations" apos] [] pos) (dCg C i gLn) := .mk fun μ0 E ρ μ Φ R h => by
  obtain ⟨c, hc, h⟩ := lift_all (all_bind.mp h)
  obtain ⟨p, h1, h2, h3⟩ := R.cirO hc
  exact de_clen B hg T (de_var i hN hv h1 ⟨p, c, rfl, h2, h3, h μ (Bs.refl b μ)⟩ hd hcd) hb he hpl
theorem se_ccalls {i1 i2 : Nat} {n t sn : Str} {scope : Scope} {ip ep np tp2 : Pos} (T : CirT X.K C) (i : Nat) (hc : X.calm = true) (hN : X.N.Nodup) (ok : BlkOk X.N X.env.scope scope [(n, i1), (t, i2)])
    (hg : ∀ s H C cl fp, PG (Blk X scope s H C cl fp) (.Name t tp2) (gName i2)) (hg1 : ∀ s H C cl fp, PG (Blk X scope s H C cl fp) (.Name n np) (gName i1))
    (hi1 : ∀ s H C cl fp, PI (Blk X scope s H C cl fp) (.Name n np) (.Name t ip) (iTup X.K (tVar i2))) (hel : ∀ s H C cl fp, PE (Blk X scope s H C cl fp) (.Name n ep) (tVar i1))
    (hNs : X.N[i]? = some sn := by rfl) (hv : Vis X.env.scope sn := by first | exact Or.inl rfl | exact Or.inr (Or.inl rfl) | exact Or.inr (Or.inr rfl)) (hd : (sn == ("__debug__" : Str)) = false := by decide) (hcd : (sn == ("__classdict__" : Str)) = false := by decide)
    (hb : attributeBase (.Name sn p1) "operations" X.env (eval (.Name sn p1) X.env) = eval (.Name sn p1) X.env := by rfl)
    (hf : ∀ x, foldedSetIterable (.Attribute (.Name sn p1) "operations" fpos) X.env x = pure x := by intro _; rfl) (hf1 : ∀ env x, foldedSetIterable (.Name t ip) env x = pure x := by intro _ _; rfl) :
    SE b X (.ListComp (.Name n ep) [⟨.Name t tp2, .Attribute (.Name sn p1) "operations" fpos, [], 0⟩, ⟨.Name n np, .Name t ip, [], 0⟩] scope pos) (dCcs C i i1 i2) := .mk fun μ0 E ρ μ Φ R h => by
  obtain ⟨⟨⟩, hs, h⟩ := lift_all (all_bind.mp h)
  unfold slots at hs
  split at hs
  case isFalse => cases hs
  rename_i hl
  obtain ⟨c, hcc, h⟩ := lift_all (all_bind.mp h)
  obtain ⟨p, h1, h2, h3⟩ := R.cirO hcc
  obtain ⟨d, hd', h⟩ := lift_all h
  unfold gCs at hd'
  split at hd'
  case isFalse => cases hd'
  rename_i hz
  cases hd'
  exact de_ccalls (sp := ip) T hc hN ok (by rw [R.len]; exact hl.1) (by rw [R.len]; exact hl.2) hg hg1 hi1 hel (de_var i hNs hv h1 ⟨p, c, rfl, h2, h3, hz, h μ (Bs.refl b μ)⟩ hd hcd) hb hf hf1
end
def fnM (n : Nat) (body : DenS) : List W → Tree PyData := fun ws => (liftO (lenIs 1 ws)).bind fun _ => (body (ws.map some ++ List.replicate (n - 1) none)).bind outV
def cM (C : Addr) (F : List W → Tree PyData) : Ct := fun os μ Φ => ∃ b p c, os = [.own p] ∧ μ.d p = some (.cir c) ∧ c.C = C ∧ (∃ p q t, μ b = some (bx p q t)) ∧ (F [.lc c]).All (fun d => ∀ μ', Bs b μ μ' → Φ (.im d) μ')
theorem nones_get {n i : Nat} {α : Type} {w : α} (h : (List.replicate n (none : Option α))[i]? = some (some w)) : False := by
  rw [List.getElem?_replicate] at h
  split at h <;> cases h
theorem rel_startM {b : Addr} {μ : Mu} {p : Addr} {c : Cir} (n : Nat) (hp : μ.d p = some (.cir c)) (hb : ∃ p q t, μ b = some (bx p q t)) : Rel b μ (some (.lc c) :: List.replicate n none) (some (.own p) :: List.replicate n none) μ := by
  refine ⟨by simp, hb, hb, Bs.refl b μ, fun i w h => ?_, fun i j ds es q h h' _ _ => ?_, fun i j w w' q h h' t t' _ _ => ?_⟩
  · cases i with
    | zero =>
      cases h
      exact ⟨_, rfl, p, rfl, hp⟩
    | succ i => exact (nones_get (List.getElem?_cons_succ ▸ h)).elim
  · cases i with
    | zero => cases h
    | succ i => exact (nones_get (List.getElem?_cons_succ ▸ h)).elim
  · cases i with
    | zero =>
      cases h
      cases t
    | succ i => exact (nones_get (List.getElem?_cons_succ ▸ h)).elim
section
variable {P : Program} {w : World} {K : PySem.W.Frag} {mg : Str → Option Value} {base : Heap}
theorem fcm_body {C : Addr} {k n : Nat} {f : Addr} {m q : Str} {st : Stmt} {fd : FuncData} {N ps : List Str} (body : DenS) {F : List W → Tree PyData} (hM : F = fnM n body) (FF : Fun K m q st f fd) (hm : Meth K C m f) (S : FnScope N ps (defScope st)) (ha : ps.length = 1) (hn : N.length = n)
    (hB : ∀ (b : Addr) (cdv : Value) A outer s H E, Rm k (A.deeper (envOfC q (defScope st) s.heap.objs.size f cdv)) → SSs b (cxOf CX0 P w K mg base N q (defScope st) f cdv A outer s H E).nox (defBody st) body) : FcM P w K mg base C m q st ps (k + 1) (cM C F) := by
  subst hM hn
  refine fcm_of FF hm S (fun os μ Φ h => ?_) fun cdv A outer s H E os μ Φ hr h => ?_
  · obtain ⟨b, p, c, rfl, _⟩ := h
    exact ha.symm
  · obtain ⟨b, p, c, rfl, hp, hC, hb, h⟩ := h
    obtain ⟨hl, h⟩ := lenIs_all (all_bind.mp h)
    refine (hB b cdv A outer s H E hr).run μ _ _ μ _ (rel_startM _ hp hb) ((all_bind.mp h).imp fun o q => ?_)
    cases o with
    | nx E' => exact fun ρ' μ' R => q μ' R.ext
    | rt v => exact fun μ' s => q μ' s
    | bk E' => exact q.elim
    | ct E' => exact q.elim
end
def dM0 (C : Addr) (i : Nat) (F : List W → Tree PyData) : DenE := fun E => (liftO (cirAt C i E)).bind fun c => F [.lc c]
section
variable {b : Addr} {X : Cx} {e x : Expr} {es : List Expr} {f fx : DenE} {pos apos cpos fpos p1 p2 p3 tpos : Pos} {C : Addr} {m q : Str} {st : Stmt} {ps : List Str} {k : Nat}
theorem se_meth0 {pl : Sem Bool} (T : CirT X.K C) {F : List W → Tree PyData} (FC : FcM X.prog X.w X.K X.mg X.base C m q st ps k (cM C F)) (hr : Rm k X.A) (hn : NoF m) (h1 : ps.length = 1)
    (hb : ∀ (kV doc pm : Value) (an : Option Addr) (cdv ct : Value) (us : List Value), us.length = ps.length → bindArgs (PySem.W.fnOf m q (defArgs st) (defBody st) (defScope st) .none kV doc pm an cdv ct) ⟨us, []⟩ = pure (ps.zip us))
    (i : Nat) {n : Str} (hN : X.N[i]? = some n := by rfl) (hv : Vis X.env.scope n := by first | exact Or.inl rfl | exact Or.inr (Or.inl rfl) | exact Or.inr (Or.inr rfl)) (hd : (n == ("__debug__" : Str)) = false := by decide) (hcd : (n == ("__classdict__" : Str)) = false := by decide)
    (ht : eval (.Call (.Attribute (.Name n p1) m apos) [] [] pos) X.env = (do
      let ov ← eval (.Name n p1) X.env
      standAt apos.atName
      let (f, first) ← holding [ov] (getMethod ov m pl)
      callWith pos f first (backTo pos (starEach [] X.env)) (backToKw pos (keywordEach [] X.env))) := by rfl) : SE b X (.Call (.Attribute (.Name n p1) m apos) [] [] pos) (dM0 C i F) := .mk fun μ0 E ρ μ Φ R h => by
  obtain ⟨c, hc, h⟩ := lift_all (all_bind.mp h)
  obtain ⟨p, h1', h2, h3⟩ := R.cirO hc
  exact de_meth0 T FC hr hn h1 hb (de_var i hN hv h1' ⟨p, c, rfl, h2, h3, b, p, c, rfl, h2, h3, R.bxs, h⟩ hd hcd) ht
end
end Nx
set_option maxHeartbeats 4000000
namespace Nx
open PySem PySem.Spec PyProof.Rows L2
open Tree
def cMc (C : Addr) (F : List W → Tree (Cir × PyData)) : Ct := fun os μ Φ => ∃ b p c ws, os = .own p :: ws.map (wo b) ∧ ws.all noOwn = true ∧ μ.d p = some (.cir c) ∧ c.C = C ∧ (∃ p q t, μ b = some (bx p q t)) ∧
  (F (.cir c :: ws)).All fun r => ∀ μ', Bs b (μ.delD p) μ' → μ'.d p = some (.cir r.1) → Φ (.im r.2) μ'
abbrev DenC := Env → Tree (Env × PyData)
structure SSc (b : Addr) (X : Cx) (ss : List Stmt) (f : DenC) : Prop where
  run : ∀ μ0 E ρ μ D, Rel b μ0 E ρ μ → (f E).All (fun r => ∀ ρ' μ', Rel b μ0 r.1 ρ' μ' → ρ'[0]? = ρ[0]? → D.rt (.im r.2) μ') → DSs X ss ρ μ D
def cRet (f : DenE) : DenC := fun E => (f E).bind fun v => .ret (E, v)
structure SSk (b : Addr) (X : Cx) (s : Stmt) (f : DenS) : Prop where
  run : ∀ μ0 E ρ μ D, Rel b μ0 E ρ μ → (f E).All (fun o => ∃ E', o = .nx E' ∧ ∀ ρ' μ', Rel b μ0 E' ρ' μ' → ρ'[0]? = ρ[0]? → D.nx ρ' μ') → DS X s ρ μ D
def cC (g : DenS) (h : DenC) : DenC := fun E => (g E).bind fun o => match o with | .nx E' => h E' | _ => .fail
def cIf (c : DenB) (g h : DenC) : DenC := fun E => (c E).bind fun k => match k with | true => g E | false => h E
section
variable {b : Addr} {X : Cx} {e x c : Expr} {es : List Expr} {f fx : DenE} {ft : DenB} {pos apos cpos fpos p1 p2 p3 tpos : Pos} {C : Addr} {st : Stmt} {ss s1 : List Stmt} {g : DenS} {h h1 : DenC}
theorem ssc_ret (hx : SE b X e f) : SSc b X [.Return (some e) pos] (cRet f) := .mk fun μ0 E ρ μ D R q =>
  dss_one (ds_ret (hx.run μ0 E ρ μ _ R ((all_bind.mp q).imp fun v q μ' s => q ρ μ' (R.step s) rfl)))
theorem ssc_cons (hs : SSk b X st g) (ht : SSc b X ss h) : SSc b X (st :: ss) (cC g h) := .mk fun μ0 E ρ μ D R q =>
  dss_cons (hs.run μ0 E ρ μ _ R ((all_bind.mp q).imp fun o q => by
    cases o with
    | nx E' => exact ⟨E', rfl, fun ρ' μ' R' e0 => ht.run μ0 E' ρ' μ' D R' (q.imp fun r q ρ2 μ2 R2 e2 => q ρ2 μ2 R2 (e2.trans e0))⟩
    | rt v => exact q.elim
    | bk E' => exact q.elim
    | ct E' => exact q.elim))
theorem ssc_if (hc : ST b X c ft) (h1' : SSc b X s1 h1) (ht : SSc b X ss h) : SSc b X (.If c s1 [] pos :: ss) (cIf ft h1 h) := .mk fun μ0 E ρ μ D R q =>
  dss_cons (ds_if (hc.run μ0 E ρ μ _ R ((all_bind.mp q).imp fun k q μ1 s1 => by
    cases k with
    | true =>
      rw [if_pos rfl]
      exact h1'.run μ0 E ρ μ1 _ (R.step s1) q
    | false =>
      rw [if_neg (by decide)]
      exact dss_nil (ht.run μ0 E ρ μ1 D (R.step s1) q))))
def cNo (ft : DenB) : DenS := fun E => (ft E).bind fun k => match k with | true => .fail | false => .ret (.nx E)
theorem ssk_ifNo (hc : ST b X c ft) : SSk b X (.If c s1 [] pos) (cNo ft) := .mk fun μ0 E ρ μ D R q =>
  ds_if (hc.run μ0 E ρ μ _ R ((all_bind.mp q).imp fun k q μ1 s1 => by
    cases k with
    | true => exact q.elim
    | false =>
      rw [if_neg (by decide)]
      obtain ⟨E', e, q⟩ := q
      cases e
      exact dss_nil (q ρ μ1 (R.step s1) rfl)))
theorem ssk_set (i : Nat) {n : Str} {p' : Pos} (hi0 : i ≠ 0) (hx : SE b X e f) (hN : X.N.Nodup) (hi : X.N[i]? = some n) (hl : Loc X.env.scope n) (hs : swapsWith e (some (.Name n p')) pos.line X.env = pure false := by rfl)
    (hf : X.fn n = true ∨ X.env.scope.names.lookup n = some .local := by first | exact .inl rfl | exact .inr rfl | assumption) : SSk b X (.Assign [.Name n p'] e pos) (sSet i f) := .mk fun μ0 E ρ μ D R q =>
  ds_set i hN hi hl (hx.run μ0 E ρ μ _ R ((all_bind.mp q).imp fun v q μ' s => by
    obtain ⟨E', e, q⟩ := q
    cases e
    exact q _ _ ((R.step s).setD i v) (List.getElem?_set_ne hi0))) hs hf
theorem Rel.cirM {μ0 μ : Mu} {E : Env} {ρ : Rho} {i : Nat} {c : Cir} (R : Rel b μ0 E ρ μ) (h : cirM C i E = some c) : ∃ p, ρ[i]? = some (some (.own p)) ∧ μ.d p = some (.cir c) ∧ c.C = C ∧ ∀ c', Rel b μ0 (E.set i (some (.cir c'))) ρ (μ.putD p (.cir c')) := by
  obtain ⟨hE, hC⟩ := cirM_some h
  obtain ⟨o, h1, p, rfl, h2, h3⟩ := R.get i _ hE
  exact ⟨p, h1, h3, hC, fun c' => R.chgT hE h1 rfl rfl⟩
def sCent (C : Addr) (i : Nat) (txt : Str) : DenS := fun E => (liftO (cirM C i E)).bind fun c => (liftO (few c.ent.length)).bind fun _ => .ret (.nx (E.set i (some (.cir { c with ent := c.ent ++ [txt] }))))
theorem ssk_cent {txt : Str} {j : Nat} (T : CirT X.K C) (i : Nat) {n : Str} (hN : X.N[i]? = some n := by rfl) (hv : Vis X.env.scope n := by first | exact Or.inl rfl | exact Or.inr (Or.inl rfl) | exact Or.inr (Or.inr rfl)) (hd : (n == ("__debug__" : Str)) = false := by decide) (hcd : (n == ("__classdict__" : Str)) = false := by decide)
    (hb : attributeBase (.Name n p1) "entries" X.env (eval (.Name n p1) X.env) = eval (.Name n p1) X.env := by rfl)
    (hbase : attributeBase (.Attribute (.Name n p1) "entries" fpos) "append" X.env (eval (.Attribute (.Name n p1) "entries" fpos) X.env) = eval (.Attribute (.Name n p1) "entries" fpos) X.env := by rfl)
    (hfew : ((backTo cpos (starEach [.Constant (.str txt) j p3] X.env)).all (fun x => !x.1) && (backToKw cpos (keywordEach [] X.env)).all (fun x => x.1.isSome) && decide ([Expr.Constant (.str txt) j p3].length + ([] : List Keyword).length + (if ([] : List Keyword).isEmpty then 0 else 1) < 30)) = true := by rfl)
    (hline : (apos.endLine == cpos.line) = true := by rfl) (hs : starEach [.Constant (.str txt) j p3] X.env = (false, eval (.Constant (.str txt) j p3) X.env) :: starEach [] X.env := by rfl) (hplain : (backTo cpos (starEach [] X.env)).any (·.1) = false := by rfl)
    (hsw : swapsWith (.Call (.Attribute (.Attribute (.Name n p1) "entries" fpos) "append" apos) [.Constant (.str txt) j p3] [] cpos) none pos.line X.env = pure false := by rfl) :
    SSk b X (.Expr (.Call (.Attribute (.Attribute (.Name n p1) "entries" fpos) "append" apos) [.Constant (.str txt) j p3] [] cpos) pos) (sCent C i txt) := .mk fun μ0 E ρ μ D R q => by
  obtain ⟨c, hc, q⟩ := lift_all (all_bind.mp q)
  obtain ⟨hz, q⟩ := few_le (all_bind.mp q)
  obtain ⟨E', e, q⟩ := q
  cases e
  obtain ⟨p, h1, h2, h3, h4⟩ := R.cirM hc
  exact ds_expr (de_centA T (de_var i hN hv h1 ⟨p, c, rfl, h2, h3, by omega, q ρ _ (h4 _) rfl⟩ hd hcd) hb hbase hfew hline hs hplain) hsw
def sCops (C : Addr) (i j : Nat) : DenS := fun E => (liftO (cirM C i E)).bind fun c => (liftO (few c.ops.length)).bind fun _ => (dV j E).bind fun d => match d with | .int z => .ret (.nx (E.set i (some (.cir { c with ops := c.ops ++ [[z]] })))) | _ => .fail
theorem ssk_cops {k : Nat} (T : CirT X.K C) (i j : Nat) {n n2 : Str} (hN : X.N[i]? = some n := by rfl) (hv : Vis X.env.scope n := by first | exact Or.inl rfl | exact Or.inr (Or.inl rfl) | exact Or.inr (Or.inr rfl)) (hd : (n == ("__debug__" : Str)) = false := by decide) (hcd : (n == ("__classdict__" : Str)) = false := by decide)
    (hN2 : X.N[j]? = some n2 := by rfl) (hv2 : Vis X.env.scope n2 := by first | exact Or.inl rfl | exact Or.inr (Or.inl rfl) | exact Or.inr (Or.inr rfl)) (hd2 : (n2 == ("__debug__" : Str)) = false := by decide) (hcd2 : (n2 == ("__classdict__" : Str)) = false := by decide)
    (hb : attributeBase (.Name n p1) "operations" X.env (eval (.Name n p1) X.env) = eval (.Name n p1) X.env := by rfl)
    (hbase : attributeBase (.Attribute (.Name n p1) "operations" fpos) "append" X.env (eval (.Attribute (.Name n p1) "operations" fpos) X.env) = eval (.Attribute (.Name n p1) "operations" fpos) X.env := by rfl)
    (hfew : ((backTo cpos (starEach [.Tuple [.Name n2 p3] k tpos] X.env)).all (fun x => !x.1) && (backToKw cpos (keywordEach [] X.env)).all (fun x => x.1.isSome) && decide ([Expr.Tuple [.Name n2 p3] k tpos].length + ([] : List Keyword).length + (if ([] : List Keyword).isEmpty then 0 else 1) < 30)) = true := by rfl)
    (hline : (apos.endLine == cpos.line) = true := by rfl) (hs : starEach [.Tuple [.Name n2 p3] k tpos] X.env = (false, eval (.Tuple [.Name n2 p3] k tpos) X.env) :: starEach [] X.env := by rfl) (hs2 : starEach [.Name n2 p3] X.env = (false, eval (.Name n2 p3) X.env) :: starEach [] X.env := by rfl) (hplain : (backTo cpos (starEach [] X.env)).any (·.1) = false := by rfl)
    (hsw : swapsWith (.Call (.Attribute (.Attribute (.Name n p1) "operations" fpos) "append" apos) [.Tuple [.Name n2 p3] k tpos] [] cpos) none pos.line X.env = pure false := by rfl) :
    SSk b X (.Expr (.Call (.Attribute (.Attribute (.Name n p1) "operations" fpos) "append" apos) [.Tuple [.Name n2 p3] k tpos] [] cpos) pos) (sCops C i j) := .mk fun μ0 E ρ μ D R q => by
  obtain ⟨c, hc, q⟩ := lift_all (all_bind.mp q)
  obtain ⟨hz, q⟩ := few_le (all_bind.mp q)
  obtain ⟨d, hd', q⟩ := dV_all (all_bind.mp q)
  cases d with
  | int z =>
    obtain ⟨E', e, q⟩ := q
    cases e
    obtain ⟨p, h1, h2, h3, h4⟩ := R.cirM hc
    obtain ⟨o, g1, g2⟩ := R.get j _ hd'
    cases g2
    exact ds_expr (de_copsA T hN2 hv2 g1 (de_var i hN hv h1 ⟨p, c, rfl, h2, h3, by omega, q ρ _ (h4 _) rfl⟩ hd hcd) hb hd2 hcd2 hbase hfew hline hs hs2 hplain) hsw
  | _ => exact q.elim
def sCdel (C : Addr) (i : Nat) : DenS := fun E => (liftO (cirM C i E)).bind fun c => (liftO (few c.ops.length)).bind fun _ => if c.ops = [] then .fail else .ret (.nx (E.set i (some (.cir { c with ops := c.ops.dropLast }))))
theorem ssk_cdel {j : Nat} (T : CirT X.K C) (i : Nat) {n : Str} (hN : X.N[i]? = some n := by rfl) (hv : Vis X.env.scope n := by first | exact Or.inl rfl | exact Or.inr (Or.inl rfl) | exact Or.inr (Or.inr rfl)) (hd : (n == ("__debug__" : Str)) = false := by decide) (hcd : (n == ("__classdict__" : Str)) = false := by decide)
    (hb : attributeBase (.Name n p1) "operations" X.env (eval (.Name n p1) X.env) = eval (.Name n p1) X.env := by rfl) :
    SSk b X (.Delete [.Subscript (.Attribute (.Name n p1) "operations" fpos) (.UnaryOp .USub (.Constant (.int 1) j p3) p2) tpos] pos) (sCdel C i) := .mk fun μ0 E ρ μ D R q => by
  obtain ⟨c, hc, q⟩ := lift_all (all_bind.mp q)
  obtain ⟨hz, q⟩ := few_le (all_bind.mp q)
  split at q
  · exact q.elim
  · rename_i hne
    obtain ⟨E', e, q⟩ := q
    cases e
    obtain ⟨p, h1, h2, h3, h4⟩ := R.cirM hc
    exact ds_cdel T (de_var i hN hv h1 ⟨p, c, rfl, h2, h3, hne, by omega, q ρ _ (h4 _) rfl⟩ hd hcd) hb
end
def cirHd (E : Env) : Tree Cir := match (E[0]? : Option (Option W)) with | some (some (.cir c)) => .ret c | _ => .fail
def fnMc (a n : Nat) (body : DenC) : List W → Tree (Cir × PyData) := fun ws => (liftO (lenIs a ws)).bind fun _ => (body (ws.map some ++ List.replicate (n - a) none)).bind fun r => (cirHd r.1).bind fun c => .ret (c, r.2)
theorem rel_startMc {b : Addr} {μ : Mu} {p : Addr} {c : Cir} {ws : List W} (n : Nat) (hp : μ.d p = some (.cir c)) (hw : ws.all noOwn = true) (hb : ∃ p q t, μ b = some (bx p q t)) : Rel b (μ.delD p) (some (.cir c) :: (ws.map some ++ List.replicate n none)) (some (.own p) :: ((ws.map (wo b)).map some ++ List.replicate n none)) μ := by
  have key : ∀ (i : Nat) v, (ws.map some ++ List.replicate n none)[i]? = some (some v) → noOwn v = true ∧ ((ws.map (wo b)).map some ++ List.replicate n none)[i]? = some (some (wo b v)) := fun i v h => by
    by_cases hi : i < ws.length
    · rw [List.getElem?_append_left (by simpa using hi), List.getElem?_map, List.getElem?_eq_getElem hi] at h
      cases h
      refine ⟨List.all_eq_true.mp hw _ (List.getElem_mem hi), ?_⟩
      rw [List.getElem?_append_left (by simpa using hi), List.getElem?_map, List.getElem?_map, List.getElem?_eq_getElem hi]
      rfl
    · rw [List.getElem?_append_right (by simpa using hi)] at h
      exact (nones_get h).elim
  have dl : (μ.delD p).d p = none := if_pos rfl
  refine ⟨by simp, hb, hb, ⟨fun a l _ h => h, fun p q t h => ⟨p, q, t, h⟩, fun a t h => ?_, rfl⟩, fun i w h => ?_, fun i j ds es q h h' _ _ => ?_, fun i j w w' q h h' t t' _ _ => ?_⟩
  · have h : (if a = p then none else μ.d a) = some t := h
    split at h
    · cases h
    · exact h
  · cases i with
    | zero =>
      cases h
      exact ⟨_, rfl, p, rfl, dl, hp⟩
    | succ i =>
      rw [List.getElem?_cons_succ] at h
      obtain ⟨h1, h2⟩ := key i w h
      refine ⟨_, by rw [List.getElem?_cons_succ]; exact h2, ?_⟩
      cases w <;> first | rfl | cases h1
  · cases i with
    | zero => cases h
    | succ i =>
      rw [List.getElem?_cons_succ] at h
      cases (key i _ h).1
  · have z : ∀ i w, (some (W.cir c) :: (ws.map some ++ List.replicate n none))[i]? = some (some w) → (thW w).isSome = true → i = 0 := fun i w h t => by
      cases i with
      | zero => rfl
      | succ i =>
        rw [List.getElem?_cons_succ] at h
        have := (key i _ h).1
        cases w <;> first | (cases t; done) | (cases this; done)
    rw [z i w h t, z j w' h' t']
section
variable {P : Program} {w : World} {K : PySem.W.Frag} {mg : Str → Option Value} {base : Heap}
theorem fcm_bodyC {C : Addr} {k a n : Nat} {f : Addr} {m q : Str} {st : Stmt} {fd : FuncData} {N ps : List Str} (body : DenC) {F : List W → Tree (Cir × PyData)} (hM : F = fnMc a n body) (FF : Fun K m q st f fd) (hm : Meth K C m f) (S : FnScope N ps (defScope st)) (ha : ps.length = a) (hn : N.length = n)
    (hB : ∀ (b : Addr) (cdv : Value) A outer s H E, Rm k (A.deeper (envOfC q (defScope st) s.heap.objs.size f cdv)) → SSc b (cxOf CX0 P w K mg base N q (defScope st) f cdv A outer s H E).nox (defBody st) body) : FcM P w K mg base C m q st ps (k + 1) (cMc C F) := by
  subst hM hn ha
  refine fcm_of FF hm S (fun os μ Φ h => ?_) fun cdv A outer s H E os μ Φ hr h => ?_
  · obtain ⟨b, p, c, ws, rfl, _, _, _, _, h⟩ := h
    have := (lenIs_all (all_bind.mp h)).1
    rw [List.length_cons] at this
    rw [List.length_cons, List.length_map]
    exact this
  · obtain ⟨b, p, c, ws, rfl, hw, hp, hC, hb, h⟩ := h
    obtain ⟨hl, h⟩ := lenIs_all (all_bind.mp h)
    rw [List.length_cons, List.length_map]
    rw [List.length_cons] at hl
    rw [hl]
    refine (hB b cdv A outer s H E hr).run (μ.delD p) _ _ μ _ (rel_startMc _ hp hw hb) ((all_bind.mp h).imp fun r q ρ' μ' R e0 => ?_)
    obtain ⟨E', d⟩ := r
    have q := all_bind.mp q
    unfold cirHd at q
    split at q
    · rename_i c' hc'
      obtain ⟨o, h1, p', rfl, h2, h3⟩ := R.get 0 _ hc'
      rw [e0] at h1
      cases h1
      exact q μ' R.ext h3
    · exact q.elim
end
section
variable {b : Addr} {X : Cx} {e x : Expr} {es : List Expr} {f fx : DenE} {pos apos cpos fpos p1 p2 p3 tpos : Pos} {C : Addr} {m q : Str} {st : Stmt} {ps : List Str} {k : Nat} {gs : Env → Tree (List W)}
theorem Rel.aft {μ0 μ μ' : Mu} {E : Env} {ρ : Rho} {i : Nat} {p : Addr} {c c' : Cir} (R : Rel b μ0 (E.set i (some (.cir c'))) ρ (μ.putD p (.cir c'))) (s : Bs b (μ.delD p) μ') (h : μ'.d p = some (.cir c')) : Rel b μ0 (E.set i (some (.cir c'))) ρ μ' := by
  refine R.step ⟨s.old, s.box, fun a t e => ?_, s.cls⟩
  by_cases z : a = p
  · subst z
    rw [putD_same] at e
    cases e
    exact h
  · rw [putD_ne z] at e
    exact s.thg a t ((if_neg z).trans e)
structure SEc (b : Addr) (X : Cx) (e : Expr) (f : DenC) : Prop where
  run : ∀ μ0 E ρ μ Φ, Rel b μ0 E ρ μ → (f E).All (fun r => ∀ μ', Rel b μ0 r.1 ρ μ' → Φ (.im r.2) μ') → DE X e ρ μ Φ
def dMc0 (C : Addr) (i : Nat) (F : List W → Tree (Cir × PyData)) : DenC := fun E => (liftO (cirM C i E)).bind fun c => (F [.cir c]).bind fun r => .ret (E.set i (some (.cir r.1)), r.2)
theorem sec_meth0 {pl : Sem Bool} (T : CirT X.K C) {F : List W → Tree (Cir × PyData)} (FC : FcM X.prog X.w X.K X.mg X.base C m q st ps k (cMc C F)) (hr : Rm k X.A) (hn : NoF m) (h1 : ps.length = 1)
    (hb : ∀ (kV doc pm : Value) (an : Option Addr) (cdv ct : Value) (us : List Value), us.length = ps.length → bindArgs (PySem.W.fnOf m q (defArgs st) (defBody st) (defScope st) .none kV doc pm an cdv ct) ⟨us, []⟩ = pure (ps.zip us))
    (i : Nat) {n : Str} (hN : X.N[i]? = some n := by rfl) (hv : Vis X.env.scope n := by first | exact Or.inl rfl | exact Or.inr (Or.inl rfl) | exact Or.inr (Or.inr rfl)) (hd : (n == ("__debug__" : Str)) = false := by decide) (hcd : (n == ("__classdict__" : Str)) = false := by decide)
    (ht : eval (.Call (.Attribute (.Name n p1) m apos) [] [] pos) X.env = (do
      let ov ← eval (.Name n p1) X.env
      standAt apos.atName
      let (f, first) ← holding [ov] (getMethod ov m pl)
      callWith pos f first (backTo pos (starEach [] X.env)) (backToKw pos (keywordEach [] X.env))) := by rfl) : SEc b X (.Call (.Attribute (.Name n p1) m apos) [] [] pos) (dMc0 C i F) := .mk fun μ0 E ρ μ Φ R h => by
  obtain ⟨c, hc, h⟩ := lift_all (all_bind.mp h)
  obtain ⟨p, g1, g2, g3, g4⟩ := R.cirM hc
  exact de_meth0 T FC hr hn h1 hb (de_var i hN hv g1 ⟨p, c, rfl, g2, g3, b, p, c, [], rfl, rfl, g2, g3, R.bxs, (all_bind.mp h).imp fun r q μ' s hp => q μ' ((g4 r.1).aft (c := c) s hp)⟩ hd hcd) ht
def noOwns (ws : List W) : Option Unit := if ws.all noOwn = true then some () else none
def dMc (C : Addr) (i : Nat) (F : List W → Tree (Cir × PyData)) (gs : Env → Tree (List W)) : DenC := fun E => (liftO (cirM C i E)).bind fun c => (gs E).bind fun ws => (liftO (noOwns ws)).bind fun _ => (F (.cir c :: ws)).bind fun r => .ret (E.set i (some (.cir r.1)), r.2)
theorem sec_meth {pl : Sem Bool} (T : CirT X.K C) {F : List W → Tree (Cir × PyData)} (FC : FcM X.prog X.w X.K X.mg X.base C m q st ps k (cMc C F)) (hr : Rm k X.A) (hn : NoF m)
    (hb : ∀ (kV doc pm : Value) (an : Option Addr) (cdv ct : Value) (us : List Value), us.length = ps.length → bindArgs (PySem.W.fnOf m q (defArgs st) (defBody st) (defScope st) .none kV doc pm an cdv ct) ⟨us, []⟩ = pure (ps.zip us))
    (i : Nat) (ha : SA b X (e :: es) gs) {n : Str} (hN : X.N[i]? = some n := by rfl) (hv : Vis X.env.scope n := by first | exact Or.inl rfl | exact Or.inr (Or.inl rfl) | exact Or.inr (Or.inr rfl)) (hd : (n == ("__debug__" : Str)) = false := by decide) (hcd : (n == ("__classdict__" : Str)) = false := by decide)
    (hst : starEach (e :: es) X.env = (false, eval e X.env) :: starEach es X.env := by rfl) (hpl : (backTo pos (starEach es X.env)).any (·.1) = false := by rfl)
    (ht : eval (.Call (.Attribute (.Name n p1) m apos) (e :: es) [] pos) X.env = (do
      let ov ← eval (.Name n p1) X.env
      standAt apos.atName
      let (f, first) ← holding [ov] (getMethod ov m pl)
      callWith pos f first (backTo pos (starEach (e :: es) X.env)) (backToKw pos (keywordEach [] X.env))) := by rfl) : SEc b X (.Call (.Attribute (.Name n p1) m apos) (e :: es) [] pos) (dMc C i F gs) := .mk fun μ0 E ρ μ Φ R h => by
  obtain ⟨c, hc, h⟩ := lift_all (all_bind.mp h)
  obtain ⟨p, g1, g2, g3, g4⟩ := R.cirM hc
  refine de_meth T FC hr hn hb (de_var i hN hv g1 ⟨p, c, rfl, g2, g3, ha.run μ0 E ρ μ _ R ((all_bind.mp h).imp fun ws q μ1 s1 => ?_)⟩ hd hcd) hst hpl ht
  obtain ⟨⟨⟩, hw, q⟩ := lift_all (all_bind.mp q)
  unfold noOwns at hw
  split at hw
  case isFalse => cases hw
  rename_i hw'
  obtain ⟨p', g1', g2', g3', g4'⟩ := (R.step s1).cirM hc
  rw [g1] at g1'
  cases g1'
  exact ⟨b, p, c, ws, rfl, hw', g2', g3', (R.step s1).bxs, (all_bind.mp q).imp fun r q μ' s hp => q μ' ((g4' r.1).aft (c := c) s hp)⟩
def sSetC (j : Nat) (f : DenC) : DenS := fun E => (f E).bind fun r => .ret (.nx (r.1.set j (some (.d r.2))))
theorem ss_setC {fc : DenC} (j : Nat) {n : Str} {p' : Pos} (hx : SEc b X e fc) (hN : X.N.Nodup) (hi : X.N[j]? = some n) (hl : Loc X.env.scope n) (hs : swapsWith e (some (.Name n p')) pos.line X.env = pure false := by rfl)
    (hf : X.fn n = true ∨ X.env.scope.names.lookup n = some .local := by first | exact .inl rfl | exact .inr rfl | assumption) : SS b X (.Assign [.Name n p'] e pos) (sSetC j fc) := .mk fun μ0 E ρ μ D R q =>
  ds_set j hN hi hl (hx.run μ0 E ρ μ _ R ((all_bind.mp q).imp fun r q μ' R' => q _ _ (R'.setD j r.2))) hs hf
abbrev DenBc := Env → Tree (Env × Bool)
structure STc (b : Addr) (X : Cx) (e : Expr) (f : DenBc) : Prop where
  run : ∀ μ0 E ρ μ Φ, Rel b μ0 E ρ μ → (f E).All (fun r => ∀ μ', Rel b μ0 r.1 ρ μ' → Φ r.2 μ') → DT X e ρ μ Φ
structure SWc (b : Addr) (X : Cx) (e : Expr) (f : DenBc) : Prop where
  run : ∀ μ0 E ρ μ Φ, Rel b μ0 E ρ μ → (f E).All (fun r => ∀ μ', Rel b μ0 r.1 ρ μ' → Φ r.2 μ') → DW X e ρ μ Φ
def tOrC (f : DenB) (g : DenBc) : DenBc := fun E => (f E).bind fun k => match k with | true => .ret (E, true) | false => g E
theorem swc_or1 {fc : DenBc} (h : STc b X x fc) : SWc b X (.BoolOp .Or [x] pos) fc := .mk fun μ0 E ρ μ Φ R q => dw_or1 (h.run μ0 E ρ μ Φ R q)
theorem swc_or {y : Expr} {rest : List Expr} {fb : DenB} {gb : DenBc} (h : ST b X x fb) (k : SWc b X (.BoolOp .Or (y :: rest) pos) gb) : SWc b X (.BoolOp .Or (x :: y :: rest) pos) (tOrC fb gb) := .mk fun μ0 E ρ μ Φ R q =>
  dw_or (h.run μ0 E ρ μ _ R ((all_bind.mp q).imp fun v q μ1 s1 => by
    cases v with
    | true =>
      rw [if_pos rfl]
      exact q μ1 (R.step s1)
    | false =>
      rw [if_neg (by decide)]
      exact k.run μ0 E ρ μ1 _ (R.step s1) q))
theorem stc_w {fc : DenBc} (h : SWc b X e fc) : STc b X e fc := .mk fun μ0 E ρ μ Φ R q => (h.run μ0 E ρ μ Φ R q).dt
def sIfC (c : DenBc) (s1 s2 : DenS) : DenS := fun E => (c E).bind fun r => match r.2 with | true => s1 r.1 | false => s2 r.1
theorem ss_ifC {c : Expr} {s1 s2 : List Stmt} {fc : DenBc} {g1 g2 : DenS} (hc : STc b X c fc) (h1 : SSs b X s1 g1) (h2 : SSs b X s2 g2) : SS b X (.If c s1 s2 pos) (sIfC fc g1 g2) := .mk fun μ0 E ρ μ D R q =>
  ds_if (hc.run μ0 E ρ μ _ R ((all_bind.mp q).imp fun r q μ1 R1 => by
    obtain ⟨E1, k⟩ := r
    cases k with
    | true =>
      rw [if_pos rfl]
      exact h1.run μ0 E1 ρ μ1 D R1 q
    | false =>
      rw [if_neg (by exact Bool.false_ne_true)]
      exact h2.run μ0 E1 ρ μ1 D R1 q))
end
end Nx
set_option maxHeartbeats 4000000
namespace Nx
open PySem PySem.Spec PyProof.Rows L2
open Tree
def unI : List PyData → Option (List Int)
  | [] => some []
  | .int i :: ds => (unI ds).map (i :: ·)
  | _ => none
theorem unI_some : ∀ {ds : List PyData} {is : List Int}, unI ds = some is → ds = is.map .int
  | [], is, h => by cases h; rfl
  | d :: ds, is, h => by
    cases d with
    | int i =>
      rw [unI] at h
      cases hu : unI ds with
      | none => rw [hu] at h; cases h
      | some js =>
        rw [hu] at h
        cases h
        rw [unI_some hu]
        rfl
    | _ => cases h
theorem unI_iL (is : List Int) : unI (is.map .int) = some is := by
  induction is with
  | nil => rfl
  | cons i is ih => rw [List.map_cons, unI, ih]; rfl
structure CMk (P : Program) (w : World) (K : PySem.W.Frag) (mg : Str → Option Value) (base : Heap) (C : Addr) (n : Str) (k : Nat) : Prop where
  ex : ∃ fI fd, Mk K C fI ∧ FnOk P w K mg base CX0 k fI fd ["self", "size", "table"] (spCI C) ∧ Binds K fd ["self", "size", "table"] [] ∧ mg n = some (.ref C)
def cNew (C : Addr) (f g : DenE) : Env → Tree Cir := fun E => (f E).bind fun x => (g E).bind fun y => match x with
  | .int sz => (liftO ((items y).bind unI)).bind fun bg => .ret ⟨C, sz, bg, [], []⟩
  | _ => .fail
section
variable {b : Addr} {X : Cx} {e x y z : Expr} {es : List Expr} {f fx fy fz : DenE} {pos p : Pos} {C : Addr}
structure SCn (b : Addr) (X : Cx) (e : Expr) (f : Env → Tree Cir) : Prop where
  run : ∀ μ0 E ρ μ Φ, Rel b μ0 E ρ μ → (f E).All (fun c => ∀ μ' a, Bs b μ μ' → μ'.d a = none → Φ (.own a) (μ'.putD a (.cir c))) → DE X e ρ μ Φ
theorem scn_make {k : Nat} {n : Str} (M : CMk X.prog X.w X.K X.mg X.base C n k) (hr : Rm (k + 1) X.A) (hg : Gl X n) (hx : SE b X x fx) (hy : SE b X y fy) (hdb : (n == ("__debug__" : Str)) = false := by decide)
    (h1 : starEach [x, y] X.env = (false, eval x X.env) :: starEach [y] X.env := by rfl) (h2 : starEach [y] X.env = (false, eval y X.env) :: starEach [] X.env := by rfl) (hpl : (backTo pos (starEach [y] X.env)).any (·.1) = false := by rfl) : SCn b X (.Call (.Name n p) [x, y] [] pos) (cNew C fx fy) := .mk fun μ0 E ρ μ Φ R q => by
  obtain ⟨fI, fd, hM, FI, bI, hm⟩ := M.ex
  refine de_cmake hM FI bI hr hg hm (da_cons (hx.run μ0 E ρ μ _ R ((all_bind.mp q).imp fun d q μ1 s1 => da_cons (hy.run μ0 E ρ μ1 _ (R.step s1) ((all_bind.mp q).imp fun d' q μ2 s2 => da_nil ?_)) h2)) h1) hdb h1 h2 hpl
  cases d with
  | int sz =>
    obtain ⟨bg, hbg, q⟩ := lift_all (all_bind.mp q)
    refine ⟨sz, d', bg, rfl, ?_, fun a ha => q μ2 a (s1.trans s2) ha⟩
    cases d' with
    | list xs => exact .inr (by rw [unI_some (show unI xs = some bg from hbg)])
    | tuple xs => exact .inl (by rw [unI_some (show unI xs = some bg from hbg)])
    | _ => cases hbg
  | _ => exact q.elim
def sParC (i j l : Nat) (fx : DenE) (fc : Env → Tree Cir) (fz : DenE) : DenS := fun E => (fx E).bind fun d => (fc E).bind fun c => (fz E).bind fun d' => match d' with | .list xs => .ret (.nx (((E.set i (some (.d d))).set j (some (.cir c))).set l (some (.own xs)))) | _ => .fail
theorem ss_parC (i j l : Nat) {fc : Env → Tree Cir} {n m o : Str} {px py pz pt : Pos} {kt k2 pt2} (hc : X.calm = true) (hN : X.N.Nodup) (hi : X.N[i]? = some n) (hj : X.N[j]? = some m) (hl : X.N[l]? = some o) (hij : i ≠ j) (hil : i ≠ l) (hjl : j ≠ l)
    (hx : X.env.scope.names.lookup n = some .local) (hy : X.env.scope.names.lookup m = some .local) (hz : X.env.scope.names.lookup o = some .local) (hw : swappedStores [.Tuple [.Name n px, .Name m py, .Name o pz] kt pt] (.Tuple [x, y, z] k2 pt2) X.env = pure (some [n, m, o]))
    (h1 : SE b X x fx) (h2 : SCn b X y fc) (h3 : SO b X z fz) (e1 : starEach [x, y, z] X.env = (false, eval x X.env) :: starEach [y, z] X.env := by rfl) (e2 : starEach [y, z] X.env = (false, eval y X.env) :: starEach [z] X.env := by rfl) (e3 : starEach [z] X.env = (false, eval z X.env) :: starEach [] X.env := by rfl)
    (hs : swapsWithSole [.Tuple [.Name n px, .Name m py, .Name o pz] kt pt] (.Tuple [x, y, z] k2 pt2) pos.line X.env = pure false := by rfl) : SS b X (.Assign [.Tuple [.Name n px, .Name m py, .Name o pz] kt pt] (.Tuple [x, y, z] k2 pt2) pos) (sParC i j l fx fc fz) := .mk fun μ0 E ρ μ D R q =>
  ds_par3 i j l hc hN hi hj hl hij hil hjl hx hy hz hw (da_cons (h1.run μ0 E ρ μ _ R ((all_bind.mp q).imp fun d q μ1 s1 => da_cons (h2.run μ0 E ρ μ1 _ (R.step s1) ((all_bind.mp q).imp fun c q μ2 a s2 ha => da_cons (h3.run μ0 E ρ _ _ (((R.step s1).step s2).step (Bs.putD ha)) ((all_bind.mp q).imp fun d' q => by
    cases d' with
    | list xs => exact ⟨xs, rfl, fun μ3 p s3 hp => da_nil ⟨_, _, _, rfl, q _ _ ((((((R.step s1).step s2).setD i d).setT j (w := .cir c) rfl ha).step s3).setO l hp)⟩⟩
    | _ => exact q.elim)) e3)) e2)) e1) hs
theorem de_chainG {a b c : Expr} {ρ : Rho} {μ : Mu} {Φ : OV → Mu → Prop} {op op' : CmpOp} {r r' : R2} (ho : OpR X (compareOp op) r) (ho' : OpR X (compareOp op') r')
    (h : DE X a ρ μ fun x μ1 => DE X b ρ μ1 fun y μ2 => OpD r x y μ2 fun z μ3 => ∃ k, z = .im (.bool k) ∧ if k = true then DE X c ρ μ3 fun w μ4 => OpD r' y w μ4 Φ else Φ (.im (.bool false)) μ3)
    (hm : lastMarks [op, op'] [b, c] = false := by with_unfolding_all rfl) : DE X (.Compare a [op, op'] [b, c] pos) ρ μ Φ := fun G H σ m v Q f =>
  WE.of (pe_chain ho ho' pwe pwe pwe hm) (h G H σ m v _ fun vx x μ1 G1 H1 q1 e1 m1 r1 => q1 G1 H1 σ m1 (v.mono e1) _ fun vy y μ2 G2 H2 q2 e2 m2 r2 => by
    refine q2 G2 H2 vx vy m2 (r1.mono e2) r2 _ fun vz z μ3 G3 H3 q3 e3 m3 r3 => ?_
    obtain ⟨k, rfl, q⟩ := q3
    cases r3
    refine ⟨k, rfl, ?_⟩
    cases k with
    | true =>
      rw [if_pos rfl] at q ⊢
      exact q G3 H3 σ m3 (v.mono ((e1.trans e2).trans e3)) _ fun vw w' μ4 G4 H4 q4 e4 m4 r4 => q4 G4 H4 vy vw m4 (r2.mono (e3.trans e4)) r4 Q (f.later (((e1.trans e2).trans e3).trans e4))
    | false =>
      rw [if_neg (by decide)] at q ⊢
      exact f _ _ _ _ _ q ((e1.trans e2).trans e3) m3 (Dv.bl _))
def dCh2 (g g' : PyData → PyData → Option Bool) (f h k : DenE) : DenE := fun E => (f E).bind fun x => (h E).bind fun y => (liftO (g x y)).bind fun t => match t with
  | true => (k E).bind fun z => liftO (bD g' y z)
  | false => .ret (.bool false)
theorem se_chainG {op op' : CmpOp} {r r' : R2} {g g' : PyData → PyData → Option Bool} (ho : OpR X (compareOp op) r) (ho' : OpR X (compareOp op') r') (hk : OkCmp r g) (hk' : OkCmp r' g') (hx : SE b X x fx) (hy : SE b X y fy) (hz : SE b X z fz)
    (hm : lastMarks [op, op'] [y, z] = false := by with_unfolding_all rfl) : SE b X (.Compare x [op, op'] [y, z] pos) (dCh2 g g' fx fy fz) := .mk fun μ0 E ρ μ Φ R h =>
  de_chainG ho ho' (hx.run μ0 E ρ μ _ R ((all_bind.mp h).imp fun d q μ1 s1 => hy.run μ0 E ρ μ1 _ (R.step s1) ((all_bind.mp q).imp fun d' q μ2 s2 => by
    obtain ⟨t, ht, q⟩ := lift_all (all_bind.mp q)
    refine hk d d' t μ2 _ ht ⟨t, rfl, ?_⟩
    cases t with
    | true =>
      rw [if_pos rfl]
      refine hz.run μ0 E ρ μ2 _ ((R.step s1).step s2) ((all_bind.mp q).imp fun d3 q μ3 s3 => ?_)
      obtain ⟨v, hv, q⟩ := lift_all q
      obtain ⟨k, hk2, rfl⟩ := bD_some hv
      exact hk' d' d3 k μ3 Φ hk2 (q μ3 ((s1.trans s2).trans s3))
    | false =>
      rw [if_neg (by decide)]
      exact q μ2 (s1.trans s2)))) hm
theorem gives_rangeC {lo c : Int} {n : Nat} {G : Hp} : Gives (Itc lo c n) ⟨(List.range n).map fun (k : Nat) => .im (.int (lo + (k : Int) * c)), fun _ => True⟩ G := by
  refine ⟨fun _ => True, YFn fun i => .int (lo + (i : Nat) * c), ?_, fun _ _ _ _ _ _ => trivial, fun i H' x H2 G' μ' e m _ y hi => ?_⟩
  · show Walk _ ((List.range n).map _).length _ _
    rw [List.length_map, List.length_range]
    exact walk_rangeC
  · obtain ⟨rfl, rfl⟩ := y
    have hi : i < n := by simpa using hi
    exact ⟨G', .im (.int (lo + (i : Int) * c)), Ex.refl _, m, by rw [List.getElem?_map, List.getElem?_range hi]; rfl, Dv.int _⟩
def rgD : PyData → PyData → Option (List PyData)
  | .int i, .int j => if -100000 ≤ i ∧ i ≤ 100000 ∧ -100000 ≤ j ∧ j ≤ 100000 then some ((List.range (i - j).toNat).map fun (k : Nat) => .int (i + (k : Int) * -1)) else none
  | _, _ => none
def iRd (f g : DenE) : DenL := fun E => (f E).bind fun x => (g E).bind fun y => liftO (rgD x y)
theorem si_rd {tg : Expr} {j : Nat} {p1 p2 : Pos} (B : Bt X.mg) (hg : Gl X "range") (hx : SE b X x fx) (hy : SE b X y fy) (he : starEach [x, y, .UnaryOp .USub (.Constant (.int 1) j p1) p2] X.env = (false, eval x X.env) :: starEach [y, .UnaryOp .USub (.Constant (.int 1) j p1) p2] X.env := by rfl)
    (he2 : starEach [y, .UnaryOp .USub (.Constant (.int 1) j p1) p2] X.env = (false, eval y X.env) :: starEach [.UnaryOp .USub (.Constant (.int 1) j p1) p2] X.env := by rfl)
    (he3 : starEach [.UnaryOp .USub (.Constant (.int 1) j p1) p2] X.env = (false, eval (.UnaryOp .USub (.Constant (.int 1) j p1) p2) X.env) :: starEach [] X.env := by rfl)
    (hpl : (backTo pos (starEach [y, .UnaryOp .USub (.Constant (.int 1) j p1) p2] X.env)).any (·.1) = false := by rfl) : SI b X tg (.Call (.Name "range" p) [x, y, .UnaryOp .USub (.Constant (.int 1) j p1) p2] [] pos) (iRd fx fy) := .mk fun μ0 E ρ μ Ψ R h =>
  ⟨_, pi_range3 hg B.range pwa he hpl, fun G H σ m v Rr f => (da_cons (Λ := fun os μ1 => ∃ i j : Int, os = [.im (.int i), .im (.int j), .im (.int (-1))] ∧ -100000 ≤ i ∧ i ≤ 100000 ∧ -100000 ≤ j ∧ j ≤ 100000 ∧ Ψ ⟨(List.range (i - j).toNat).map fun (k : Nat) => .im (.int (i + (k : Int) * -1)), fun _ => True⟩ μ1)
      (hx.run μ0 E ρ μ _ R ((all_bind.mp h).imp fun d q μ1 s1 => da_cons (hy.run μ0 E ρ μ1 _ (R.step s1) ((all_bind.mp q).imp fun d' q μ2 s2 => da_cons (se_neg (se_int (b := b)) |>.run μ0 E ρ μ2 _ ((R.step s1).step s2) (fun μ3 s3 => da_nil (by
        obtain ⟨xs, hxs, q⟩ := lift_all q
        cases d with
        | int i =>
          cases d' with
          | int j =>
            simp only [rgD] at hxs
            split at hxs
            · rename_i hj
              cases hxs
              refine ⟨i, j, rfl, hj.1, hj.2.1, hj.2.2.1, hj.2.2.2, ?_⟩
              have := q μ3 ((s1.trans s2).trans s3)
              rw [List.map_map] at this
              exact this
            · cases hxs
          | _ => cases hxs
        | _ => cases hxs)) ) he3)) he2)) he) G H σ m v _ fun vs os μ1 G1 H1 q1 e1 m1 r1 => by
    obtain ⟨i, j, rfl, h1, h2, h3, h4, q⟩ := q1
    cases r1 with
    | cons r1 t =>
      cases t with
      | cons r2 t =>
        obtain ⟨u, rfl, ru⟩ := ro1 t
        cases r1
        cases r2
        cases ru
        exact ⟨i, j, -1, (i - j).toNat, rfl, RgC.neg (by omega) (by omega) (by omega) (by omega), f _ _ _ _ _ q e1 m1 gives_rangeC⟩⟩
theorem de_callA {x n : Str} {st : Stmt} {ps : List Str} {k : Nat} {Cn : Ct} {ρ : Rho} {μ : Mu} {Φ : OV → Mu → Prop} (F : Fc X.prog X.w X.K X.mg X.base x st ps k Cn) (hal : X.mg n = X.mg x) (hr : Rm k X.A) (hg : Gl X n)
    (hb : ∀ (kV doc pm : Value) (an : Option Addr) (cdv ct : Value) (us : List Value), us.length = ps.length → bindArgs (PySem.W.fnOf x x (defArgs st) (defBody st) (defScope st) .none kV doc pm an cdv ct) ⟨us, []⟩ = pure (ps.zip us))
    (h : DA X (e :: es) ρ μ fun os μ1 => Cn os μ1 Φ) (hdb : (n == ("__debug__" : Str)) = false := by decide) (he : starEach (e :: es) X.env = (false, eval e X.env) :: starEach es X.env := by rfl) (hpl : (backTo pos (starEach es X.env)).any (·.1) = false := by rfl) :
    DE X (.Call (.Name n p) (e :: es) [] pos) ρ μ Φ := fun G H σ m v Q f pins s I => by
  obtain ⟨fa, fd, FF, hm, FG⟩ := F.ex
  refine wpAny_Call_Name_kw (ld_glob I hg (hal.trans hm) ?_ hdb)
  have hargs : WA X (e :: es) σ H fun vs H1 => spOf Cn vs H1 Q fun _ _ _ => False := h G H σ m v _ fun vs os μ1 G1 H1 q1 e1 m1 r1 => ⟨os, μ1, G1, Φ, m1, r1, q1, f.later e1⟩
  refine PySem.W.callWith_K (h₀ := X.base) I.ok.mod.kin FF.kp (thn (hargs pos pins s I) fun us s1 ⟨vs, H1, I1, r, q⟩ => ⟨I1.kIn, ?_⟩) he hpl
  refine run_g (args := ⟨us, []⟩) FG hr passE I1 ?_ r q
  obtain ⟨oc, od, kV, doc, pm, an, cdv, ct, osl, rfl, lk, hcd⟩ := FF.ex
  exact .of_eq (hb kV doc pm an cdv ct us (by rw [← r.length]; exact FG.len _ _ _ _ q))
theorem se_callA {F : List W → Tree PyData} {nm n : Str} {st : Stmt} {ps : List Str} {k : Nat} {gs : Env → Tree (List W)} (FC : Fc X.prog X.w X.K X.mg X.base nm st ps k (cF F)) (hal : X.mg n = X.mg nm) (hr : Rm k X.A) (hg : Gl X n)
    (hb : ∀ (kV doc pm : Value) (an : Option Addr) (cdv ct : Value) (us : List Value), us.length = ps.length → bindArgs (PySem.W.fnOf nm nm (defArgs st) (defBody st) (defScope st) .none kV doc pm an cdv ct) ⟨us, []⟩ = pure (ps.zip us))
    (ha : SA b X (x :: es) gs) (hdb : (n == ("__debug__" : Str)) = false := by decide) (he : starEach (x :: es) X.env = (false, eval x X.env) :: starEach es X.env := by rfl) (hpl : (backTo pos (starEach es X.env)).any (·.1) = false := by rfl) : SE b X (.Call (.Name n p) (x :: es) [] pos) (dCall F gs) := .mk fun μ0 E ρ μ Φ R h =>
  de_callA FC hal hr hg hb (ha.run μ0 E ρ μ _ R ((all_bind.mp h).imp fun ws q μ1 s1 => ⟨b, ws, rfl, (R.step s1).bxs, q.imp fun d q μ2 s2 => q μ2 (s1.trans s2)⟩)) hdb he hpl
def tNBc (i : Bool) (f : DenC) : DenBc := fun E => (f E).bind fun r => (liftO (qNotB i r.2)).bind fun k => .ret (r.1, k)
theorem stc_notB {i : Bool} {j : Nat} {p' : Pos} {fc : DenC} (hx : SEc b X x fc) : STc b X (.Compare x [.IsNot] [.Constant (.bool i) j p'] pos) (tNBc i fc) := .mk fun μ0 E ρ μ Φ R h =>
  dt_notB (hx.run μ0 E ρ μ _ R ((all_bind.mp h).imp fun r q μ1 R1 => by
    obtain ⟨k, hk, q⟩ := lift_all (all_bind.mp q)
    obtain ⟨E1, d⟩ := r
    cases d <;> cases hk
    exact ⟨_, rfl, q μ1 R1⟩))
end
end Nx
namespace Nx
open PySem PySem.Spec PyProof.Rows L2
open Tree
structure Tbl (n : Nat) (ns : List Int) : Prop where
  asc : ns.Pairwise (· < ·)
  mem : ∀ x ∈ ns, 0 ≤ x ∧ x < n
theorem srt_len (ns : List Int) : (srt ns).length = ns.length := (srt_perm ns).length_eq
theorem srt_mem {ns : List Int} {x : Int} : x ∈ srt ns ↔ x ∈ ns := (srt_perm ns).mem_iff
theorem pw_lt : ∀ {l : List Int}, l.Pairwise (· ≤ ·) → l.Nodup → l.Pairwise (· < ·)
  | [], _, _ => .nil
  | a :: l, h, d => by
    obtain ⟨h1, h2⟩ := List.pairwise_cons.mp h
    obtain ⟨d1, d2⟩ := List.nodup_cons.mp d
    refine List.pairwise_cons.mpr ⟨fun x hx => ?_, pw_lt h2 d2⟩
    have := h1 x hx
    have : a ≠ x := fun e => d1 (e ▸ hx)
    omega
theorem tbl_srt {n : Nat} {ms : List Int} (d : ms.Nodup) (h : ∀ x ∈ ms, 0 ≤ x ∧ x < n) : Tbl n (srt ms) :=
  ⟨pw_lt (srt_pw ms) ((srt_perm ms).nodup_iff.mpr d), fun x hx => h x (srt_mem.mp hx)⟩
theorem Tbl.srt {n : Nat} {ns : List Int} (h : Tbl n ns) : srt ns = ns := (srt_eq (List.Perm.refl ns) (h.asc.imp fun {a b} h => by omega)).symm
theorem nums_eq (n : Nat) : nums n = iL ((List.range n).map fun (k : Nat) => (k : Int)) := by
  unfold nums iL
  rw [List.map_map]
  rfl
theorem perm_ints : ∀ {es : List PyData} {ns : List Int}, es.Perm (iL ns) → ∃ ms : List Int, es = iL ms ∧ ms.Perm ns := by
  intro es ns h
  have hall : ∀ d ∈ es, ∃ i : Int, d = .int i := fun d hd => by
    obtain ⟨i, _, e⟩ := List.mem_map.mp (h.mem_iff.mp hd)
    exact ⟨i, e.symm⟩
  have hex : ∀ es : List PyData, (∀ d ∈ es, ∃ i : Int, d = .int i) → ∃ ms : List Int, es = iL ms := by
    intro es
    induction es with
    | nil => exact fun _ => ⟨[], rfl⟩
    | cons d es ih =>
      intro h
      obtain ⟨i, rfl⟩ := h d (List.mem_cons_self ..)
      obtain ⟨ms, rfl⟩ := ih fun d hd => h d (List.mem_cons_of_mem _ hd)
      exact ⟨i :: ms, rfl⟩
  obtain ⟨ms, rfl⟩ := hex es hall
  refine ⟨ms, rfl, ?_⟩
  have := h.map (fun d => match d with | PyData.int i => i | _ => 0)
  simpa [iL, List.map_map, Function.comp_def] using this
def dst (n c s : Int) : Int := (s - c) % n
structure Near (n c : Int) (ss : List Int) (k : Nat) (s : Int) : Prop where
  at_ : ss[k]? = some s
  le : ∀ (j : Nat) s', ss[j]? = some s' → dst n c s ≤ dst n c s'
  lt : ∀ (j : Nat) s', j < k → ss[j]? = some s' → dst n c s < dst n c s'
theorem Near.uniq {n c : Int} {ss : List Int} {k k' : Nat} {s s' : Int} (a : Near n c ss k s) (b : Near n c ss k' s') : k = k' ∧ s = s' := by
  have e : k = k' := by
    rcases Nat.lt_trichotomy k k' with h | h | h
    · have h1 := b.lt k s h a.at_
      have h2 := a.le k' s' b.at_
      omega
    · exact h
    · have h1 := a.lt k' s' h b.at_
      have h2 := b.le k s a.at_
      omega
  subst e
  have := a.at_.symm.trans b.at_
  exact ⟨rfl, Option.some.inj this⟩
def nearIx (n c : Int) : List Int → Nat
  | [] => 0
  | s :: r => if r = [] then 0 else if dst n c (r.getD (nearIx n c r) 0) < dst n c s then nearIx n c r + 1 else 0
theorem near_ix {n c : Int} : ∀ {ss : List Int}, ss ≠ [] → Near n c ss (nearIx n c ss) (ss.getD (nearIx n c ss) 0)
  | [], h => absurd rfl h
  | s :: r, _ => by
    by_cases hr : r = []
    · subst hr
      unfold nearIx
      rw [if_pos rfl]
      refine ⟨rfl, fun j s' hj => ?_, fun j s' hj => absurd hj (Nat.not_lt_zero _)⟩
      cases j with
      | zero =>
        cases hj
        exact Int.le_refl _
      | succ j => simp at hj
    · have ih := near_ix (n := n) (c := c) hr
      unfold nearIx
      rw [if_neg hr]
      by_cases hd : dst n c (r.getD (nearIx n c r) 0) < dst n c s
      · rw [if_pos hd]
        refine ⟨ih.at_, fun j s' hj => ?_, fun j s' hjk hj => ?_⟩
        · cases j with
          | zero =>
            cases hj
            show dst n c (r.getD (nearIx n c r) 0) ≤ _
            omega
          | succ j => exact ih.le j s' hj
        · cases j with
          | zero =>
            cases hj
            exact hd
          | succ j => exact ih.lt j s' (by omega) hj
      · rw [if_neg hd]
        refine ⟨rfl, fun j s' hj => ?_, fun j s' hj => absurd hj (Nat.not_lt_zero _)⟩
        cases j with
        | zero =>
          cases hj
          exact Int.le_refl _
        | succ j =>
          have := ih.le j s' hj
          show dst n c s ≤ _
          omega
def moverL (n c : Int) (ss : List Int) : Option Nat := if dst n c (ss.getD (nearIx n c ss) 0) = 0 then none else some (nearIx n c ss)
def callL (n c : Int) (ss : List Int) : List Int := match moverL n c ss with
  | none => ss
  | some k => ss.set k c
def optI : Option Nat → PyData
  | none => .none
  | some k => .int (k : Int)
theorem Near.mover {n c : Int} {ss : List Int} {k : Nat} {s : Int} (a : Near n c ss k s) : moverL n c ss = if dst n c s = 0 then none else some k := by
  have hne : ss ≠ [] := fun e => by
    have := a.at_
    rw [e] at this
    simp at this
  obtain ⟨h1, h2⟩ := (near_ix (n := n) (c := c) hne).uniq a
  unfold moverL
  rw [h2, h1]
theorem dst_lt {n c s : Int} (h : 0 < n) : 0 ≤ dst n c s ∧ dst n c s < n := ⟨Int.emod_nonneg _ (by omega), Int.emod_lt_of_pos _ h⟩
theorem dst_sub {n c s : Int} (h : 0 ≤ c ∧ c < n) : (s - dst n c s) % n = c := by
  unfold dst
  rw [Int.sub_emod, Int.emod_emod_of_dvd _ (Int.dvd_refl n), ← Int.sub_emod, show s - (s - c) = c by omega]
  exact Int.emod_eq_of_lt h.1 h.2
theorem near_ex {n c : Int} {ss : List Int} (hne : ss ≠ []) : ∃ k s, Near n c ss k s := ⟨_, _, near_ix hne⟩
theorem mem_of_dst {n : Nat} {c : Int} {ss : List Int} (hb : ∀ x ∈ ss, 0 ≤ x ∧ x < n) (hne : ss ≠ []) (n0 : 0 < n) (hc : 0 ≤ c ∧ c < n) : (moverL n c ss = none) ↔ c ∈ ss := by
  have nr := near_ix (n := (n : Int)) (c := c) hne
  have hm : ss.getD (nearIx n c ss) 0 ∈ ss := List.mem_of_getElem? nr.at_
  rw [nr.mover]
  constructor
  · intro h
    by_cases h0 : dst n c (ss.getD (nearIx n c ss) 0) = 0
    · have h1 := dst_sub (n := (n : Int)) (s := ss.getD (nearIx n c ss) 0) hc
      rw [h0, Int.sub_zero, Int.emod_eq_of_lt (hb _ hm).1 (hb _ hm).2] at h1
      rw [← h1]
      exact hm
    · rw [if_neg h0] at h
      cases h
  · intro h
    obtain ⟨j, hj⟩ := List.getElem?_of_mem h
    have h1 := nr.le j c hj
    have h2 : dst n c c = 0 := by unfold dst; simp
    have h3 := (dst_lt (n := (n : Int)) (c := c) (s := ss.getD (nearIx n c ss) 0) (by omega)).1
    rw [if_pos (by omega)]
theorem add_dst {n c s : Int} (h : 0 ≤ s ∧ s < n) : (c + dst n c s) % n = s := by
  unfold dst
  rw [Int.add_emod, Int.emod_emod_of_dvd _ (Int.dvd_refl n), ← Int.add_emod, show c + (s - c) = s by omega]
  exact Int.emod_eq_of_lt h.1 h.2
theorem mover_lt {n c : Int} {ss : List Int} (hne : ss ≠ []) {k : Nat} (h : moverL n c ss = some k) : k < ss.length := by
  obtain ⟨j, t, nr⟩ := near_ex (n := n) (c := c) hne
  rw [nr.mover] at h
  split at h
  · cases h
  · cases h
    exact (List.getElem?_eq_some_iff.mp nr.at_).1
theorem callL_mem {n : Nat} {c : Int} {ss : List Int} (hb : ∀ x ∈ ss, 0 ≤ x ∧ x < n) (hc : 0 ≤ c ∧ c < n) : ∀ x ∈ callL n c ss, 0 ≤ x ∧ x < n := by
  intro x hx
  unfold callL at hx
  split at hx
  · exact hb x hx
  · rcases List.mem_or_eq_of_mem_set hx with h | h
    · exact hb x h
    · rw [h]
      exact hc
theorem callL_get {n c : Int} {ss : List Int} {i : Nat} {s : Int} (h : ss[i]? = some s) : (callL n c ss)[i]? = some (if moverL n c ss = some i then c else s) := by
  unfold callL
  cases e : moverL n c ss with
  | none => simpa using h
  | some k =>
    by_cases hk : k = i
    · subst hk
      simp only [if_true]
      exact List.getElem?_set_self (List.getElem?_eq_some_iff.mp h).1
    · simp only [Option.some.injEq, hk, if_false]
      rw [List.getElem?_set_ne hk, h]
theorem callL_len {n c : Int} {ss : List Int} : (callL n c ss).length = ss.length := by
  unfold callL
  split
  · rfl
  · exact List.length_set
def runS (n : Int) (ss cs : List Int) : List Int := cs.foldl (fun s c => callL n c s) ss
def AL (n : Int) (ss cs : List Int) : List (List Int) := (List.range (cs.length + 1)).map fun j => runS n ss (cs.take j)
theorem runS_succ {n : Int} {ss cs : List Int} {j : Nat} {c : Int} (h : cs[j]? = some c) : runS n ss (cs.take (j + 1)) = callL n c (runS n ss (cs.take j)) := by
  unfold runS
  rw [List.take_add_one, h, List.foldl_append]
  rfl
theorem runS_len (n : Int) : ∀ (cs ss : List Int), (runS n ss cs).length = ss.length
  | [], _ => rfl
  | c :: cs, ss => by
    show (runS n (callL n c ss) cs).length = _
    rw [runS_len n cs, callL_len]
theorem runS_all (n : Int) (ss cs : List Int) : runS n ss (cs.take cs.length) = runS n ss cs := by rw [List.take_length]
theorem AL_len (n : Int) (ss cs : List Int) : (AL n ss cs).length = cs.length + 1 := by simp [AL]
theorem AL_get {n : Int} {ss cs : List Int} {j : Nat} (h : j ≤ cs.length) : (AL n ss cs)[j]? = some (runS n ss (cs.take j)) := by
  unfold AL
  rw [List.getElem?_map, List.getElem?_range (by omega)]
  rfl
def dLs (ls : List (List Int)) : List PyData := ls.map fun s => .list (iL s)
def zipStep (n : Int) (t a b : List Int) : List Int := (t.zip (a.zip b)).map fun q => q.1 + (q.2.1 - q.2.2) % n
def stepsL (n : Int) (ss cs : List Int) : List Int := (List.range cs.length).foldl (fun t j => zipStep n t (runS n ss (cs.take j)) (runS n ss (cs.take (j + 1)))) (ss.map fun _ => 0)
theorem zipStep_len {n : Int} {t a b : List Int} (h1 : t.length = a.length) (h2 : a.length = b.length) : (zipStep n t a b).length = t.length := by
  simp [zipStep]
  omega
def stT (n : Int) (ss cs : List Int) (i : Nat) : List Int := (List.range i).foldl (fun t j => zipStep n t (runS n ss (cs.take j)) (runS n ss (cs.take (j + 1)))) (ss.map fun _ => 0)
theorem stT_succ (n : Int) (ss cs : List Int) (i : Nat) : stT n ss cs (i + 1) = zipStep n (stT n ss cs i) (runS n ss (cs.take i)) (runS n ss (cs.take (i + 1))) := by
  unfold stT
  rw [List.range_succ, List.foldl_append]
  rfl
theorem stT_len (n : Int) (ss cs : List Int) : ∀ i, (stT n ss cs i).length = ss.length
  | 0 => by simp [stT]
  | i + 1 => by
    rw [stT_succ, zipStep_len (by rw [stT_len, runS_len]) (by rw [runS_len, runS_len]), stT_len]
def InR (n : Nat) (cs : List Int) : Prop := ∀ x ∈ cs, 0 ≤ x ∧ x < (n : Int)
def cell (M : List (List Int)) (c : Int) (j : Nat) : Int := (M.getD c.toNat []).getD j 0
theorem dst_mod {n c s : Int} : dst n c (s % n) = dst n c s := by
  unfold dst
  rw [Int.sub_emod, Int.emod_emod_of_dvd _ (Int.dvd_refl n), ← Int.sub_emod]
theorem Near.mod {n c : Int} {us : List Int} {k : Nat} {s : Int} (h : Near n c us k s) : Near n c (us.map (· % n)) k (s % n) := by
  refine ⟨?_, fun j s' hj => ?_, fun j s' hjk hj => ?_⟩
  · rw [List.getElem?_map, h.at_]
    rfl
  · rw [List.getElem?_map] at hj
    obtain ⟨u, hu, rfl⟩ := Option.map_eq_some_iff.mp hj
    rw [dst_mod, dst_mod]
    exact h.le j u hu
  · rw [List.getElem?_map] at hj
    obtain ⟨u, hu, rfl⟩ := Option.map_eq_some_iff.mp hj
    rw [dst_mod, dst_mod]
    exact h.lt j u hjk hu
theorem ne_of_len {a b : List Int} (h : a.length = b.length) (hb : b ≠ []) : a ≠ [] := fun e => by
  rw [e] at h
  exact hb (List.length_eq_zero_iff.mp h.symm)
theorem callL_eq {n : Nat} {c : Int} {ss : List Int} (hb : ∀ x ∈ ss, 0 ≤ x ∧ x < (n : Int)) (hne : ss ≠ []) (n0 : 0 < n) (hc : 0 ≤ c ∧ c < (n : Int)) : ss = callL n c ss ↔ c ∈ ss := by
  have hm := mem_of_dst (c := c) hb hne n0 hc
  constructor
  · intro h
    cases hv : moverL n c ss with
    | none => exact hm.mp hv
    | some k =>
      have hk := mover_lt hne hv
      have e : callL n c ss = ss.set k c := by
        unfold callL
        rw [hv]
      rw [e] at h
      have : ss[k]? = some c := by
        conv => lhs; rw [h]
        exact List.getElem?_set_self hk
      exact List.mem_of_getElem? this
  · intro h
    unfold callL
    rw [hm.mpr h]
theorem runS_mem {n : Nat} {ss cs : List Int} (hb : ∀ x ∈ ss, 0 ≤ x ∧ x < (n : Int)) (hc : ∀ c ∈ cs, 0 ≤ c ∧ c < (n : Int)) : ∀ x ∈ runS n ss cs, 0 ≤ x ∧ x < (n : Int) := by
  induction cs generalizing ss with
  | nil => exact hb
  | cons c cs ih => exact ih (callL_mem hb (hc c (List.mem_cons_self ..))) fun x hx => hc x (List.mem_cons_of_mem _ hx)
theorem runS_ne {n : Int} {ss cs : List Int} (h : ss ≠ []) : runS n ss cs ≠ [] := ne_of_len (runS_len n cs ss) h
structure Sqn (n k : Int) (x : Int → Int) : Prop where
  up : ∀ i, x (i - 1) < x i
  per : ∀ i, x (i + k) = x i + n
def cal (n c y : Int) : Int := y - (y - c) % n
def fCall (n c : Int) (x : Int → Int) : Int → Int := fun i => if x (i - 1) < cal n c (x i) then cal n c (x i) else x i
theorem cal_le {n c y : Int} (n0 : 0 < n) : cal n c y ≤ y ∧ y - n < cal n c y := by
  have h1 := Int.emod_nonneg (y - c) (show n ≠ 0 by omega)
  have h2 := Int.emod_lt_of_pos (y - c) n0
  unfold cal
  omega
theorem cal_add {n c y : Int} : cal n c (y + n) = cal n c y + n := by
  unfold cal
  rw [show y + n - c = (y - c) + n by omega, Int.add_emod_right]
  omega
theorem f_le {n c : Int} {x : Int → Int} (n0 : 0 < n) (i : Int) : fCall n c x i ≤ x i := by
  have := cal_le (n := n) (c := c) (y := x i) n0
  unfold fCall
  split <;> omega
theorem f_gt {n c : Int} {x : Int → Int} (h : ∀ i, x (i - 1) < x i) (i : Int) : x (i - 1) < fCall n c x i := by
  have := h i
  unfold fCall
  split <;> omega
theorem Sqn.call {n k : Int} {x : Int → Int} (h : Sqn n k x) (n0 : 0 < n) (c : Int) : Sqn n k (fCall n c x) := by
  refine ⟨fun i => ?_, fun i => ?_⟩
  · have h1 := f_le (c := c) (x := x) n0 (i - 1)
    have h2 := f_gt (n := n) (c := c) h.up i
    omega
  · unfold fCall
    rw [h.per i, cal_add, show i + k - 1 = (i - 1) + k by omega, h.per (i - 1)]
    by_cases hc : x (i - 1) < cal n c (x i)
    · rw [if_pos hc, if_pos (by omega)]
    · rw [if_neg hc, if_neg (by omega)]
theorem Sqn.lt {n k : Int} {x : Int → Int} (h : Sqn n k x) (i : Int) : ∀ d : Nat, 0 < d → x i < x (i + (d : Int))
  | 0, h0 => absurd h0 (Nat.lt_irrefl _)
  | 1, _ => by
    have := h.up (i + 1)
    rw [show i + 1 - 1 = i by omega] at this
    exact this
  | d + 2, _ => by
    have h1 := h.lt i (d + 1) (by omega)
    have h2 := h.up (i + ((d + 2 : Nat) : Int))
    rw [show i + ((d + 2 : Nat) : Int) - 1 = i + ((d + 1 : Nat) : Int) by omega] at h2
    omega
theorem Sqn.ltI {n k : Int} {x : Int → Int} (h : Sqn n k x) {i j : Int} (hij : i < j) : x i < x j := by
  have := h.lt i (j - i).toNat (by omega)
  rw [show i + ((j - i).toNat : Int) = j by omega] at this
  exact this
def minS (x y : Int → Int) : Int → Int := fun i => min (x i) (y i)
theorem Sqn.min {n k : Int} {x y : Int → Int} (h : Sqn n k x) (g : Sqn n k y) : Sqn n k (minS x y) := by
  refine ⟨fun i => ?_, fun i => ?_⟩
  · have h1 := h.up i
    have h2 := g.up i
    unfold minS
    omega
  · unfold minS
    rw [h.per, g.per]
    omega
def fCalls (n : Int) (cs : List Int) (x : Int → Int) : Int → Int := cs.foldl (fun x c => fCall n c x) x
theorem Sqn.calls {n k : Int} (n0 : 0 < n) : ∀ (cs : List Int) {x : Int → Int}, Sqn n k x → Sqn n k (fCalls n cs x)
  | [], _, h => h
  | c :: cs, _, h => Sqn.calls n0 cs (h.call n0 c)
theorem Sqn.pm {n k : Int} {x : Int → Int} (h : Sqn n k x) (i : Int) : ∀ m : Int, x (i + k * m) = x i + n * m := by
  have hn : ∀ (m : Nat) (i : Int), x (i + k * (m : Int)) = x i + n * (m : Int) := by
    intro m
    induction m with
    | zero => intro i; simp
    | succ m ih =>
      intro i
      have e1 : i + k * ((m + 1 : Nat) : Int) = (i + k * (m : Int)) + k := by
        rw [show ((m + 1 : Nat) : Int) = (m : Int) + 1 by omega, Int.mul_add]
        omega
      have e2 : n * ((m + 1 : Nat) : Int) = n * (m : Int) + n := by
        rw [show ((m + 1 : Nat) : Int) = (m : Int) + 1 by omega, Int.mul_add]
        omega
      rw [e1, h.per, ih, e2]
      omega
  intro m
  rcases Int.le_total 0 m with hm | hm
  · obtain ⟨j, rfl⟩ : ∃ j : Nat, m = (j : Int) := ⟨m.toNat, by omega⟩
    exact hn j i
  · obtain ⟨j, rfl⟩ : ∃ j : Nat, m = -(j : Int) := ⟨(-m).toNat, by omega⟩
    have := hn j (i + k * -(j : Int))
    rw [show i + k * -(j : Int) + k * (j : Int) = i by rw [Int.mul_neg]; omega] at this
    rw [Int.mul_neg n]
    omega
def pk (n k : Int) (c : Int) : Int → Int := fun i => c + ((i + k - 1) % k - (k - 1)) + n * ((i + k - 1) / k)
def pkAt (n k : Int) (x : Int → Int) (t : Int) : Int → Int := fun i => pk n k (x t) (i + -t) + n * 0
def lst (n k : Int) (x : Int → Int) (i : Int) : Nat → Int → Int
  | 0 => pkAt n k x i
  | m + 1 => minS (lst n k x i m) (pkAt n k x (i + ((m + 1 : Nat) : Int)))
theorem Sqn.inj {n k : Int} {x : Int → Int} (h : Sqn n k x) {i j : Int} (e : x i = x j) : i = j := by
  rcases Int.lt_trichotomy i j with hl | he | hg
  · have := h.ltI hl
    omega
  · exact he
  · have := h.ltI hg
    omega
theorem first_up {P : Int → Prop} (lo : Int) : ∀ d : Nat, ¬ P lo → P (lo + (d : Int)) → ∃ a, ¬ P (a - 1) ∧ P a
  | 0, h0, h1 => absurd (by rw [show lo + ((0 : Nat) : Int) = lo by omega] at h1; exact h1) h0
  | d + 1, h0, h1 => by
    by_cases h : P (lo + (d : Int))
    · exact first_up lo d h0 h
    · exact ⟨lo + ((d + 1 : Nat) : Int), by rw [show lo + ((d + 1 : Nat) : Int) - 1 = lo + (d : Int) by omega]; exact h, h1⟩
theorem Sqn.le {n k : Int} {x : Int → Int} (h : Sqn n k x) {i j : Int} (hij : i ≤ j) : x i ≤ x j := by
  rcases Int.lt_or_eq_of_le hij with h' | rfl
  · exact Int.le_of_lt (h.ltI h')
  · exact Int.le_refl _
theorem Sqn.zero {n : Nat} {k : Int} {x : Int → Int} (h : Sqn n k x) (n0 : 0 < n) (k0 : 1 ≤ k) : ∃ a, x (a - 1) < 0 ∧ 0 ≤ x a := by
  have e1 := h.pm 0 ((x 0).natAbs : Int)
  have e2 := h.pm 0 (-((x 0).natAbs + 1 : Int))
  have b1 : (1 : Int) * ((x 0).natAbs : Int) ≤ (n : Int) * ((x 0).natAbs : Int) := Int.mul_le_mul_of_nonneg_right (by omega) (by omega)
  have b2 : (1 : Int) * ((x 0).natAbs + 1 : Int) ≤ (n : Int) * ((x 0).natAbs + 1 : Int) := Int.mul_le_mul_of_nonneg_right (by omega) (by omega)
  rw [Int.mul_neg, Int.mul_neg] at e2
  have hlo : ¬ (0 ≤ x (0 + -(k * ((x 0).natAbs + 1 : Int)))) := by omega
  have hhi : 0 ≤ x (0 + k * ((x 0).natAbs : Int)) := by omega
  have hk : 0 ≤ k * ((x 0).natAbs : Int) := Int.mul_nonneg (by omega) (by omega)
  have hk2 : 0 ≤ k * ((x 0).natAbs + 1 : Int) := Int.mul_nonneg (by omega) (by omega)
  obtain ⟨a, ha, hb⟩ := first_up (P := fun i => 0 ≤ x i) (0 + -(k * ((x 0).natAbs + 1 : Int))) (k * ((x 0).natAbs : Int) + k * ((x 0).natAbs + 1 : Int)).toNat hlo (by
    rw [Int.toNat_of_nonneg (by omega), show (0 : Int) + -(k * ((x 0).natAbs + 1 : Int)) + (k * ((x 0).natAbs : Int) + k * ((x 0).natAbs + 1 : Int)) = 0 + k * ((x 0).natAbs : Int) by omega]
    exact hhi)
  exact ⟨a, by omega, hb⟩
def tabA (n : Nat) (ss cs : List Int) : List Int := srt (runS n ss cs)
theorem dst_inj {n c a b : Int} (n0 : 0 < n) (ha : 0 ≤ a ∧ a < n) (hb : 0 ≤ b ∧ b < n) (h : dst n c a = dst n c b) : a = b := by
  rw [← add_dst (c := c) ha, ← add_dst (c := c) hb, h]
def b_is_chair : DenS := (sC (sIf (tOr (tNot (tTr (d1 (pIsi "int") (dV 1)))) (tTr (d1 (pIsi "bool") (dV 1)))) (sRet (dC (.bool false))) s0) (sRet (dCh (fun i j => decide (i ≤ j)) (fun i j => decide (i < j)) (dC (.int 0)) (dV 1) (dV 0))))
def m_is_chair : List W → Tree PyData := fnF 2 2 (b_is_chair)
def b_mover : DenS := (sC (sSet 3 (dC .none)) (sC (sSet 4 (dV 0)) (sC (sFor (.tp [5, 6]) (wEn (dV 1)) (sC (sSet 7 (d2 pMod (d2 pSub (dV 6) (dV 2)) (dV 0))) (sIf (t2 cLt (dV 7) (dV 4)) (sC (sSet 3 (dV 5)) (sSet 4 (dV 7))) s0))) (sRet (dIf (t2 pEq (dV 4) (dC (.int 0))) (dC .none) (dV 3))))))
def m_mover : List W → Tree PyData := fnF 3 8 (b_mover)
def b_seats_called : DenS := (sC (sSet 3 (dCall m_mover (aC (aV 0) (aC (aV 1) (aC (aV 2) a0))))) (sRet (dLc (.tp [4, 5]) [4, 5] (wEn (dV 1)) (dIf (t2 pEq (dV 4) (dV 3)) (dV 2) (dV 5)))))
def m_seats_called : List W → Tree PyData := fnF 3 6 (b_seats_called)
def b_seats_along : DenS := (sC (sSet 3 (d1 pList (dV 1))) (sC (sOwn 4 (dL (lC (dV 3) l0))) (sC (sFor (.nm 5) (iS (dV 2)) (sC (sSet 3 (dCall m_seats_called (aC (aV 0) (aC (aV 3) (aC (aV 5) a0))))) (sApp 4 (dV 3)))) (sFrz 4 (sRet (dV 4))))))
def m_seats_along : List W → Tree PyData := fnF 3 6 (b_seats_along)
def b_as_table : DenS := (sRet (d1 pTup (d1 pSrt (dV 0))))
def m_as_table : List W → Tree PyData := fnF 1 1 (b_as_table)
def b_seats_after : DenS := (sRet (d2 pIx (dCall m_seats_along (aC (aV 0) (aC (aV 1) (aC (aV 2) a0)))) (d1 pNeg (dC (.int 1)))))
def m_seats_after : List W → Tree PyData := fnF 3 3 (b_seats_after)
def b_table_after : DenS := (sRet (dCall m_as_table (aC (aE (dCall m_seats_after (aC (aV 0) (aC (aV 1) (aC (aV 2) a0))))) a0)))
def m_table_after : List W → Tree PyData := fnF 3 3 (b_table_after)
def b_tables_along : DenS := (sRet (dLc (.nm 3) [3] (iS (dCall m_seats_along (aC (aV 0) (aC (aV 1) (aC (aV 2) a0))))) (dCall m_as_table (aC (aV 3) a0))))
def m_tables_along : List W → Tree PyData := fnF 3 4 (b_tables_along)
def b_idle_calls : DenS := (sC (sSet 3 (dCall m_seats_along (aC (aV 0) (aC (aV 1) (aC (aV 2) a0))))) (sRet (dLf (.nm 4) [4] (iR1 (d1 pLen (dV 2))) (t2 pEq (d2 pIx (dV 3) (dV 4)) (d2 pIx (dV 3) (d2 pAdd (dV 4) (dC (.int 1))))) (dV 4))))
def m_idle_calls : List W → Tree PyData := fnF 3 5 (b_idle_calls)
def b_steps : DenS := (sC (sSet 3 (dCall m_seats_along (aC (aV 0) (aC (aV 1) (aC (aV 2) a0))))) (sC (sSet 4 (dLc (.nm 7) [7] (iS (dV 1)) (dC (.int 0)))) (sC (sFor (.tp [5, 6]) (wZ2 (dV 3) (dSl (dV 3) (oS (dC (.int 1))) oN)) (sSet 4 (dLc (.tp [8, 9, 10]) [10, 9, 8] (wZ3 (dV 4) (dV 5) (dV 6)) (d2 pAdd (dV 8) (d2 pMod (d2 pSub (dV 9) (dV 10)) (dV 0)))))) (sRet (dV 4)))))
def m_steps : List W → Tree PyData := fnF 3 11 (b_steps)
def b_law_of : DenS := (sRet (d2 pIx (dV 1) (dCall takeF (aC (aV 0) (aC (aE (d1 pLen (dV 1))) a0)))))
def m_law_of : List W → Tree PyData := fnF 2 2 (b_law_of)
def b_law_span : DenS := (sRet (d2 pAdd (dC (.int 2)) (dCall takeF (aC (aV 0) (aC (aE (d2 pSub (dV 1) (dC (.int 1)))) a0)))))
def m_law_span : List W → Tree PyData := fnF 2 2 (b_law_span)
def b_law_crowd : DenS := (sC (sIf (t2 pEq (dCall takeF (aC (aV 0) (aC (aE (dC (.int 4))) a0))) (dC (.int 0))) (sC (sSet 3 (dCall takeF (aC (aV 0) (aC (aV 1) a0)))) (sRet (d1 pTup (d1 pSrt (dLc (.nm 4) [4] (iR1 (dV 2)) (d2 pMod (d2 pAdd (dV 3) (dV 4)) (dV 1))))))) s0) (sRet (d1 pTup (d1 pSrt (dSl (dCall strewnF (aC (aV 0) (aC (aE (d1 (fun d => lrg .list (rg1 d)) (dV 1))) a0))) oN (oS (dV 2)))))))
def m_law_crowd : List W → Tree PyData := fnF 3 5 (b_law_crowd)
def b_law_tour : DenS := (sC (sParO 5 6 (dCall takeF (aC (aV 0) (aC (aE (dC (.int 5))) a0))) (dL l0)) (sC (sSet 3 (dLc (.nm 4) [4] (iR1 (dC (.int 3))) (dCall takeF (aC (aV 0) (aC (aV 1) a0))))) (sC (sFor (.nm 4) (iR1 (dCall takeF (aC (aV 0) (aC (aE (d2 pAdd (dV 2) (dC (.int 1)))) a0)))) (sApp 6 (dIf (t2 pEq (dV 5) (dC (.int 0))) (dCall m_law_of (aC (aV 0) (aC (aV 3) a0))) (dCall takeF (aC (aV 0) (aC (aV 1) a0)))))) (sFrz 6 (sRet (d2 pIx (dL (lC (dV 6) (lC (dV 6) (lC (dV 6) (lC (d1 pSrt (dV 6)) (lC (d1 pRev (d1 pSrt (dV 6))) l0)))))) (dV 5)))))))
def m_law_tour : List W → Tree PyData := fnF 3 7 (b_law_tour)
def b_law_scene : DenS := (sC (sSet 2 (dCall m_law_span (aC (aV 0) (aC (aV 1) a0)))) (sC (sSet 3 (d2 pAdd (dC (.int 1)) (dCall takeF (aC (aV 0) (aC (aE (d2 pSub (dV 2) (dC (.int 1)))) a0))))) (sRet (dT (lC (dV 2) (lC (dV 3) (lC (dCall m_law_crowd (aC (aV 0) (aC (aV 2) (aC (aV 3) a0)))) l0)))))))
def m_law_scene : List W → Tree PyData := fnF 2 4 (b_law_scene)
def b_Circle_calls (C : Addr) : DenS := (sRet (dCcs C 0 2 1))
def m_Circle_calls (C : Addr) : List W → Tree PyData := fnM 3 (b_Circle_calls C)
def b_Circle_seats (C : Addr) : DenS := (sRet (dCall m_seats_after (aC (aE (dCg C 0 gSz)) (aC (aE (dCg C 0 gBg)) (aC (aE (dM0 C 0 (m_Circle_calls C))) a0)))))
def m_Circle_seats (C : Addr) : List W → Tree PyData := fnM 1 (b_Circle_seats C)
def b_Circle_call (C : Addr) : DenC := (cC (cNo (tNot (tTr (dCall m_is_chair (aC (aE (dCg C 0 gSz)) (aC (aV 1) a0)))))) (cC (sSet 2 (dCall m_mover (aC (aE (dCg C 0 gSz)) (aC (aE (dM0 C 0 (m_Circle_seats C))) (aC (aV 1) a0))))) (cC (sCops C 0 1) (cC (sCent C 0 "call") (cRet (dV 2))))))
def m_Circle_call (C : Addr) : List W → Tree (Cir × PyData) := fnMc 2 3 (b_Circle_call C)
def b_Circle_steps (C : Addr) : DenS := (sRet (dCall m_steps (aC (aE (dCg C 0 gSz)) (aC (aE (dCg C 0 gBg)) (aC (aE (dM0 C 0 (m_Circle_calls C))) a0)))))
def m_Circle_steps (C : Addr) : List W → Tree PyData := fnM 1 (b_Circle_steps C)
def b_Circle_table (C : Addr) : DenS := (sRet (dCall m_as_table (aC (aE (dM0 C 0 (m_Circle_seats C))) a0)))
def m_Circle_table (C : Addr) : List W → Tree PyData := fnM 1 (b_Circle_table C)
def b_Circle_undo (C : Addr) : DenC := (cIf (t2 pEq (dCg C 0 gLn) (dC (.int 0))) (cC (sCent C 0 "undo!") (cRet (dC (.bool false)))) (cC (sCdel C 0) (cC (sCent C 0 "undo") (cRet (dC (.bool true))))))
def m_Circle_undo (C : Addr) : List W → Tree (Cir × PyData) := fnMc 1 1 (b_Circle_undo C)
def b_law_right (C : Addr) : DenS := (sC (sAsg (.tp [2, 3, 4]) (dCall m_law_scene (aC (aV 0) (aC (aE (dC (.int 10))) a0)))) (sC (sParC 5 6 7 (dCall m_law_tour (aC (aV 0) (aC (aV 2) (aC (aE (dC (.int 30))) a0)))) (cNew C (dV 2) (dV 4)) (dL (lC (dC (.int 0)) l0))) (sC (sPar [8, 9] (lC (dCall m_tables_along (aC (aV 2) (aC (aV 4) (aC (aV 5) a0)))) (lC (dCall m_idle_calls (aC (aV 2) (aC (aV 4) (aC (aV 5) a0)))) l0))) (sC (sFor (.tp [1, 10]) (wEn (dV 5)) (sC (sPar [16, 17] (lC (dM0 C 6 (m_Circle_seats C)) (lC (dM0 C 6 (m_Circle_steps C)) l0))) (sC (sSet 11 (dL (lC (d1 pList (dV 16)) (lC (d1 pList (dV 17)) l0)))) (sC (sSetC 12 (dMc C 6 (m_Circle_call C) (aC (aV 10) a0))) (sC (sIf (t2 pNe (dL (lC (dV 16) (lC (dV 17) l0))) (dV 11)) (sRet (dC (.bool false))) s0) (sC (sApp 7 (d1 pSum (dM0 C 6 (m_Circle_steps C)))) (sC (sIf (tOr (t2 pNe (d1 pIsN (dV 12)) (d2 (bD pIn) (dV 1) (dV 9))) (tOr (t2 pNin (dV 10) (dM0 C 6 (m_Circle_table C))) (t2 pNe (dM0 C 6 (m_Circle_table C)) (d2 pIx (dV 8) (d2 pAdd (dV 1) (dC (.int 1))))))) (sRet (dC (.bool false))) s0) (sC (sSet 13 (dIf (t1 qNotN (dV 12)) (d2 pMod (d2 pSub (d2 pIx (dV 16) (dV 12)) (dV 10)) (dV 2)) (dC (.int 0)))) (sC (sOwn 14 (d1 pList (dV 16))) (sC (sIf (t1 qNotN (dV 12)) (sIx 14 (dV 12) (dV 10)) s0) (sFrz 14 (sC (sIf (tOr (t2 pNe (d2 pSub (dOIx 7 (d1 pNeg (dC (.int 1)))) (dOIx 7 (d1 pNeg (dC (.int 2))))) (dV 13)) (t2 pNe (dM0 C 6 (m_Circle_seats C)) (dV 14))) (sRet (dC (.bool false))) s0) (sC (sSet 15 (dCall m_mover (aC (aV 2) (aC (aE (d2 pIx (dV 8) (dV 1))) (aC (aV 10) a0))))) (sIf (t2 pNe (dIf (t1 qIsN (dV 15)) (dC .none) (d2 pIx (d2 pIx (dV 8) (dV 1)) (dV 15))) (dIf (t1 qIsN (dV 12)) (dC .none) (d2 pIx (dV 16) (dV 12)))) (sRet (dC (.bool false))) s0)))))))))))))) (sC (sIf (tOr (t2 pNe (dM0 C 6 (m_Circle_steps C)) (dCall m_steps (aC (aV 2) (aC (aV 4) (aC (aV 5) a0))))) (t2 pNe (dM0 C 6 (m_Circle_seats C)) (dCall m_seats_after (aC (aV 2) (aC (aV 4) (aC (aV 5) a0)))))) (sRet (dC (.bool false))) s0) (sC (sFor (.nm 1) (iRd (d1 pLen (dV 5)) (dC (.int 0))) (sIfC (tOrC (t2 pNe (dM0 C 6 (m_Circle_table C)) (d2 pIx (dV 8) (dV 1))) (tOrC (t2 pNe (d1 pSum (dM0 C 6 (m_Circle_steps C))) (dOIx 7 (dV 1))) (tNBc true (dMc0 C 6 (m_Circle_undo C))))) (sRet (dC (.bool false))) s0)) (sRet (dAnd (dCh2 pEq pEq (dM0 C 6 (m_Circle_table C)) (dV 4) (dCall m_table_after (aC (aV 2) (aC (aV 4) (aC (aE (dL l0)) a0))))) (d2 (bD pEq) (dM0 C 6 (m_Circle_seats C)) (d1 pList (dV 4)))))))))))
def m_law_right (C : Addr) : List W → Tree PyData := fnF 1 18 (b_law_right C)
theorem it_l (xs : List PyData) : items (.list xs) = some xs := rfl
theorem it_t (xs : List PyData) : items (.tuple xs) = some xs := rfl
def lpM (n c : Int) : Nat → Int → PyData → List Int → PyData × Int
  | _, r, p, [] => (p, r)
  | i, r, p, s :: ss => if (s - c) % n < r then lpM n c (i + 1) ((s - c) % n) (.int (i : Int)) ss else lpM n c (i + 1) r p ss
theorem prs_cons (i : Int) (x : PyData) (xs : List PyData) (n : Nat) : prs (numsF i (n + 1)) (x :: xs) = .tuple [.int i, x] :: prs (numsF (i + 1) n) xs := by
  unfold numsF prs
  rw [List.range_succ_eq_map, List.map_cons, List.zip_cons_cons, List.map_cons, List.map_map]
  congr 1
  · simp
  · congr 2
    refine List.map_congr_left fun k _ => ?_
    simp only [Function.comp]
    congr 1
    omega
theorem nums_F (n : Nat) : nums n = numsF 0 n := by
  unfold nums numsF
  congr 1
  funext k
  rw [Int.zero_add]
theorem mover_loop {n c : Int} {d : PyData} (n0 : 0 < n) : ∀ (ss : List Int) (i : Nat) (p : PyData) (r : Int) (x5 x6 x7 : Option W), ∃ y5 y6 y7,
    forT (.tp [5, 6]) (sC (sSet 7 (d2 pMod (d2 pSub (dV 6) (dV 2)) (dV 0))) (sIf (t2 cLt (dV 7) (dV 4)) (sC (sSet 3 (dV 5)) (sSet 4 (dV 7))) s0)) (prs (numsF (i : Int) (iL ss).length) (iL ss)) [some (.d (.int n)), some (.d d), some (.d (.int c)), some (.d p), some (.d (.int r)), x5, x6, x7]
      = .ret (.nx [some (.d (.int n)), some (.d d), some (.d (.int c)), some (.d (lpM n c i r p ss).1), some (.d (.int (lpM n c i r p ss).2)), y5, y6, y7])
  | [], i, p, r, x5, x6, x7 => ⟨x5, x6, x7, rfl⟩
  | s :: ss, i, p, r, x5, x6, x7 => by
    rw [show (iL (s :: ss)).length = (iL ss).length + 1 from rfl, show iL (s :: ss) = .int s :: iL ss from rfl, prs_cons]
    by_cases h : (s - c) % n < r
    · obtain ⟨y5, y6, y7, e⟩ := mover_loop n0 ss (i + 1) (.int (i : Int)) ((s - c) % n) (some (.d (.int (i : Int)))) (some (.d (.int s))) (some (.d (.int ((s - c) % n))))
      refine ⟨y5, y6, y7, ?_⟩
      rw [lpM, if_pos h, forT]
      simp only [Tree.bind, liftO, dIdx, sAsgL, sPar4, dV, dC, d1, d2, t1, t2, l0, lC, dL, dT, aV, aE, a0, aC, dCall, dCallK, dIf, tTr, tV, truth, asB, tNot, tAnd, tOr, dAnd, dOr, sSet, sAsg, sPar, sRet, s0, sC, sIf, sX, sOwn, sApp, sFrz, frzE, sFor, outV, fnF, lenIs, ent, small, few, putE, putsE, wipeE, it_l, it_t, iS, iR1, iR2, wEn, wZ2, wZ3, dLc, dLf, dSl, oN, oS, pCut, pSub, cI, bD, pIx, pList, pTup, pLen, pNot, qIsN, qNotN, pIsN, pNotN, List.getElem?_cons_succ, List.getElem?_cons_zero, List.set_cons_succ, List.set_cons_zero, List.length_cons, List.length_nil, List.map_cons, List.map_nil, List.foldr_cons, List.foldr_nil, List.replicate_succ, List.replicate_zero, List.cons_append, List.nil_append, sOPar, sOOPar, dOIx, sNest, sCallP, dOLen, fnP, pC, pFrz, dPr, nApp, nIf, nEnd, sN0, sN1, lendE, frzW, sSetK, dGet, dZipD, dPairD, pMax2, sDD, sND, tNeN, sLock, lockE, odcE, tdE, dttE, tC, tLock, tRet, dGetO, dIdxO, tNinD, sPutO, tDen, sUpd, sCpT, iDtt, dSrtD, sParDt, sParDt3, tCall2, fnT, sNewD, isNd, pMod, if_pos n0, decide_eq_true h, if_true, reduceIte]
      exact e
    · obtain ⟨y5, y6, y7, e⟩ := mover_loop n0 ss (i + 1) p r (some (.d (.int (i : Int)))) (some (.d (.int s))) (some (.d (.int ((s - c) % n))))
      refine ⟨y5, y6, y7, ?_⟩
      rw [lpM, if_neg h, forT]
      simp only [Tree.bind, liftO, dIdx, sAsgL, sPar4, dV, dC, d1, d2, t1, t2, l0, lC, dL, dT, aV, aE, a0, aC, dCall, dCallK, dIf, tTr, tV, truth, asB, tNot, tAnd, tOr, dAnd, dOr, sSet, sAsg, sPar, sRet, s0, sC, sIf, sX, sOwn, sApp, sFrz, frzE, sFor, outV, fnF, lenIs, ent, small, few, putE, putsE, wipeE, it_l, it_t, iS, iR1, iR2, wEn, wZ2, wZ3, dLc, dLf, dSl, oN, oS, pCut, pSub, cI, bD, pIx, pList, pTup, pLen, pNot, qIsN, qNotN, pIsN, pNotN, List.getElem?_cons_succ, List.getElem?_cons_zero, List.set_cons_succ, List.set_cons_zero, List.length_cons, List.length_nil, List.map_cons, List.map_nil, List.foldr_cons, List.foldr_nil, List.replicate_succ, List.replicate_zero, List.cons_append, List.nil_append, sOPar, sOOPar, dOIx, sNest, sCallP, dOLen, fnP, pC, pFrz, dPr, nApp, nIf, nEnd, sN0, sN1, lendE, frzW, sSetK, dGet, dZipD, dPairD, pMax2, sDD, sND, tNeN, sLock, lockE, odcE, tdE, dttE, tC, tLock, tRet, dGetO, dIdxO, tNinD, sPutO, tDen, sUpd, sCpT, iDtt, dSrtD, sParDt, sParDt3, tCall2, fnT, sNewD, isNd, pMod, if_pos n0, decide_eq_false h, if_true, reduceIte]
      exact e
theorem get_snoc {α : Type} {pre : List α} {s : α} {j : Nat} {x : α} (h : (pre ++ [s])[j]? = some x) : (j < pre.length ∧ pre[j]? = some x) ∨ (j = pre.length ∧ x = s) := by
  by_cases hj : j < pre.length
  · rw [List.getElem?_append_left hj] at h
    exact .inl ⟨hj, h⟩
  · rw [List.getElem?_append_right (by omega)] at h
    by_cases e : j - pre.length = 0
    · rw [e] at h
      cases h
      exact .inr ⟨by omega, rfl⟩
    · rw [List.getElem?_eq_none (by simp; omega)] at h
      cases h
theorem lpM_near {n c : Int} (n0 : 0 < n) : ∀ (ss pre : List Int) (p : PyData) (r : Int), ((pre = [] ∧ r = n) ∨ ∃ k s, Near n c pre k s ∧ p = .int (k : Nat) ∧ r = dst n c s) → pre ++ ss ≠ [] →
    ∃ k s, Near n c (pre ++ ss) k s ∧ lpM n c pre.length r p ss = (.int (k : Nat), dst n c s)
  | [], pre, p, r, h, hne => by
    rcases h with ⟨rfl, _⟩ | ⟨k, s, hn, rfl, rfl⟩
    · exact absurd rfl hne
    · rw [List.append_nil]
      exact ⟨k, s, hn, rfl⟩
  | s :: ss, pre, p, r, h, hne => by
    have el : (pre ++ [s]).length = pre.length + 1 := by simp
    have ea : pre ++ s :: ss = (pre ++ [s]) ++ ss := by simp
    by_cases hd : (s - c) % n < r
    · have hn : Near n c (pre ++ [s]) pre.length s := by
        refine ⟨by simp, fun j s' hj => ?_, fun j s' hjk hj => ?_⟩
        · rcases get_snoc hj with ⟨hl, hj⟩ | ⟨_, rfl⟩
          · rcases h with ⟨rfl, _⟩ | ⟨k, s0, hn, _, rfl⟩
            · simp at hl
            · have := hn.le j s' hj
              unfold dst at *
              omega
          · exact Int.le_refl _
        · rcases get_snoc hj with ⟨hl, hj⟩ | ⟨e, _⟩
          · rcases h with ⟨rfl, _⟩ | ⟨k, s0, hn, _, rfl⟩
            · simp at hl
            · have := hn.le j s' hj
              unfold dst at *
              omega
          · omega
      have := lpM_near n0 ss (pre ++ [s]) (.int (pre.length : Nat)) ((s - c) % n) (.inr ⟨_, _, hn, rfl, rfl⟩) (by simp)
      rw [el] at this
      rw [lpM, if_pos hd, ea]
      exact this
    · have h2 : ∃ k s0, Near n c (pre ++ [s]) k s0 ∧ p = .int (k : Nat) ∧ r = dst n c s0 := by
        rcases h with ⟨rfl, rfl⟩ | ⟨k, s0, hn, rfl, rfl⟩
        · exact absurd (Int.emod_lt_of_pos _ n0) hd
        · have hk := (List.getElem?_eq_some_iff.mp hn.at_).1
          refine ⟨k, s0, ⟨by rw [List.getElem?_append_left hk]; exact hn.at_, fun j s' hj => ?_, fun j s' hjk hj => ?_⟩, rfl, rfl⟩
          · rcases get_snoc hj with ⟨_, hj⟩ | ⟨_, rfl⟩
            · exact hn.le j s' hj
            · unfold dst at *
              omega
          · rcases get_snoc hj with ⟨_, hj⟩ | ⟨e, _⟩
            · exact hn.lt j s' hjk hj
            · omega
      have := lpM_near n0 ss (pre ++ [s]) p r (.inr h2) (by simp)
      rw [el] at this
      rw [lpM, if_neg hd, ea]
      exact this
theorem ev_mover {n c : Int} {d : PyData} {ss : List Int} (hd : items d = some (iL ss)) (n0 : 0 < n) (hne : ss ≠ []) : m_mover [.d (.int n), .d d, .d (.int c)] = .ret (optI (moverL n c ss)) := by
  obtain ⟨k, s, hn, e⟩ := lpM_near (c := c) n0 ss [] .none n (.inl ⟨rfl, rfl⟩) (by simpa using hne)
  obtain ⟨y5, y6, y7, el⟩ := mover_loop (c := c) (d := d) n0 ss 0 .none n none none none
  rw [show lpM n c 0 n .none ss = _ from e] at el
  simp only [m_mover, b_mover, Tree.bind, liftO, dIdx, sAsgL, sPar4, dV, dC, d1, d2, t1, t2, l0, lC, dL, dT, aV, aE, a0, aC, dCall, dCallK, dIf, tTr, tV, truth, asB, tNot, tAnd, tOr, dAnd, dOr, sSet, sAsg, sPar, sRet, s0, sC, sIf, sX, sOwn, sApp, sFrz, frzE, sFor, outV, fnF, lenIs, ent, small, few, putE, putsE, wipeE, it_l, it_t, iS, iR1, iR2, wEn, wZ2, wZ3, dLc, dLf, dSl, oN, oS, pCut, pSub, cI, bD, pIx, pList, pTup, pLen, pNot, qIsN, qNotN, pIsN, pNotN, List.getElem?_cons_succ, List.getElem?_cons_zero, List.set_cons_succ, List.set_cons_zero, List.length_cons, List.length_nil, List.map_cons, List.map_nil, List.foldr_cons, List.foldr_nil, List.replicate_succ, List.replicate_zero, List.cons_append, List.nil_append, sOPar, sOOPar, dOIx, sNest, sCallP, dOLen, fnP, pC, pFrz, dPr, nApp, nIf, nEnd, sN0, sN1, lendE, frzW, sSetK, dGet, dZipD, dPairD, pMax2, sDD, sND, tNeN, sLock, lockE, odcE, tdE, dttE, tC, tLock, tRet, dGetO, dIdxO, tNinD, sPutO, tDen, sUpd, sCpT, iDtt, dSrtD, sParDt, sParDt3, tCall2, fnT, sNewD, isNd, hd, nums_F, lenIs]
  rw [show ((0 : Nat) : Int) = 0 from rfl] at el
  simp only [Nat.reduceSub, Nat.reduceAdd, List.replicate_succ, List.replicate_zero, reduceIte, Tree.bind, liftO, dIdx, sAsgL, sPar4, dV, dC, d1, d2, t1, t2, l0, lC, dL, dT, aV, aE, a0, aC, dCall, dCallK, dIf, tTr, tV, truth, asB, tNot, tAnd, tOr, dAnd, dOr, sSet, sAsg, sPar, sRet, s0, sC, sIf, sX, sOwn, sApp, sFrz, frzE, sFor, outV, fnF, lenIs, ent, small, few, putE, putsE, wipeE, it_l, it_t, iS, iR1, iR2, wEn, wZ2, wZ3, dLc, dLf, dSl, oN, oS, pCut, pSub, cI, bD, pIx, pList, pTup, pLen, pNot, qIsN, qNotN, pIsN, pNotN, List.getElem?_cons_succ, List.getElem?_cons_zero, List.set_cons_succ, List.set_cons_zero, List.length_cons, List.length_nil, List.map_cons, List.map_nil, List.foldr_cons, List.foldr_nil, List.replicate_succ, List.replicate_zero, List.cons_append, List.nil_append, sOPar, sOOPar, dOIx, sNest, sCallP, dOLen, fnP, pC, pFrz, dPr, nApp, nIf, nEnd, sN0, sN1, lendE, frzW, sSetK, dGet, dZipD, dPairD, pMax2, sDD, sND, tNeN, sLock, lockE, odcE, tdE, dttE, tC, tLock, tRet, dGetO, dIdxO, tNinD, sPutO, tDen, sUpd, sCpT, iDtt, dSrtD, sParDt, sParDt3, tCall2, fnT, sNewD, isNd, hd] at el ⊢
  rw [el]
  rw [List.nil_append] at hn
  rw [hn.mover]
  by_cases h0 : dst n c s = 0
  · simp only [Tree.bind, liftO, dIdx, sAsgL, sPar4, dV, dC, d1, d2, t1, t2, l0, lC, dL, dT, aV, aE, a0, aC, dCall, dCallK, dIf, tTr, tV, truth, asB, tNot, tAnd, tOr, dAnd, dOr, sSet, sAsg, sPar, sRet, s0, sC, sIf, sX, sOwn, sApp, sFrz, frzE, sFor, outV, fnF, lenIs, ent, small, few, putE, putsE, wipeE, it_l, it_t, iS, iR1, iR2, wEn, wZ2, wZ3, dLc, dLf, dSl, oN, oS, pCut, pSub, cI, bD, pIx, pList, pTup, pLen, pNot, qIsN, qNotN, pIsN, pNotN, List.getElem?_cons_succ, List.getElem?_cons_zero, List.set_cons_succ, List.set_cons_zero, List.length_cons, List.length_nil, List.map_cons, List.map_nil, List.foldr_cons, List.foldr_nil, List.replicate_succ, List.replicate_zero, List.cons_append, List.nil_append, sOPar, sOOPar, dOIx, sNest, sCallP, dOLen, fnP, pC, pFrz, dPr, nApp, nIf, nEnd, sN0, sN1, lendE, frzW, sSetK, dGet, dZipD, dPairD, pMax2, sDD, sND, tNeN, sLock, lockE, odcE, tdE, dttE, tC, tLock, tRet, dGetO, dIdxO, tNinD, sPutO, tDen, sUpd, sCpT, iDtt, dSrtD, sParDt, sParDt3, tCall2, fnT, sNewD, isNd, pEq, h0, decide_true, if_true, optI]
  · simp only [Tree.bind, liftO, dIdx, sAsgL, sPar4, dV, dC, d1, d2, t1, t2, l0, lC, dL, dT, aV, aE, a0, aC, dCall, dCallK, dIf, tTr, tV, truth, asB, tNot, tAnd, tOr, dAnd, dOr, sSet, sAsg, sPar, sRet, s0, sC, sIf, sX, sOwn, sApp, sFrz, frzE, sFor, outV, fnF, lenIs, ent, small, few, putE, putsE, wipeE, it_l, it_t, iS, iR1, iR2, wEn, wZ2, wZ3, dLc, dLf, dSl, oN, oS, pCut, pSub, cI, bD, pIx, pList, pTup, pLen, pNot, qIsN, qNotN, pIsN, pNotN, List.getElem?_cons_succ, List.getElem?_cons_zero, List.set_cons_succ, List.set_cons_zero, List.length_cons, List.length_nil, List.map_cons, List.map_nil, List.foldr_cons, List.foldr_nil, List.replicate_succ, List.replicate_zero, List.cons_append, List.nil_append, sOPar, sOOPar, dOIx, sNest, sCallP, dOLen, fnP, pC, pFrz, dPr, nApp, nIf, nEnd, sN0, sN1, lendE, frzW, sSetK, dGet, dZipD, dPairD, pMax2, sDD, sND, tNeN, sLock, lockE, odcE, tdE, dttE, tC, tLock, tRet, dGetO, dIdxO, tNinD, sPutO, tDen, sUpd, sCpT, iDtt, dSrtD, sParDt, sParDt3, tCall2, fnT, sNewD, isNd, pEq, h0, decide_false, if_false, optI]
theorem prs_iL (as bs : List Int) : prs (iL as) (iL bs) = (as.zip bs).map fun q => .tuple [.int q.1, .int q.2] := by
  unfold prs iL
  rw [List.zip_map, List.map_map]
  rfl
theorem trs_iL (as bs cs : List Int) : trs (iL as) (iL bs) (iL cs) = (as.zip (bs.zip cs)).map fun q => .tuple [.int q.1, .int q.2.1, .int q.2.2] := by
  unfold trs iL
  rw [List.zip_map, List.zip_map, List.map_map]
  rfl
def cnt (n : Nat) : List Int := (List.range n).map fun (k : Nat) => (k : Int)
theorem nums_cnt (n : Nat) : nums n = iL (cnt n) := nums_eq n
theorem iL_len (ns : List Int) : (iL ns).length = ns.length := List.length_map ..
theorem cnt_len (n : Nat) : (cnt n).length = n := by simp [cnt]
theorem cnt_get {n i : Nat} (h : i < n) : (cnt n)[i]? = some (i : Int) := by simp [cnt, h]
theorem pEq_in (i : Int) : pEq (.int i) .none = some false := by
  simp [pEq, SeqAt.shaped, PyData.canLay0, PyData.depth, PyData.eqv]
theorem pEq_ii (i j : Int) : pEq (.int i) (.int j) = some (decide (i = j)) := rfl
theorem ret_bind {α β : Type} (a : α) (f : α → Tree β) : (Tree.ret a).bind f = f a := rfl
theorem lift_some {α : Type} (a : α) : liftO (some a) = .ret a := rfl
theorem map_ii {α : Type} (f : α → Int) (xs : List α) : xs.map (fun x => PyData.int (f x)) = iL (xs.map f) := by
  unfold iL
  rw [List.map_map]
  rfl
theorem mapT_I {f : PyData → Tree PyData} {g : Int → Int} {ns : List Int} (h : ∀ x ∈ ns, f (.int x) = .ret (.int (g x))) : mapT f (iL ns) = .ret (iL (ns.map g)) := by
  rw [← map_ii]
  exact (mapT_map f PyData.int ns).trans (mapT_ret (g := fun x => PyData.int (g x)) h)
theorem mapT_2 {f : PyData → Tree PyData} {g : Int × Int → Int} {as bs : List Int} (h : ∀ q ∈ as.zip bs, f (.tuple [.int q.1, .int q.2]) = .ret (.int (g q))) : mapT f (prs (iL as) (iL bs)) = .ret (iL ((as.zip bs).map g)) := by
  rw [prs_iL, mapT_map, mapT_ret (g := fun x => PyData.int (g x)) h, ← map_ii]
theorem mapT_3 {f : PyData → Tree PyData} {g : Int × Int × Int → Int} {as bs cs : List Int} (h : ∀ q ∈ as.zip (bs.zip cs), f (.tuple [.int q.1, .int q.2.1, .int q.2.2]) = .ret (.int (g q))) : mapT f (trs (iL as) (iL bs) (iL cs)) = .ret (iL ((as.zip (bs.zip cs)).map g)) := by
  rw [trs_iL, mapT_map, mapT_ret (g := fun x => PyData.int (g x)) h, ← map_ii]
theorem ev_seats_called {n c : Int} {d : PyData} {ss : List Int} (hd : items d = some (iL ss)) (n0 : 0 < n) (hne : ss ≠ []) (hl : ss.length ≤ 1000) : m_seats_called [.d (.int n), .d d, .d (.int c)] = .ret (.list (iL (callL n c ss))) := by
  simp only [m_seats_called, b_seats_called, Nat.reduceSub, Nat.reduceAdd, reduceIte, Tree.bind, liftO, dIdx, sAsgL, sPar4, dV, dC, d1, d2, t1, t2, l0, lC, dL, dT, aV, aE, a0, aC, dCall, dCallK, dIf, tTr, tV, truth, asB, tNot, tAnd, tOr, dAnd, dOr, sSet, sAsg, sPar, sRet, s0, sC, sIf, sX, sOwn, sApp, sFrz, frzE, sFor, outV, fnF, lenIs, ent, small, few, putE, putsE, wipeE, it_l, it_t, iS, iR1, iR2, wEn, wZ2, wZ3, dLc, dLf, dSl, oN, oS, pCut, pSub, cI, bD, pIx, pList, pTup, pLen, pNot, qIsN, qNotN, pIsN, pNotN, List.getElem?_cons_succ, List.getElem?_cons_zero, List.set_cons_succ, List.set_cons_zero, List.length_cons, List.length_nil, List.map_cons, List.map_nil, List.foldr_cons, List.foldr_nil, List.replicate_succ, List.replicate_zero, List.cons_append, List.nil_append, sOPar, sOOPar, dOIx, sNest, sCallP, dOLen, fnP, pC, pFrz, dPr, nApp, nIf, nEnd, sN0, sN1, lendE, frzW, sSetK, dGet, dZipD, dPairD, pMax2, sDD, sND, tNeN, sLock, lockE, odcE, tdE, dttE, tC, tLock, tRet, dGetO, dIdxO, tNinD, sPutO, tDen, sUpd, sCpT, iDtt, dSrtD, sParDt, sParDt3, tCall2, fnT, sNewD, isNd, ev_mover hd n0 hne, hd, nums_cnt, iL_len]
  have hz : (prs (iL (cnt ss.length)) (iL ss)).length ≤ 50000 := by
    unfold prs
    simp [iL_len, cnt_len]
    omega
  have key : ∀ g : Int × Int → Int, (∀ i s, ss[i]? = some s → g ((i : Nat), s) = if moverL n c ss = some i then c else s) → ((cnt ss.length).zip ss).map g = callL n c ss := fun g hg => by
    refine List.ext_getElem? fun i => ?_
    by_cases hi : i < ss.length
    · have e := List.getElem?_eq_getElem hi
      rw [callL_get e, List.getElem?_map, List.getElem?_zip_eq_some (z := ((i : Int), ss[i])) |>.mpr ⟨cnt_get hi, e⟩]
      exact congrArg some (hg i _ e)
    · rw [List.getElem?_eq_none (by simp [cnt_len]; omega), List.getElem?_eq_none (by rw [callL_len]; omega)]
  cases hm : moverL n c ss with
  | none =>
    simp only [if_pos hz, optI]
    rw [mapT_2 (g := fun q => q.2) fun q hq => by simp only [Nat.reduceSub, Nat.reduceAdd, reduceIte, Tree.bind, liftO, dIdx, sAsgL, sPar4, dV, dC, d1, d2, t1, t2, l0, lC, dL, dT, aV, aE, a0, aC, dCall, dCallK, dIf, tTr, tV, truth, asB, tNot, tAnd, tOr, dAnd, dOr, sSet, sAsg, sPar, sRet, s0, sC, sIf, sX, sOwn, sApp, sFrz, frzE, sFor, outV, fnF, lenIs, ent, small, few, putE, putsE, wipeE, it_l, it_t, iS, iR1, iR2, wEn, wZ2, wZ3, dLc, dLf, dSl, oN, oS, pCut, pSub, cI, bD, pIx, pList, pTup, pLen, pNot, qIsN, qNotN, pIsN, pNotN, List.getElem?_cons_succ, List.getElem?_cons_zero, List.set_cons_succ, List.set_cons_zero, List.length_cons, List.length_nil, List.map_cons, List.map_nil, List.foldr_cons, List.foldr_nil, List.replicate_succ, List.replicate_zero, List.cons_append, List.nil_append, sOPar, sOOPar, dOIx, sNest, sCallP, dOLen, fnP, pC, pFrz, dPr, nApp, nIf, nEnd, sN0, sN1, lendE, frzW, sSetK, dGet, dZipD, dPairD, pMax2, sDD, sND, tNeN, sLock, lockE, odcE, tdE, dttE, tC, tLock, tRet, dGetO, dIdxO, tNinD, sPutO, tDen, sUpd, sCpT, iDtt, dSrtD, sParDt, sParDt3, tCall2, fnT, sNewD, isNd, pEq_in]]
    simp only [Tree.bind, liftO, dIdx, sAsgL, sPar4, dV, dC, d1, d2, t1, t2, l0, lC, dL, dT, aV, aE, a0, aC, dCall, dCallK, dIf, tTr, tV, truth, asB, tNot, tAnd, tOr, dAnd, dOr, sSet, sAsg, sPar, sRet, s0, sC, sIf, sX, sOwn, sApp, sFrz, frzE, sFor, outV, fnF, lenIs, ent, small, few, putE, putsE, wipeE, it_l, it_t, iS, iR1, iR2, wEn, wZ2, wZ3, dLc, dLf, dSl, oN, oS, pCut, pSub, cI, bD, pIx, pList, pTup, pLen, pNot, qIsN, qNotN, pIsN, pNotN, List.getElem?_cons_succ, List.getElem?_cons_zero, List.set_cons_succ, List.set_cons_zero, List.length_cons, List.length_nil, List.map_cons, List.map_nil, List.foldr_cons, List.foldr_nil, List.replicate_succ, List.replicate_zero, List.cons_append, List.nil_append, sOPar, sOOPar, dOIx, sNest, sCallP, dOLen, fnP, pC, pFrz, dPr, nApp, nIf, nEnd, sN0, sN1, lendE, frzW, sSetK, dGet, dZipD, dPairD, pMax2, sDD, sND, tNeN, sLock, lockE, odcE, tdE, dttE, tC, tLock, tRet, dGetO, dIdxO, tNinD, sPutO, tDen, sUpd, sCpT, iDtt, dSrtD, sParDt, sParDt3, tCall2, fnT, sNewD, isNd]
    rw [key _ fun i s _ => by rw [hm]; rfl]
  | some k =>
    simp only [if_pos hz, optI]
    rw [mapT_2 (g := fun q => if q.1 = (k : Int) then c else q.2) fun q hq => by
      by_cases hk : q.1 = (k : Int)
      · simp only [Nat.reduceSub, Nat.reduceAdd, reduceIte, Tree.bind, liftO, dIdx, sAsgL, sPar4, dV, dC, d1, d2, t1, t2, l0, lC, dL, dT, aV, aE, a0, aC, dCall, dCallK, dIf, tTr, tV, truth, asB, tNot, tAnd, tOr, dAnd, dOr, sSet, sAsg, sPar, sRet, s0, sC, sIf, sX, sOwn, sApp, sFrz, frzE, sFor, outV, fnF, lenIs, ent, small, few, putE, putsE, wipeE, it_l, it_t, iS, iR1, iR2, wEn, wZ2, wZ3, dLc, dLf, dSl, oN, oS, pCut, pSub, cI, bD, pIx, pList, pTup, pLen, pNot, qIsN, qNotN, pIsN, pNotN, List.getElem?_cons_succ, List.getElem?_cons_zero, List.set_cons_succ, List.set_cons_zero, List.length_cons, List.length_nil, List.map_cons, List.map_nil, List.foldr_cons, List.foldr_nil, List.replicate_succ, List.replicate_zero, List.cons_append, List.nil_append, sOPar, sOOPar, dOIx, sNest, sCallP, dOLen, fnP, pC, pFrz, dPr, nApp, nIf, nEnd, sN0, sN1, lendE, frzW, sSetK, dGet, dZipD, dPairD, pMax2, sDD, sND, tNeN, sLock, lockE, odcE, tdE, dttE, tC, tLock, tRet, dGetO, dIdxO, tNinD, sPutO, tDen, sUpd, sCpT, iDtt, dSrtD, sParDt, sParDt3, tCall2, fnT, sNewD, isNd, pEq_ii, hk, decide_true, if_true]
      · simp only [Nat.reduceSub, Nat.reduceAdd, reduceIte, Tree.bind, liftO, dIdx, sAsgL, sPar4, dV, dC, d1, d2, t1, t2, l0, lC, dL, dT, aV, aE, a0, aC, dCall, dCallK, dIf, tTr, tV, truth, asB, tNot, tAnd, tOr, dAnd, dOr, sSet, sAsg, sPar, sRet, s0, sC, sIf, sX, sOwn, sApp, sFrz, frzE, sFor, outV, fnF, lenIs, ent, small, few, putE, putsE, wipeE, it_l, it_t, iS, iR1, iR2, wEn, wZ2, wZ3, dLc, dLf, dSl, oN, oS, pCut, pSub, cI, bD, pIx, pList, pTup, pLen, pNot, qIsN, qNotN, pIsN, pNotN, List.getElem?_cons_succ, List.getElem?_cons_zero, List.set_cons_succ, List.set_cons_zero, List.length_cons, List.length_nil, List.map_cons, List.map_nil, List.foldr_cons, List.foldr_nil, List.replicate_succ, List.replicate_zero, List.cons_append, List.nil_append, sOPar, sOOPar, dOIx, sNest, sCallP, dOLen, fnP, pC, pFrz, dPr, nApp, nIf, nEnd, sN0, sN1, lendE, frzW, sSetK, dGet, dZipD, dPairD, pMax2, sDD, sND, tNeN, sLock, lockE, odcE, tdE, dttE, tC, tLock, tRet, dGetO, dIdxO, tNinD, sPutO, tDen, sUpd, sCpT, iDtt, dSrtD, sParDt, sParDt3, tCall2, fnT, sNewD, isNd, pEq_ii, hk, decide_false, if_false]]
    simp only [Tree.bind, liftO, dIdx, sAsgL, sPar4, dV, dC, d1, d2, t1, t2, l0, lC, dL, dT, aV, aE, a0, aC, dCall, dCallK, dIf, tTr, tV, truth, asB, tNot, tAnd, tOr, dAnd, dOr, sSet, sAsg, sPar, sRet, s0, sC, sIf, sX, sOwn, sApp, sFrz, frzE, sFor, outV, fnF, lenIs, ent, small, few, putE, putsE, wipeE, it_l, it_t, iS, iR1, iR2, wEn, wZ2, wZ3, dLc, dLf, dSl, oN, oS, pCut, pSub, cI, bD, pIx, pList, pTup, pLen, pNot, qIsN, qNotN, pIsN, pNotN, List.getElem?_cons_succ, List.getElem?_cons_zero, List.set_cons_succ, List.set_cons_zero, List.length_cons, List.length_nil, List.map_cons, List.map_nil, List.foldr_cons, List.foldr_nil, List.replicate_succ, List.replicate_zero, List.cons_append, List.nil_append, sOPar, sOOPar, dOIx, sNest, sCallP, dOLen, fnP, pC, pFrz, dPr, nApp, nIf, nEnd, sN0, sN1, lendE, frzW, sSetK, dGet, dZipD, dPairD, pMax2, sDD, sND, tNeN, sLock, lockE, odcE, tdE, dttE, tC, tLock, tRet, dGetO, dIdxO, tNinD, sPutO, tDen, sUpd, sCpT, iDtt, dSrtD, sParDt, sParDt3, tCall2, fnT, sNewD, isNd]
    rw [key _ fun i s _ => by
      rw [hm]
      by_cases hk : k = i
      · subst hk
        simp
      · have : ¬ ((i : Int) = (k : Int)) := by omega
        simp [hk, this]]
def alg (n : Int) : List Int → List Int → List (List Int)
  | _, [] => []
  | s, c :: cs => callL n c s :: alg n (callL n c s) cs
theorem AL_cons (n : Int) (ss : List Int) (c : Int) (cs : List Int) : AL n ss (c :: cs) = ss :: AL n (callL n c ss) cs := by
  unfold AL
  rw [List.length_cons, List.range_succ_eq_map, List.map_cons, List.map_map]
  rfl
theorem AL_alg (n : Int) : ∀ (cs ss : List Int), AL n ss cs = ss :: alg n ss cs
  | [], ss => rfl
  | c :: cs, ss => by rw [AL_cons, AL_alg n cs, alg]
theorem callL_ne {n c : Int} {ss : List Int} (h : ss ≠ []) : callL n c ss ≠ [] := fun e => h (by
  have := congrArg List.length e
  rw [callL_len] at this
  exact List.length_eq_zero_iff.mp this)
theorem along_loop {n : Int} {d e : PyData} (n0 : 0 < n) : ∀ (cs s : List Int) (acc : List PyData) (x5 : Option W), s ≠ [] → s.length ≤ 1000 → acc.length + cs.length ≤ 100000 → ∃ y5,
    forT (.nm 5) (sC (sSet 3 (dCall m_seats_called (aC (aV 0) (aC (aV 3) (aC (aV 5) a0))))) (sApp 4 (dV 3))) (iL cs) [some (.d (.int n)), some (.d d), some (.d e), some (.d (.list (iL s))), some (.own acc), x5]
      = .ret (.nx [some (.d (.int n)), some (.d d), some (.d e), some (.d (.list (iL (runS n s cs)))), some (.own (acc ++ dLs (alg n s cs))), y5])
  | [], s, acc, x5, _, _, _ => ⟨x5, by simp [iL, forT, alg, dLs, runS]⟩
  | c :: cs, s, acc, x5, h1, h2, h3 => by
    obtain ⟨y5, e⟩ := along_loop (d := d) (e := e) n0 cs (callL n c s) (acc ++ [.list (iL (callL n c s))]) (some (.d (.int c))) (callL_ne h1) (by rw [callL_len]; exact h2) (by simp at h3 ⊢; omega)
    refine ⟨y5, ?_⟩
    rw [show iL (c :: cs) = .int c :: iL cs from rfl, forT]
    simp only [Nat.reduceSub, Nat.reduceAdd, reduceIte, Tree.bind, liftO, dIdx, sAsgL, sPar4, dV, dC, d1, d2, t1, t2, l0, lC, dL, dT, aV, aE, a0, aC, dCall, dCallK, dIf, tTr, tV, truth, asB, tNot, tAnd, tOr, dAnd, dOr, sSet, sAsg, sPar, sRet, s0, sC, sIf, sX, sOwn, sApp, sFrz, frzE, sFor, outV, fnF, lenIs, ent, small, few, putE, putsE, wipeE, it_l, it_t, iS, iR1, iR2, wEn, wZ2, wZ3, dLc, dLf, dSl, oN, oS, pCut, pSub, cI, bD, pIx, pList, pTup, pLen, pNot, qIsN, qNotN, pIsN, pNotN, List.getElem?_cons_succ, List.getElem?_cons_zero, List.set_cons_succ, List.set_cons_zero, List.length_cons, List.length_nil, List.map_cons, List.map_nil, List.foldr_cons, List.foldr_nil, List.replicate_succ, List.replicate_zero, List.cons_append, List.nil_append, sOPar, sOOPar, dOIx, sNest, sCallP, dOLen, fnP, pC, pFrz, dPr, nApp, nIf, nEnd, sN0, sN1, lendE, frzW, sSetK, dGet, dZipD, dPairD, pMax2, sDD, sND, tNeN, sLock, lockE, odcE, tdE, dttE, tC, tLock, tRet, dGetO, dIdxO, tNinD, sPutO, tDen, sUpd, sCpT, iDtt, dSrtD, sParDt, sParDt3, tCall2, fnT, sNewD, isNd, ev_seats_called (it_l _) n0 h1 h2, if_pos (show acc.length + 1 ≤ 100000 by simp at h3; omega)]
    rw [e, alg, List.append_assoc]
    rfl
theorem ev_seats_along {n : Int} {d e : PyData} {ss cs : List Int} (hd : items d = some (iL ss)) (he : items e = some (iL cs)) (n0 : 0 < n) (hne : ss ≠ []) (hl : ss.length ≤ 1000) (hc : cs.length ≤ 1000) : m_seats_along [.d (.int n), .d d, .d e] = .ret (.list (dLs (AL n ss cs))) := by
  obtain ⟨y5, el⟩ := along_loop (d := d) (e := e) n0 cs ss [.list (iL ss)] none hne hl (by simp; omega)
  simp only [m_seats_along, b_seats_along, Nat.reduceSub, Nat.reduceAdd, reduceIte, Tree.bind, liftO, dIdx, sAsgL, sPar4, dV, dC, d1, d2, t1, t2, l0, lC, dL, dT, aV, aE, a0, aC, dCall, dCallK, dIf, tTr, tV, truth, asB, tNot, tAnd, tOr, dAnd, dOr, sSet, sAsg, sPar, sRet, s0, sC, sIf, sX, sOwn, sApp, sFrz, frzE, sFor, outV, fnF, lenIs, ent, small, few, putE, putsE, wipeE, it_l, it_t, iS, iR1, iR2, wEn, wZ2, wZ3, dLc, dLf, dSl, oN, oS, pCut, pSub, cI, bD, pIx, pList, pTup, pLen, pNot, qIsN, qNotN, pIsN, pNotN, List.getElem?_cons_succ, List.getElem?_cons_zero, List.set_cons_succ, List.set_cons_zero, List.length_cons, List.length_nil, List.map_cons, List.map_nil, List.foldr_cons, List.foldr_nil, List.replicate_succ, List.replicate_zero, List.cons_append, List.nil_append, sOPar, sOOPar, dOIx, sNest, sCallP, dOLen, fnP, pC, pFrz, dPr, nApp, nIf, nEnd, sN0, sN1, lendE, frzW, sSetK, dGet, dZipD, dPairD, pMax2, sDD, sND, tNeN, sLock, lockE, odcE, tdE, dttE, tC, tLock, tRet, dGetO, dIdxO, tNinD, sPutO, tDen, sUpd, sCpT, iDtt, dSrtD, sParDt, sParDt3, tCall2, fnT, sNewD, isNd, hd, he, Nat.reduceLeDiff]
  rw [el]
  simp only [Nat.reduceSub, Nat.reduceAdd, reduceIte, Tree.bind, liftO, dIdx, sAsgL, sPar4, dV, dC, d1, d2, t1, t2, l0, lC, dL, dT, aV, aE, a0, aC, dCall, dCallK, dIf, tTr, tV, truth, asB, tNot, tAnd, tOr, dAnd, dOr, sSet, sAsg, sPar, sRet, s0, sC, sIf, sX, sOwn, sApp, sFrz, frzE, sFor, outV, fnF, lenIs, ent, small, few, putE, putsE, wipeE, it_l, it_t, iS, iR1, iR2, wEn, wZ2, wZ3, dLc, dLf, dSl, oN, oS, pCut, pSub, cI, bD, pIx, pList, pTup, pLen, pNot, qIsN, qNotN, pIsN, pNotN, List.getElem?_cons_succ, List.getElem?_cons_zero, List.set_cons_succ, List.set_cons_zero, List.length_cons, List.length_nil, List.map_cons, List.map_nil, List.foldr_cons, List.foldr_nil, List.replicate_succ, List.replicate_zero, List.cons_append, List.nil_append, sOPar, sOOPar, dOIx, sNest, sCallP, dOLen, fnP, pC, pFrz, dPr, nApp, nIf, nEnd, sN0, sN1, lendE, frzW, sSetK, dGet, dZipD, dPairD, pMax2, sDD, sND, tNeN, sLock, lockE, odcE, tdE, dttE, tC, tLock, tRet, dGetO, dIdxO, tNinD, sPutO, tDen, sUpd, sCpT, iDtt, dSrtD, sParDt, sParDt3, tCall2, fnT, sNewD, isNd]
  rw [AL_alg]
  rfl
theorem dLs_len (ls : List (List Int)) : (dLs ls).length = ls.length := List.length_map ..
theorem dLs_cons (l : List Int) (ls : List (List Int)) : dLs (l :: ls) = .list (iL l) :: dLs ls := rfl
def stp (n : Int) : List Int → List Int → List Int → List Int
  | t, _, [] => t
  | t, s, c :: cs => stp n (zipStep n t s (callL n c s)) (callL n c s) cs
theorem stp_fold (n : Int) : ∀ (cs s t : List Int), stp n t s cs = (List.range cs.length).foldl (fun t j => zipStep n t (runS n s (cs.take j)) (runS n s (cs.take (j + 1)))) t
  | [], s, t => rfl
  | c :: cs, s, t => by
    rw [stp, stp_fold n cs, List.length_cons, List.range_succ_eq_map, List.foldl_cons, List.foldl_map]
    rfl
theorem stp_steps (n : Int) (ss cs : List Int) : stp n (ss.map fun _ => 0) ss cs = stepsL n ss cs := stp_fold n cs ss _
theorem steps_loop {n : Int} {d e a : PyData} (n0 : 0 < n) : ∀ (cs s t : List Int) (x5 x6 : Option W) (x7 x8 x9 x10 : Option W), t.length ≤ 1000 → ∃ y4 y5 y6,
    forT (.tp [5, 6]) (sSet 4 (dLc (.tp [8, 9, 10]) [10, 9, 8] (wZ3 (dV 4) (dV 5) (dV 6)) (d2 pAdd (dV 8) (d2 pMod (d2 pSub (dV 9) (dV 10)) (dV 0))))) (prs (dLs (s :: alg n s cs)) (dLs (alg n s cs))) [some (.d (.int n)), some (.d d), some (.d e), some (.d a), some (.d (.list (iL t))), x5, x6, x7, x8, x9, x10]
      = .ret (.nx [some (.d (.int n)), some (.d d), some (.d e), some (.d a), some (.d (.list (iL y4))), y5, y6, x7, x8, x9, x10]) ∧ y4 = stp n t s cs
  | [], s, t, x5, x6, x7, x8, x9, x10, _ => ⟨t, x5, x6, rfl, rfl⟩
  | c :: cs, s, t, x5, x6, x7, x8, x9, x10, h => by
    have hz : (zipStep n t s (callL n c s)).length ≤ 1000 := by
      unfold zipStep
      simp
      omega
    obtain ⟨y4, y5, y6, e1, e2⟩ := steps_loop (d := d) (e := e) (a := a) n0 cs (callL n c s) (zipStep n t s (callL n c s)) (some (.d (.list (iL s)))) (some (.d (.list (iL (callL n c s))))) x7 x8 x9 x10 hz
    refine ⟨y4, y5, y6, ?_, e2⟩
    have hz2 : (trs (iL t) (iL s) (iL (callL n c s))).length ≤ 50000 := by
      unfold trs
      simp
      omega
    rw [alg, dLs_cons, dLs_cons, show ∀ (x y : PyData) (xs ys : List PyData), prs (x :: xs) (y :: ys) = .tuple [x, y] :: prs xs ys from fun _ _ _ _ => rfl, forT]
    simp only [Nat.reduceSub, Nat.reduceAdd, reduceIte, Tree.bind, liftO, dIdx, sAsgL, sPar4, dV, dC, d1, d2, t1, t2, l0, lC, dL, dT, aV, aE, a0, aC, dCall, dCallK, dIf, tTr, tV, truth, asB, tNot, tAnd, tOr, dAnd, dOr, sSet, sAsg, sPar, sRet, s0, sC, sIf, sX, sOwn, sApp, sFrz, frzE, sFor, outV, fnF, lenIs, ent, small, few, putE, putsE, wipeE, it_l, it_t, iS, iR1, iR2, wEn, wZ2, wZ3, dLc, dLf, dSl, oN, oS, pCut, pSub, cI, bD, pIx, pList, pTup, pLen, pNot, qIsN, qNotN, pIsN, pNotN, List.getElem?_cons_succ, List.getElem?_cons_zero, List.set_cons_succ, List.set_cons_zero, List.length_cons, List.length_nil, List.map_cons, List.map_nil, List.foldr_cons, List.foldr_nil, List.replicate_succ, List.replicate_zero, List.cons_append, List.nil_append, sOPar, sOOPar, dOIx, sNest, sCallP, dOLen, fnP, pC, pFrz, dPr, nApp, nIf, nEnd, sN0, sN1, lendE, frzW, sSetK, dGet, dZipD, dPairD, pMax2, sDD, sND, tNeN, sLock, lockE, odcE, tdE, dttE, tC, tLock, tRet, dGetO, dIdxO, tNinD, sPutO, tDen, sUpd, sCpT, iDtt, dSrtD, sParDt, sParDt3, tCall2, fnT, sNewD, isNd, if_pos hz2]
    rw [mapT_3 (g := fun q => q.1 + (q.2.1 - q.2.2) % n) fun q hq => by simp only [Nat.reduceSub, Nat.reduceAdd, reduceIte, Tree.bind, liftO, dIdx, sAsgL, sPar4, dV, dC, d1, d2, t1, t2, l0, lC, dL, dT, aV, aE, a0, aC, dCall, dCallK, dIf, tTr, tV, truth, asB, tNot, tAnd, tOr, dAnd, dOr, sSet, sAsg, sPar, sRet, s0, sC, sIf, sX, sOwn, sApp, sFrz, frzE, sFor, outV, fnF, lenIs, ent, small, few, putE, putsE, wipeE, it_l, it_t, iS, iR1, iR2, wEn, wZ2, wZ3, dLc, dLf, dSl, oN, oS, pCut, pSub, cI, bD, pIx, pList, pTup, pLen, pNot, qIsN, qNotN, pIsN, pNotN, List.getElem?_cons_succ, List.getElem?_cons_zero, List.set_cons_succ, List.set_cons_zero, List.length_cons, List.length_nil, List.map_cons, List.map_nil, List.foldr_cons, List.foldr_nil, List.replicate_succ, List.replicate_zero, List.cons_append, List.nil_append, sOPar, sOOPar, dOIx, sNest, sCallP, dOLen, fnP, pC, pFrz, dPr, nApp, nIf, nEnd, sN0, sN1, lendE, frzW, sSetK, dGet, dZipD, dPairD, pMax2, sDD, sND, tNeN, sLock, lockE, odcE, tdE, dttE, tC, tLock, tRet, dGetO, dIdxO, tNinD, sPutO, tDen, sUpd, sCpT, iDtt, dSrtD, sParDt, sParDt3, tCall2, fnT, sNewD, isNd, pMod, pAdd, if_pos n0]]
    simp only [Nat.reduceSub, Nat.reduceAdd, reduceIte, Tree.bind, liftO, dIdx, sAsgL, sPar4, dV, dC, d1, d2, t1, t2, l0, lC, dL, dT, aV, aE, a0, aC, dCall, dCallK, dIf, tTr, tV, truth, asB, tNot, tAnd, tOr, dAnd, dOr, sSet, sAsg, sPar, sRet, s0, sC, sIf, sX, sOwn, sApp, sFrz, frzE, sFor, outV, fnF, lenIs, ent, small, few, putE, putsE, wipeE, it_l, it_t, iS, iR1, iR2, wEn, wZ2, wZ3, dLc, dLf, dSl, oN, oS, pCut, pSub, cI, bD, pIx, pList, pTup, pLen, pNot, qIsN, qNotN, pIsN, pNotN, List.getElem?_cons_succ, List.getElem?_cons_zero, List.set_cons_succ, List.set_cons_zero, List.length_cons, List.length_nil, List.map_cons, List.map_nil, List.foldr_cons, List.foldr_nil, List.replicate_succ, List.replicate_zero, List.cons_append, List.nil_append, sOPar, sOOPar, dOIx, sNest, sCallP, dOLen, fnP, pC, pFrz, dPr, nApp, nIf, nEnd, sN0, sN1, lendE, frzW, sSetK, dGet, dZipD, dPairD, pMax2, sDD, sND, tNeN, sLock, lockE, odcE, tdE, dttE, tC, tLock, tRet, dGetO, dIdxO, tNinD, sPutO, tDen, sUpd, sCpT, iDtt, dSrtD, sParDt, sParDt3, tCall2, fnT, sNewD, isNd]
    rw [← dLs_cons]
    exact e1
theorem cutD_1 (xs : List PyData) : cutD xs (some 1) none = xs.drop 1 := cutD_from xs 1
theorem ev_steps {n : Int} {d e : PyData} {ss cs : List Int} (hd : items d = some (iL ss)) (he : items e = some (iL cs)) (n0 : 0 < n) (hne : ss ≠ []) (hl : ss.length ≤ 1000) (hc : cs.length ≤ 1000) : m_steps [.d (.int n), .d d, .d e] = .ret (.list (iL (stepsL n ss cs))) := by
  obtain ⟨y4, y5, y6, e1, e2⟩ := steps_loop (d := d) (e := e) (a := .list (dLs (AL n ss cs))) n0 cs ss (ss.map fun _ => 0) none none none none none none (by simpa using hl)
  rw [stp_steps] at e2
  subst e2
  simp only [m_steps, b_steps, Nat.reduceSub, Nat.reduceAdd, reduceIte, Tree.bind, liftO, dIdx, sAsgL, sPar4, dV, dC, d1, d2, t1, t2, l0, lC, dL, dT, aV, aE, a0, aC, dCall, dCallK, dIf, tTr, tV, truth, asB, tNot, tAnd, tOr, dAnd, dOr, sSet, sAsg, sPar, sRet, s0, sC, sIf, sX, sOwn, sApp, sFrz, frzE, sFor, outV, fnF, lenIs, ent, small, few, putE, putsE, wipeE, it_l, it_t, iS, iR1, iR2, wEn, wZ2, wZ3, dLc, dLf, dSl, oN, oS, pCut, pSub, cI, bD, pIx, pList, pTup, pLen, pNot, qIsN, qNotN, pIsN, pNotN, List.getElem?_cons_succ, List.getElem?_cons_zero, List.set_cons_succ, List.set_cons_zero, List.length_cons, List.length_nil, List.map_cons, List.map_nil, List.foldr_cons, List.foldr_nil, List.replicate_succ, List.replicate_zero, List.cons_append, List.nil_append, sOPar, sOOPar, dOIx, sNest, sCallP, dOLen, fnP, pC, pFrz, dPr, nApp, nIf, nEnd, sN0, sN1, lendE, frzW, sSetK, dGet, dZipD, dPairD, pMax2, sDD, sND, tNeN, sLock, lockE, odcE, tdE, dttE, tC, tLock, tRet, dGetO, dIdxO, tNinD, sPutO, tDen, sUpd, sCpT, iDtt, dSrtD, sParDt, sParDt3, tCall2, fnT, sNewD, isNd, hd, he, ev_seats_along hd he n0 hne hl hc, cutD_1, if_pos (show (iL ss).length ≤ 50000 by rw [iL_len]; omega)]
  rw [mapT_I (g := fun _ => 0) fun x hx => by simp only [Nat.reduceSub, Nat.reduceAdd, reduceIte, Tree.bind, liftO, dIdx, sAsgL, sPar4, dV, dC, d1, d2, t1, t2, l0, lC, dL, dT, aV, aE, a0, aC, dCall, dCallK, dIf, tTr, tV, truth, asB, tNot, tAnd, tOr, dAnd, dOr, sSet, sAsg, sPar, sRet, s0, sC, sIf, sX, sOwn, sApp, sFrz, frzE, sFor, outV, fnF, lenIs, ent, small, few, putE, putsE, wipeE, it_l, it_t, iS, iR1, iR2, wEn, wZ2, wZ3, dLc, dLf, dSl, oN, oS, pCut, pSub, cI, bD, pIx, pList, pTup, pLen, pNot, qIsN, qNotN, pIsN, pNotN, List.getElem?_cons_succ, List.getElem?_cons_zero, List.set_cons_succ, List.set_cons_zero, List.length_cons, List.length_nil, List.map_cons, List.map_nil, List.foldr_cons, List.foldr_nil, List.replicate_succ, List.replicate_zero, List.cons_append, List.nil_append, sOPar, sOOPar, dOIx, sNest, sCallP, dOLen, fnP, pC, pFrz, dPr, nApp, nIf, nEnd, sN0, sN1, lendE, frzW, sSetK, dGet, dZipD, dPairD, pMax2, sDD, sND, tNeN, sLock, lockE, odcE, tdE, dttE, tC, tLock, tRet, dGetO, dIdxO, tNinD, sPutO, tDen, sUpd, sCpT, iDtt, dSrtD, sParDt, sParDt3, tCall2, fnT, sNewD, isNd]]
  simp only [Nat.reduceSub, Nat.reduceAdd, reduceIte, Tree.bind, liftO, dIdx, sAsgL, sPar4, dV, dC, d1, d2, t1, t2, l0, lC, dL, dT, aV, aE, a0, aC, dCall, dCallK, dIf, tTr, tV, truth, asB, tNot, tAnd, tOr, dAnd, dOr, sSet, sAsg, sPar, sRet, s0, sC, sIf, sX, sOwn, sApp, sFrz, frzE, sFor, outV, fnF, lenIs, ent, small, few, putE, putsE, wipeE, it_l, it_t, iS, iR1, iR2, wEn, wZ2, wZ3, dLc, dLf, dSl, oN, oS, pCut, pSub, cI, bD, pIx, pList, pTup, pLen, pNot, qIsN, qNotN, pIsN, pNotN, List.getElem?_cons_succ, List.getElem?_cons_zero, List.set_cons_succ, List.set_cons_zero, List.length_cons, List.length_nil, List.map_cons, List.map_nil, List.foldr_cons, List.foldr_nil, List.replicate_succ, List.replicate_zero, List.cons_append, List.nil_append, sOPar, sOOPar, dOIx, sNest, sCallP, dOLen, fnP, pC, pFrz, dPr, nApp, nIf, nEnd, sN0, sN1, lendE, frzW, sSetK, dGet, dZipD, dPairD, pMax2, sDD, sND, tNeN, sLock, lockE, odcE, tdE, dttE, tC, tLock, tRet, dGetO, dIdxO, tNinD, sPutO, tDen, sUpd, sCpT, iDtt, dSrtD, sParDt, sParDt3, tCall2, fnT, sNewD, isNd]
  rw [show (dLs (AL n ss cs)).drop 1 = dLs (alg n ss cs) by rw [AL_alg]; rfl]
  rw [show prs (dLs (AL n ss cs)) (dLs (alg n ss cs)) = prs (dLs (ss :: alg n ss cs)) (dLs (alg n ss cs)) by rw [AL_alg]]
  rw [e1]
  simp only [Nat.reduceSub, Nat.reduceAdd, reduceIte, Tree.bind, liftO, dIdx, sAsgL, sPar4, dV, dC, d1, d2, t1, t2, l0, lC, dL, dT, aV, aE, a0, aC, dCall, dCallK, dIf, tTr, tV, truth, asB, tNot, tAnd, tOr, dAnd, dOr, sSet, sAsg, sPar, sRet, s0, sC, sIf, sX, sOwn, sApp, sFrz, frzE, sFor, outV, fnF, lenIs, ent, small, few, putE, putsE, wipeE, it_l, it_t, iS, iR1, iR2, wEn, wZ2, wZ3, dLc, dLf, dSl, oN, oS, pCut, pSub, cI, bD, pIx, pList, pTup, pLen, pNot, qIsN, qNotN, pIsN, pNotN, List.getElem?_cons_succ, List.getElem?_cons_zero, List.set_cons_succ, List.set_cons_zero, List.length_cons, List.length_nil, List.map_cons, List.map_nil, List.foldr_cons, List.foldr_nil, List.replicate_succ, List.replicate_zero, List.cons_append, List.nil_append, sOPar, sOOPar, dOIx, sNest, sCallP, dOLen, fnP, pC, pFrz, dPr, nApp, nIf, nEnd, sN0, sN1, lendE, frzW, sSetK, dGet, dZipD, dPairD, pMax2, sDD, sND, tNeN, sLock, lockE, odcE, tdE, dttE, tC, tLock, tRet, dGetO, dIdxO, tNinD, sPutO, tDen, sUpd, sCpT, iDtt, dSrtD, sParDt, sParDt3, tCall2, fnT, sNewD, isNd]
theorem atI_nat {α : Type} {xs : List α} {k : Nat} {x : α} (h : xs[k]? = some x) : atI xs (k : Int) = some x := by
  have hk := (List.getElem?_eq_some_iff.mp h).1
  unfold atI
  rw [ixN_nat hk]
  exact h
theorem pIx_of {d x : PyData} {xs : List PyData} {k : Nat} (hd : items d = some xs) (h : xs[k]? = some x) : pIx d (.int (k : Int)) = some x := by
  unfold pIx
  rw [hd]
  exact atI_nat h
theorem pIx_I {d x : PyData} {xs : List PyData} {i : Int} (hd : items d = some xs) (h0 : 0 ≤ i) (h : xs[i.toNat]? = some x) : pIx d (.int i) = some x := by
  have := pIx_of (k := i.toNat) hd h
  rw [Int.toNat_of_nonneg h0] at this
  exact this
theorem rg1_nat {k : Nat} (h : k ≤ 100000) : rg1 (.int (k : Int)) = some (nums k) := by
  show (if -100000 ≤ (k : Int) ∧ (k : Int) ≤ 100000 then some (nums (k : Int).toNat) else none) = _
  rw [if_pos ⟨by omega, by omega⟩]
  rfl
theorem nums_len (n : Nat) : (nums n).length = n := by simp [nums]
def Mv (M : List (List Int)) (d : PyData) : Prop := ∃ rs, items d = some rs ∧ rs.length = M.length ∧ ∀ (i : Nat) row, M[i]? = some row → ∃ r, rs[i]? = some r ∧ items r = some (iL row)
structure MOk (n k : Nat) (M : List (List Int)) : Prop where
  len : M.length = n
  row : ∀ (i : Nat) (r : List Int), M[i]? = some r → r.length = k
theorem Mv.ix {n k : Nat} {M : List (List Int)} {d : PyData} {c : Int} {j : Nat} (h : Mv M d) (ok : MOk n k M) (c0 : 0 ≤ c) (c1 : c < n) (hj : j < k) : ∃ r, pIx d (.int c) = some r ∧ pIx r (.int (j : Int)) = some (.int (cell M c j)) := by
  obtain ⟨rs, h1, h2, h3⟩ := h
  have hc : c.toNat < M.length := by rw [ok.len]; omega
  obtain ⟨r, h4, h5⟩ := h3 c.toNat _ (List.getElem?_eq_getElem hc)
  refine ⟨r, pIx_I h1 c0 h4, pIx_of h5 ?_⟩
  have hl := ok.row c.toNat _ (List.getElem?_eq_getElem hc)
  have ec : M.getD c.toNat [] = M[c.toNat] := by rw [List.getD_eq_getElem?_getD, List.getElem?_eq_getElem hc, Option.getD_some]
  unfold cell
  rw [ec, List.getD_eq_getElem?_getD]
  have hj' : j < M[c.toNat].length := by rw [hl]; exact hj
  unfold iL
  rw [List.getElem?_map, List.getElem?_eq_getElem hj', Option.getD_some]
  rfl
theorem pSrt_of (l : List Int) : pSrt (.list (iL l)) = some (.list (iL (srt l))) := by
  unfold pSrt onI
  dsimp only
  rw [asI_iL, ← isrt_eq]
theorem all_bindE {α β : Type} (t : Tree α) (f : α → Tree β) (Q : β → Prop) : (t.bind f).All Q = t.All fun a => (f a).All Q := propext all_bind
theorem all_retE {α : Type} (a : α) (Q : α → Prop) : (Tree.ret a).All Q = Q a := rfl
theorem all_take {n : Int} {Q : PyData → Prop} (n0 : 0 < n) (n1 : n < 4611686018427387904) (h : ∀ r : Int, 0 ≤ r → r < n → Q (.int r)) : (takeF [.bx, .d (.int n)]).All Q := by
  show (if 0 < n ∧ n < 4611686018427387904 then Tree.draw n.toNat fun r => Tree.ret (PyData.int (r : Int)) else .fail).All Q
  rw [if_pos ⟨n0, n1⟩]
  exact fun r hr => h (r : Int) (by omega) (by omega)
theorem all_mapT {α β : Type} {f : α → Tree β} {P : β → Prop} : ∀ {xs : List α}, (∀ x ∈ xs, (f x).All P) → ∀ {Q : List β → Prop}, (∀ ys, ys.length = xs.length → (∀ y ∈ ys, P y) → Q ys) → (mapT f xs).All Q
  | [], _, Q, k => k [] rfl (fun y hy => nomatch hy)
  | x :: xs, h, Q, k => by
    rw [mapT, all_bindE]
    refine (h x (List.mem_cons_self ..)).imp fun y hy => ?_
    rw [all_bindE]
    refine all_mapT (P := P) (fun x hx => h x (List.mem_cons_of_mem _ hx)) fun ys hl hP => k (y :: ys) (by simp [hl]) fun z hz => ?_
    rcases List.mem_cons.mp hz with rfl | hz
    · exact hy
    · exact hP z hz
theorem all_forT {t : Tgt} {body : DenS} {Q : Out → Prop} : ∀ {xs : List PyData} {E : Env} (I : Nat → Env → Prop), I 0 E → (∀ (i : Nat) x E, xs[i]? = some x → I i E → ∃ E', putE t x E = some E' ∧ (body E').All fun o => match o with | .nx E2 => I (i + 1) E2 | .ct E2 => I (i + 1) E2 | .bk E2 => Q (.nx E2) | .rt v => Q (.rt v)) → (∀ E, I xs.length E → Q (.nx E)) → (forT t body xs E).All Q
  | [], E, I, h0, _, hd => hd E h0
  | x :: xs, E, I, h0, hs, hd => by
    obtain ⟨E', e, hb⟩ := hs 0 x E rfl h0
    rw [forT, e, lift_some, ret_bind, all_bindE]
    refine hb.imp fun o ho => ?_
    cases o with
    | nx E2 => exact all_forT (fun i => I (i + 1)) ho (fun i y E hy hi => hs (i + 1) y E (by simpa using hy) hi) fun E h => hd E (by simpa using h)
    | ct E2 => exact all_forT (fun i => I (i + 1)) ho (fun i y E hy hi => hs (i + 1) y E (by simpa using hy) hi) fun E h => hd E (by simpa using h)
    | bk E2 => exact ho
    | rt v => exact ho
theorem all_law_of {ds : List PyData} {Q : PyData → Prop} (hne : ds ≠ []) (hl : ds.length ≤ 1000) (h : ∀ d ∈ ds, Q d) : (m_law_of [.bx, .d (.list ds)]).All Q := by
  have h0 := List.length_pos_iff.mpr hne
  simp only [m_law_of, b_law_of, Nat.reduceSub, Nat.reduceAdd, reduceIte, Tree.bind, liftO, dV, d1, d2, aV, aE, a0, aC, dCall, sRet, outV, fnF, lenIs, ent, pLen, it_l, List.getElem?_cons_succ, List.getElem?_cons_zero, List.length_cons, List.length_nil, List.map_cons, List.map_nil, List.replicate_zero, List.cons_append, List.nil_append, all_bindE]
  refine all_take (by omega) (by omega) fun r r0 r1 => ?_
  have hr : r.toNat < ds.length := by omega
  rw [pIx_I (it_l _) r0 (List.getElem?_eq_getElem hr)]
  exact h _ (List.getElem_mem hr)
theorem all_law_span {m : Nat} {Q : PyData → Prop} (m0 : 2 ≤ m) (m1 : m ≤ 1000) (h : ∀ n : Nat, 2 ≤ n → n ≤ m → Q (.int (n : Int))) : (m_law_span [.bx, .d (.int (m : Int))]).All Q := by
  simp only [m_law_span, b_law_span, Nat.reduceSub, Nat.reduceAdd, reduceIte, Tree.bind, liftO, dIdx, sAsgL, sPar4, dV, dC, d1, d2, t1, t2, l0, lC, dL, dT, aV, aE, a0, aC, dCall, dCallK, dIf, tTr, tV, truth, asB, tNot, tAnd, tOr, dAnd, dOr, sSet, sAsg, sPar, sRet, s0, sC, sIf, sX, sOwn, sApp, sFrz, frzE, sFor, outV, fnF, lenIs, ent, small, few, putE, putsE, wipeE, it_l, it_t, iS, iR1, iR2, wEn, wZ2, wZ3, dLc, dLf, dSl, oN, oS, pCut, pSub, cI, bD, pIx, pList, pTup, pLen, pNot, qIsN, qNotN, pIsN, pNotN, List.getElem?_cons_succ, List.getElem?_cons_zero, List.set_cons_succ, List.set_cons_zero, List.length_cons, List.length_nil, List.map_cons, List.map_nil, List.foldr_cons, List.foldr_nil, List.replicate_succ, List.replicate_zero, List.cons_append, List.nil_append, sOPar, sOOPar, dOIx, sNest, sCallP, dOLen, fnP, pC, pFrz, dPr, nApp, nIf, nEnd, sN0, sN1, lendE, frzW, sSetK, dGet, dZipD, dPairD, pMax2, sDD, sND, tNeN, sLock, lockE, odcE, tdE, dttE, tC, tLock, tRet, dGetO, dIdxO, tNinD, sPutO, tDen, sUpd, sCpT, iDtt, dSrtD, sParDt, sParDt3, tCall2, fnT, sNewD, isNd, all_bindE]
  refine all_take (by omega) (by omega) fun r r0 r1 => ?_
  have := h (2 + r.toNat) (by omega) (by omega)
  rw [show ((2 + r.toNat : Nat) : Int) = 2 + r by omega] at this
  exact this
theorem iL_take (ns : List Int) (k : Nat) : (iL ns).take k = iL (ns.take k) := List.map_take.symm
theorem tbl_round {n k : Nat} {b : Int} (n0 : 0 < n) (hk : k ≤ n) : Tbl n (srt ((cnt k).map fun j => (b + j) % n)) ∧ (srt ((cnt k).map fun j => (b + j) % n)).length = k := by
  refine ⟨tbl_srt ?_ fun x hx => ?_, by rw [srt_len, List.length_map, cnt_len]⟩
  · unfold cnt
    rw [List.map_map, List.Nodup, List.pairwise_map]
    refine List.Pairwise.imp_of_mem (R := fun a b => a < b) (fun {x y} hx hy hxy e => ?_) List.pairwise_lt_range
    have h1 := List.mem_range.mp hx
    have h2 := List.mem_range.mp hy
    simp only [Function.comp] at e
    have e2 := Int.emod_emod_of_dvd (b + (y : Int)) (Int.dvd_refl (n : Int))
    have h3 : ((b + (y : Int)) - (b + (x : Int))) % (n : Int) = 0 := by
      rw [Int.sub_emod, e]
      simp
    have h4 : ((b + (y : Int)) - (b + (x : Int))) = ((y - x : Nat) : Int) := by omega
    rw [h4] at h3
    have h5 : (y - x) % n = 0 := by exact_mod_cast h3
    rw [Nat.mod_eq_of_lt (by omega)] at h5
    omega
  · obtain ⟨j, _, rfl⟩ := List.mem_map.mp hx
    exact ⟨Int.emod_nonneg _ (by omega), Int.emod_lt_of_pos _ (by omega)⟩
theorem tbl_strewn {n k : Nat} {ms : List Int} (hk : k ≤ n) (hp : ms.Perm (cnt n)) : Tbl n (srt (ms.take k)) ∧ (srt (ms.take k)).length = k := by
  have hl := hp.length_eq
  rw [cnt_len] at hl
  have hm : ∀ x ∈ cnt n, 0 ≤ x ∧ x < (n : Int) := fun x hx => by
    obtain ⟨j, hj, rfl⟩ := List.mem_map.mp hx
    have := List.mem_range.mp hj
    omega
  have hd : (cnt n).Nodup := by
    unfold cnt
    rw [List.Nodup, List.pairwise_map]
    exact List.Pairwise.imp (fun {a b} h e => by omega) List.pairwise_lt_range
  refine ⟨tbl_srt ((hp.nodup_iff.mpr hd).sublist (List.take_sublist _ _)) fun x hx => hm x (hp.mem_iff.mp (List.mem_of_mem_take hx)), ?_⟩
  rw [srt_len, List.length_take]
  omega
theorem all_law_crowd {n k : Nat} {Q : PyData → Prop} (n0 : 1 ≤ n) (n1 : n ≤ 1000) (hk : k ≤ n) (h : ∀ ns : List Int, Tbl n ns → ns.length = k → Q (.tuple (iL ns))) : (m_law_crowd [.bx, .d (.int (n : Int)), .d (.int (k : Int))]).All Q := by
  have n0' : (0 : Int) < n := by omega
  simp only [m_law_crowd, b_law_crowd, Nat.reduceSub, Nat.reduceAdd, reduceIte, Tree.bind, liftO, dIdx, sAsgL, sPar4, dV, dC, d1, d2, t1, t2, l0, lC, dL, dT, aV, aE, a0, aC, dCall, dCallK, dIf, tTr, tV, truth, asB, tNot, tAnd, tOr, dAnd, dOr, sSet, sAsg, sPar, sRet, s0, sC, sIf, sX, sOwn, sApp, sFrz, frzE, sFor, outV, fnF, lenIs, ent, small, few, putE, putsE, wipeE, it_l, it_t, iS, iR1, iR2, wEn, wZ2, wZ3, dLc, dLf, dSl, oN, oS, pCut, pSub, cI, bD, pIx, pList, pTup, pLen, pNot, qIsN, qNotN, pIsN, pNotN, List.getElem?_cons_succ, List.getElem?_cons_zero, List.set_cons_succ, List.set_cons_zero, List.length_cons, List.length_nil, List.map_cons, List.map_nil, List.foldr_cons, List.foldr_nil, List.replicate_succ, List.replicate_zero, List.cons_append, List.nil_append, sOPar, sOOPar, dOIx, sNest, sCallP, dOLen, fnP, pC, pFrz, dPr, nApp, nIf, nEnd, sN0, sN1, lendE, frzW, sSetK, dGet, dZipD, dPairD, pMax2, sDD, sND, tNeN, sLock, lockE, odcE, tdE, dttE, tC, tLock, tRet, dGetO, dIdxO, tNinD, sPutO, tDen, sUpd, sCpT, iDtt, dSrtD, sParDt, sParDt3, tCall2, fnT, sNewD, isNd, all_bindE]
  refine all_take (by omega) (by omega) fun r r0 r1 => ?_
  rw [pEq_ii]
  by_cases hr : r = 0
  · simp only [hr, decide_true, all_bindE, all_retE]
    refine all_take (by omega) (by omega) fun b b0 b1 => ?_
    simp only [Nat.reduceSub, Nat.reduceAdd, reduceIte, Tree.bind, liftO, dIdx, sAsgL, sPar4, dV, dC, d1, d2, t1, t2, l0, lC, dL, dT, aV, aE, a0, aC, dCall, dCallK, dIf, tTr, tV, truth, asB, tNot, tAnd, tOr, dAnd, dOr, sSet, sAsg, sPar, sRet, s0, sC, sIf, sX, sOwn, sApp, sFrz, frzE, sFor, outV, fnF, lenIs, ent, small, few, putE, putsE, wipeE, it_l, it_t, iS, iR1, iR2, wEn, wZ2, wZ3, dLc, dLf, dSl, oN, oS, pCut, pSub, cI, bD, pIx, pList, pTup, pLen, pNot, qIsN, qNotN, pIsN, pNotN, List.getElem?_cons_succ, List.getElem?_cons_zero, List.set_cons_succ, List.set_cons_zero, List.length_cons, List.length_nil, List.map_cons, List.map_nil, List.foldr_cons, List.foldr_nil, List.replicate_succ, List.replicate_zero, List.cons_append, List.nil_append, sOPar, sOOPar, dOIx, sNest, sCallP, dOLen, fnP, pC, pFrz, dPr, nApp, nIf, nEnd, sN0, sN1, lendE, frzW, sSetK, dGet, dZipD, dPairD, pMax2, sDD, sND, tNeN, sLock, lockE, odcE, tdE, dttE, tC, tLock, tRet, dGetO, dIdxO, tNinD, sPutO, tDen, sUpd, sCpT, iDtt, dSrtD, sParDt, sParDt3, tCall2, fnT, sNewD, isNd, all_bindE, all_retE, rg1_nat (show k ≤ 100000 by omega), nums_len, if_pos (show k ≤ 50000 by omega)]
    rw [nums_cnt, mapT_I (g := fun j => (b + j) % n) fun x hx => by simp only [Nat.reduceSub, Nat.reduceAdd, reduceIte, Tree.bind, liftO, dIdx, sAsgL, sPar4, dV, dC, d1, d2, t1, t2, l0, lC, dL, dT, aV, aE, a0, aC, dCall, dCallK, dIf, tTr, tV, truth, asB, tNot, tAnd, tOr, dAnd, dOr, sSet, sAsg, sPar, sRet, s0, sC, sIf, sX, sOwn, sApp, sFrz, frzE, sFor, outV, fnF, lenIs, ent, small, few, putE, putsE, wipeE, it_l, it_t, iS, iR1, iR2, wEn, wZ2, wZ3, dLc, dLf, dSl, oN, oS, pCut, pSub, cI, bD, pIx, pList, pTup, pLen, pNot, qIsN, qNotN, pIsN, pNotN, List.getElem?_cons_succ, List.getElem?_cons_zero, List.set_cons_succ, List.set_cons_zero, List.length_cons, List.length_nil, List.map_cons, List.map_nil, List.foldr_cons, List.foldr_nil, List.replicate_succ, List.replicate_zero, List.cons_append, List.nil_append, sOPar, sOOPar, dOIx, sNest, sCallP, dOLen, fnP, pC, pFrz, dPr, nApp, nIf, nEnd, sN0, sN1, lendE, frzW, sSetK, dGet, dZipD, dPairD, pMax2, sDD, sND, tNeN, sLock, lockE, odcE, tdE, dttE, tC, tLock, tRet, dGetO, dIdxO, tNinD, sPutO, tDen, sUpd, sCpT, iDtt, dSrtD, sParDt, sParDt3, tCall2, fnT, sNewD, isNd, pMod, pAdd, if_pos n0']]
    simp only [Nat.reduceSub, Nat.reduceAdd, reduceIte, Tree.bind, liftO, dIdx, sAsgL, sPar4, dV, dC, d1, d2, t1, t2, l0, lC, dL, dT, aV, aE, a0, aC, dCall, dCallK, dIf, tTr, tV, truth, asB, tNot, tAnd, tOr, dAnd, dOr, sSet, sAsg, sPar, sRet, s0, sC, sIf, sX, sOwn, sApp, sFrz, frzE, sFor, outV, fnF, lenIs, ent, small, few, putE, putsE, wipeE, it_l, it_t, iS, iR1, iR2, wEn, wZ2, wZ3, dLc, dLf, dSl, oN, oS, pCut, pSub, cI, bD, pIx, pList, pTup, pLen, pNot, qIsN, qNotN, pIsN, pNotN, List.getElem?_cons_succ, List.getElem?_cons_zero, List.set_cons_succ, List.set_cons_zero, List.length_cons, List.length_nil, List.map_cons, List.map_nil, List.foldr_cons, List.foldr_nil, List.replicate_succ, List.replicate_zero, List.cons_append, List.nil_append, sOPar, sOOPar, dOIx, sNest, sCallP, dOLen, fnP, pC, pFrz, dPr, nApp, nIf, nEnd, sN0, sN1, lendE, frzW, sSetK, dGet, dZipD, dPairD, pMax2, sDD, sND, tNeN, sLock, lockE, odcE, tdE, dttE, tC, tLock, tRet, dGetO, dIdxO, tNinD, sPutO, tDen, sUpd, sCpT, iDtt, dSrtD, sParDt, sParDt3, tCall2, fnT, sNewD, isNd, all_bindE, all_retE, pSrt_of]
    obtain ⟨t1, t2⟩ := tbl_round (b := b) (show 0 < n by omega) hk
    exact h _ t1 t2
  · simp only [hr, decide_false, all_bindE, all_retE, Tree.bind, liftO, dIdx, sAsgL, sPar4, dV, dC, d1, d2, t1, t2, l0, lC, dL, dT, aV, aE, a0, aC, dCall, dCallK, dIf, tTr, tV, truth, asB, tNot, tAnd, tOr, dAnd, dOr, sSet, sAsg, sPar, sRet, s0, sC, sIf, sX, sOwn, sApp, sFrz, frzE, sFor, outV, fnF, lenIs, ent, small, few, putE, putsE, wipeE, it_l, it_t, iS, iR1, iR2, wEn, wZ2, wZ3, dLc, dLf, dSl, oN, oS, pCut, pSub, cI, bD, pIx, pList, pTup, pLen, pNot, qIsN, qNotN, pIsN, pNotN, List.getElem?_cons_succ, List.getElem?_cons_zero, List.set_cons_succ, List.set_cons_zero, List.length_cons, List.length_nil, List.map_cons, List.map_nil, List.foldr_cons, List.foldr_nil, List.replicate_succ, List.replicate_zero, List.cons_append, List.nil_append, sOPar, sOOPar, dOIx, sNest, sCallP, dOLen, fnP, pC, pFrz, dPr, nApp, nIf, nEnd, sN0, sN1, lendE, frzW, sSetK, dGet, dZipD, dPairD, pMax2, sDD, sND, tNeN, sLock, lockE, odcE, tdE, dttE, tC, tLock, tRet, dGetO, dIdxO, tNinD, sPutO, tDen, sUpd, sCpT, iDtt, dSrtD, sParDt, sParDt3, tCall2, fnT, sNewD, isNd, lrg, rg1_nat (show n ≤ 100000 by omega), strewnF, nums_len, if_pos (show n ≤ 1000 by omega)]
    refine strewn_all n (nums n) (nums_len n) fun es hp => ?_
    rw [nums_cnt] at hp
    obtain ⟨ms, rfl, hp2⟩ := perm_ints hp
    rw [cutD_to, iL_take]
    simp only [Tree.bind, liftO, dIdx, sAsgL, sPar4, dV, dC, d1, d2, t1, t2, l0, lC, dL, dT, aV, aE, a0, aC, dCall, dCallK, dIf, tTr, tV, truth, asB, tNot, tAnd, tOr, dAnd, dOr, sSet, sAsg, sPar, sRet, s0, sC, sIf, sX, sOwn, sApp, sFrz, frzE, sFor, outV, fnF, lenIs, ent, small, few, putE, putsE, wipeE, it_l, it_t, iS, iR1, iR2, wEn, wZ2, wZ3, dLc, dLf, dSl, oN, oS, pCut, pSub, cI, bD, pIx, pList, pTup, pLen, pNot, qIsN, qNotN, pIsN, pNotN, List.getElem?_cons_succ, List.getElem?_cons_zero, List.set_cons_succ, List.set_cons_zero, List.length_cons, List.length_nil, List.map_cons, List.map_nil, List.foldr_cons, List.foldr_nil, List.replicate_succ, List.replicate_zero, List.cons_append, List.nil_append, sOPar, sOOPar, dOIx, sNest, sCallP, dOLen, fnP, pC, pFrz, dPr, nApp, nIf, nEnd, sN0, sN1, lendE, frzW, sSetK, dGet, dZipD, dPairD, pMax2, sDD, sND, tNeN, sLock, lockE, odcE, tdE, dttE, tC, tLock, tRet, dGetO, dIdxO, tNinD, sPutO, tDen, sUpd, sCpT, iDtt, dSrtD, sParDt, sParDt3, tCall2, fnT, sNewD, isNd, pSrt_of, all_bindE, all_retE]
    obtain ⟨t1, t2⟩ := tbl_strewn hk hp2
    exact h _ t1 t2
theorem all_law_scene {m : Nat} {Q : PyData → Prop} (m0 : 2 ≤ m) (m1 : m ≤ 1000) (h : ∀ (n k : Nat) (ns : List Int), 2 ≤ n → n ≤ m → 1 ≤ k → k < n → Tbl n ns → ns.length = k → Q (.tuple [.int (n : Int), .int (k : Int), .tuple (iL ns)])) : (m_law_scene [.bx, .d (.int (m : Int))]).All Q := by
  simp only [m_law_scene, b_law_scene, Nat.reduceSub, Nat.reduceAdd, reduceIte, Tree.bind, liftO, dIdx, sAsgL, sPar4, dV, dC, d1, d2, t1, t2, l0, lC, dL, dT, aV, aE, a0, aC, dCall, dCallK, dIf, tTr, tV, truth, asB, tNot, tAnd, tOr, dAnd, dOr, sSet, sAsg, sPar, sRet, s0, sC, sIf, sX, sOwn, sApp, sFrz, frzE, sFor, outV, fnF, lenIs, ent, small, few, putE, putsE, wipeE, it_l, it_t, iS, iR1, iR2, wEn, wZ2, wZ3, dLc, dLf, dSl, oN, oS, pCut, pSub, cI, bD, pIx, pList, pTup, pLen, pNot, qIsN, qNotN, pIsN, pNotN, List.getElem?_cons_succ, List.getElem?_cons_zero, List.set_cons_succ, List.set_cons_zero, List.length_cons, List.length_nil, List.map_cons, List.map_nil, List.foldr_cons, List.foldr_nil, List.replicate_succ, List.replicate_zero, List.cons_append, List.nil_append, sOPar, sOOPar, dOIx, sNest, sCallP, dOLen, fnP, pC, pFrz, dPr, nApp, nIf, nEnd, sN0, sN1, lendE, frzW, sSetK, dGet, dZipD, dPairD, pMax2, sDD, sND, tNeN, sLock, lockE, odcE, tdE, dttE, tC, tLock, tRet, dGetO, dIdxO, tNinD, sPutO, tDen, sUpd, sCpT, iDtt, dSrtD, sParDt, sParDt3, tCall2, fnT, sNewD, isNd, all_bindE]
  refine all_law_span m0 m1 fun n h1 h2 => ?_
  simp only [Nat.reduceSub, Nat.reduceAdd, reduceIte, Tree.bind, liftO, dIdx, sAsgL, sPar4, dV, dC, d1, d2, t1, t2, l0, lC, dL, dT, aV, aE, a0, aC, dCall, dCallK, dIf, tTr, tV, truth, asB, tNot, tAnd, tOr, dAnd, dOr, sSet, sAsg, sPar, sRet, s0, sC, sIf, sX, sOwn, sApp, sFrz, frzE, sFor, outV, fnF, lenIs, ent, small, few, putE, putsE, wipeE, it_l, it_t, iS, iR1, iR2, wEn, wZ2, wZ3, dLc, dLf, dSl, oN, oS, pCut, pSub, cI, bD, pIx, pList, pTup, pLen, pNot, qIsN, qNotN, pIsN, pNotN, List.getElem?_cons_succ, List.getElem?_cons_zero, List.set_cons_succ, List.set_cons_zero, List.length_cons, List.length_nil, List.map_cons, List.map_nil, List.foldr_cons, List.foldr_nil, List.replicate_succ, List.replicate_zero, List.cons_append, List.nil_append, sOPar, sOOPar, dOIx, sNest, sCallP, dOLen, fnP, pC, pFrz, dPr, nApp, nIf, nEnd, sN0, sN1, lendE, frzW, sSetK, dGet, dZipD, dPairD, pMax2, sDD, sND, tNeN, sLock, lockE, odcE, tdE, dttE, tC, tLock, tRet, dGetO, dIdxO, tNinD, sPutO, tDen, sUpd, sCpT, iDtt, dSrtD, sParDt, sParDt3, tCall2, fnT, sNewD, isNd, all_bindE, all_retE, pAdd]
  refine all_take (by omega) (by omega) fun r r0 r1 => ?_
  simp only [Nat.reduceSub, Nat.reduceAdd, reduceIte, Tree.bind, liftO, dIdx, sAsgL, sPar4, dV, dC, d1, d2, t1, t2, l0, lC, dL, dT, aV, aE, a0, aC, dCall, dCallK, dIf, tTr, tV, truth, asB, tNot, tAnd, tOr, dAnd, dOr, sSet, sAsg, sPar, sRet, s0, sC, sIf, sX, sOwn, sApp, sFrz, frzE, sFor, outV, fnF, lenIs, ent, small, few, putE, putsE, wipeE, it_l, it_t, iS, iR1, iR2, wEn, wZ2, wZ3, dLc, dLf, dSl, oN, oS, pCut, pSub, cI, bD, pIx, pList, pTup, pLen, pNot, qIsN, qNotN, pIsN, pNotN, List.getElem?_cons_succ, List.getElem?_cons_zero, List.set_cons_succ, List.set_cons_zero, List.length_cons, List.length_nil, List.map_cons, List.map_nil, List.foldr_cons, List.foldr_nil, List.replicate_succ, List.replicate_zero, List.cons_append, List.nil_append, sOPar, sOOPar, dOIx, sNest, sCallP, dOLen, fnP, pC, pFrz, dPr, nApp, nIf, nEnd, sN0, sN1, lendE, frzW, sSetK, dGet, dZipD, dPairD, pMax2, sDD, sND, tNeN, sLock, lockE, odcE, tdE, dttE, tC, tLock, tRet, dGetO, dIdxO, tNinD, sPutO, tDen, sUpd, sCpT, iDtt, dSrtD, sParDt, sParDt3, tCall2, fnT, sNewD, isNd, all_bindE, all_retE, pAdd]
  rw [show (1 + r : Int) = ((1 + r.toNat : Nat) : Int) by omega]
  refine all_law_crowd (by omega) (by omega) (by omega) fun ns t1 t2 => ?_
  simp only [Nat.reduceSub, Nat.reduceAdd, reduceIte, Tree.bind, liftO, dIdx, sAsgL, sPar4, dV, dC, d1, d2, t1, t2, l0, lC, dL, dT, aV, aE, a0, aC, dCall, dCallK, dIf, tTr, tV, truth, asB, tNot, tAnd, tOr, dAnd, dOr, sSet, sAsg, sPar, sRet, s0, sC, sIf, sX, sOwn, sApp, sFrz, frzE, sFor, outV, fnF, lenIs, ent, small, few, putE, putsE, wipeE, it_l, it_t, iS, iR1, iR2, wEn, wZ2, wZ3, dLc, dLf, dSl, oN, oS, pCut, pSub, cI, bD, pIx, pList, pTup, pLen, pNot, qIsN, qNotN, pIsN, pNotN, List.getElem?_cons_succ, List.getElem?_cons_zero, List.set_cons_succ, List.set_cons_zero, List.length_cons, List.length_nil, List.map_cons, List.map_nil, List.foldr_cons, List.foldr_nil, List.replicate_succ, List.replicate_zero, List.cons_append, List.nil_append, sOPar, sOOPar, dOIx, sNest, sCallP, dOLen, fnP, pC, pFrz, dPr, nApp, nIf, nEnd, sN0, sN1, lendE, frzW, sSetK, dGet, dZipD, dPairD, pMax2, sDD, sND, tNeN, sLock, lockE, odcE, tdE, dttE, tC, tLock, tRet, dGetO, dIdxO, tNinD, sPutO, tDen, sUpd, sCpT, iDtt, dSrtD, sParDt, sParDt3, tCall2, fnT, sNewD, isNd, all_bindE, all_retE, pAdd, Nat.reduceLeDiff]
  exact h n (1 + r.toNat) ns h1 h2 (by omega) (by omega) t1 t2
theorem inR_srt {n : Nat} {cs : List Int} (h : InR n cs) : InR n (srt cs) := fun x hx => h x (srt_mem.mp hx)
theorem pRev_of (l : List Int) : pRev (.list (iL l)) = some (.list (iL l.reverse)) := by
  show some (PyData.list (iL l).reverse) = _
  rw [show (iL l).reverse = iL l.reverse from List.map_reverse.symm]
theorem all_law_tour {n m : Nat} {Q : PyData → Prop} (n0 : 1 ≤ n) (n1 : n ≤ 1000) (m1 : m ≤ 1000) (h : ∀ cs : List Int, InR n cs → cs.length ≤ m → Q (.list (iL cs))) : (m_law_tour [.bx, .d (.int (n : Int)), .d (.int (m : Int))]).All Q := by
  simp only [m_law_tour, b_law_tour, Nat.reduceSub, Nat.reduceAdd, reduceIte, Tree.bind, liftO, dIdx, sAsgL, sPar4, dV, dC, d1, d2, t1, t2, l0, lC, dL, dT, aV, aE, a0, aC, dCall, dCallK, dIf, tTr, tV, truth, asB, tNot, tAnd, tOr, dAnd, dOr, sSet, sAsg, sPar, sRet, s0, sC, sIf, sX, sOwn, sApp, sFrz, frzE, sFor, outV, fnF, lenIs, ent, small, few, putE, putsE, wipeE, it_l, it_t, iS, iR1, iR2, wEn, wZ2, wZ3, dLc, dLf, dSl, oN, oS, pCut, pSub, cI, bD, pIx, pList, pTup, pLen, pNot, qIsN, qNotN, pIsN, pNotN, List.getElem?_cons_succ, List.getElem?_cons_zero, List.set_cons_succ, List.set_cons_zero, List.length_cons, List.length_nil, List.map_cons, List.map_nil, List.foldr_cons, List.foldr_nil, List.replicate_succ, List.replicate_zero, List.cons_append, List.nil_append, sOPar, sOOPar, dOIx, sNest, sCallP, dOLen, fnP, pC, pFrz, dPr, nApp, nIf, nEnd, sN0, sN1, lendE, frzW, sSetK, dGet, dZipD, dPairD, pMax2, sDD, sND, tNeN, sLock, lockE, odcE, tdE, dttE, tC, tLock, tRet, dGetO, dIdxO, tNinD, sPutO, tDen, sUpd, sCpT, iDtt, dSrtD, sParDt, sParDt3, tCall2, fnT, sNewD, isNd, sParO, all_bindE, all_retE]
  refine all_take (by omega) (by omega) fun w w0 w1 => ?_
  simp only [Nat.reduceSub, Nat.reduceAdd, reduceIte, Tree.bind, liftO, dIdx, sAsgL, sPar4, dV, dC, d1, d2, t1, t2, l0, lC, dL, dT, aV, aE, a0, aC, dCall, dCallK, dIf, tTr, tV, truth, asB, tNot, tAnd, tOr, dAnd, dOr, sSet, sAsg, sPar, sRet, s0, sC, sIf, sX, sOwn, sApp, sFrz, frzE, sFor, outV, fnF, lenIs, ent, small, few, putE, putsE, wipeE, it_l, it_t, iS, iR1, iR2, wEn, wZ2, wZ3, dLc, dLf, dSl, oN, oS, pCut, pSub, cI, bD, pIx, pList, pTup, pLen, pNot, qIsN, qNotN, pIsN, pNotN, List.getElem?_cons_succ, List.getElem?_cons_zero, List.set_cons_succ, List.set_cons_zero, List.length_cons, List.length_nil, List.map_cons, List.map_nil, List.foldr_cons, List.foldr_nil, List.replicate_succ, List.replicate_zero, List.cons_append, List.nil_append, sOPar, sOOPar, dOIx, sNest, sCallP, dOLen, fnP, pC, pFrz, dPr, nApp, nIf, nEnd, sN0, sN1, lendE, frzW, sSetK, dGet, dZipD, dPairD, pMax2, sDD, sND, tNeN, sLock, lockE, odcE, tdE, dttE, tC, tLock, tRet, dGetO, dIdxO, tNinD, sPutO, tDen, sUpd, sCpT, iDtt, dSrtD, sParDt, sParDt3, tCall2, fnT, sNewD, isNd, all_bindE, all_retE, Nat.reduceLeDiff, rg1_nat (k := 3) (by decide), show rg1 (.int 3) = some (nums 3) from rfl, nums_len]
  refine all_mapT (P := fun d => ∃ i : Int, d = .int i ∧ 0 ≤ i ∧ i < n) (fun x hx => ?_) fun fw hfl hfw => ?_
  · exact all_take (by omega) (by omega) fun r r0 r1 => ⟨r, rfl, r0, r1⟩
  rw [nums_len] at hfl
  simp only [Nat.reduceSub, Nat.reduceAdd, reduceIte, Tree.bind, liftO, dIdx, sAsgL, sPar4, dV, dC, d1, d2, t1, t2, l0, lC, dL, dT, aV, aE, a0, aC, dCall, dCallK, dIf, tTr, tV, truth, asB, tNot, tAnd, tOr, dAnd, dOr, sSet, sAsg, sPar, sRet, s0, sC, sIf, sX, sOwn, sApp, sFrz, frzE, sFor, outV, fnF, lenIs, ent, small, few, putE, putsE, wipeE, it_l, it_t, iS, iR1, iR2, wEn, wZ2, wZ3, dLc, dLf, dSl, oN, oS, pCut, pSub, cI, bD, pIx, pList, pTup, pLen, pNot, qIsN, qNotN, pIsN, pNotN, List.getElem?_cons_succ, List.getElem?_cons_zero, List.set_cons_succ, List.set_cons_zero, List.length_cons, List.length_nil, List.map_cons, List.map_nil, List.foldr_cons, List.foldr_nil, List.replicate_succ, List.replicate_zero, List.cons_append, List.nil_append, sOPar, sOOPar, dOIx, sNest, sCallP, dOLen, fnP, pC, pFrz, dPr, nApp, nIf, nEnd, sN0, sN1, lendE, frzW, sSetK, dGet, dZipD, dPairD, pMax2, sDD, sND, tNeN, sLock, lockE, odcE, tdE, dttE, tC, tLock, tRet, dGetO, dIdxO, tNinD, sPutO, tDen, sUpd, sCpT, iDtt, dSrtD, sParDt, sParDt3, tCall2, fnT, sNewD, isNd, all_bindE, all_retE, pAdd]
  refine all_take (by omega) (by omega) fun r r0 r1 => ?_
  obtain ⟨r, rfl⟩ : ∃ j : Nat, r = (j : Int) := ⟨r.toNat, by omega⟩
  rw [rg1_nat (by omega)]
  simp only [all_retE]
  refine all_forT (I := fun i E => ∃ x4, ∃ cs : List Int, E = [some .bx, some (.d (.int (n : Int))), some (.d (.int (m : Int))), some (.d (.list fw)), x4, some (.d (.int w)), some (.own (iL cs))] ∧ InR n cs ∧ cs.length = i) ⟨_, [], rfl, (by intro x hx; cases hx), rfl⟩ (fun i x E hx hI => ?_) fun E hI => ?_
  · obtain ⟨x4, cs, rfl, hcr, hcl⟩ := hI
    have hi : i < r := by
      have := (List.getElem?_eq_some_iff.mp hx).1
      rw [nums_len] at this
      exact this
    refine ⟨_, rfl, ?_⟩
    have fin : ∀ d : PyData, (∃ i : Int, d = .int i ∧ 0 ≤ i ∧ i < n) → ∃ x4, ∃ cs2 : List Int, [some W.bx, some (.d (.int (n : Int))), some (.d (.int (m : Int))), some (.d (.list fw)), some (.d x), some (.d (.int w)), some (.own (iL cs ++ [d]))] = [some .bx, some (.d (.int (n : Int))), some (.d (.int (m : Int))), some (.d (.list fw)), x4, some (.d (.int w)), some (.own (iL cs2))] ∧ InR n cs2 ∧ cs2.length = i + 1 := fun d ⟨j, hj, j0, j1⟩ => by
      subst hj
      refine ⟨some (.d x), cs ++ [j], by simp [iL], fun y hy => ?_, by simp [hcl]⟩
      rcases List.mem_append.mp hy with hy | hy
      · exact hcr y hy
      · rw [List.mem_singleton.mp hy]
        exact ⟨j0, j1⟩
    simp only [Nat.reduceSub, Nat.reduceAdd, reduceIte, Tree.bind, liftO, dIdx, sAsgL, sPar4, dV, dC, d1, d2, t1, t2, l0, lC, dL, dT, aV, aE, a0, aC, dCall, dCallK, dIf, tTr, tV, truth, asB, tNot, tAnd, tOr, dAnd, dOr, sSet, sAsg, sPar, sRet, s0, sC, sIf, sX, sOwn, sApp, sFrz, frzE, sFor, outV, fnF, lenIs, ent, small, few, putE, putsE, wipeE, it_l, it_t, iS, iR1, iR2, wEn, wZ2, wZ3, dLc, dLf, dSl, oN, oS, pCut, pSub, cI, bD, pIx, pList, pTup, pLen, pNot, qIsN, qNotN, pIsN, pNotN, List.getElem?_cons_succ, List.getElem?_cons_zero, List.set_cons_succ, List.set_cons_zero, List.length_cons, List.length_nil, List.map_cons, List.map_nil, List.foldr_cons, List.foldr_nil, List.replicate_succ, List.replicate_zero, List.cons_append, List.nil_append, sOPar, sOOPar, dOIx, sNest, sCallP, dOLen, fnP, pC, pFrz, dPr, nApp, nIf, nEnd, sN0, sN1, lendE, frzW, sSetK, dGet, dZipD, dPairD, pMax2, sDD, sND, tNeN, sLock, lockE, odcE, tdE, dttE, tC, tLock, tRet, dGetO, dIdxO, tNinD, sPutO, tDen, sUpd, sCpT, iDtt, dSrtD, sParDt, sParDt3, tCall2, fnT, sNewD, isNd, all_bindE, all_retE, pEq_ii, iL_len, if_pos (show cs.length + 1 ≤ 100000 by omega)]
    by_cases hw : w = 0
    · simp only [hw, decide_true]
      rw [hw] at fin
      exact all_law_of (fun e => by rw [e] at hfl; simp at hfl) (by omega) fun d hd => fin d (hfw d hd)
    · simp only [hw, decide_false]
      exact all_take (by omega) (by omega) fun j j0 j1 => fin _ ⟨j, rfl, j0, j1⟩
  · obtain ⟨x4, cs, rfl, hcr, hcl⟩ := hI
    rw [nums_len] at hcl
    simp only [Nat.reduceSub, Nat.reduceAdd, reduceIte, Tree.bind, liftO, dIdx, sAsgL, sPar4, dV, dC, d1, d2, t1, t2, l0, lC, dL, dT, aV, aE, a0, aC, dCall, dCallK, dIf, tTr, tV, truth, asB, tNot, tAnd, tOr, dAnd, dOr, sSet, sAsg, sPar, sRet, s0, sC, sIf, sX, sOwn, sApp, sFrz, frzE, sFor, outV, fnF, lenIs, ent, small, few, putE, putsE, wipeE, it_l, it_t, iS, iR1, iR2, wEn, wZ2, wZ3, dLc, dLf, dSl, oN, oS, pCut, pSub, cI, bD, pIx, pList, pTup, pLen, pNot, qIsN, qNotN, pIsN, pNotN, List.getElem?_cons_succ, List.getElem?_cons_zero, List.set_cons_succ, List.set_cons_zero, List.length_cons, List.length_nil, List.map_cons, List.map_nil, List.foldr_cons, List.foldr_nil, List.replicate_succ, List.replicate_zero, List.cons_append, List.nil_append, sOPar, sOOPar, dOIx, sNest, sCallP, dOLen, fnP, pC, pFrz, dPr, nApp, nIf, nEnd, sN0, sN1, lendE, frzW, sSetK, dGet, dZipD, dPairD, pMax2, sDD, sND, tNeN, sLock, lockE, odcE, tdE, dttE, tC, tLock, tRet, dGetO, dIdxO, tNinD, sPutO, tDen, sUpd, sCpT, iDtt, dSrtD, sParDt, sParDt3, tCall2, fnT, sNewD, isNd, all_bindE, all_retE, pSrt_of, pRev_of, Nat.reduceLeDiff]
    have hw : w = 0 ∨ w = 1 ∨ w = 2 ∨ w = 3 ∨ w = 4 := by omega
    rcases hw with rfl | rfl | rfl | rfl | rfl
    · exact h cs hcr (by omega)
    · exact h cs hcr (by omega)
    · exact h cs hcr (by omega)
    · exact h (srt cs) (inR_srt hcr) (by rw [srt_len]; omega)
    · exact h (srt cs).reverse (fun x hx => inR_srt hcr x (List.mem_reverse.mp hx)) (by rw [List.length_reverse, srt_len]; omega)
theorem prs_at2 {ss : List Int} {i : Nat} {x : PyData} (h : (prs (nums (iL ss).length) (iL ss))[i]? = some x) : ∃ s, ss[i]? = some s ∧ x = .tuple [.int (i : Int), .int s] := by
  obtain ⟨d, hd, e⟩ := prs_at (ds := iL ss) (i := i) (z := .im x) (by rw [List.getElem?_map, h]; rfl)
  obtain ⟨s, hs, rfl⟩ := iL_get hd
  cases e
  exact ⟨s, hs, rfl⟩
theorem pAdd_ii (i j : Int) : pAdd (.int i) (.int j) = some (.int (i + j)) := rfl
theorem prs_len (xs ys : List PyData) : (prs xs ys).length = min xs.length ys.length := by simp [prs]
theorem pMod_of {i n : Int} (n0 : 0 < n) : pMod (.int i) (.int n) = some (.int (i % n)) := by
  show (if 0 < n then some (PyData.int (i % n)) else none) = _
  rw [if_pos n0]
structure Sh (n k : Nat) (M : List (List Int)) : Prop where
  ok : MOk n k M
  bd : ∀ r ∈ M, ∀ x ∈ r, x.natAbs < 10 ^ 60
theorem Sh.row {n k : Nat} {M : List (List Int)} (h : Sh n k M) : ∀ r ∈ M, r.length = k := fun r hr => by
  obtain ⟨i, hi⟩ := List.getElem?_of_mem hr
  exact h.ok.row i r hi
theorem pickT_R {f : PyData → Tree (Option PyData)} {g : Nat → Option PyData} {n : Nat} (h : ∀ k, k < n → f (.int (k : Int)) = .ret (g k)) : pickT f (nums n) = .ret ((List.range n).filterMap g) := by
  unfold nums
  rw [pickT_map]
  exact pickT_ret fun k hk => h k (List.mem_range.mp hk)
theorem ev_as_table {l : List Int} : m_as_table [.d (.list (iL l))] = .ret (.tuple (iL (srt l))) := by
  simp only [m_as_table, b_as_table, Nat.reduceSub, Nat.reduceAdd, reduceIte, Tree.bind, liftO, dIdx, sAsgL, sPar4, dV, dC, d1, d2, t1, t2, l0, lC, dL, dT, aV, aE, a0, aC, dCall, dCallK, dIf, tTr, tV, truth, asB, tNot, tAnd, tOr, dAnd, dOr, sSet, sAsg, sPar, sRet, s0, sC, sIf, sX, sOwn, sApp, sFrz, frzE, sFor, outV, fnF, lenIs, ent, small, few, putE, putsE, wipeE, it_l, it_t, iS, iR1, iR2, wEn, wZ2, wZ3, dLc, dLf, dSl, oN, oS, pCut, pSub, cI, bD, pIx, pList, pTup, pLen, pNot, qIsN, qNotN, pIsN, pNotN, List.getElem?_cons_succ, List.getElem?_cons_zero, List.set_cons_succ, List.set_cons_zero, List.length_cons, List.length_nil, List.map_cons, List.map_nil, List.foldr_cons, List.foldr_nil, List.replicate_succ, List.replicate_zero, List.cons_append, List.nil_append, sOPar, sOOPar, dOIx, sNest, sCallP, dOLen, fnP, pC, pFrz, dPr, nApp, nIf, nEnd, sN0, sN1, lendE, frzW, sSetK, dGet, dZipD, dPairD, pMax2, sDD, sND, tNeN, sLock, lockE, odcE, tdE, dttE, tC, tLock, tRet, dGetO, dIdxO, tNinD, sPutO, tDen, sUpd, sCpT, iDtt, dSrtD, sParDt, sParDt3, tCall2, fnT, sNewD, isNd, pSrt_of]
theorem at_last {α : Type} {xs : List α} {k : Nat} {x : α} (hl : xs.length = k + 1) (h : xs[k]? = some x) : atI xs (-1) = some x := by
  unfold atI
  rw [hl, show ixN (k + 1) (-1) = some k from by
    unfold ixN
    rw [if_neg (by omega), if_pos (by omega)]
    congr 1
    omega]
  exact h
theorem dLs_last {n : Int} {ss cs : List Int} : atI (dLs (AL n ss cs)) (-1) = some (.list (iL (runS n ss cs))) := by
  have h : (dLs (AL n ss cs))[cs.length]? = some (.list (iL (runS n ss cs))) := by
    unfold dLs
    rw [List.getElem?_map, AL_get (Nat.le_refl _), runS_all]
    rfl
  have hl : (dLs (AL n ss cs)).length = cs.length + 1 := by rw [dLs_len, AL_len]
  exact at_last hl h
theorem ev_seats_after {n : Int} {d e : PyData} {ss cs : List Int} (hd : items d = some (iL ss)) (he : items e = some (iL cs)) (n0 : 0 < n) (hne : ss ≠ []) (hl : ss.length ≤ 1000) (hc : cs.length ≤ 1000) : m_seats_after [.d (.int n), .d d, .d e] = .ret (.list (iL (runS n ss cs))) := by
  simp only [m_seats_after, b_seats_after, Nat.reduceSub, Nat.reduceAdd, reduceIte, Tree.bind, liftO, dIdx, sAsgL, sPar4, dV, dC, d1, d2, t1, t2, l0, lC, dL, dT, aV, aE, a0, aC, dCall, dCallK, dIf, tTr, tV, truth, asB, tNot, tAnd, tOr, dAnd, dOr, sSet, sAsg, sPar, sRet, s0, sC, sIf, sX, sOwn, sApp, sFrz, frzE, sFor, outV, fnF, lenIs, ent, small, few, putE, putsE, wipeE, it_l, it_t, iS, iR1, iR2, wEn, wZ2, wZ3, dLc, dLf, dSl, oN, oS, pCut, pSub, cI, bD, pIx, pList, pTup, pLen, pNot, qIsN, qNotN, pIsN, pNotN, List.getElem?_cons_succ, List.getElem?_cons_zero, List.set_cons_succ, List.set_cons_zero, List.length_cons, List.length_nil, List.map_cons, List.map_nil, List.foldr_cons, List.foldr_nil, List.replicate_succ, List.replicate_zero, List.cons_append, List.nil_append, sOPar, sOOPar, dOIx, sNest, sCallP, dOLen, fnP, pC, pFrz, dPr, nApp, nIf, nEnd, sN0, sN1, lendE, frzW, sSetK, dGet, dZipD, dPairD, pMax2, sDD, sND, tNeN, sLock, lockE, odcE, tdE, dttE, tC, tLock, tRet, dGetO, dIdxO, tNinD, sPutO, tDen, sUpd, sCpT, iDtt, dSrtD, sParDt, sParDt3, tCall2, fnT, sNewD, isNd, ev_seats_along hd he n0 hne hl hc, pNeg, dLs_last]
theorem ev_table_after {n : Nat} {d e : PyData} {ss cs : List Int} (hd : items d = some (iL ss)) (he : items e = some (iL cs)) (n0 : 0 < n) (hne : ss ≠ []) (hl : ss.length ≤ 1000) (hc : cs.length ≤ 1000) : m_table_after [.d (.int (n : Int)), .d d, .d e] = .ret (.tuple (iL (tabA n ss cs))) := by
  simp only [m_table_after, b_table_after, Nat.reduceSub, Nat.reduceAdd, reduceIte, Tree.bind, liftO, dIdx, sAsgL, sPar4, dV, dC, d1, d2, t1, t2, l0, lC, dL, dT, aV, aE, a0, aC, dCall, dCallK, dIf, tTr, tV, truth, asB, tNot, tAnd, tOr, dAnd, dOr, sSet, sAsg, sPar, sRet, s0, sC, sIf, sX, sOwn, sApp, sFrz, frzE, sFor, outV, fnF, lenIs, ent, small, few, putE, putsE, wipeE, it_l, it_t, iS, iR1, iR2, wEn, wZ2, wZ3, dLc, dLf, dSl, oN, oS, pCut, pSub, cI, bD, pIx, pList, pTup, pLen, pNot, qIsN, qNotN, pIsN, pNotN, List.getElem?_cons_succ, List.getElem?_cons_zero, List.set_cons_succ, List.set_cons_zero, List.length_cons, List.length_nil, List.map_cons, List.map_nil, List.foldr_cons, List.foldr_nil, List.replicate_succ, List.replicate_zero, List.cons_append, List.nil_append, sOPar, sOOPar, dOIx, sNest, sCallP, dOLen, fnP, pC, pFrz, dPr, nApp, nIf, nEnd, sN0, sN1, lendE, frzW, sSetK, dGet, dZipD, dPairD, pMax2, sDD, sND, tNeN, sLock, lockE, odcE, tdE, dttE, tC, tLock, tRet, dGetO, dIdxO, tNinD, sPutO, tDen, sUpd, sCpT, iDtt, dSrtD, sParDt, sParDt3, tCall2, fnT, sNewD, isNd, ev_seats_after hd he (show (0 : Int) < n by omega) hne hl hc, ev_as_table]
  rfl
theorem eqv_iL : ∀ a b : List Int, PyData.eqvAll (iL a) (iL b) = decide (a = b)
  | [], [] => by simp [iL, PyData.eqvAll]
  | [], _ :: _ => by simp [iL, PyData.eqvAll]
  | _ :: _, [] => by simp [iL, PyData.eqvAll]
  | x :: a, y :: b => by
    have ih := eqv_iL a b
    have e : PyData.eqvAll (iL (x :: a)) (iL (y :: b)) = (PyData.eqv (.int x) (.int y) && PyData.eqvAll (iL a) (iL b)) := by
      show PyData.eqvAll (PyData.int x :: iL a) (PyData.int y :: iL b) = _
      simp only [PyData.eqvAll]
    rw [e, ih]
    by_cases h : x = y
    · subst h
      simp [PyData.eqv]
    · simp [PyData.eqv, h]
theorem dp_Is : ∀ ns : List Int, PyData.depthAll (iL ns) = 0
  | [] => rfl
  | n :: ns => by
    show PyData.depthAll (PyData.int n :: iL ns) = 0
    simp only [PyData.depthAll, dp_Is ns, PyData.depth]
    rfl
theorem lay_Is : ∀ ns : List Int, PyData.canLayAll0 (iL ns) = true
  | [] => rfl
  | n :: ns => by
    show PyData.canLayAll0 (PyData.int n :: iL ns) = true
    simp only [PyData.canLayAll0, lay_Is ns, PyData.canLay0]
    rfl
theorem shaped_tup (ns : List Int) : SeqAt.shaped (.tuple (iL ns)) = true := by
  show (PyData.canLay0 (.tuple (iL ns)) && decide (PyData.depth (.tuple (iL ns)) ≤ 64)) = true
  simp only [PyData.canLay0, PyData.depth, lay_Is, dp_Is]
  rfl
theorem shaped_lst (ns : List Int) : SeqAt.shaped (.list (iL ns)) = true := by
  show (PyData.canLay0 (.list (iL ns)) && decide (PyData.depth (.list (iL ns)) ≤ 64)) = true
  simp only [PyData.canLay0, PyData.depth, lay_Is, dp_Is]
  rfl
theorem pEq_tt (a b : List Int) : pEq (.tuple (iL a)) (.tuple (iL b)) = some (decide (a = b)) := by
  simp [pEq, shaped_tup, PyData.eqv, eqv_iL]
theorem pNe_tt (a b : List Int) : pNe (.tuple (iL a)) (.tuple (iL b)) = some (!decide (a = b)) := by
  simp [pNe, pEq, shaped_tup, PyData.eqv, eqv_iL]
theorem pEq_lst (a b : List Int) : pEq (.list (iL a)) (.list (iL b)) = some (decide (a = b)) := by
  simp [pEq, shaped_lst, PyData.eqv, eqv_iL]
theorem pNe_lst (a b : List Int) : pNe (.list (iL a)) (.list (iL b)) = some (!decide (a = b)) := by
  simp [pNe, pEq, shaped_lst, PyData.eqv, eqv_iL]
theorem pNe_I (i : Int) : pNe (.int i) (.int i) = some false := by
  show some (!decide (i = i)) = _
  simp
theorem pSum_of (l : List Int) : pSum (.list (iL l)) = some (.int l.sum) := by
  unfold pSum onI
  simp only [asI_iL]
  rw [sumI_eq]
def tD (t : List Int) : PyData := .tuple (iL t)
def idI (n : Int) (ss cs : List Int) (k : Nat) : List Int := (List.range k).filterMap fun j => if runS n ss (cs.take j) = runS n ss (cs.take (j + 1)) then some (j : Int) else none
theorem idI_succ {n : Int} {ss cs : List Int} {j : Nat} : idI n ss cs (j + 1) = idI n ss cs j ++ if runS n ss (cs.take j) = runS n ss (cs.take (j + 1)) then [(j : Int)] else [] := by
  unfold idI
  rw [List.range_succ, List.filterMap_append]
  congr 1
  by_cases h : runS n ss (cs.take j) = runS n ss (cs.take (j + 1))
  · simp [h]
  · simp [h]
theorem ev_idle_calls {n : Nat} {d e : PyData} {ss cs : List Int} (hd : items d = some (iL ss)) (he : items e = some (iL cs)) (n0 : 0 < n) (hne : ss ≠ []) (hl : ss.length ≤ 1000) (hc : cs.length ≤ 1000) : m_idle_calls [.d (.int (n : Int)), .d d, .d e] = .ret (.list (iL (idI n ss cs cs.length))) := by
  simp only [m_idle_calls, b_idle_calls, Nat.reduceSub, Nat.reduceAdd, reduceIte, Tree.bind, liftO, dIdx, sAsgL, sPar4, dV, dC, d1, d2, t1, t2, l0, lC, dL, dT, aV, aE, a0, aC, dCall, dCallK, dIf, tTr, tV, truth, asB, tNot, tAnd, tOr, dAnd, dOr, sSet, sAsg, sPar, sRet, s0, sC, sIf, sX, sOwn, sApp, sFrz, frzE, sFor, outV, fnF, lenIs, ent, small, few, putE, putsE, wipeE, it_l, it_t, iS, iR1, iR2, wEn, wZ2, wZ3, dLc, dLf, dSl, oN, oS, pCut, pSub, cI, bD, pIx, pList, pTup, pLen, pNot, qIsN, qNotN, pIsN, pNotN, List.getElem?_cons_succ, List.getElem?_cons_zero, List.set_cons_succ, List.set_cons_zero, List.length_cons, List.length_nil, List.map_cons, List.map_nil, List.foldr_cons, List.foldr_nil, List.replicate_succ, List.replicate_zero, List.cons_append, List.nil_append, sOPar, sOOPar, dOIx, sNest, sCallP, dOLen, fnP, pC, pFrz, dPr, nApp, nIf, nEnd, sN0, sN1, lendE, frzW, sSetK, dGet, dZipD, dPairD, pMax2, sDD, sND, tNeN, sLock, lockE, odcE, tdE, dttE, tC, tLock, tRet, dGetO, dIdxO, tNinD, sPutO, tDen, sUpd, sCpT, iDtt, dSrtD, sParDt, sParDt3, tCall2, fnT, sNewD, isNd, he, ev_seats_along hd he (show (0 : Int) < n by omega) hne hl hc, iL_len, rg1_nat (show cs.length ≤ 100000 by omega), nums_len, if_pos (show cs.length ≤ 50000 by omega)]
  rw [pickT_R (g := fun j => if runS n ss (cs.take j) = runS n ss (cs.take (j + 1)) then some (PyData.int (j : Int)) else none) fun j hj => by
    have z0 : atI (dLs (AL n ss cs)) (j : Int) = some (.list (iL (runS n ss (cs.take j)))) := atI_nat (by unfold dLs; rw [List.getElem?_map, AL_get (by omega)]; rfl)
    have z1 : atI (dLs (AL n ss cs)) ((j : Int) + 1) = some (.list (iL (runS n ss (cs.take (j + 1))))) := by
      rw [show (j : Int) + 1 = ((j + 1 : Nat) : Int) by omega]
      exact atI_nat (by unfold dLs; rw [List.getElem?_map, AL_get (by omega)]; rfl)
    simp only [Nat.reduceSub, Nat.reduceAdd, reduceIte, Tree.bind, liftO, dIdx, sAsgL, sPar4, dV, dC, d1, d2, t1, t2, l0, lC, dL, dT, aV, aE, a0, aC, dCall, dCallK, dIf, tTr, tV, truth, asB, tNot, tAnd, tOr, dAnd, dOr, sSet, sAsg, sPar, sRet, s0, sC, sIf, sX, sOwn, sApp, sFrz, frzE, sFor, outV, fnF, lenIs, ent, small, few, putE, putsE, wipeE, it_l, it_t, iS, iR1, iR2, wEn, wZ2, wZ3, dLc, dLf, dSl, oN, oS, pCut, pSub, cI, bD, pIx, pList, pTup, pLen, pNot, qIsN, qNotN, pIsN, pNotN, List.getElem?_cons_succ, List.getElem?_cons_zero, List.set_cons_succ, List.set_cons_zero, List.length_cons, List.length_nil, List.map_cons, List.map_nil, List.foldr_cons, List.foldr_nil, List.replicate_succ, List.replicate_zero, List.cons_append, List.nil_append, sOPar, sOOPar, dOIx, sNest, sCallP, dOLen, fnP, pC, pFrz, dPr, nApp, nIf, nEnd, sN0, sN1, lendE, frzW, sSetK, dGet, dZipD, dPairD, pMax2, sDD, sND, tNeN, sLock, lockE, odcE, tdE, dttE, tC, tLock, tRet, dGetO, dIdxO, tNinD, sPutO, tDen, sUpd, sCpT, iDtt, dSrtD, sParDt, sParDt3, tCall2, fnT, sNewD, isNd, z0, z1, pAdd_ii, pEq_lst]
    by_cases h : runS n ss (cs.take j) = runS n ss (cs.take (j + 1))
    · rw [decide_eq_true h, if_pos h]
    · rw [decide_eq_false h, if_neg h]]
  simp only [Tree.bind, liftO, dIdx, sAsgL, sPar4, dV, dC, d1, d2, t1, t2, l0, lC, dL, dT, aV, aE, a0, aC, dCall, dCallK, dIf, tTr, tV, truth, asB, tNot, tAnd, tOr, dAnd, dOr, sSet, sAsg, sPar, sRet, s0, sC, sIf, sX, sOwn, sApp, sFrz, frzE, sFor, outV, fnF, lenIs, ent, small, few, putE, putsE, wipeE, it_l, it_t, iS, iR1, iR2, wEn, wZ2, wZ3, dLc, dLf, dSl, oN, oS, pCut, pSub, cI, bD, pIx, pList, pTup, pLen, pNot, qIsN, qNotN, pIsN, pNotN, List.getElem?_cons_succ, List.getElem?_cons_zero, List.set_cons_succ, List.set_cons_zero, List.length_cons, List.length_nil, List.map_cons, List.map_nil, List.foldr_cons, List.foldr_nil, List.replicate_succ, List.replicate_zero, List.cons_append, List.nil_append, sOPar, sOOPar, dOIx, sNest, sCallP, dOLen, fnP, pC, pFrz, dPr, nApp, nIf, nEnd, sN0, sN1, lendE, frzW, sSetK, dGet, dZipD, dPairD, pMax2, sDD, sND, tNeN, sLock, lockE, odcE, tdE, dttE, tC, tLock, tRet, dGetO, dIdxO, tNinD, sPutO, tDen, sUpd, sCpT, iDtt, dSrtD, sParDt, sParDt3, tCall2, fnT, sNewD, isNd]
  congr 2
  unfold idI iL
  rw [List.map_filterMap]
  congr 1
  funext j
  split <;> rfl
theorem mv_near {n c : Int} {S : List Int} {k : Nat} (hne : S ≠ []) (h : moverL n c S = some k) : ∃ s, Near n c S k s ∧ dst n c s ≠ 0 := by
  have e := near_ix (n := n) (c := c) hne
  unfold moverL at h
  split at h
  · cases h
  · cases h
    exact ⟨_, e, ‹_›⟩
theorem mv_srt_none {n : Nat} {c : Int} {S : List Int} (hb : ∀ x ∈ S, 0 ≤ x ∧ x < (n : Int)) (hne : S ≠ []) (n0 : 0 < n) (hc : 0 ≤ c ∧ c < (n : Int)) : moverL n c (srt S) = none ↔ moverL n c S = none := by
  have hs : srt S ≠ [] := ne_of_len (srt_len S) hne
  rw [mem_of_dst (fun x hx => hb x (srt_mem.mp hx)) hs n0 hc, mem_of_dst hb hne n0 hc, srt_mem]
theorem mv_srt_some {n : Nat} {c : Int} {S : List Int} {k w : Nat} {s : Int} (hb : ∀ x ∈ S, 0 ≤ x ∧ x < (n : Int)) (hne : S ≠ []) (h : moverL n c S = some k) (hw : moverL n c (srt S) = some w) (hs : S[k]? = some s) : (srt S)[w]? = some s := by
  have hse : srt S ≠ [] := ne_of_len (srt_len S) hne
  obtain ⟨s0, N, _⟩ := mv_near hne h
  obtain ⟨s1, N1, _⟩ := mv_near hse hw
  have e0 : s0 = s := Option.some.inj (N.at_.symm.trans hs)
  subst e0
  have m1 : s1 ∈ S := srt_mem.mp (List.mem_of_getElem? N1.at_)
  have m0 : s0 ∈ srt S := srt_mem.mpr (List.mem_of_getElem? N.at_)
  obtain ⟨j, hj⟩ := List.getElem?_of_mem m1
  obtain ⟨j', hj'⟩ := List.getElem?_of_mem m0
  have l1 := N.le j s1 hj
  have l2 := N1.le j' s0 hj'
  have e : s0 = s1 := dst_inj (show (0 : Int) < n by have := hb _ m1; omega) (hb _ (List.mem_of_getElem? N.at_)) (hb _ m1) (show dst n c s0 = dst n c s1 by omega)
  rw [e]
  exact N1.at_
theorem mv_callL {n : Nat} {c : Int} {S : List Int} (hb : ∀ x ∈ S, 0 ≤ x ∧ x < (n : Int)) (hne : S ≠ []) (n0 : 0 < n) (hc : 0 ≤ c ∧ c < (n : Int)) : c ∈ callL n c S := by
  cases hv : moverL n c S with
  | none =>
    unfold callL
    rw [hv]
    exact (mem_of_dst hb hne n0 hc).mp hv
  | some k =>
    have hk := mover_lt hne hv
    have e : callL n c S = S.set k c := by
      unfold callL
      rw [hv]
    rw [e]
    exact List.mem_of_getElem? (List.getElem?_set_self hk)
theorem idI_mem2 {n : Int} {ss cs : List Int} {j : Nat} : ∀ {k : Nat}, (j : Int) ∈ idI n ss cs k ↔ j < k ∧ runS n ss (cs.take j) = runS n ss (cs.take (j + 1))
  | 0 => by simp [idI]
  | k + 1 => by
    rw [idI_succ, List.mem_append, idI_mem2]
    by_cases h : runS n ss (cs.take k) = runS n ss (cs.take (k + 1))
    · rw [if_pos h, List.mem_singleton]
      constructor
      · rintro (⟨a, b⟩ | e)
        · exact ⟨by omega, b⟩
        · have : j = k := by omega
          subst this
          exact ⟨by omega, h⟩
      · rintro ⟨a, b⟩
        by_cases e : j = k
        · exact .inr (by omega)
        · exact .inl ⟨by omega, b⟩
    · rw [if_neg h]
      constructor
      · rintro (⟨a, b⟩ | e)
        · exact ⟨by omega, b⟩
        · cases e
      · rintro ⟨a, b⟩
        by_cases e : j = k
        · subst e
          exact absurd b h
        · exact .inl ⟨by omega, b⟩
theorem idle_iff {n : Nat} {ss cs : List Int} {j : Nat} {c : Int} (tb : Tbl n ss) (hne : ss ≠ []) (n0 : 0 < n) (hc : ∀ c ∈ cs, 0 ≤ c ∧ c < (n : Int)) (h : cs[j]? = some c) : (j : Int) ∈ idI n ss cs cs.length ↔ moverL n c (runS n ss (cs.take j)) = none := by
  have hj := (List.getElem?_eq_some_iff.mp h).1
  have hb := runS_mem (n := n) (cs := cs.take j) tb.mem fun x hx => hc x (List.mem_of_mem_take hx)
  have hne' := runS_ne (n := n) (cs := cs.take j) hne
  have hcc := hc c (List.mem_of_getElem? h)
  rw [idI_mem2, runS_succ h, callL_eq hb hne' n0 hcc, mem_of_dst hb hne' n0 hcc]
  exact ⟨fun a => a.2, fun a => ⟨hj, a⟩⟩
theorem zs_self {n : Int} : ∀ {t a : List Int}, t.length = a.length → (zipStep n t a a).sum = t.sum
  | [], [], _ => rfl
  | x :: t, y :: a, h => by
    have ih := zs_self (n := n) (t := t) (a := a) (by simpa using h)
    have e : zipStep n (x :: t) (y :: a) (y :: a) = (x + (y - y) % n) :: zipStep n t a a := rfl
    rw [e, List.sum_cons, List.sum_cons, ih]
    simp
theorem zs_set {n c s : Int} : ∀ {t a : List Int} {k : Nat}, t.length = a.length → a[k]? = some s → (zipStep n t a (a.set k c)).sum = t.sum + (s - c) % n
  | [], [], _, _, h => by cases h
  | x :: t, y :: a, 0, h, h' => by
    cases h'
    have e : zipStep n (x :: t) (s :: a) ((s :: a).set 0 c) = (x + (s - c) % n) :: zipStep n t a a := rfl
    rw [e, List.sum_cons, List.sum_cons, zs_self (by simpa using h)]
    omega
  | x :: t, y :: a, k + 1, h, h' => by
    have ih := zs_set (n := n) (c := c) (s := s) (t := t) (a := a) (k := k) (by simpa using h) (by simpa using h')
    have e : zipStep n (x :: t) (y :: a) ((y :: a).set (k + 1) c) = (x + (y - y) % n) :: zipStep n t a (a.set k c) := rfl
    rw [e, List.sum_cons, List.sum_cons, ih]
    simp
    omega
theorem stT_congr {n : Int} {ss cs ds : List Int} : ∀ {i : Nat}, (∀ m, m ≤ i → cs.take m = ds.take m) → stT n ss cs i = stT n ss ds i
  | 0, _ => rfl
  | i + 1, h => by rw [stT_succ, stT_succ, h i (by omega), h (i + 1) (by omega), stT_congr fun m hm => h m (by omega)]
theorem st_take {n : Int} {ss cs : List Int} {j : Nat} (h : j ≤ cs.length) : stepsL n ss (cs.take j) = stT n ss cs j := by
  show stT n ss (cs.take j) (cs.take j).length = _
  rw [List.length_take, Nat.min_eq_left h]
  exact stT_congr fun m hm => by rw [List.take_take, Nat.min_eq_left hm]
def farL (n c : Int) (S : List Int) : Int := match moverL n c S with | some k => (S.getD k 0 - c) % n | none => 0
theorem sum_succ {n : Int} {ss cs : List Int} {j : Nat} {c : Int} (hne : ss ≠ []) (h : cs[j]? = some c) : (stepsL n ss (cs.take (j + 1))).sum = (stepsL n ss (cs.take j)).sum + farL n c (runS n ss (cs.take j)) := by
  have hj := (List.getElem?_eq_some_iff.mp h).1
  rw [st_take (by omega), st_take (by omega), stT_succ, runS_succ h]
  have hl : (stT n ss cs j).length = (runS n ss (cs.take j)).length := by rw [stT_len, runS_len]
  unfold farL callL
  cases hv : moverL n c (runS n ss (cs.take j)) with
  | none =>
    dsimp only
    rw [zs_self hl]
    omega
  | some k =>
    have hk := mover_lt (runS_ne hne) hv
    have e : (runS n ss (cs.take j))[k]? = some ((runS n ss (cs.take j)).getD k 0) := by
      rw [List.getD_eq_getElem?_getD, List.getElem?_eq_getElem hk]
      rfl
    exact zs_set hl e
theorem srt_self {n : Nat} {t : List Int} (tb : Tbl n t) : srt t = t := (srt_eq (List.Perm.refl t) (tb.asc.imp fun h => by omega)).symm
def cr (C : Addr) (n : Nat) (t cs : List Int) (e : List Str) : Cir := ⟨C, n, t, cs.map fun c => [c], e⟩
theorem cr_flat {C : Addr} {n : Nat} {t cs : List Int} {e : List Str} : (cr C n t cs e).ops.flatten = cs := by
  show (cs.map fun c => [c]).flatten = cs
  induction cs with
  | nil => rfl
  | cons c cs ih => rw [List.map_cons, List.flatten_cons, ih]; rfl
theorem cr_push {C : Addr} {n : Nat} {t cs : List Int} {e : List Str} {c : Int} : (⟨C, (n : Int), t, (cr C n t cs e).ops ++ [[c]], e⟩ : Cir) = cr C n t (cs ++ [c]) e := by simp [cr]
theorem cr_pop {C : Addr} {n : Nat} {t cs : List Int} {e : List Str} : (⟨C, (n : Int), t, (cr C n t cs e).ops.dropLast, e⟩ : Cir) = cr C n t cs.dropLast e := by simp [cr, List.map_dropLast]
theorem cat_lc {C : Addr} {c : Cir} {i : Nat} {E : Env} (h : E[i]? = some (some (.lc c))) (hC : c.C = C) : cirAt C i E = some c := by
  unfold cirAt
  rw [h]
  show (if c.C = C then some c else none) = _
  rw [if_pos hC]
theorem cat_cir {C : Addr} {c : Cir} {i : Nat} {E : Env} (h : E[i]? = some (some (.cir c))) (hC : c.C = C) : cirAt C i E = some c := by
  unfold cirAt
  rw [h]
  show (if c.C = C then some c else none) = _
  rw [if_pos hC]
theorem cmm {C : Addr} {c : Cir} {i : Nat} {E : Env} (h : E[i]? = some (some (.cir c))) (hC : c.C = C) : cirM C i E = some c := by
  unfold cirM
  rw [h]
  dsimp only
  rw [if_pos hC]
theorem ev_ccalls {C : Addr} {n : Nat} {t cs : List Int} {e : List Str} (h : cs.length ≤ 1000) : m_Circle_calls C [.lc (cr C n t cs e)] = .ret (.list (iL cs)) := by
  have hg : gCs (cr C n t cs e) = some (.list (iL cs)) := by
    unfold gCs
    rw [cr_flat, if_pos (by omega)]
    try rfl
  have hs : slots 2 1 [some (.lc (cr C n t cs e)), none, none] = some () := rfl
  simp only [m_Circle_calls, b_Circle_calls, fnM, dCcs, dCg, Nat.reduceSub, Nat.reduceAdd, reduceIte, Tree.bind, liftO, dIdx, sAsgL, sPar4, dV, dC, d1, d2, t1, t2, l0, lC, dL, dT, aV, aE, a0, aC, dCall, dCallK, dIf, tTr, tV, truth, asB, tNot, tAnd, tOr, dAnd, dOr, sSet, sAsg, sPar, sRet, s0, sC, sIf, sX, sOwn, sApp, sFrz, frzE, sFor, outV, fnF, lenIs, ent, small, few, putE, putsE, wipeE, it_l, it_t, iS, iR1, iR2, wEn, wZ2, wZ3, dLc, dLf, dSl, oN, oS, pCut, pSub, cI, bD, pIx, pList, pTup, pLen, pNot, qIsN, qNotN, pIsN, pNotN, List.getElem?_cons_succ, List.getElem?_cons_zero, List.set_cons_succ, List.set_cons_zero, List.length_cons, List.length_nil, List.map_cons, List.map_nil, List.foldr_cons, List.foldr_nil, List.replicate_succ, List.replicate_zero, List.cons_append, List.nil_append, sOPar, sOOPar, dOIx, sNest, sCallP, dOLen, fnP, pC, pFrz, dPr, nApp, nIf, nEnd, sN0, sN1, lendE, frzW, sSetK, dGet, dZipD, dPairD, pMax2, sDD, sND, tNeN, sLock, lockE, odcE, tdE, dttE, tC, tLock, tRet, dGetO, dIdxO, tNinD, sPutO, tDen, sUpd, sCpT, iDtt, dSrtD, sParDt, sParDt3, tCall2, fnT, sNewD, isNd, hs, cat_lc (C := C) (c := cr C n t cs e) (i := 0) (E := [some (.lc (cr C n t cs e)), none, none]) rfl rfl, hg]
theorem g_sz {C : Addr} {n : Nat} {t cs : List Int} {e : List Str} : gSz (cr C n t cs e) = some (.int (n : Int)) := rfl
theorem g_bg {C : Addr} {n : Nat} {t cs : List Int} {e : List Str} : gBg (cr C n t cs e) = some (.tuple (iL t)) := rfl
theorem g_ln {C : Addr} {n : Nat} {t cs : List Int} {e : List Str} : gLn (cr C n t cs e) = some (.int (cs.length : Int)) := by
  show some (PyData.int (((cs.map fun c => [c]).length : Nat) : Int)) = _
  rw [List.length_map]
theorem ev_cseats {C : Addr} {n : Nat} {t cs : List Int} {e : List Str} (n0 : 0 < n) (hne : t ≠ []) (hl : t.length ≤ 1000) (h : cs.length ≤ 1000) : m_Circle_seats C [.lc (cr C n t cs e)] = .ret (.list (iL (runS n t cs))) := by
  simp only [m_Circle_seats, b_Circle_seats, fnM, dM0, dCg, Nat.reduceSub, Nat.reduceAdd, reduceIte, Tree.bind, liftO, dIdx, sAsgL, sPar4, dV, dC, d1, d2, t1, t2, l0, lC, dL, dT, aV, aE, a0, aC, dCall, dCallK, dIf, tTr, tV, truth, asB, tNot, tAnd, tOr, dAnd, dOr, sSet, sAsg, sPar, sRet, s0, sC, sIf, sX, sOwn, sApp, sFrz, frzE, sFor, outV, fnF, lenIs, ent, small, few, putE, putsE, wipeE, it_l, it_t, iS, iR1, iR2, wEn, wZ2, wZ3, dLc, dLf, dSl, oN, oS, pCut, pSub, cI, bD, pIx, pList, pTup, pLen, pNot, qIsN, qNotN, pIsN, pNotN, List.getElem?_cons_succ, List.getElem?_cons_zero, List.set_cons_succ, List.set_cons_zero, List.length_cons, List.length_nil, List.map_cons, List.map_nil, List.foldr_cons, List.foldr_nil, List.replicate_succ, List.replicate_zero, List.cons_append, List.nil_append, sOPar, sOOPar, dOIx, sNest, sCallP, dOLen, fnP, pC, pFrz, dPr, nApp, nIf, nEnd, sN0, sN1, lendE, frzW, sSetK, dGet, dZipD, dPairD, pMax2, sDD, sND, tNeN, sLock, lockE, odcE, tdE, dttE, tC, tLock, tRet, dGetO, dIdxO, tNinD, sPutO, tDen, sUpd, sCpT, iDtt, dSrtD, sParDt, sParDt3, tCall2, fnT, sNewD, isNd, cat_lc (C := C) (c := cr C n t cs e) (i := 0) (E := [some (.lc (cr C n t cs e))]) rfl rfl, g_sz, g_bg, ev_ccalls h, ev_seats_after (it_t _) (it_l _) (show (0 : Int) < n by omega) hne hl h]
theorem ev_csteps {C : Addr} {n : Nat} {t cs : List Int} {e : List Str} (n0 : 0 < n) (hne : t ≠ []) (hl : t.length ≤ 1000) (h : cs.length ≤ 1000) : m_Circle_steps C [.lc (cr C n t cs e)] = .ret (.list (iL (stepsL n t cs))) := by
  simp only [m_Circle_steps, b_Circle_steps, fnM, dM0, dCg, Nat.reduceSub, Nat.reduceAdd, reduceIte, Tree.bind, liftO, dIdx, sAsgL, sPar4, dV, dC, d1, d2, t1, t2, l0, lC, dL, dT, aV, aE, a0, aC, dCall, dCallK, dIf, tTr, tV, truth, asB, tNot, tAnd, tOr, dAnd, dOr, sSet, sAsg, sPar, sRet, s0, sC, sIf, sX, sOwn, sApp, sFrz, frzE, sFor, outV, fnF, lenIs, ent, small, few, putE, putsE, wipeE, it_l, it_t, iS, iR1, iR2, wEn, wZ2, wZ3, dLc, dLf, dSl, oN, oS, pCut, pSub, cI, bD, pIx, pList, pTup, pLen, pNot, qIsN, qNotN, pIsN, pNotN, List.getElem?_cons_succ, List.getElem?_cons_zero, List.set_cons_succ, List.set_cons_zero, List.length_cons, List.length_nil, List.map_cons, List.map_nil, List.foldr_cons, List.foldr_nil, List.replicate_succ, List.replicate_zero, List.cons_append, List.nil_append, sOPar, sOOPar, dOIx, sNest, sCallP, dOLen, fnP, pC, pFrz, dPr, nApp, nIf, nEnd, sN0, sN1, lendE, frzW, sSetK, dGet, dZipD, dPairD, pMax2, sDD, sND, tNeN, sLock, lockE, odcE, tdE, dttE, tC, tLock, tRet, dGetO, dIdxO, tNinD, sPutO, tDen, sUpd, sCpT, iDtt, dSrtD, sParDt, sParDt3, tCall2, fnT, sNewD, isNd, cat_lc (C := C) (c := cr C n t cs e) (i := 0) (E := [some (.lc (cr C n t cs e))]) rfl rfl, g_sz, g_bg, ev_ccalls h, ev_steps (it_t _) (it_l _) (show (0 : Int) < n by omega) hne hl h]
theorem ev_ctable {C : Addr} {n : Nat} {t cs : List Int} {e : List Str} (n0 : 0 < n) (hne : t ≠ []) (hl : t.length ≤ 1000) (h : cs.length ≤ 1000) : m_Circle_table C [.lc (cr C n t cs e)] = .ret (.tuple (iL (tabA n t cs))) := by
  simp only [m_Circle_table, b_Circle_table, fnM, dM0, dCg, Nat.reduceSub, Nat.reduceAdd, reduceIte, Tree.bind, liftO, dIdx, sAsgL, sPar4, dV, dC, d1, d2, t1, t2, l0, lC, dL, dT, aV, aE, a0, aC, dCall, dCallK, dIf, tTr, tV, truth, asB, tNot, tAnd, tOr, dAnd, dOr, sSet, sAsg, sPar, sRet, s0, sC, sIf, sX, sOwn, sApp, sFrz, frzE, sFor, outV, fnF, lenIs, ent, small, few, putE, putsE, wipeE, it_l, it_t, iS, iR1, iR2, wEn, wZ2, wZ3, dLc, dLf, dSl, oN, oS, pCut, pSub, cI, bD, pIx, pList, pTup, pLen, pNot, qIsN, qNotN, pIsN, pNotN, List.getElem?_cons_succ, List.getElem?_cons_zero, List.set_cons_succ, List.set_cons_zero, List.length_cons, List.length_nil, List.map_cons, List.map_nil, List.foldr_cons, List.foldr_nil, List.replicate_succ, List.replicate_zero, List.cons_append, List.nil_append, sOPar, sOOPar, dOIx, sNest, sCallP, dOLen, fnP, pC, pFrz, dPr, nApp, nIf, nEnd, sN0, sN1, lendE, frzW, sSetK, dGet, dZipD, dPairD, pMax2, sDD, sND, tNeN, sLock, lockE, odcE, tdE, dttE, tC, tLock, tRet, dGetO, dIdxO, tNinD, sPutO, tDen, sUpd, sCpT, iDtt, dSrtD, sParDt, sParDt3, tCall2, fnT, sNewD, isNd, cat_lc (C := C) (c := cr C n t cs e) (i := 0) (E := [some (.lc (cr C n t cs e))]) rfl rfl, ev_cseats n0 hne hl h, ev_as_table]
  rfl
theorem ev_is_chair {n x : Int} (h0 : 0 ≤ x) (h1 : x < n) : m_is_chair [.d (.int n), .d (.int x)] = .ret (.bool true) := by
  simp only [m_is_chair, b_is_chair, Nat.reduceSub, Nat.reduceAdd, reduceIte, Tree.bind, liftO, dIdx, sAsgL, sPar4, dV, dC, d1, d2, t1, t2, l0, lC, dL, dT, aV, aE, a0, aC, dCall, dCallK, dIf, tTr, tV, truth, asB, tNot, tAnd, tOr, dAnd, dOr, sSet, sAsg, sPar, sRet, s0, sC, sIf, sX, sOwn, sApp, sFrz, frzE, sFor, outV, fnF, lenIs, ent, small, few, putE, putsE, wipeE, it_l, it_t, iS, iR1, iR2, wEn, wZ2, wZ3, dLc, dLf, dSl, oN, oS, pCut, pSub, cI, bD, pIx, pList, pTup, pLen, pNot, qIsN, qNotN, pIsN, pNotN, List.getElem?_cons_succ, List.getElem?_cons_zero, List.set_cons_succ, List.set_cons_zero, List.length_cons, List.length_nil, List.map_cons, List.map_nil, List.foldr_cons, List.foldr_nil, List.replicate_succ, List.replicate_zero, List.cons_append, List.nil_append, sOPar, sOOPar, dOIx, sNest, sCallP, dOLen, fnP, pC, pFrz, dPr, nApp, nIf, nEnd, sN0, sN1, lendE, frzW, sSetK, dGet, dZipD, dPairD, pMax2, sDD, sND, tNeN, sLock, lockE, odcE, tdE, dttE, tC, tLock, tRet, dGetO, dIdxO, tNinD, sPutO, tDen, sUpd, sCpT, iDtt, dSrtD, sParDt, sParDt3, tCall2, fnT, sNewD, isNd, pIsi, dTy, show kitB "int" "int" = some true by decide, show kitB "int" "bool" = some false by decide, Bool.not_true, Bool.not_false, dCh, decide_eq_true h0, decide_eq_true h1]
theorem ev_ccall {C : Addr} {n : Nat} {t cs : List Int} {e : List Str} {c : Int} (n0 : 0 < n) (hne : t ≠ []) (hl : t.length ≤ 1000) (h : cs.length ≤ 1000) (he : e.length ≤ 1000) (hc : 0 ≤ c ∧ c < (n : Int)) : m_Circle_call C [.cir (cr C n t cs e), .d (.int c)] = .ret (cr C n t (cs ++ [c]) (e ++ [("call" : Str)]), optI (moverL n c (runS n t cs))) := by
  have ho : (cr C n t cs e).ops.length = cs.length := List.length_map ..
  have hn : runS n t cs ≠ [] := runS_ne hne
  have a1 : ∀ x2, cirAt C 0 [some (.cir (cr C n t cs e)), some (.d (.int c)), x2] = some (cr C n t cs e) := fun _ => cat_cir rfl rfl
  have a2 : ∀ x2, cirM C 0 [some (.cir (cr C n t cs e)), some (.d (.int c)), x2] = some (cr C n t cs e) := fun _ => cmm rfl rfl
  have a3 : ∀ x2, cirM C 0 [some (.cir (cr C n t (cs ++ [c]) e)), some (.d (.int c)), x2] = some (cr C n t (cs ++ [c]) e) := fun _ => cmm rfl rfl
  have e1 : ({ cr C n t cs e with ops := (cr C n t cs e).ops ++ [[c]] } : Cir) = cr C n t (cs ++ [c]) e := cr_push
  have e2 : ({ cr C n t (cs ++ [c]) e with ent := (cr C n t (cs ++ [c]) e).ent ++ [("call" : Str)] } : Cir) = cr C n t (cs ++ [c]) (e ++ [("call" : Str)]) := rfl
  have f1 : few (cr C n t cs e).ops.length = some () := by
    rw [ho]
    exact if_pos (by omega)
  have f2 : few (cr C n t (cs ++ [c]) e).ent.length = some () := if_pos (show e.length ≤ 50000 by omega)
  unfold m_Circle_call b_Circle_call fnMc
  have s1 : cNo (tNot (tTr (dCall m_is_chair (aC (aE (dCg C 0 gSz)) (aC (aV 1) a0))))) [some (.cir (cr C n t cs e)), some (.d (.int c)), none] = .ret (.nx [some (.cir (cr C n t cs e)), some (.d (.int c)), none]) := by
    simp only [cNo, dCg, Nat.reduceSub, Nat.reduceAdd, reduceIte, Tree.bind, liftO, dIdx, sAsgL, sPar4, dV, dC, d1, d2, t1, t2, l0, lC, dL, dT, aV, aE, a0, aC, dCall, dCallK, dIf, tTr, tV, truth, asB, tNot, tAnd, tOr, dAnd, dOr, sSet, sAsg, sPar, sRet, s0, sC, sIf, sX, sOwn, sApp, sFrz, frzE, sFor, outV, fnF, lenIs, ent, small, few, putE, putsE, wipeE, it_l, it_t, iS, iR1, iR2, wEn, wZ2, wZ3, dLc, dLf, dSl, oN, oS, pCut, pSub, cI, bD, pIx, pList, pTup, pLen, pNot, qIsN, qNotN, pIsN, pNotN, List.getElem?_cons_succ, List.getElem?_cons_zero, List.set_cons_succ, List.set_cons_zero, List.length_cons, List.length_nil, List.map_cons, List.map_nil, List.foldr_cons, List.foldr_nil, List.replicate_succ, List.replicate_zero, List.cons_append, List.nil_append, sOPar, sOOPar, dOIx, sNest, sCallP, dOLen, fnP, pC, pFrz, dPr, nApp, nIf, nEnd, sN0, sN1, lendE, frzW, sSetK, dGet, dZipD, dPairD, pMax2, sDD, sND, tNeN, sLock, lockE, odcE, tdE, dttE, tC, tLock, tRet, dGetO, dIdxO, tNinD, sPutO, tDen, sUpd, sCpT, iDtt, dSrtD, sParDt, sParDt3, tCall2, fnT, sNewD, isNd, a1, g_sz, ev_is_chair hc.1 hc.2, Bool.not_true]
  have s2 : sSet 2 (dCall m_mover (aC (aE (dCg C 0 gSz)) (aC (aE (dM0 C 0 (m_Circle_seats C))) (aC (aV 1) a0)))) [some (.cir (cr C n t cs e)), some (.d (.int c)), none] = .ret (.nx [some (.cir (cr C n t cs e)), some (.d (.int c)), some (.d (optI (moverL n c (runS n t cs))))]) := by
    simp only [dCg, dM0, Nat.reduceSub, Nat.reduceAdd, reduceIte, Tree.bind, liftO, dIdx, sAsgL, sPar4, dV, dC, d1, d2, t1, t2, l0, lC, dL, dT, aV, aE, a0, aC, dCall, dCallK, dIf, tTr, tV, truth, asB, tNot, tAnd, tOr, dAnd, dOr, sSet, sAsg, sPar, sRet, s0, sC, sIf, sX, sOwn, sApp, sFrz, frzE, sFor, outV, fnF, lenIs, ent, small, few, putE, putsE, wipeE, it_l, it_t, iS, iR1, iR2, wEn, wZ2, wZ3, dLc, dLf, dSl, oN, oS, pCut, pSub, cI, bD, pIx, pList, pTup, pLen, pNot, qIsN, qNotN, pIsN, pNotN, List.getElem?_cons_succ, List.getElem?_cons_zero, List.set_cons_succ, List.set_cons_zero, List.length_cons, List.length_nil, List.map_cons, List.map_nil, List.foldr_cons, List.foldr_nil, List.replicate_succ, List.replicate_zero, List.cons_append, List.nil_append, sOPar, sOOPar, dOIx, sNest, sCallP, dOLen, fnP, pC, pFrz, dPr, nApp, nIf, nEnd, sN0, sN1, lendE, frzW, sSetK, dGet, dZipD, dPairD, pMax2, sDD, sND, tNeN, sLock, lockE, odcE, tdE, dttE, tC, tLock, tRet, dGetO, dIdxO, tNinD, sPutO, tDen, sUpd, sCpT, iDtt, dSrtD, sParDt, sParDt3, tCall2, fnT, sNewD, isNd, a1, g_sz, ev_cseats n0 hne hl h, ev_mover (it_l _) (show (0 : Int) < n by omega) hn]
  have s3 : sCops C 0 1 [some (.cir (cr C n t cs e)), some (.d (.int c)), some (.d (optI (moverL n c (runS n t cs))))] = .ret (.nx [some (.cir (cr C n t (cs ++ [c]) e)), some (.d (.int c)), some (.d (optI (moverL n c (runS n t cs))))]) := by
    unfold sCops
    rw [a2]
    show ((liftO (few (cr C n t cs e).ops.length)).bind fun _ => _) = _
    rw [f1]
    show Tree.ret (Out.nx [some (.cir { cr C n t cs e with ops := (cr C n t cs e).ops ++ [[c]] }), _, _]) = _
    rw [e1]
  have s4 : sCent C 0 "call" [some (.cir (cr C n t (cs ++ [c]) e)), some (.d (.int c)), some (.d (optI (moverL n c (runS n t cs))))] = .ret (.nx [some (.cir (cr C n t (cs ++ [c]) (e ++ [("call" : Str)]))), some (.d (.int c)), some (.d (optI (moverL n c (runS n t cs))))]) := by
    unfold sCent
    rw [a3]
    show ((liftO (few (cr C n t (cs ++ [c]) e).ent.length)).bind fun _ => _) = _
    rw [f2]
    rfl
  show ((cC _ _ [some (.cir (cr C n t cs e)), some (.d (.int c)), none]).bind _) = _
  unfold cC
  rw [s1]
  show ((sSet 2 _ _).bind _).bind _ = _
  rw [s2]
  show ((sCops C 0 1 _).bind _).bind _ = _
  rw [s3]
  show ((sCent C 0 "call" _).bind _).bind _ = _
  rw [s4]
  rfl
theorem ev_cundo {C : Addr} {n : Nat} {t cs : List Int} {e : List Str} (hcs : cs ≠ []) (h : cs.length ≤ 1000) (he : e.length ≤ 1000) : m_Circle_undo C [.cir (cr C n t cs e)] = .ret (cr C n t cs.dropLast (e ++ [("undo" : Str)]), .bool true) := by
  have ho : (cr C n t cs e).ops.length = cs.length := List.length_map ..
  have h0 : 0 < cs.length := List.length_pos_iff.mpr hcs
  have a1 : cirAt C 0 [some (.cir (cr C n t cs e))] = some (cr C n t cs e) := cat_cir rfl rfl
  have a2 : cirM C 0 [some (.cir (cr C n t cs e))] = some (cr C n t cs e) := cmm rfl rfl
  have a3 : cirM C 0 [some (.cir (cr C n t cs.dropLast e))] = some (cr C n t cs.dropLast e) := cmm rfl rfl
  have e1 : ({ cr C n t cs e with ops := (cr C n t cs e).ops.dropLast } : Cir) = cr C n t cs.dropLast e := cr_pop
  have f1 : few (cr C n t cs e).ops.length = some () := by
    rw [ho]
    exact if_pos (by omega)
  have f2 : few (cr C n t cs.dropLast e).ent.length = some () := if_pos (show e.length ≤ 50000 by omega)
  have ne : ¬ (cr C n t cs e).ops = [] := fun z => by
    rw [z] at ho
    simp at ho
    omega
  have s0' : (t2 pEq (dCg C 0 gLn) (dC (.int 0))) [some (.cir (cr C n t cs e))] = .ret false := by
    have z : pEq (.int (cs.length : Int)) (.int 0) = some false := by rw [pEq_ii, decide_eq_false (by omega)]
    simp only [dCg, Nat.reduceSub, Nat.reduceAdd, reduceIte, Tree.bind, liftO, dIdx, sAsgL, sPar4, dV, dC, d1, d2, t1, t2, l0, lC, dL, dT, aV, aE, a0, aC, dCall, dCallK, dIf, tTr, tV, truth, asB, tNot, tAnd, tOr, dAnd, dOr, sSet, sAsg, sPar, sRet, s0, sC, sIf, sX, sOwn, sApp, sFrz, frzE, sFor, outV, fnF, lenIs, ent, small, few, putE, putsE, wipeE, it_l, it_t, iS, iR1, iR2, wEn, wZ2, wZ3, dLc, dLf, dSl, oN, oS, pCut, pSub, cI, bD, pIx, pList, pTup, pLen, pNot, qIsN, qNotN, pIsN, pNotN, List.getElem?_cons_succ, List.getElem?_cons_zero, List.set_cons_succ, List.set_cons_zero, List.length_cons, List.length_nil, List.map_cons, List.map_nil, List.foldr_cons, List.foldr_nil, List.replicate_succ, List.replicate_zero, List.cons_append, List.nil_append, sOPar, sOOPar, dOIx, sNest, sCallP, dOLen, fnP, pC, pFrz, dPr, nApp, nIf, nEnd, sN0, sN1, lendE, frzW, sSetK, dGet, dZipD, dPairD, pMax2, sDD, sND, tNeN, sLock, lockE, odcE, tdE, dttE, tC, tLock, tRet, dGetO, dIdxO, tNinD, sPutO, tDen, sUpd, sCpT, iDtt, dSrtD, sParDt, sParDt3, tCall2, fnT, sNewD, isNd, a1, g_ln, z]
  have s3 : sCdel C 0 [some (.cir (cr C n t cs e))] = .ret (.nx [some (.cir (cr C n t cs.dropLast e))]) := by
    unfold sCdel
    rw [a2]
    show ((liftO (few (cr C n t cs e).ops.length)).bind fun _ => _) = _
    rw [f1]
    show (if (cr C n t cs e).ops = [] then _ else _) = _
    rw [if_neg ne]
    show Tree.ret (Out.nx [some (.cir { cr C n t cs e with ops := (cr C n t cs e).ops.dropLast })]) = _
    rw [e1]
  have s4 : sCent C 0 "undo" [some (.cir (cr C n t cs.dropLast e))] = .ret (.nx [some (.cir (cr C n t cs.dropLast (e ++ [("undo" : Str)])))]) := by
    unfold sCent
    rw [a3]
    show ((liftO (few (cr C n t cs.dropLast e).ent.length)).bind fun _ => _) = _
    rw [f2]
    rfl
  unfold m_Circle_undo b_Circle_undo fnMc
  show ((cIf _ _ _ [some (.cir (cr C n t cs e))]).bind _) = _
  unfold cIf
  rw [s0']
  show (cC _ _ [some (.cir (cr C n t cs e))]).bind _ = _
  unfold cC
  rw [s3]
  show ((sCent C 0 "undo" _).bind _).bind _ = _
  rw [s4]
  rfl
theorem shaped_all {ds : List PyData} (h1 : PyData.canLayAll0 ds = true) (h2 : PyData.depthAll ds ≤ 1) : SeqAt.shaped (.list ds) = true := by
  have h3 : PyData.depth (.list ds) ≤ 64 := by
    simp only [PyData.depth]
    omega
  show (PyData.canLay0 (.list ds) && decide (PyData.depth (.list ds) ≤ 64)) = true
  rw [decide_eq_true h3, Bool.and_true]
  simp only [PyData.canLay0]
  exact h1
theorem lay_dLs : ∀ ls : List (List Int), PyData.canLayAll0 (dLs ls) = true ∧ PyData.depthAll (dLs ls) ≤ 1
  | [] => ⟨rfl, by simp [dLs, PyData.depthAll]⟩
  | l :: ls => by
    obtain ⟨h1, h2⟩ := lay_dLs ls
    rw [dLs_cons]
    simp only [PyData.canLayAll0, PyData.depthAll, PyData.canLay0, PyData.depth, lay_Is, dp_Is]
    exact ⟨by simpa using h1, by omega⟩
theorem eqv_dLs : ∀ a b : List (List Int), PyData.eqvAll (dLs a) (dLs b) = decide (a = b)
  | [], [] => by simp [dLs, PyData.eqvAll]
  | [], _ :: _ => by simp [dLs, PyData.eqvAll]
  | _ :: _, [] => by simp [dLs, PyData.eqvAll]
  | x :: a, y :: b => by
    have ih := eqv_dLs a b
    rw [dLs_cons, dLs_cons]
    simp only [PyData.eqvAll, PyData.eqv, ih, eqv_iL]
    by_cases h : x = y
    · subst h
      simp
    · simp [h]
theorem pEq_dLs (a b : List (List Int)) : pEq (.list (dLs a)) (.list (dLs b)) = some (decide (a = b)) := by
  have s1 := shaped_all (lay_dLs a).1 (lay_dLs a).2
  have s2 := shaped_all (lay_dLs b).1 (lay_dLs b).2
  simp [pEq, s1, s2, PyData.eqv, eqv_dLs]
theorem pNe_dLs (a b : List (List Int)) : pNe (.list (dLs a)) (.list (dLs b)) = some (!decide (a = b)) := by
  unfold pNe
  rw [pEq_dLs]
theorem memI_of (x : Int) (t : List Int) : memI x t = decide (x ∈ t) := by
  induction t with
  | nil => simp [memI]
  | cons a t ih =>
    simp only [memI, ih, List.mem_cons]
    by_cases h : x = a <;> by_cases g : x ∈ t <;> simp [h, g]
    all_goals (try exact fun e => h e.symm)
theorem pIn_l {x : Int} {t : List Int} : pIn (.int x) (.list (iL t)) = some (decide (x ∈ t)) := by
  unfold pIn
  simp only [asI_iL, memI_of]
theorem pIn_t {x : Int} {t : List Int} : pIn (.int x) (.tuple (iL t)) = some (decide (x ∈ t)) := by
  unfold pIn
  simp only [asI_iL, memI_of]
theorem pNin_t (m : Int) (t : List Int) : pNin (.int m) (.tuple (iL t)) = some (!decide (m ∈ t)) := by
  unfold pNin
  rw [pIn_t]
theorem pNe_bb (a b : Bool) : pNe (.bool a) (.bool b) = some (!decide (a = b)) := by cases a <;> cases b <;> rfl
theorem pNe_nn : pNe .none .none = some false := by rfl
theorem ev_tables_along {n : Nat} {d e : PyData} {ss cs : List Int} (hd : items d = some (iL ss)) (he : items e = some (iL cs)) (n0 : 0 < n) (hne : ss ≠ []) (hl : ss.length ≤ 1000) (hc : cs.length ≤ 1000) : m_tables_along [.d (.int (n : Int)), .d d, .d e] = .ret (.list ((List.range (cs.length + 1)).map fun i => tD (tabA n ss (cs.take i)))) := by
  simp only [m_tables_along, b_tables_along, Nat.reduceSub, Nat.reduceAdd, reduceIte, Tree.bind, liftO, dIdx, sAsgL, sPar4, dV, dC, d1, d2, t1, t2, l0, lC, dL, dT, aV, aE, a0, aC, dCall, dCallK, dIf, tTr, tV, truth, asB, tNot, tAnd, tOr, dAnd, dOr, sSet, sAsg, sPar, sRet, s0, sC, sIf, sX, sOwn, sApp, sFrz, frzE, sFor, outV, fnF, lenIs, ent, small, few, putE, putsE, wipeE, it_l, it_t, iS, iR1, iR2, wEn, wZ2, wZ3, dLc, dLf, dSl, oN, oS, pCut, pSub, cI, bD, pIx, pList, pTup, pLen, pNot, qIsN, qNotN, pIsN, pNotN, List.getElem?_cons_succ, List.getElem?_cons_zero, List.set_cons_succ, List.set_cons_zero, List.length_cons, List.length_nil, List.map_cons, List.map_nil, List.foldr_cons, List.foldr_nil, List.replicate_succ, List.replicate_zero, List.cons_append, List.nil_append, sOPar, sOOPar, dOIx, sNest, sCallP, dOLen, fnP, pC, pFrz, dPr, nApp, nIf, nEnd, sN0, sN1, lendE, frzW, sSetK, dGet, dZipD, dPairD, pMax2, sDD, sND, tNeN, sLock, lockE, odcE, tdE, dttE, tC, tLock, tRet, dGetO, dIdxO, tNinD, sPutO, tDen, sUpd, sCpT, iDtt, dSrtD, sParDt, sParDt3, tCall2, fnT, sNewD, isNd, ev_seats_along hd he (show (0 : Int) < n by omega) hne hl hc, dLs_len, AL_len, if_pos (show cs.length + 1 ≤ 50000 by omega)]
  unfold dLs AL
  rw [List.map_map, mapT_map, mapT_ret (g := fun i => tD (tabA n ss (cs.take i))) fun i hi => by
    simp only [Nat.reduceSub, Nat.reduceAdd, reduceIte, Tree.bind, liftO, dIdx, sAsgL, sPar4, dV, dC, d1, d2, t1, t2, l0, lC, dL, dT, aV, aE, a0, aC, dCall, dCallK, dIf, tTr, tV, truth, asB, tNot, tAnd, tOr, dAnd, dOr, sSet, sAsg, sPar, sRet, s0, sC, sIf, sX, sOwn, sApp, sFrz, frzE, sFor, outV, fnF, lenIs, ent, small, few, putE, putsE, wipeE, it_l, it_t, iS, iR1, iR2, wEn, wZ2, wZ3, dLc, dLf, dSl, oN, oS, pCut, pSub, cI, bD, pIx, pList, pTup, pLen, pNot, qIsN, qNotN, pIsN, pNotN, List.getElem?_cons_succ, List.getElem?_cons_zero, List.set_cons_succ, List.set_cons_zero, List.length_cons, List.length_nil, List.map_cons, List.map_nil, List.foldr_cons, List.foldr_nil, List.replicate_succ, List.replicate_zero, List.cons_append, List.nil_append, sOPar, sOOPar, dOIx, sNest, sCallP, dOLen, fnP, pC, pFrz, dPr, nApp, nIf, nEnd, sN0, sN1, lendE, frzW, sSetK, dGet, dZipD, dPairD, pMax2, sDD, sND, tNeN, sLock, lockE, odcE, tdE, dttE, tC, tLock, tRet, dGetO, dIdxO, tNinD, sPutO, tDen, sUpd, sCpT, iDtt, dSrtD, sParDt, sParDt3, tCall2, fnT, sNewD, isNd, Function.comp, ev_as_table]
    rfl]
  simp only [Tree.bind, liftO, dIdx, sAsgL, sPar4, dV, dC, d1, d2, t1, t2, l0, lC, dL, dT, aV, aE, a0, aC, dCall, dCallK, dIf, tTr, tV, truth, asB, tNot, tAnd, tOr, dAnd, dOr, sSet, sAsg, sPar, sRet, s0, sC, sIf, sX, sOwn, sApp, sFrz, frzE, sFor, outV, fnF, lenIs, ent, small, few, putE, putsE, wipeE, it_l, it_t, iS, iR1, iR2, wEn, wZ2, wZ3, dLc, dLf, dSl, oN, oS, pCut, pSub, cI, bD, pIx, pList, pTup, pLen, pNot, qIsN, qNotN, pIsN, pNotN, List.getElem?_cons_succ, List.getElem?_cons_zero, List.set_cons_succ, List.set_cons_zero, List.length_cons, List.length_nil, List.map_cons, List.map_nil, List.foldr_cons, List.foldr_nil, List.replicate_succ, List.replicate_zero, List.cons_append, List.nil_append, sOPar, sOOPar, dOIx, sNest, sCallP, dOLen, fnP, pC, pFrz, dPr, nApp, nIf, nEnd, sN0, sN1, lendE, frzW, sSetK, dGet, dZipD, dPairD, pMax2, sDD, sND, tNeN, sLock, lockE, odcE, tdE, dttE, tC, tLock, tRet, dGetO, dIdxO, tNinD, sPutO, tDen, sUpd, sCpT, iDtt, dSrtD, sParDt, sParDt3, tCall2, fnT, sNewD, isNd]
def lb1 (C : Addr) : DenS := (sC (sPar [16, 17] (lC (dM0 C 6 (m_Circle_seats C)) (lC (dM0 C 6 (m_Circle_steps C)) l0))) (sC (sSet 11 (dL (lC (d1 pList (dV 16)) (lC (d1 pList (dV 17)) l0)))) (sC (sSetC 12 (dMc C 6 (m_Circle_call C) (aC (aV 10) a0))) (sC (sIf (t2 pNe (dL (lC (dV 16) (lC (dV 17) l0))) (dV 11)) (sRet (dC (.bool false))) s0) (sC (sApp 7 (d1 pSum (dM0 C 6 (m_Circle_steps C)))) (sC (sIf (tOr (t2 pNe (d1 pIsN (dV 12)) (d2 (bD pIn) (dV 1) (dV 9))) (tOr (t2 pNin (dV 10) (dM0 C 6 (m_Circle_table C))) (t2 pNe (dM0 C 6 (m_Circle_table C)) (d2 pIx (dV 8) (d2 pAdd (dV 1) (dC (.int 1))))))) (sRet (dC (.bool false))) s0) (sC (sSet 13 (dIf (t1 qNotN (dV 12)) (d2 pMod (d2 pSub (d2 pIx (dV 16) (dV 12)) (dV 10)) (dV 2)) (dC (.int 0)))) (sC (sOwn 14 (d1 pList (dV 16))) (sC (sIf (t1 qNotN (dV 12)) (sIx 14 (dV 12) (dV 10)) s0) (sFrz 14 (sC (sIf (tOr (t2 pNe (d2 pSub (dOIx 7 (d1 pNeg (dC (.int 1)))) (dOIx 7 (d1 pNeg (dC (.int 2))))) (dV 13)) (t2 pNe (dM0 C 6 (m_Circle_seats C)) (dV 14))) (sRet (dC (.bool false))) s0) (sC (sSet 15 (dCall m_mover (aC (aV 2) (aC (aE (d2 pIx (dV 8) (dV 1))) (aC (aV 10) a0))))) (sIf (t2 pNe (dIf (t1 qIsN (dV 15)) (dC .none) (d2 pIx (d2 pIx (dV 8) (dV 1)) (dV 15))) (dIf (t1 qIsN (dV 12)) (dC .none) (d2 pIx (dV 16) (dV 12)))) (sRet (dC (.bool false))) s0)))))))))))))
def lb2 (C : Addr) : DenS := (sIfC (tOrC (t2 pNe (dM0 C 6 (m_Circle_table C)) (d2 pIx (dV 8) (dV 1))) (tOrC (t2 pNe (d1 pSum (dM0 C 6 (m_Circle_steps C))) (dOIx 7 (dV 1))) (tNBc true (dMc0 C 6 (m_Circle_undo C))))) (sRet (dC (.bool false))) s0)
def algT (n : Nat) (t cs : List Int) : List PyData := (List.range (cs.length + 1)).map fun i => tD (tabA n t (cs.take i))
theorem algT_get {n : Nat} {t cs : List Int} {i : Nat} (h : i ≤ cs.length) : (algT n t cs)[i]? = some (.tuple (iL (tabA n t (cs.take i)))) := by
  unfold algT
  rw [List.getElem?_map, List.getElem?_range (by omega)]
  rfl
def sms (n : Nat) (t cs : List Int) (m : Nat) : List PyData := (List.range m).map fun i => .int (stepsL n t (cs.take i)).sum
theorem sms_len {n : Nat} {t cs : List Int} {m : Nat} : (sms n t cs m).length = m := by simp [sms]
theorem sms_get {n : Nat} {t cs : List Int} {m i : Nat} (h : i < m) : (sms n t cs m)[i]? = some (.int (stepsL n t (cs.take i)).sum) := by
  unfold sms
  rw [List.getElem?_map, List.getElem?_range h]
  rfl
theorem sms_succ {n : Nat} {t cs : List Int} {m : Nat} : sms n t cs m ++ [.int (stepsL n t (cs.take m)).sum] = sms n t cs (m + 1) := by
  unfold sms
  rw [List.range_succ, List.map_append]
  rfl
theorem at_neg {α : Type} {xs : List α} {k m : Nat} {x : α} (hl : xs.length = k + m) (hm : 0 < m) (h : xs[k]? = some x) : atI xs (-(m : Int)) = some x := by
  unfold atI
  rw [hl, show ixN (k + m) (-(m : Int)) = some k from by
    unfold ixN
    rw [if_neg (by omega), if_pos (by omega)]
    congr 1
    omega]
  exact h
structure Sc (n : Nat) (t cs : List Int) : Prop where
  tb : Tbl n t
  ne : t ≠ []
  n0 : 0 < n
  tl : t.length ≤ 1000
  cl : cs.length ≤ 30
  hc : ∀ c ∈ cs, 0 ≤ c ∧ c < (n : Int)
def EL (C : Addr) (n : Nat) (t cs : List Int) (k : PyData) (i m : Nat) (e : List Str) (x1 : Option W) (ys : List (Option W)) : Env := [some .bx, x1, some (.d (.int (n : Int))), some (.d k), some (.d (.tuple (iL t))), some (.d (.list (iL cs))), some (.cir (cr C n t (cs.take i) e)), some (.own (sms n t cs m)), some (.d (.list (algT n t cs))), some (.d (.list (iL (idI n t cs cs.length))))] ++ ys
theorem turn1 {C : Addr} {n : Nat} {t cs : List Int} {k : PyData} {i : Nat} {c : Int} {e : List Str} (S : Sc n t cs) (h : cs[i]? = some c) (he : e.length ≤ 100) (x11 x12 x13 x14 x15 x16 x17 : Option W) :
    ∃ y11 y12 y13 y14 y15 y16 y17, lb1 C (EL C n t cs k i (i + 1) e (some (.d (.int (i : Int)))) [some (.d (.int c)), x11, x12, x13, x14, x15, x16, x17]) = .ret (.nx (EL C n t cs k (i + 1) (i + 2) (e ++ [("call" : Str)]) (some (.d (.int (i : Int)))) [some (.d (.int c)), y11, y12, y13, y14, y15, y16, y17])) := by
  have hi := (List.getElem?_eq_some_iff.mp h).1
  have hcl := S.cl
  obtain ⟨c0, c1⟩ := S.hc c (List.mem_of_getElem? h)
  have hT : ∀ j, (cs.take j).length ≤ 1000 := fun j => by rw [List.length_take]; omega
  have happ : cs.take i ++ [c] = cs.take (i + 1) := by rw [List.take_add_one, h]; rfl
  obtain ⟨D, hD⟩ : ∃ D, D = runS n t (cs.take i) := ⟨_, rfl⟩
  have hb : ∀ x ∈ D, 0 ≤ x ∧ x < (n : Int) := by
    rw [hD]
    exact runS_mem (n := n) (cs := cs.take i) S.tb.mem fun x hx => S.hc x (List.mem_of_mem_take hx)
  have hDn : D ≠ [] := by
    rw [hD]
    exact runS_ne S.ne
  have hDl : D.length ≤ 1000 := by
    rw [hD, runS_len]
    exact S.tl
  have hnx : runS n t (cs.take (i + 1)) = callL n c D := by rw [hD]; exact runS_succ h
  have n0' : (0 : Int) < n := by have := S.n0; omega
  have e_s1 := ev_cseats (C := C) (e := e) S.n0 S.ne S.tl (hT i)
  have e_t1 := ev_csteps (C := C) (e := e) S.n0 S.ne S.tl (hT i)
  have e_s2 := ev_cseats (C := C) (e := e ++ [("call" : Str)]) S.n0 S.ne S.tl (hT (i + 1))
  have e_t2 := ev_csteps (C := C) (e := e ++ [("call" : Str)]) S.n0 S.ne S.tl (hT (i + 1))
  have e_b2 := ev_ctable (C := C) (e := e ++ [("call" : Str)]) S.n0 S.ne S.tl (hT (i + 1))
  have e_c := ev_ccall (C := C) (e := e) S.n0 S.ne S.tl (hT i) (by omega) ⟨c0, c1⟩
  rw [happ] at e_c
  rw [← hD] at e_s1 e_c
  rw [hnx] at e_s2
  have e_id := idle_iff S.tb S.ne S.n0 S.hc h
  rw [← hD] at e_id
  have e_sum := sum_succ (n := (n : Int)) S.ne h
  rw [← hD] at e_sum
  have e_mem : c ∈ tabA n t (cs.take (i + 1)) := by
    unfold tabA
    rw [srt_mem, hnx]
    exact mv_callL hb hDn S.n0 ⟨c0, c1⟩
  have e_ti : tabA n t (cs.take i) = srt D := by unfold tabA; rw [hD]
  have a_al : atI (algT n t cs) ((i : Int) + 1) = some (.tuple (iL (tabA n t (cs.take (i + 1))))) := by
    rw [show (i : Int) + 1 = ((i + 1 : Nat) : Int) by omega]
    exact atI_nat (algT_get (by omega))
  have a_ai : atI (algT n t cs) (i : Int) = some (.tuple (iL (srt D))) := by
    rw [← e_ti]
    exact atI_nat (algT_get (by omega))
  have a_s1 : atI (sms n t cs (i + 2)) (-1) = some (.int (stepsL n t (cs.take (i + 1))).sum) := at_neg (k := i + 1) (m := 1) sms_len (by omega) (sms_get (by omega))
  have a_s2 : atI (sms n t cs (i + 2)) (-2) = some (.int (stepsL n t (cs.take i)).sum) := at_neg (k := i) (m := 2) sms_len (by omega) (sms_get (by omega))
  have hgap : (stepsL n t (cs.take (i + 1))).sum - (stepsL n t (cs.take i)).sum = farL n c D := by omega
  have e_m2 : m_mover [.d (.int (n : Int)), .d (.tuple (iL (srt D))), .d (.int c)] = .ret (optI (moverL n c (srt D))) := ev_mover (it_t _) n0' (ne_of_len (srt_len D) hDn)
  have hno : noOwns [.d (.int c)] = some () := rfl
  have hsm : (i ≤ 99998) = True := eq_true (by omega)
  have hne1 : pNe (.list [.list (iL D), .list (iL (stepsL n t (cs.take i)))]) (.list [.list (iL D), .list (iL (stepsL n t (cs.take i)))]) = some false := by
    have := pNe_dLs [D, stepsL n t (cs.take i)] [D, stepsL n t (cs.take i)]
    rw [decide_eq_true rfl] at this
    exact this
  have hneT : ∀ l : List Int, pNe (.tuple (iL l)) (.tuple (iL l)) = some false := fun l => by rw [pNe_tt, decide_eq_true rfl]; rfl
  have hneL : ∀ l : List Int, pNe (.list (iL l)) (.list (iL l)) = some false := fun l => by rw [pNe_lst, decide_eq_true rfl]; rfl
  have hcC : ∀ cs' e', (cr C n t cs' e').C = C := fun _ _ => rfl
  have hap := sms_succ (n := n) (t := t) (cs := cs) (m := i + 1)
  cases hm : moverL n c D with
  | none =>
    have hmw : moverL n c (srt D) = none := (mv_srt_none hb hDn S.n0 ⟨c0, c1⟩).mpr hm
    have hfar : farL n c D = 0 := by unfold farL; rw [hm]
    have hin : decide ((i : Int) ∈ idI n t cs cs.length) = true := decide_eq_true (e_id.mpr hm)
    have hcall : callL n c D = D := by unfold callL; rw [hm]
    rw [hm] at e_c
    rw [hmw] at e_m2
    rw [hfar] at hgap
    rw [hcall] at e_s2
    simp only [optI] at e_c e_m2
    refine ⟨some (.d (.list [.list (iL D), .list (iL (stepsL n t (cs.take i)))])), some (.d .none), some (.d (.int 0)), some (.d (.list (iL D))), some (.d .none), some (.d (.list (iL D))), some (.d (.list (iL (stepsL n t (cs.take i))))), ?_⟩
    simp only [lb1, EL, List.cons_append, List.nil_append, dM0, dMc, sSetC, cirAt, cirM, cirW, hcC, Option.bind_some, sIx, Nat.reduceSub, Nat.reduceAdd, Nat.reduceLeDiff, reduceIte, Tree.bind, liftO, dIdx, sAsgL, sPar4, dV, dC, d1, d2, t1, t2, l0, lC, dL, dT, aV, aE, a0, aC, dCall, dCallK, dIf, tTr, tV, truth, asB, tNot, tAnd, tOr, dAnd, dOr, sSet, sAsg, sPar, sRet, s0, sC, sIf, sX, sOwn, sApp, sFrz, frzE, sFor, outV, fnF, lenIs, ent, small, few, putE, putsE, wipeE, it_l, it_t, iS, iR1, iR2, wEn, wZ2, wZ3, dLc, dLf, dSl, oN, oS, pCut, pSub, cI, bD, pIx, pList, pTup, pLen, pNot, qIsN, qNotN, pIsN, pNotN, List.getElem?_cons_succ, List.getElem?_cons_zero, List.set_cons_succ, List.set_cons_zero, List.length_cons, List.length_nil, List.map_cons, List.map_nil, List.foldr_cons, List.foldr_nil, List.replicate_succ, List.replicate_zero, List.cons_append, List.nil_append, sOPar, sOOPar, dOIx, sNest, sCallP, dOLen, fnP, pC, pFrz, dPr, nApp, nIf, nEnd, sN0, sN1, lendE, frzW, sSetK, dGet, dZipD, dPairD, pMax2, sDD, sND, tNeN, sLock, lockE, odcE, tdE, dttE, tC, tLock, tRet, dGetO, dIdxO, tNinD, sPutO, tDen, sUpd, sCpT, iDtt, dSrtD, sParDt, sParDt3, tCall2, fnT, sNewD, isNd, e_s1, e_t1, hno, e_c, hne1, e_t2, pSum_of, sms_len, hsm, hap, e_s2, e_b2, pIn_l, hin, pNe_bb, decide_true, Bool.not_true, Bool.not_false, pNin_t, decide_eq_true e_mem, pAdd_ii, a_al, hneT, pNeg, a_s1, a_s2, hgap, pNe_I, hneL, a_ai, e_m2, pNe_nn]
  | some k' =>
    have hk := mover_lt hDn hm
    obtain ⟨s, hs⟩ : ∃ s, D[k']? = some s := ⟨_, List.getElem?_eq_getElem hk⟩
    obtain ⟨w, hmw⟩ : ∃ w, moverL n c (srt D) = some w := by
      cases z : moverL n c (srt D) with
      | none =>
        rw [(mv_srt_none hb hDn S.n0 ⟨c0, c1⟩).mp z] at hm
        cases hm
      | some w => exact ⟨w, rfl⟩
    have hsw := mv_srt_some hb hDn hm hmw hs
    have hfar : farL n c D = (s - c) % n := by
      unfold farL
      rw [hm]
      dsimp only
      rw [List.getD_eq_getElem?_getD, hs]
      rfl
    have hin : decide ((i : Int) ∈ idI n t cs cs.length) = false := decide_eq_false fun z => by
      rw [e_id.mp z] at hm
      cases hm
    have hcall : callL n c D = D.set k' c := by unfold callL; rw [hm]
    rw [hm] at e_c
    rw [hmw] at e_m2
    rw [hfar] at hgap
    rw [hcall] at e_s2
    simp only [optI] at e_c e_m2
    have a_k : atI (iL D) (k' : Int) = some (.int s) := atI_nat (by unfold iL; rw [List.getElem?_map, hs]; rfl)
    have a_w : atI (iL (srt D)) (w : Int) = some (.int s) := atI_nat (by unfold iL; rw [List.getElem?_map, hsw]; rfl)
    have hix : ixN (iL D).length (k' : Int) = some k' := ixN_nat (by rw [iL_len]; exact hk)
    have hset : (iL D).set k' (.int c) = iL (D.set k' c) := by simp [iL, List.map_set]
    refine ⟨some (.d (.list [.list (iL D), .list (iL (stepsL n t (cs.take i)))])), some (.d (.int (k' : Int))), some (.d (.int ((s - c) % n))), some (.d (.list (iL (D.set k' c)))), some (.d (.int (w : Int))), some (.d (.list (iL D))), some (.d (.list (iL (stepsL n t (cs.take i))))), ?_⟩
    simp only [lb1, EL, List.cons_append, List.nil_append, dM0, dMc, sSetC, cirAt, cirM, cirW, hcC, Option.bind_some, sIx, Nat.reduceSub, Nat.reduceAdd, Nat.reduceLeDiff, reduceIte, Tree.bind, liftO, dIdx, sAsgL, sPar4, dV, dC, d1, d2, t1, t2, l0, lC, dL, dT, aV, aE, a0, aC, dCall, dCallK, dIf, tTr, tV, truth, asB, tNot, tAnd, tOr, dAnd, dOr, sSet, sAsg, sPar, sRet, s0, sC, sIf, sX, sOwn, sApp, sFrz, frzE, sFor, outV, fnF, lenIs, ent, small, few, putE, putsE, wipeE, it_l, it_t, iS, iR1, iR2, wEn, wZ2, wZ3, dLc, dLf, dSl, oN, oS, pCut, pSub, cI, bD, pIx, pList, pTup, pLen, pNot, qIsN, qNotN, pIsN, pNotN, List.getElem?_cons_succ, List.getElem?_cons_zero, List.set_cons_succ, List.set_cons_zero, List.length_cons, List.length_nil, List.map_cons, List.map_nil, List.foldr_cons, List.foldr_nil, List.replicate_succ, List.replicate_zero, List.cons_append, List.nil_append, sOPar, sOOPar, dOIx, sNest, sCallP, dOLen, fnP, pC, pFrz, dPr, nApp, nIf, nEnd, sN0, sN1, lendE, frzW, sSetK, dGet, dZipD, dPairD, pMax2, sDD, sND, tNeN, sLock, lockE, odcE, tdE, dttE, tC, tLock, tRet, dGetO, dIdxO, tNinD, sPutO, tDen, sUpd, sCpT, iDtt, dSrtD, sParDt, sParDt3, tCall2, fnT, sNewD, isNd, e_s1, e_t1, hno, e_c, hne1, e_t2, pSum_of, sms_len, hsm, hap, e_s2, e_b2, pIn_l, hin, pNe_bb, decide_true, Bool.not_true, Bool.not_false, pNin_t, decide_eq_true e_mem, pAdd_ii, a_al, hneT, pNeg, a_s1, a_s2, hgap, pNe_I, hneL, a_ai, e_m2, pNe_nn, a_k, a_w, hix, hset, pMod_of n0']
theorem turn2 {C : Addr} {n : Nat} {t cs : List Int} {k : PyData} {m : Nat} {e : List Str} (S : Sc n t cs) (h : m + 1 ≤ cs.length) (he : e.length ≤ 100) (ys : List (Option W)) :
    lb2 C (EL C n t cs k (m + 1) (cs.length + 1) e (some (.d (.int ((m + 1 : Nat) : Int)))) ys) = .ret (.nx (EL C n t cs k m (cs.length + 1) (e ++ [("undo" : Str)]) (some (.d (.int ((m + 1 : Nat) : Int)))) ys)) := by
  have hcl := S.cl
  have hT : ∀ j, (cs.take j).length ≤ 1000 := fun j => by rw [List.length_take]; omega
  have e_t := ev_csteps (C := C) (e := e) S.n0 S.ne S.tl (hT (m + 1))
  have e_b := ev_ctable (C := C) (e := e) S.n0 S.ne S.tl (hT (m + 1))
  have hne : cs.take (m + 1) ≠ [] := fun z => by
    have := congrArg List.length z
    rw [List.length_take] at this
    rw [List.length_nil] at this
    omega
  have e_u := ev_cundo (C := C) (n := n) (t := t) (e := e) hne (hT (m + 1)) (by omega)
  have hdr : (cs.take (m + 1)).dropLast = cs.take m := by
    rw [List.dropLast_eq_take, List.take_take, List.length_take, show min (min (m + 1) cs.length - 1) (m + 1) = m by omega]
  rw [hdr] at e_u
  have a_a : atI (algT n t cs) ((m + 1 : Nat) : Int) = some (.tuple (iL (tabA n t (cs.take (m + 1))))) := atI_nat (algT_get h)
  have a_s : atI (sms n t cs (cs.length + 1)) ((m + 1 : Nat) : Int) = some (.int (stepsL n t (cs.take (m + 1))).sum) := atI_nat (sms_get (by omega))
  have hneT : ∀ l : List Int, pNe (.tuple (iL l)) (.tuple (iL l)) = some false := fun l => by rw [pNe_tt, decide_eq_true rfl]; rfl
  have hcC : ∀ cs' e', (cr C n t cs' e').C = C := fun _ _ => rfl
  have hq : qNotB true (.bool true) = some false := rfl
  simp only [lb2, EL, List.cons_append, List.nil_append, dM0, dMc0, sIfC, tOrC, tNBc, cirAt, cirM, cirW, hcC, Option.bind_some, Nat.reduceSub, Nat.reduceAdd, Nat.reduceLeDiff, reduceIte, Tree.bind, liftO, dIdx, sAsgL, sPar4, dV, dC, d1, d2, t1, t2, l0, lC, dL, dT, aV, aE, a0, aC, dCall, dCallK, dIf, tTr, tV, truth, asB, tNot, tAnd, tOr, dAnd, dOr, sSet, sAsg, sPar, sRet, s0, sC, sIf, sX, sOwn, sApp, sFrz, frzE, sFor, outV, fnF, lenIs, ent, small, few, putE, putsE, wipeE, it_l, it_t, iS, iR1, iR2, wEn, wZ2, wZ3, dLc, dLf, dSl, oN, oS, pCut, pSub, cI, bD, pIx, pList, pTup, pLen, pNot, qIsN, qNotN, pIsN, pNotN, List.getElem?_cons_succ, List.getElem?_cons_zero, List.set_cons_succ, List.set_cons_zero, List.length_cons, List.length_nil, List.map_cons, List.map_nil, List.foldr_cons, List.foldr_nil, List.replicate_succ, List.replicate_zero, List.cons_append, List.nil_append, sOPar, sOOPar, dOIx, sNest, sCallP, dOLen, fnP, pC, pFrz, dPr, nApp, nIf, nEnd, sN0, sN1, lendE, frzW, sSetK, dGet, dZipD, dPairD, pMax2, sDD, sND, tNeN, sLock, lockE, odcE, tdE, dttE, tC, tLock, tRet, dGetO, dIdxO, tNinD, sPutO, tDen, sUpd, sCpT, iDtt, dSrtD, sParDt, sParDt3, tCall2, fnT, sNewD, isNd, e_b, a_a, hneT, e_t, pSum_of, a_s, pNe_I, e_u, hq]
def fin (C : Addr) : DenS := (sRet (dAnd (dCh2 pEq pEq (dM0 C 6 (m_Circle_table C)) (dV 4) (dCall m_table_after (aC (aV 2) (aC (aV 4) (aC (aE (dL l0)) a0))))) (d2 (bD pEq) (dM0 C 6 (m_Circle_seats C)) (d1 pList (dV 4)))))
def mid (C : Addr) : DenS := (sIf (tOr (t2 pNe (dM0 C 6 (m_Circle_steps C)) (dCall m_steps (aC (aV 2) (aC (aV 4) (aC (aV 5) a0))))) (t2 pNe (dM0 C 6 (m_Circle_seats C)) (dCall m_seats_after (aC (aV 2) (aC (aV 4) (aC (aV 5) a0)))))) (sRet (dC (.bool false))) s0)
theorem mid_ok {C : Addr} {n : Nat} {t cs : List Int} {k : PyData} {e : List Str} (S : Sc n t cs) (x1 : Option W) (ys : List (Option W)) : mid C (EL C n t cs k cs.length (cs.length + 1) e x1 ys) = .ret (.nx (EL C n t cs k cs.length (cs.length + 1) e x1 ys)) := by
  have hcl := S.cl
  have n0' : (0 : Int) < n := by have := S.n0; omega
  have hT : (cs.take cs.length).length ≤ 1000 := by rw [List.length_take]; omega
  have e_t := ev_csteps (C := C) (e := e) S.n0 S.ne S.tl hT
  have e_s := ev_cseats (C := C) (e := e) S.n0 S.ne S.tl hT
  rw [show runS n t (cs.take cs.length) = runS n t cs by rw [List.take_length]] at e_s
  rw [show stepsL n t (cs.take cs.length) = stepsL n t cs by rw [List.take_length]] at e_t
  have hneL : ∀ l : List Int, pNe (.list (iL l)) (.list (iL l)) = some false := fun l => by rw [pNe_lst, decide_eq_true rfl]; rfl
  have hcC : ∀ cs' e', (cr C n t cs' e').C = C := fun _ _ => rfl
  simp only [mid, EL, List.cons_append, List.nil_append, dM0, cirAt, cirM, cirW, hcC, Option.bind_some, Nat.reduceSub, Nat.reduceAdd, Nat.reduceLeDiff, reduceIte, Tree.bind, liftO, dIdx, sAsgL, sPar4, dV, dC, d1, d2, t1, t2, l0, lC, dL, dT, aV, aE, a0, aC, dCall, dCallK, dIf, tTr, tV, truth, asB, tNot, tAnd, tOr, dAnd, dOr, sSet, sAsg, sPar, sRet, s0, sC, sIf, sX, sOwn, sApp, sFrz, frzE, sFor, outV, fnF, lenIs, ent, small, few, putE, putsE, wipeE, it_l, it_t, iS, iR1, iR2, wEn, wZ2, wZ3, dLc, dLf, dSl, oN, oS, pCut, pSub, cI, bD, pIx, pList, pTup, pLen, pNot, qIsN, qNotN, pIsN, pNotN, List.getElem?_cons_succ, List.getElem?_cons_zero, List.set_cons_succ, List.set_cons_zero, List.length_cons, List.length_nil, List.map_cons, List.map_nil, List.foldr_cons, List.foldr_nil, List.replicate_succ, List.replicate_zero, List.cons_append, List.nil_append, sOPar, sOOPar, dOIx, sNest, sCallP, dOLen, fnP, pC, pFrz, dPr, nApp, nIf, nEnd, sN0, sN1, lendE, frzW, sSetK, dGet, dZipD, dPairD, pMax2, sDD, sND, tNeN, sLock, lockE, odcE, tdE, dttE, tC, tLock, tRet, dGetO, dIdxO, tNinD, sPutO, tDen, sUpd, sCpT, iDtt, dSrtD, sParDt, sParDt3, tCall2, fnT, sNewD, isNd, e_s, e_t, hneL, ev_steps (it_t _) (it_l _) n0' S.ne S.tl (show cs.length ≤ 1000 by omega), ev_seats_after (it_t _) (it_l _) n0' S.ne S.tl (show cs.length ≤ 1000 by omega)]
theorem fin_ok {C : Addr} {n : Nat} {t cs : List Int} {k : PyData} {e : List Str} (S : Sc n t cs) (x1 : Option W) (ys : List (Option W)) : fin C (EL C n t cs k 0 (cs.length + 1) e x1 ys) = .ret (.rt (.bool true)) := by
  have hcl := S.cl
  have n0' : (0 : Int) < n := by have := S.n0; omega
  have hT : (cs.take 0).length ≤ 1000 := by simp
  have e_b := ev_ctable (C := C) (e := e) S.n0 S.ne S.tl hT
  have e_s := ev_cseats (C := C) (e := e) S.n0 S.ne S.tl hT
  have ht : tabA n t [] = t := srt_self S.tb
  rw [show runS n t (cs.take 0) = t from rfl] at e_s
  rw [show tabA n t (cs.take 0) = t from ht] at e_b
  have e_a : m_table_after [.d (.int (n : Int)), .d (.tuple (iL t)), .d (.list [])] = .ret (.tuple (iL t)) := by
    have := ev_table_after (n := n) (d := .tuple (iL t)) (e := .list []) (ss := t) (cs := []) rfl rfl S.n0 S.ne S.tl (by simp)
    rw [ht] at this
    exact this
  have hqL : ∀ l : List Int, pEq (.list (iL l)) (.list (iL l)) = some true := fun l => by rw [pEq_lst, decide_eq_true rfl]
  have hqT : ∀ l : List Int, pEq (.tuple (iL l)) (.tuple (iL l)) = some true := fun l => by rw [pEq_tt, decide_eq_true rfl]
  have hcC : ∀ cs' e', (cr C n t cs' e').C = C := fun _ _ => rfl
  simp only [fin, EL, List.cons_append, List.nil_append, dM0, dCh2, cirAt, cirM, cirW, hcC, Option.bind_some, Nat.reduceSub, Nat.reduceAdd, Nat.reduceLeDiff, Nat.zero_le, reduceIte, Tree.bind, liftO, dIdx, sAsgL, sPar4, dV, dC, d1, d2, t1, t2, l0, lC, dL, dT, aV, aE, a0, aC, dCall, dCallK, dIf, tTr, tV, truth, asB, tNot, tAnd, tOr, dAnd, dOr, sSet, sAsg, sPar, sRet, s0, sC, sIf, sX, sOwn, sApp, sFrz, frzE, sFor, outV, fnF, lenIs, ent, small, few, putE, putsE, wipeE, it_l, it_t, iS, iR1, iR2, wEn, wZ2, wZ3, dLc, dLf, dSl, oN, oS, pCut, pSub, cI, bD, pIx, pList, pTup, pLen, pNot, qIsN, qNotN, pIsN, pNotN, List.getElem?_cons_succ, List.getElem?_cons_zero, List.set_cons_succ, List.set_cons_zero, List.length_cons, List.length_nil, List.map_cons, List.map_nil, List.foldr_cons, List.foldr_nil, List.replicate_succ, List.replicate_zero, List.cons_append, List.nil_append, sOPar, sOOPar, dOIx, sNest, sCallP, dOLen, fnP, pC, pFrz, dPr, nApp, nIf, nEnd, sN0, sN1, lendE, frzW, sSetK, dGet, dZipD, dPairD, pMax2, sDD, sND, tNeN, sLock, lockE, odcE, tdE, dttE, tC, tLock, tRet, dGetO, dIdxO, tNinD, sPutO, tDen, sUpd, sCpT, iDtt, dSrtD, sParDt, sParDt3, tCall2, fnT, sNewD, isNd, e_b, e_s, e_a, hqL, hqT]
def fr2 (C : Addr) (L1 L2 M F : DenS) : DenS := (sC (sAsg (.tp [2, 3, 4]) (dCall m_law_scene (aC (aV 0) (aC (aE (dC (.int 10))) a0)))) (sC (sParC 5 6 7 (dCall m_law_tour (aC (aV 0) (aC (aV 2) (aC (aE (dC (.int 30))) a0)))) (cNew C (dV 2) (dV 4)) (dL (lC (dC (.int 0)) l0))) (sC (sPar [8, 9] (lC (dCall m_tables_along (aC (aV 2) (aC (aV 4) (aC (aV 5) a0)))) (lC (dCall m_idle_calls (aC (aV 2) (aC (aV 4) (aC (aV 5) a0)))) l0))) (sC (sFor (.tp [1, 10]) (wEn (dV 5)) L1) (sC M (sC (sFor (.nm 1) (iRd (d1 pLen (dV 5)) (dC (.int 0))) L2) F))))))
theorem b_split2 (C : Addr) : b_law_right C = fr2 C (lb1 C) (lb2 C) (mid C) (fin C) := rfl
theorem rg_down {m : Nat} (h : m ≤ 1000) : rgD (.int (m : Int)) (.int 0) = some ((List.range m).map fun (j : Nat) => .int ((m : Int) + (j : Int) * -1)) := by
  show (if -100000 ≤ (m : Int) ∧ (m : Int) ≤ 100000 ∧ -100000 ≤ (0 : Int) ∧ (0 : Int) ≤ 100000 then some ((List.range ((m : Int) - 0).toNat).map fun (k : Nat) => PyData.int ((m : Int) + (k : Int) * -1)) else none) = _
  rw [if_pos ⟨by omega, by omega, by omega, by omega⟩, show ((m : Int) - 0).toNat = m by omega]
theorem right_ok (C : Addr) : (m_law_right C [.bx]).All fun d => d = .bool true := by
  obtain ⟨L1, hL1⟩ : ∃ L : DenS, L = lb1 C := ⟨_, rfl⟩
  obtain ⟨L2, hL2⟩ : ∃ L : DenS, L = lb2 C := ⟨_, rfl⟩
  obtain ⟨M, hM⟩ : ∃ L : DenS, L = mid C := ⟨_, rfl⟩
  obtain ⟨F, hF⟩ : ∃ L : DenS, L = fin C := ⟨_, rfl⟩
  have hb : b_law_right C = fr2 C L1 L2 M F := by rw [b_split2, hL1, hL2, hM, hF]
  simp only [m_law_right, hb, fr2, sParC, cNew, iRd, Nat.reduceSub, Nat.reduceAdd, Nat.reduceLeDiff, reduceIte, Tree.bind, liftO, dIdx, sAsgL, sPar4, dV, dC, d1, d2, t1, t2, l0, lC, dL, dT, aV, aE, a0, aC, dCall, dCallK, dIf, tTr, tV, truth, asB, tNot, tAnd, tOr, dAnd, dOr, sSet, sAsg, sPar, sRet, s0, sC, sIf, sX, sOwn, sApp, sFrz, frzE, sFor, outV, fnF, lenIs, ent, small, few, putE, putsE, wipeE, it_l, it_t, iS, iR1, iR2, wEn, wZ2, wZ3, dLc, dLf, dSl, oN, oS, pCut, pSub, cI, bD, pIx, pList, pTup, pLen, pNot, qIsN, qNotN, pIsN, pNotN, List.getElem?_cons_succ, List.getElem?_cons_zero, List.set_cons_succ, List.set_cons_zero, List.length_cons, List.length_nil, List.map_cons, List.map_nil, List.foldr_cons, List.foldr_nil, List.replicate_succ, List.replicate_zero, List.cons_append, List.nil_append, sOPar, sOOPar, dOIx, sNest, sCallP, dOLen, fnP, pC, pFrz, dPr, nApp, nIf, nEnd, sN0, sN1, lendE, frzW, sSetK, dGet, dZipD, dPairD, pMax2, sDD, sND, tNeN, sLock, lockE, odcE, tdE, dttE, tC, tLock, tRet, dGetO, dIdxO, tNinD, sPutO, tDen, sUpd, sCpT, iDtt, dSrtD, sParDt, sParDt3, tCall2, fnT, sNewD, isNd, all_bindE, all_retE]
  refine all_law_scene (m := 10) (by decide) (by decide) fun n k t n2 n1 k0 kn tb hl => ?_
  subst hl
  try simp only [Nat.reduceSub, Nat.reduceAdd, Nat.reduceLeDiff, reduceIte, Tree.bind, liftO, dIdx, sAsgL, sPar4, dV, dC, d1, d2, t1, t2, l0, lC, dL, dT, aV, aE, a0, aC, dCall, dCallK, dIf, tTr, tV, truth, asB, tNot, tAnd, tOr, dAnd, dOr, sSet, sAsg, sPar, sRet, s0, sC, sIf, sX, sOwn, sApp, sFrz, frzE, sFor, outV, fnF, lenIs, ent, small, few, putE, putsE, wipeE, it_l, it_t, iS, iR1, iR2, wEn, wZ2, wZ3, dLc, dLf, dSl, oN, oS, pCut, pSub, cI, bD, pIx, pList, pTup, pLen, pNot, qIsN, qNotN, pIsN, pNotN, List.getElem?_cons_succ, List.getElem?_cons_zero, List.set_cons_succ, List.set_cons_zero, List.length_cons, List.length_nil, List.map_cons, List.map_nil, List.foldr_cons, List.foldr_nil, List.replicate_succ, List.replicate_zero, List.cons_append, List.nil_append, sOPar, sOOPar, dOIx, sNest, sCallP, dOLen, fnP, pC, pFrz, dPr, nApp, nIf, nEnd, sN0, sN1, lendE, frzW, sSetK, dGet, dZipD, dPairD, pMax2, sDD, sND, tNeN, sLock, lockE, odcE, tdE, dttE, tC, tLock, tRet, dGetO, dIdxO, tNinD, sPutO, tDen, sUpd, sCpT, iDtt, dSrtD, sParDt, sParDt3, tCall2, fnT, sNewD, isNd, all_bindE, all_retE]
  refine all_law_tour (m := 30) (by omega) (by omega) (by decide) fun cs hcr hcl => ?_
  have S : Sc n t cs := ⟨tb, List.ne_nil_of_length_pos k0, by omega, by omega, hcl, hcr⟩
  have n0' : (0 : Int) < n := by omega
  have hun : unI (iL t) = some t := unI_iL t
  try simp only [hun, Option.bind_some, Nat.reduceSub, Nat.reduceAdd, Nat.reduceLeDiff, reduceIte, Tree.bind, liftO, dIdx, sAsgL, sPar4, dV, dC, d1, d2, t1, t2, l0, lC, dL, dT, aV, aE, a0, aC, dCall, dCallK, dIf, tTr, tV, truth, asB, tNot, tAnd, tOr, dAnd, dOr, sSet, sAsg, sPar, sRet, s0, sC, sIf, sX, sOwn, sApp, sFrz, frzE, sFor, outV, fnF, lenIs, ent, small, few, putE, putsE, wipeE, it_l, it_t, iS, iR1, iR2, wEn, wZ2, wZ3, dLc, dLf, dSl, oN, oS, pCut, pSub, cI, bD, pIx, pList, pTup, pLen, pNot, qIsN, qNotN, pIsN, pNotN, List.getElem?_cons_succ, List.getElem?_cons_zero, List.set_cons_succ, List.set_cons_zero, List.length_cons, List.length_nil, List.map_cons, List.map_nil, List.foldr_cons, List.foldr_nil, List.replicate_succ, List.replicate_zero, List.cons_append, List.nil_append, sOPar, sOOPar, dOIx, sNest, sCallP, dOLen, fnP, pC, pFrz, dPr, nApp, nIf, nEnd, sN0, sN1, lendE, frzW, sSetK, dGet, dZipD, dPairD, pMax2, sDD, sND, tNeN, sLock, lockE, odcE, tdE, dttE, tC, tLock, tRet, dGetO, dIdxO, tNinD, sPutO, tDen, sUpd, sCpT, iDtt, dSrtD, sParDt, sParDt3, tCall2, fnT, sNewD, isNd, all_bindE, all_retE, ev_tables_along (it_t _) (it_l _) S.n0 S.ne S.tl (show cs.length ≤ 1000 by omega), ev_idle_calls (it_t _) (it_l _) S.n0 S.ne S.tl (show cs.length ≤ 1000 by omega), iL_len, rg_down (show cs.length ≤ 1000 by omega)]
  have hs1 : [PyData.int 0] = sms n t cs 1 := by
    show _ = [PyData.int (t.map fun _ => (0 : Int)).sum]
    have hz : ∀ l : List Int, (l.map fun _ => (0 : Int)).sum = 0 := fun l => by
      induction l with
      | nil => rfl
      | cons a l ih => rw [List.map_cons, List.sum_cons, ih]; rfl
    rw [hz]
  have hE0 : ([some W.bx, none, some (W.d (PyData.int ↑n)), some (W.d (PyData.int ↑t.length)), some (W.d (PyData.tuple (iL t))), some (W.d (PyData.list (iL cs))), some (W.cir { C := C, sz := ↑n, bg := t, ops := [], ent := [] }), some (W.own [PyData.int 0]), some (W.d (PyData.list (List.map (fun i => tD (tabA n t (List.take i cs))) (List.range (cs.length + 1))))), some (W.d (PyData.list (iL (idI (↑n) t cs cs.length)))), none, none, none, none, none, none, none, none] : Env) = EL C n t cs (.int (t.length : Int)) 0 1 [] none [none, none, none, none, none, none, none, none] := by
    rw [hs1]
    rfl
  rw [hE0]
  have hpl : (prs (nums cs.length) (iL cs)).length = cs.length := by rw [prs_len, nums_len, iL_len, Nat.min_self]
  refine all_forT (I := fun i E => ∃ v1 x10 x11 x12 x13 x14 x15 x16 x17 e, e.length = i ∧ E = EL C n t cs (.int (t.length : Int)) i (i + 1) e v1 [x10, x11, x12, x13, x14, x15, x16, x17]) ⟨_, _, _, _, _, _, _, _, _, _, rfl, rfl⟩ (fun i x E hx hI => ?_) fun E hI => ?_
  · obtain ⟨v1, x10, x11, x12, x13, x14, x15, x16, x17, e, he, rfl⟩ := hI
    have hx : (prs (nums (iL cs).length) (iL cs))[i]? = some x := by rw [iL_len]; exact hx
    obtain ⟨c, hc, rfl⟩ := prs_at2 hx
    have hi := (List.getElem?_eq_some_iff.mp hc).1
    obtain ⟨y11, y12, y13, y14, y15, y16, y17, h⟩ := turn1 (C := C) (k := .int (t.length : Int)) (e := e) S hc (by omega) x11 x12 x13 x14 x15 x16 x17
    refine ⟨EL C n t cs (.int (t.length : Int)) i (i + 1) e (some (.d (.int (i : Int)))) [some (.d (.int c)), x11, x12, x13, x14, x15, x16, x17], rfl, ?_⟩
    rw [hL1, h]
    exact ⟨_, _, _, _, _, _, _, _, _, _, by rw [List.length_append, he]; rfl, rfl⟩
  · obtain ⟨v1, x10, x11, x12, x13, x14, x15, x16, x17, e, he, rfl⟩ := hI
    rw [hpl] at he ⊢
    have hm := mid_ok (C := C) (k := .int (t.length : Int)) (e := e) S v1 [x10, x11, x12, x13, x14, x15, x16, x17]
    have g5 : (EL C n t cs (.int (t.length : Int)) cs.length (cs.length + 1) e v1 [x10, x11, x12, x13, x14, x15, x16, x17])[5]? = some (some (.d (.list (iL cs)))) := rfl
    simp only [hM, hm, Tree.bind, g5, items, iL_len, rg_down (show cs.length ≤ 1000 by omega), all_bindE]
    refine all_forT (I := fun i E => ∃ v1 e, e.length = cs.length + i ∧ E = EL C n t cs (.int (t.length : Int)) (cs.length - i) (cs.length + 1) e v1 [x10, x11, x12, x13, x14, x15, x16, x17]) ⟨_, _, he, rfl⟩ (fun i x E hx hI => ?_) fun E hI => ?_
    · obtain ⟨v1, e, he, rfl⟩ := hI
      rw [List.getElem?_map] at hx
      have hi : i < cs.length := by
        by_cases hi : i < cs.length
        · exact hi
        · rw [List.getElem?_eq_none (by simp; omega)] at hx
          cases hx
      rw [List.getElem?_range hi] at hx
      cases hx
      have h := turn2 (C := C) (k := .int (t.length : Int)) (m := cs.length - i - 1) (e := e) S (by omega) (by omega) [x10, x11, x12, x13, x14, x15, x16, x17]
      rw [show cs.length - i - 1 + 1 = cs.length - i by omega] at h
      refine ⟨EL C n t cs (.int (t.length : Int)) (cs.length - i) (cs.length + 1) e (some (.d (.int ((cs.length - i : Nat) : Int)))) [x10, x11, x12, x13, x14, x15, x16, x17], ?_, ?_⟩
      · dsimp only
        rw [show (cs.length : Int) + (i : Int) * -1 = ((cs.length - i : Nat) : Int) by omega]
        rfl
      · rw [hL2, h]
        exact ⟨_, e ++ [("undo" : Str)], by rw [List.length_append, he]; simp only [List.length_cons, List.length_nil]; omega, by rw [show cs.length - i - 1 = cs.length - (i + 1) by omega]⟩
    · obtain ⟨v1, e, he, rfl⟩ := hI
      rw [List.length_map, List.length_range, Nat.sub_self]
      have hf := fin_ok (C := C) (k := .int (t.length : Int)) (e := e) S v1 [x10, x11, x12, x13, x14, x15, x16, x17]
      simp only [hF, hf]
      rfl
end Nx
namespace Nx
open PySem PySem.Spec PyProof.Rows L2
def topS (i : Nat) : Stmt := PySem.Challenge.pw_nextstands_k82_whole_a_circle_and_the_fu.main.body.getD i (.Pass ⟨0, 0, 0, 0⟩)
abbrev s_wall : Stmt := topS 0
abbrev s_is_chair : Stmt := topS 4
abbrev s_mover : Stmt := topS 5
abbrev s_seats_called : Stmt := topS 6
abbrev s_seats_along : Stmt := topS 7
abbrev s_as_table : Stmt := topS 8
abbrev s_table_after : Stmt := topS 9
abbrev s_tables_along : Stmt := topS 10
abbrev s_idle_calls : Stmt := topS 11
abbrev s_steps : Stmt := topS 12
abbrev s_seats_after : Stmt := topS 14
abbrev s_Circle___init__ : Stmt := clsS (topS 16) 0
abbrev s_Circle_call : Stmt := clsS (topS 16) 1
abbrev s_Circle_undo : Stmt := clsS (topS 16) 3
abbrev s_Circle_table : Stmt := clsS (topS 16) 4
abbrev s_Circle_seats : Stmt := clsS (topS 16) 5
abbrev s_Circle_steps : Stmt := clsS (topS 16) 6
abbrev s_Circle_calls : Stmt := clsS (topS 16) 9
abbrev s_law_box : Stmt := topS 18
abbrev s_law_take : Stmt := topS 19
abbrev s_law_cells : Stmt := topS 20
abbrev s_law_of : Stmt := topS 21
abbrev s_law_strewn : Stmt := topS 22
abbrev s_law_span : Stmt := topS 23
abbrev s_law_crowd : Stmt := topS 24
abbrev s_law_tour : Stmt := topS 25
abbrev s_law_scene : Stmt := topS 26
abbrev s_law_right : Stmt := topS 27
abbrev s_law : Stmt := topS 28
section
variable {P : Program} {w : World} {K : PySem.W.Frag} {mg : Str → Option Value} {base : Heap}
theorem sc_law_take : FnScope ["_law_box_here", "_law_below", "_law_blend", "_law_found"] ["_law_box_here", "_law_below"] (defScope s_law_take) := ⟨rfl, rfl, rfl, by decide +kernel, rfl, by decide +kernel, by decide +kernel⟩
def c_law_take : Ct := fun os μ Φ => ∃ b n p q t, os = [.own b, .im (.int n)] ∧ μ b = some (bx p q t) ∧ 0 < n ∧ n < 4611686018427387904 ∧ ∀ r p' t', 0 ≤ r → r < n → Φ (.im (.int r)) (μ.put b (bx p' q t'))
theorem f_law_take {f : Addr} {fd : FuncData} (F : Fun K "_law_take" "_law_take" s_law_take f fd) (hm : mg "_law_take" = some (.ref f)) : Fc P w K mg base "_law_take" s_law_take ["_law_box_here", "_law_below"] 1 c_law_take := by
  have sc := sc_law_take
  refine fc_of F hm sc (fun os μ Φ h => ?_) fun cdv A outer s H E os μ Φ hr h => ?_
  · obtain ⟨b, n, p, q, t, rfl, _⟩ := h
    rfl
  · obtain ⟨b, n, p, q, t, rfl, hb, n0, n1, k⟩ := h
    refine dss_cons (ds_if (dt_gt (de_ix (fun _ _ => rfl) (de_var 0 rfl (.inl rfl) rfl (de_int ⟨_, _, _, .own hb, rfl, rfl, de_int ⟨_, _, rfl, rfl, ?_⟩⟩)))))
    by_cases hp : 0 < p
    · rw [if_pos (decide_eq_true hp)]
      refine dss_cons (ds_set 3 sc.nd rfl (.inl rfl) (de_mod (de_ix (fun _ _ => rfl) (de_var 0 rfl (.inl rfl) rfl (de_int ⟨_, _, _, .own hb, rfl, rfl, de_var 1 rfl (.inl rfl) rfl ⟨_, _, rfl, rfl, n0, ?_⟩⟩)))))
      refine dss_cons (ds_sub (de_fdivW (de_ix (fun _ _ => rfl) (de_var 0 rfl (.inl rfl) rfl (de_int ⟨_, _, _, .own hb, rfl, rfl, de_var 1 rfl (.inl rfl) rfl ⟨_, _, rfl, rfl, wide_div (b := 62) n0 (by omega) (by decide) (by decide), de_var 0 rfl (.inl rfl) rfl (de_int ⟨_, _, _, _, rfl, rfl, hb, rfl, ?_⟩)⟩⟩)))) (hsub := pg_sub pwe pwe set_list))
      refine dss_one (ds_ret (de_var 3 rfl (.inl rfl) rfl ?_))
      exact k _ _ _ (Int.emod_nonneg _ (by omega)) (Int.emod_lt_of_pos _ n0)
    · rw [if_neg (by simpa using hp)]
      refine dss_nil ?_
      refine dss_cons (ds_sub (de_add (de_ix (fun _ _ => rfl) (de_var 0 rfl (.inl rfl) rfl (de_int ⟨_, _, _, .own hb, rfl, rfl, de_int (.inl ⟨_, _, rfl, rfl, de_var 0 rfl (.inl rfl) rfl (de_int ⟨_, _, _, _, rfl, rfl, hb, rfl, ?_⟩)⟩)⟩)))) (hsub := pg_sub pwe pwe set_list))
      refine dss_cons (ds_set 2 sc.nd rfl (.inl rfl) (de_mod (de_add (de_ix (fun _ _ => rfl) (de_var 0 rfl (.inl rfl) rfl (de_int ⟨_, _, _, .own put_same, rfl, rfl, de_mul (de_int (de_ix (fun _ _ => rfl) (de_var 0 rfl (.inl rfl) rfl (de_int ⟨_, _, _, .own put_same, rfl, rfl, ⟨_, _, rfl, rfl, .inl ⟨by decide, by decide⟩, .inl ⟨_, _, rfl, rfl, de_int ⟨_, _, rfl, rfl, by decide, ?_⟩⟩⟩⟩))))⟩))))))
      generalize hm1 : (q + 1442695040888963407 * (t + 1)) % 2305843009213693951 = m1
      have a1 := Int.emod_nonneg (q + 1442695040888963407 * (t + 1)) (show (2305843009213693951 : Int) ≠ 0 by decide)
      have a2 := Int.emod_lt_of_pos (q + 1442695040888963407 * (t + 1)) (show (0 : Int) < 2305843009213693951 by decide)
      rw [hm1] at a1 a2
      refine dss_cons (ds_set 2 sc.nd rfl (.inl rfl) (de_mod (de_add (de_add (de_mul (de_var 2 rfl (.inl rfl) rfl (de_var 2 rfl (.inl rfl) rfl ⟨_, _, rfl, rfl, .inl ⟨by omega, by omega⟩, de_mul (de_int (de_ix (fun _ _ => rfl) (de_var 0 rfl (.inl rfl) rfl (de_int ⟨_, _, _, .own put_same, rfl, rfl, ⟨_, _, rfl, rfl, .inl ⟨by decide, by decide⟩, .inl ⟨_, _, rfl, rfl, de_int (.inl ⟨_, _, rfl, rfl, de_int ⟨_, _, rfl, rfl, by decide, ?_⟩⟩)⟩⟩⟩))))⟩)))))))
      generalize hm2 : (m1 * m1 + 39373 * (t + 1) + 7) % 2305843009213693921 = m2
      have a3 := Int.emod_nonneg (m1 * m1 + 39373 * (t + 1) + 7) (show (2305843009213693921 : Int) ≠ 0 by decide)
      have a4 := Int.emod_lt_of_pos (m1 * m1 + 39373 * (t + 1) + 7) (show (0 : Int) < 2305843009213693921 by decide)
      rw [hm2] at a3 a4
      refine dss_cons (ds_set 2 sc.nd rfl (.inl rfl) (de_mod (de_add (de_mul (de_var 2 rfl (.inl rfl) rfl (de_add (de_fdiv (de_var 2 rfl (.inl rfl) rfl (de_int ⟨_, _, rfl, rfl, ⟨by decide, by decide⟩, de_int (.inl ⟨_, _, rfl, rfl, ⟨_, _, rfl, rfl, .inl ⟨by omega, by omega⟩, de_ix (fun _ _ => rfl) (de_var 0 rfl (.inl rfl) rfl (de_int ⟨_, _, _, .own put_same, rfl, rfl, .inl ⟨_, _, rfl, rfl, de_int ⟨_, _, rfl, rfl, by decide, ?_⟩⟩⟩))⟩⟩)⟩)))))))))
      refine dss_one (ds_ret (de_mod (de_fdiv (de_var 2 rfl (.inl rfl) rfl (de_int ⟨_, _, rfl, rfl, ⟨by decide, by decide⟩, de_var 1 rfl (.inl rfl) rfl ⟨_, _, rfl, rfl, n0, ?_⟩⟩)))))
      exact k _ _ _ (Int.emod_nonneg _ (by omega)) (Int.emod_lt_of_pos _ n0)
theorem sc_law_strewn : FnScope ["_law_box_here", "_law_some", "_law_left", "_law_found", "_law_turn"] ["_law_box_here", "_law_some"] (defScope s_law_strewn) := ⟨rfl, rfl, rfl, by decide +kernel, rfl, by decide +kernel, by decide +kernel⟩
def c_law_strewn : Ct := fun os μ Φ => ∃ (b : Addr) (ds : List PyData) (p q t : Int), os = [.own b, .im (.list ds)] ∧ μ b = some (bx p q t) ∧ ds.length ≤ 1000 ∧ ∀ es p' t', es.Perm ds → Φ (.im (.list es)) (μ.put b (bx p' q t'))
theorem f_law_strewn (B : Bt mg) (F_law_take : Fc P w K mg base "_law_take" s_law_take ["_law_box_here", "_law_below"] 1 c_law_take) {f : Addr} {fd : FuncData} (F : Fun K "_law_strewn" "_law_strewn" s_law_strewn f fd) (hm : mg "_law_strewn" = some (.ref f)) : Fc P w K mg base "_law_strewn" s_law_strewn ["_law_box_here", "_law_some"] 2 c_law_strewn := by
  have sc := sc_law_strewn
  refine fc_of F hm sc (fun os μ Φ h => ?_) fun cdv A outer s H E os μ Φ hr h => ?_
  · obtain ⟨b, ds, p, q, t, rfl, _⟩ := h
    rfl
  · obtain ⟨b, ds, p, q, t, rfl, hb, hz, k⟩ := h
    refine dss_cons (ds_par 2 3 rfl sc.nd rfl rfl (by decide) rfl rfl rfl (da_cons (de_listO B rfl (de_var 1 rfl (.inl rfl) rfl ⟨_, .lst _, fun la hla => da_cons (de_lstO (da_nil ⟨lz rfl, fun fa hfa => da_nil ⟨_, _, rfl, ?_⟩⟩))⟩))))
    have nlf : la ≠ fa := ne_own put_same hfa
    have nbl := ne_own hb hla
    have hfa0 : μ fa = none := by
      cases z : μ fa with
      | none => rfl
      | some l =>
        rw [put_ne (ne_own z hla), z] at hfa
        cases hfa
    have nbf := ne_own hb hfa0
    refine dss_cons (ds_for (.nm 4) PassesOwn.never rfl (pg_name (i := 4) sc.nd rfl (.inl rfl)) (di_range1 B rfl (de_len B rfl (de_var 2 rfl (.inl rfl) rfl ⟨_, .own ((put_ne nlf).trans put_same), ⟨_, rfl, by omega, ?_, ?_⟩⟩))))
    · rw [List.length_map]
      omega
    refine ⟨fun i ρ' μ' => ∃ es fs p t x, ρ' = [some (.own b), some (.im (.list ds)), some (.own la), some (.own fa), x] ∧ μ' b = some (bx p q t) ∧ μ' la = some (es.map OV.im) ∧ μ' fa = some (fs.map OV.im) ∧ (∀ a l, a ≠ b → μ a = some l → μ' a = some l) ∧ es.length + i = ds.length ∧ (fs ++ es).Perm ds ∧ μ'.d = μ.d ∧ μ'.C = μ.C,
      ⟨ds, [], p, t, none, rfl, ?_, (put_ne nlf).trans put_same, put_same, fun a l _ e => ?_, rfl, by simp, rfl, rfl⟩, fun _ _ _ _ => trivial, fun i z ρ' μ' hz' hP => ?_, fun ρ' μ' hP => ?_⟩
    · rw [put_ne nbf, put_ne nbl]
      exact hb
    · rw [put_ne (ne_own e hfa0), put_ne (ne_own e hla)]
      exact e
    · obtain ⟨es, fs, p1, t1, x, rfl, h1, h2, h3, h4, h5, h6, h7, h8⟩ := hP
      have hi := (List.getElem?_eq_some_iff.mp hz').1
      simp at hi
      refine ⟨_, rfl, ?_⟩
      refine dss_one (ds_expr (de_append (de_var 3 rfl (.inl rfl) rfl ⟨_, _, rfl, h3, de_popAt (de_var 2 rfl (.inl rfl) rfl ⟨_, _, rfl, h2, de_call F_law_take (hr.mono (by decide)) rfl (fun _ _ _ _ _ _ us hl => match us, hl with | [_, _], _ => rfl) (da_cons (de_var 0 rfl (.inl rfl) rfl (da_cons (de_len B rfl (de_var 2 rfl (.inl rfl) rfl ⟨_, .own h2, da_nil ⟨b, _, p1, q, t1, rfl, h1, ?_, ?_, fun r p2 t2 r0 r1 => ?_⟩⟩)))))⟩)⟩)))
      · rw [List.length_map]
        omega
      · rw [List.length_map]
        omega
      · rw [List.length_map] at r1
        obtain ⟨j, rfl⟩ : ∃ j : Nat, r = (j : Int) := ⟨r.toNat, by omega⟩
        have hj : j < es.length := by omega
        refine ⟨es.map OV.im, j, .im es[j], rfl, by omega, by rw [put_ne nbl.symm]; exact h2, by rw [List.getElem?_map, List.getElem?_eq_getElem hj]; rfl, fs.map OV.im, by rw [put_ne nlf.symm, put_ne nbf.symm]; exact h3, ?_, ?_⟩
        · have := h6.length_eq
          rw [List.length_append] at this
          rw [List.length_map]
          omega
        · refine ⟨es.eraseIdx j, fs ++ [es[j]], p2, t2, _, rfl, ?_, ?_, ?_, fun a l ha e => ?_, ?_, ?_, h7, h8⟩
          · rw [put_ne nbf, put_ne nbl, put_same]
          · rw [put_ne nlf, put_same, erase_map]
          · rw [put_same, List.map_append]
            rfl
          · rw [put_ne (ne_own e hfa0), put_ne (ne_own e hla), put_ne ha]
            exact h4 a l ha e
          · rw [List.length_eraseIdx_of_lt hj]
            omega
          · refine List.Perm.trans ?_ h6
            rw [List.append_assoc]
            refine List.Perm.append_left fs ?_
            exact erase_perm es j hj
    · obtain ⟨es, fs, p1, t1, x, rfl, h1, h2, h3, h4, h5, h6, h7, h8⟩ := hP
      simp at h5
      subst h5
      rw [List.append_nil] at h6
      refine dss_frz (i := 3) rfl h3 (dss_drop (μ' := μ.put b (bx p1 q t1)) ⟨fun a l e => ?_, h7.symm, h8.symm⟩ (dss_one (ds_ret (de_var 3 rfl (.inl rfl) rfl (k fs p1 t1 h6)))))
      show (if a = fa then none else μ' a) = some l
      by_cases ha : a = b
      · subst ha
        rw [put_same] at e
        cases e
        rw [if_neg nbf]
        exact h1
      · rw [put_ne ha] at e
        rw [if_neg (ne_own e hfa0)]
        exact h4 a l ha e
theorem sc_Circle_init : FnScope ["self", "size", "table"] ["self", "size", "table"] (defScope s_Circle___init__) := ⟨rfl, rfl, rfl, by decide +kernel, rfl, by decide +kernel, by decide +kernel⟩
theorem i_Circle (B : Bt mg) {C fI : Addr} {fd : FuncData} (T : CirT K C) (F : Fun K "__init__" "Circle.__init__" s_Circle___init__ fI fd) (hM : Mk K C fI) (gC : mg "Circle" = some (.ref C)) : CMk P w K mg base C "Circle" 1 :=
  ⟨fI, fd, hM, ok_cinit B T F sc_Circle_init fun cdv A outer s H E => ⟨_, pss_cons (ps_fld (pv 0) (pv 1) rfl) (pss_cons (ps_fld (pv 0) (pe_callTy call_tuple_of rfl B.tuple PyProof.Rows.boot_tuple (pa_cons (pv 2) pa_nil)) rfl) (pss_cons (ps_fld (pv 0) (pe_lst pa_nil) rfl) (pss_one (ps_fld (pv 0) (pe_lst pa_nil) rfl)))), fun σ H' Q => by
    constructor
    · intro h
      obtain ⟨v, e, a, xs, e2, q⟩ := h
      cases e2
      exact ⟨_, e, a, xs, rfl, q⟩
    · intro h
      obtain ⟨v, e, a, xs, e2, q⟩ := h
      cases e2
      exact ⟨_, e, a, xs, rfl, q⟩⟩, F.binds fun _ _ _ _ _ _ us hl => match us, hl with | [_, _, _], _ => rfl, gC⟩
abbrev N_is_chair : List Str := ["size", "thing"]
theorem sc_is_chair : FnScope N_is_chair ["size", "thing"] (defScope s_is_chair) := ⟨rfl, rfl, rfl, by decide +kernel, rfl, by decide +kernel, by decide +kernel⟩
theorem f_is_chair (B : Bt mg)     {f : Addr} {fd : FuncData} (F : Fun K "is_chair" "is_chair" s_is_chair f fd) (hm : mg "is_chair" = some (.ref f)) : Fc P w K mg base "is_chair" s_is_chair ["size", "thing"] 1 (cF (m_is_chair)) := by
  have sc := sc_is_chair
  refine fc_body (k := 0) (b_is_chair) (m := m_is_chair) (by unfold m_is_chair; rfl) F hm sc rfl rfl fun b cdv A outer s H E hr => ?_
  exact (ss_cons (ss_if (st_w (sw_or (st_not (st_tru (se_isi B rfl rfl B.int rfl (se_v 1 rfl (.inl rfl))))) (sw_or1 (st_tru (se_isi B rfl rfl B.bool rfl (se_v 1 rfl (.inl rfl))))))) (ss_one (ss_ret se_bl)) ss_nil) (ss_one (ss_ret (se_chain op_le op_lt se_int (se_v 1 rfl (.inl rfl)) (se_v 0 rfl (.inl rfl))))))
abbrev N_mover : List Str := ["size", "table", "chair", "person", "nearest", "number", "seat", "distance"]
theorem sc_mover : FnScope N_mover ["size", "table", "chair"] (defScope s_mover) := ⟨rfl, rfl, rfl, by decide +kernel, rfl, by decide +kernel, by decide +kernel⟩
theorem f_mover (B : Bt mg)     {f : Addr} {fd : FuncData} (F : Fun K "mover" "mover" s_mover f fd) (hm : mg "mover" = some (.ref f)) : Fc P w K mg base "mover" s_mover ["size", "table", "chair"] 1 (cF (m_mover)) := by
  have sc := sc_mover
  refine fc_body (k := 0) (b_mover) (m := m_mover) (by unfold m_mover; rfl) F hm sc rfl rfl fun b cdv A outer s H E hr => ?_
  exact (ss_cons (ss_set 3 sc.nd rfl (.inl rfl) se_non) (ss_cons (ss_set 4 sc.nd rfl (.inl rfl) (se_v 0 rfl (.inl rfl))) (ss_cons (ss_for (.tp [5, 6]) PassesOwn.never rfl (pg_tup rfl (pgs_cons (pg_name (i := 5) sc.nd rfl (.inl rfl)) (pgs_cons (pg_name (i := 6) sc.nd rfl (.inl rfl)) pgs_nil))) (si_en B rfl (se_v 1 rfl (.inl rfl))) (ss_cons (ss_set 7 sc.nd rfl (.inl rfl) (se_mod (se_sub (se_v 6 rfl (.inl rfl)) (se_v 2 rfl (.inl rfl))) (se_v 0 rfl (.inl rfl)))) (ss_one (ss_if (st_cmp op_lt (nomark _) okI (se_v 7 rfl (.inl rfl)) (se_v 4 rfl (.inl rfl))) (ss_cons (ss_set 3 sc.nd rfl (.inl rfl) (se_v 5 rfl (.inl rfl))) (ss_one (ss_set 4 sc.nd rfl (.inl rfl) (se_v 7 rfl (.inl rfl))))) ss_nil)))) (ss_one (ss_ret (se_if (st_cmp ((op_eqI.or (op_eqD hr.room.units)).or op_eq) (nomark _) ok_eq (se_v 4 rfl (.inl rfl)) se_int) se_non (se_v 3 rfl (.inl rfl))))))))
abbrev N_seats_called : List Str := ["size", "seats", "chair", "person", "number", "seat"]
theorem sc_seats_called : FnScope N_seats_called ["size", "seats", "chair"] (defScope s_seats_called) := ⟨rfl, rfl, rfl, by decide +kernel, rfl, by decide +kernel, by decide +kernel⟩
theorem f_seats_called (B : Bt mg)  (F_mover : Fc P w K mg base "mover" s_mover ["size", "table", "chair"] 1 (cF m_mover))   {f : Addr} {fd : FuncData} (F : Fun K "seats_called" "seats_called" s_seats_called f fd) (hm : mg "seats_called" = some (.ref f)) : Fc P w K mg base "seats_called" s_seats_called ["size", "seats", "chair"] 2 (cF (m_seats_called)) := by
  have sc := sc_seats_called
  refine fc_body (k := 1) (b_seats_called) (m := m_seats_called) (by unfold m_seats_called; rfl) F hm sc rfl rfl fun b cdv A outer s H E hr => ?_
  exact (ss_cons (ss_set 3 sc.nd rfl (.inr rfl) (se_call F_mover (hr.mono (by decide)) rfl (fun _ _ _ _ _ _ us hl => match us, hl with | [_, _, _], _ => rfl) (sa_cons (sv_v 0 rfl (.inl rfl)) (sa_cons (sv_v 1 rfl (.inl rfl)) (sa_cons (sv_v 2 rfl (.inr (.inl rfl))) sa_nil))))) (ss_one (ss_ret (se_lc (own := [("number", 4), ("seat", 5)]) (.tp [4, 5]) rfl sc.nd (blkOk_by (N := N_seats_called) (sc := defScope s_seats_called) (by decide +kernel)) (by decide) (fun _ _ _ _ _ => pg_tup rfl (pgs_cons (pg_name (i := 4) sc.nd rfl (by first | exact .inl rfl | exact .inr rfl)) (pgs_cons (pg_name (i := 5) sc.nd rfl (by first | exact .inl rfl | exact .inr rfl)) pgs_nil))) (si_en B rfl (se_v 1 rfl (.inl rfl))) (fun _ _ _ _ _ => (se_if (st_cmp ((op_eqI.or (op_eqD hr.room.units)).or op_eq) (nomark _) ok_eq (se_v 4) (se_v 3)) (se_v 2) (se_v 5)))))))
abbrev N_seats_along : List Str := ["size", "table", "calls", "seats", "along", "chair"]
theorem sc_seats_along : FnScope N_seats_along ["size", "table", "calls"] (defScope s_seats_along) := ⟨rfl, rfl, rfl, by decide +kernel, rfl, by decide +kernel, by decide +kernel⟩
theorem f_seats_along (B : Bt mg)  (F_seats_called : Fc P w K mg base "seats_called" s_seats_called ["size", "seats", "chair"] 2 (cF m_seats_called))   {f : Addr} {fd : FuncData} (F : Fun K "seats_along" "seats_along" s_seats_along f fd) (hm : mg "seats_along" = some (.ref f)) : Fc P w K mg base "seats_along" s_seats_along ["size", "table", "calls"] 3 (cF (m_seats_along)) := by
  have sc := sc_seats_along
  refine fc_body (k := 2) (b_seats_along) (m := m_seats_along) (by unfold m_seats_along; rfl) F hm sc rfl rfl fun b cdv A outer s H E hr => ?_
  exact (ss_cons (ss_set 3 sc.nd rfl (.inl rfl) (se_list B rfl (se_v 1 rfl (.inl rfl)))) (ss_cons (ss_own 4 sc.nd rfl (.inl rfl) (so_lst (sd_cons (se_v 3 rfl (.inl rfl)) sd_nil))) (ss_cons (ss_for (.nm 5) PassesOwn.never rfl (pg_name (i := 5) sc.nd rfl (.inl rfl)) (si_seq (se_v 2 rfl (.inl rfl))) (ss_cons (ss_set 3 sc.nd rfl (.inl rfl) (se_call F_seats_called (hr.mono (by decide)) rfl (fun _ _ _ _ _ _ us hl => match us, hl with | [_, _, _], _ => rfl) (sa_cons (sv_v 0 rfl (.inl rfl)) (sa_cons (sv_v 3 rfl (.inl rfl)) (sa_cons (sv_v 5 rfl (.inl rfl)) sa_nil))))) (ss_one (ss_app 4 rfl (.inl rfl) (se_v 3 rfl (.inl rfl)))))) (ss_frz 4 (ss_one (ss_ret (se_v 4 rfl (.inl rfl))))))))
abbrev N_as_table : List Str := ["seats"]
theorem sc_as_table : FnScope N_as_table ["seats"] (defScope s_as_table) := ⟨rfl, rfl, rfl, by decide +kernel, rfl, by decide +kernel, by decide +kernel⟩
theorem f_as_table (B : Bt mg)     {f : Addr} {fd : FuncData} (F : Fun K "as_table" "as_table" s_as_table f fd) (hm : mg "as_table" = some (.ref f)) : Fc P w K mg base "as_table" s_as_table ["seats"] 1 (cF (m_as_table)) := by
  have sc := sc_as_table
  refine fc_body (k := 0) (b_as_table) (m := m_as_table) (by unfold m_as_table; rfl) F hm sc rfl rfl fun b cdv A outer s H E hr => ?_
  exact (ss_one (ss_ret (se_tuple B rfl (se_sorted B rfl (se_v 0 rfl (.inl rfl))))))
abbrev N_seats_after : List Str := ["size", "table", "calls"]
theorem sc_seats_after : FnScope N_seats_after ["size", "table", "calls"] (defScope s_seats_after) := ⟨rfl, rfl, rfl, by decide +kernel, rfl, by decide +kernel, by decide +kernel⟩
theorem f_seats_after (B : Bt mg)  (F_seats_along : Fc P w K mg base "seats_along" s_seats_along ["size", "table", "calls"] 3 (cF m_seats_along))   {f : Addr} {fd : FuncData} (F : Fun K "seats_after" "seats_after" s_seats_after f fd) (hm : mg "seats_after" = some (.ref f)) : Fc P w K mg base "seats_after" s_seats_after ["size", "table", "calls"] 4 (cF (m_seats_after)) := by
  have sc := sc_seats_after
  refine fc_body (k := 3) (b_seats_after) (m := m_seats_after) (by unfold m_seats_after; rfl) F hm sc rfl rfl fun b cdv A outer s H E hr => ?_
  exact (ss_one (ss_ret (se_ix (fun _ _ => rfl) (se_call F_seats_along (hr.mono (by decide)) rfl (fun _ _ _ _ _ _ us hl => match us, hl with | [_, _, _], _ => rfl) (sa_cons (sv_v 0 rfl (.inl rfl)) (sa_cons (sv_v 1 rfl (.inl rfl)) (sa_cons (sv_v 2 rfl (.inl rfl)) sa_nil)))) (se_neg se_int))))
abbrev N_table_after : List Str := ["size", "table", "calls"]
theorem sc_table_after : FnScope N_table_after ["size", "table", "calls"] (defScope s_table_after) := ⟨rfl, rfl, rfl, by decide +kernel, rfl, by decide +kernel, by decide +kernel⟩
theorem f_table_after (B : Bt mg)  (F_as_table : Fc P w K mg base "as_table" s_as_table ["seats"] 1 (cF m_as_table)) (F_seats_after : Fc P w K mg base "seats_after" s_seats_after ["size", "table", "calls"] 4 (cF m_seats_after))   {f : Addr} {fd : FuncData} (F : Fun K "table_after" "table_after" s_table_after f fd) (hm : mg "table_after" = some (.ref f)) : Fc P w K mg base "table_after" s_table_after ["size", "table", "calls"] 5 (cF (m_table_after)) := by
  have sc := sc_table_after
  refine fc_body (k := 4) (b_table_after) (m := m_table_after) (by unfold m_table_after; rfl) F hm sc rfl rfl fun b cdv A outer s H E hr => ?_
  exact (ss_one (ss_ret (se_call F_as_table (hr.mono (by decide)) rfl (fun _ _ _ _ _ _ us hl => match us, hl with | [_], _ => rfl) (sa_cons (sv_e (se_call F_seats_after (hr.mono (by decide)) rfl (fun _ _ _ _ _ _ us hl => match us, hl with | [_, _, _], _ => rfl) (sa_cons (sv_v 0 rfl (.inl rfl)) (sa_cons (sv_v 1 rfl (.inl rfl)) (sa_cons (sv_v 2 rfl (.inl rfl)) sa_nil))))) sa_nil))))
abbrev N_tables_along : List Str := ["size", "table", "calls", "seats"]
theorem sc_tables_along : FnScope N_tables_along ["size", "table", "calls"] (defScope s_tables_along) := ⟨rfl, rfl, rfl, by decide +kernel, rfl, by decide +kernel, by decide +kernel⟩
theorem f_tables_along (B : Bt mg)  (F_as_table : Fc P w K mg base "as_table" s_as_table ["seats"] 1 (cF m_as_table)) (F_seats_along : Fc P w K mg base "seats_along" s_seats_along ["size", "table", "calls"] 3 (cF m_seats_along))   {f : Addr} {fd : FuncData} (F : Fun K "tables_along" "tables_along" s_tables_along f fd) (hm : mg "tables_along" = some (.ref f)) : Fc P w K mg base "tables_along" s_tables_along ["size", "table", "calls"] 4 (cF (m_tables_along)) := by
  have sc := sc_tables_along
  refine fc_body (k := 3) (b_tables_along) (m := m_tables_along) (by unfold m_tables_along; rfl) F hm sc rfl rfl fun b cdv A outer s H E hr => ?_
  exact (ss_one (ss_ret (se_lc (own := [("seats", 3)]) (.nm 3) rfl sc.nd (blkOk_by (N := N_tables_along) (sc := defScope s_tables_along) (by decide +kernel)) (by decide) (fun _ _ _ _ _ => pg_name (i := 3) sc.nd rfl (by first | exact .inl rfl | exact .inr rfl)) (si_seq (se_call F_seats_along (hr.mono (by decide)) rfl (fun _ _ _ _ _ _ us hl => match us, hl with | [_, _, _], _ => rfl) (sa_cons (sv_v 0 rfl (.inl rfl)) (sa_cons (sv_v 1 rfl (.inl rfl)) (sa_cons (sv_v 2 rfl (.inl rfl)) sa_nil))))) (fun _ _ _ _ _ => (se_call F_as_table (hr.mono (by decide)) rfl (fun _ _ _ _ _ _ us hl => match us, hl with | [_], _ => rfl) (sa_cons (sv_v 3) sa_nil))))))
abbrev N_idle_calls : List Str := ["size", "table", "calls", "along", "at"]
theorem sc_idle_calls : FnScope N_idle_calls ["size", "table", "calls"] (defScope s_idle_calls) := ⟨rfl, rfl, rfl, by decide +kernel, rfl, by decide +kernel, by decide +kernel⟩
theorem f_idle_calls (B : Bt mg)  (F_seats_along : Fc P w K mg base "seats_along" s_seats_along ["size", "table", "calls"] 3 (cF m_seats_along))   {f : Addr} {fd : FuncData} (F : Fun K "idle_calls" "idle_calls" s_idle_calls f fd) (hm : mg "idle_calls" = some (.ref f)) : Fc P w K mg base "idle_calls" s_idle_calls ["size", "table", "calls"] 4 (cF (m_idle_calls)) := by
  have sc := sc_idle_calls
  refine fc_body (k := 3) (b_idle_calls) (m := m_idle_calls) (by unfold m_idle_calls; rfl) F hm sc rfl rfl fun b cdv A outer s H E hr => ?_
  exact (ss_cons (ss_set 3 sc.nd rfl (.inr rfl) (se_call F_seats_along (hr.mono (by decide)) rfl (fun _ _ _ _ _ _ us hl => match us, hl with | [_, _, _], _ => rfl) (sa_cons (sv_v 0 rfl (.inl rfl)) (sa_cons (sv_v 1 rfl (.inl rfl)) (sa_cons (sv_v 2 rfl (.inl rfl)) sa_nil))))) (ss_one (ss_ret (se_lf (own := [("at", 4)]) (.nm 4) rfl sc.nd (blkOk_by (N := N_idle_calls) (sc := defScope s_idle_calls) (by decide +kernel)) (by decide) (fun _ _ _ _ _ => pg_name (i := 4) sc.nd rfl (by first | exact .inl rfl | exact .inr rfl)) (si_r1 B rfl (se_len B rfl (se_v 2 rfl (.inl rfl)))) (fun _ _ _ _ _ => (st_cmp ((op_eqI.or (op_eqD hr.room.units)).or op_eq) (nomark _) ok_eq (se_ix (fun _ _ => rfl) (se_v 3) (se_v 4)) (se_ix (fun _ _ => rfl) (se_v 3) (se_add (se_v 4) se_int)))) (fun _ _ _ _ _ => (se_v 4))))))
abbrev N_steps : List Str := ["size", "table", "calls", "along", "total", "before", "after", "seat", "so_far", "old", "new"]
theorem sc_steps : FnScope N_steps ["size", "table", "calls"] (defScope s_steps) := ⟨rfl, rfl, rfl, by decide +kernel, rfl, by decide +kernel, by decide +kernel⟩
theorem f_steps (B : Bt mg)  (F_seats_along : Fc P w K mg base "seats_along" s_seats_along ["size", "table", "calls"] 3 (cF m_seats_along))   {f : Addr} {fd : FuncData} (F : Fun K "steps" "steps" s_steps f fd) (hm : mg "steps" = some (.ref f)) : Fc P w K mg base "steps" s_steps ["size", "table", "calls"] 4 (cF (m_steps)) := by
  have sc := sc_steps
  refine fc_body (k := 3) (b_steps) (m := m_steps) (by unfold m_steps; rfl) F hm sc rfl rfl fun b cdv A outer s H E hr => ?_
  exact (ss_cons (ss_set 3 sc.nd rfl (.inl rfl) (se_call F_seats_along (hr.mono (by decide)) rfl (fun _ _ _ _ _ _ us hl => match us, hl with | [_, _, _], _ => rfl) (sa_cons (sv_v 0 rfl (.inr (.inl rfl))) (sa_cons (sv_v 1 rfl (.inl rfl)) (sa_cons (sv_v 2 rfl (.inl rfl)) sa_nil))))) (ss_cons (ss_setLc (own := [("seat", 7)]) (.nm 7) 4 rfl sc.nd rfl rfl (sw_true rfl rfl rfl (by decide +kernel)) (blkOk_by (N := N_steps) (sc := defScope s_steps) (by decide +kernel)) (by decide) (fun _ _ _ _ _ => pg_name (i := 7) sc.nd rfl (by first | exact .inl rfl | exact .inr rfl)) (si_seq (se_v 1 rfl (.inl rfl))) (fun _ _ _ _ _ => se_int)) (ss_cons (ss_for (.tp [5, 6]) PassesOwn.never rfl (pg_tup rfl (pgs_cons (pg_name (i := 5) sc.nd rfl (.inl rfl)) (pgs_cons (pg_name (i := 6) sc.nd rfl (.inl rfl)) pgs_nil))) (si_z2 B rfl (se_v 3 rfl (.inl rfl)) (se_sl (se_v 3 rfl (.inl rfl)) (so_s se_int) so_n)) (ss_one (ss_setLc (own := [("new", 10), ("old", 9), ("so_far", 8)]) (.tp [8, 9, 10]) 4 rfl sc.nd rfl rfl (sw_true rfl rfl rfl (by decide +kernel)) (blkOk_by (N := N_steps) (sc := defScope s_steps) (by decide +kernel)) (by decide) (fun _ _ _ _ _ => pg_tup rfl (pgs_cons (pg_name (i := 8) sc.nd rfl (by first | exact .inl rfl | exact .inr rfl)) (pgs_cons (pg_name (i := 9) sc.nd rfl (by first | exact .inl rfl | exact .inr rfl)) (pgs_cons (pg_name (i := 10) sc.nd rfl (by first | exact .inl rfl | exact .inr rfl)) pgs_nil)))) (si_z3 B rfl (se_v 4 rfl (.inl rfl)) (se_v 5 rfl (.inl rfl)) (se_v 6 rfl (.inl rfl))) (fun _ _ _ _ _ => (se_add (se_v 8) (se_mod (se_sub (se_v 9) (se_v 10)) (se_v 0))))))) (ss_one (ss_ret (se_v 4 rfl (.inl rfl)))))))
abbrev N_law_of : List Str := ["_law_box_here", "_law_some"]
theorem sc_law_of : FnScope N_law_of ["_law_box_here", "_law_some"] (defScope s_law_of) := ⟨rfl, rfl, rfl, by decide +kernel, rfl, by decide +kernel, by decide +kernel⟩
theorem f_law_of (B : Bt mg)  (F_law_take : Fc P w K mg base "_law_take" s_law_take ["_law_box_here", "_law_below"] 1 (cF takeF))   {f : Addr} {fd : FuncData} (F : Fun K "_law_of" "_law_of" s_law_of f fd) (hm : mg "_law_of" = some (.ref f)) : Fc P w K mg base "_law_of" s_law_of ["_law_box_here", "_law_some"] 2 (cF (m_law_of)) := by
  have sc := sc_law_of
  refine fc_body (k := 1) (b_law_of) (m := m_law_of) (by unfold m_law_of; rfl) F hm sc rfl rfl fun b cdv A outer s H E hr => ?_
  exact (ss_one (ss_ret (se_ix (fun _ _ => rfl) (se_v 1 rfl (.inl rfl)) (se_call F_law_take (hr.mono (by decide)) rfl (fun _ _ _ _ _ _ us hl => match us, hl with | [_, _], _ => rfl) (sa_cons (sv_v 0 rfl (.inl rfl)) (sa_cons (sv_e (se_len B rfl (se_v 1 rfl (.inl rfl)))) sa_nil))))))
abbrev N_law_span : List Str := ["_law_box_here", "_law_most"]
theorem sc_law_span : FnScope N_law_span ["_law_box_here", "_law_most"] (defScope s_law_span) := ⟨rfl, rfl, rfl, by decide +kernel, rfl, by decide +kernel, by decide +kernel⟩
theorem f_law_span (B : Bt mg)  (F_law_take : Fc P w K mg base "_law_take" s_law_take ["_law_box_here", "_law_below"] 1 (cF takeF))   {f : Addr} {fd : FuncData} (F : Fun K "_law_span" "_law_span" s_law_span f fd) (hm : mg "_law_span" = some (.ref f)) : Fc P w K mg base "_law_span" s_law_span ["_law_box_here", "_law_most"] 2 (cF (m_law_span)) := by
  have sc := sc_law_span
  refine fc_body (k := 1) (b_law_span) (m := m_law_span) (by unfold m_law_span; rfl) F hm sc rfl rfl fun b cdv A outer s H E hr => ?_
  exact (ss_one (ss_ret (se_add se_int (se_call F_law_take (hr.mono (by decide)) rfl (fun _ _ _ _ _ _ us hl => match us, hl with | [_, _], _ => rfl) (sa_cons (sv_v 0 rfl (.inl rfl)) (sa_cons (sv_e (se_sub (se_v 1 rfl (.inl rfl)) se_int)) sa_nil))))))
abbrev N_law_crowd : List Str := ["_law_box_here", "_law_span_here", "_law_folk", "_law_base", "_law_k"]
theorem sc_law_crowd : FnScope N_law_crowd ["_law_box_here", "_law_span_here", "_law_folk"] (defScope s_law_crowd) := ⟨rfl, rfl, rfl, by decide +kernel, rfl, by decide +kernel, by decide +kernel⟩
theorem f_law_crowd (B : Bt mg)  (F_law_take : Fc P w K mg base "_law_take" s_law_take ["_law_box_here", "_law_below"] 1 (cF takeF)) (F_law_strewn : Fc P w K mg base "_law_strewn" s_law_strewn ["_law_box_here", "_law_some"] 2 (cF strewnF))   {f : Addr} {fd : FuncData} (F : Fun K "_law_crowd" "_law_crowd" s_law_crowd f fd) (hm : mg "_law_crowd" = some (.ref f)) : Fc P w K mg base "_law_crowd" s_law_crowd ["_law_box_here", "_law_span_here", "_law_folk"] 3 (cF (m_law_crowd)) := by
  have sc := sc_law_crowd
  refine fc_body (k := 2) (b_law_crowd) (m := m_law_crowd) (by unfold m_law_crowd; rfl) F hm sc rfl rfl fun b cdv A outer s H E hr => ?_
  exact (ss_cons (ss_if (st_cmp ((op_eqI.or (op_eqD hr.room.units)).or op_eq) (nomark _) ok_eq (se_call F_law_take (hr.mono (by decide)) rfl (fun _ _ _ _ _ _ us hl => match us, hl with | [_, _], _ => rfl) (sa_cons (sv_v 0 rfl (.inl rfl)) (sa_cons (sv_e se_int) sa_nil))) se_int) (ss_cons (ss_set 3 sc.nd rfl (.inr rfl) (se_call F_law_take (hr.mono (by decide)) rfl (fun _ _ _ _ _ _ us hl => match us, hl with | [_, _], _ => rfl) (sa_cons (sv_v 0 rfl (.inl rfl)) (sa_cons (sv_v 1 rfl (.inr (.inl rfl))) sa_nil)))) (ss_one (ss_ret (se_tuple B rfl (se_sorted B rfl (se_lc (own := [("_law_k", 4)]) (.nm 4) rfl sc.nd (blkOk_by (N := N_law_crowd) (sc := defScope s_law_crowd) (by decide +kernel)) (by decide) (fun _ _ _ _ _ => pg_name (i := 4) sc.nd rfl (by first | exact .inl rfl | exact .inr rfl)) (si_r1 B rfl (se_v 2 rfl (.inl rfl))) (fun _ _ _ _ _ => (se_mod (se_add (se_v 3) (se_v 4)) (se_v 1))))))))) ss_nil) (ss_one (ss_ret (se_tuple B rfl (se_sorted B rfl (se_sl (se_call F_law_strewn (hr.mono (by decide)) rfl (fun _ _ _ _ _ _ us hl => match us, hl with | [_, _], _ => rfl) (sa_cons (sv_v 0 rfl (.inl rfl)) (sa_cons (sv_e (se_listRg B rfl rfl rfl (se_v 1 rfl (.inr (.inl rfl))))) sa_nil))) so_n (so_s (se_v 2 rfl (.inl rfl)))))))))
abbrev N_law_tour : List Str := ["_law_box_here", "_law_span_here", "_law_most", "_law_few", "_law_turn", "_law_way", "_law_found"]
theorem sc_law_tour : FnScope N_law_tour ["_law_box_here", "_law_span_here", "_law_most"] (defScope s_law_tour) := ⟨rfl, rfl, rfl, by decide +kernel, rfl, by decide +kernel, by decide +kernel⟩
theorem f_law_tour (B : Bt mg)  (F_law_take : Fc P w K mg base "_law_take" s_law_take ["_law_box_here", "_law_below"] 1 (cF takeF)) (F_law_of : Fc P w K mg base "_law_of" s_law_of ["_law_box_here", "_law_some"] 2 (cF m_law_of))   {f : Addr} {fd : FuncData} (F : Fun K "_law_tour" "_law_tour" s_law_tour f fd) (hm : mg "_law_tour" = some (.ref f)) : Fc P w K mg base "_law_tour" s_law_tour ["_law_box_here", "_law_span_here", "_law_most"] 3 (cF (m_law_tour)) := by
  have sc := sc_law_tour
  refine fc_body (k := 2) (b_law_tour) (m := m_law_tour) (by unfold m_law_tour; rfl) F hm sc rfl rfl fun b cdv A outer s H E hr => ?_
  exact (ss_cons (ss_parO 5 6 rfl sc.nd rfl rfl (by decide) rfl rfl rfl (se_call F_law_take (hr.mono (by decide)) rfl (fun _ _ _ _ _ _ us hl => match us, hl with | [_, _], _ => rfl) (sa_cons (sv_v 0 rfl (.inr (.inl rfl))) (sa_cons (sv_e se_int) sa_nil))) (so_lst sd_nil)) (ss_cons (ss_setLc (own := [("_law_turn", 4)]) (.nm 4) 3 rfl sc.nd rfl rfl (sw_true rfl rfl rfl (by decide +kernel)) (blkOk_by (N := N_law_tour) (sc := defScope s_law_tour) (by decide +kernel)) (by decide) (fun _ _ _ _ _ => pg_name (i := 4) sc.nd rfl (by first | exact .inl rfl | exact .inr rfl)) (si_r1 B rfl se_int) (fun _ _ _ _ _ => (se_call F_law_take (hr.mono (by decide)) rfl (fun _ _ _ _ _ _ us hl => match us, hl with | [_, _], _ => rfl) (sa_cons (sv_v 0) (sa_cons (sv_v 1) sa_nil))))) (ss_cons (ss_for (.nm 4) PassesOwn.never rfl (pg_name (i := 4) sc.nd rfl (.inl rfl)) (si_r1 B rfl (se_call F_law_take (hr.mono (by decide)) rfl (fun _ _ _ _ _ _ us hl => match us, hl with | [_, _], _ => rfl) (sa_cons (sv_v 0 rfl (.inr (.inl rfl))) (sa_cons (sv_e (se_add (se_v 2 rfl (.inl rfl)) se_int)) sa_nil)))) (ss_one (ss_app 6 rfl (.inl rfl) (se_if (st_cmp ((op_eqI.or (op_eqD hr.room.units)).or op_eq) (nomark _) ok_eq (se_v 5 rfl (.inl rfl)) se_int) (se_call F_law_of (hr.mono (by decide)) rfl (fun _ _ _ _ _ _ us hl => match us, hl with | [_, _], _ => rfl) (sa_cons (sv_v 0 rfl (.inr (.inl rfl))) (sa_cons (sv_v 3 rfl (.inl rfl)) sa_nil))) (se_call F_law_take (hr.mono (by decide)) rfl (fun _ _ _ _ _ _ us hl => match us, hl with | [_, _], _ => rfl) (sa_cons (sv_v 0 rfl (.inr (.inl rfl))) (sa_cons (sv_v 1 rfl (.inr (.inl rfl))) sa_nil))))))) (ss_frz 6 (ss_one (ss_ret (se_ix (fun _ _ => rfl) (se_lst (sd_cons (se_v 6 rfl (.inl rfl)) (sd_cons (se_v 6 rfl (.inl rfl)) (sd_cons (se_v 6 rfl (.inl rfl)) (sd_cons (se_sorted B rfl (se_v 6 rfl (.inl rfl))) (sd_cons (se_rev (se_sorted B rfl (se_v 6 rfl (.inl rfl)))) sd_nil)))))) (se_v 5 rfl (.inl rfl)))))))))
abbrev N_law_scene : List Str := ["_law_box_here", "_law_most", "_law_span_here", "_law_folk"]
theorem sc_law_scene : FnScope N_law_scene ["_law_box_here", "_law_most"] (defScope s_law_scene) := ⟨rfl, rfl, rfl, by decide +kernel, rfl, by decide +kernel, by decide +kernel⟩
theorem f_law_scene (B : Bt mg)  (F_law_span : Fc P w K mg base "_law_span" s_law_span ["_law_box_here", "_law_most"] 2 (cF m_law_span)) (F_law_take : Fc P w K mg base "_law_take" s_law_take ["_law_box_here", "_law_below"] 1 (cF takeF)) (F_law_crowd : Fc P w K mg base "_law_crowd" s_law_crowd ["_law_box_here", "_law_span_here", "_law_folk"] 3 (cF m_law_crowd))   {f : Addr} {fd : FuncData} (F : Fun K "_law_scene" "_law_scene" s_law_scene f fd) (hm : mg "_law_scene" = some (.ref f)) : Fc P w K mg base "_law_scene" s_law_scene ["_law_box_here", "_law_most"] 4 (cF (m_law_scene)) := by
  have sc := sc_law_scene
  refine fc_body (k := 3) (b_law_scene) (m := m_law_scene) (by unfold m_law_scene; rfl) F hm sc rfl rfl fun b cdv A outer s H E hr => ?_
  exact (ss_cons (ss_set 2 sc.nd rfl (.inl rfl) (se_call F_law_span (hr.mono (by decide)) rfl (fun _ _ _ _ _ _ us hl => match us, hl with | [_, _], _ => rfl) (sa_cons (sv_v 0 rfl (.inl rfl)) (sa_cons (sv_v 1 rfl (.inl rfl)) sa_nil)))) (ss_cons (ss_set 3 sc.nd rfl (.inl rfl) (se_add se_int (se_call F_law_take (hr.mono (by decide)) rfl (fun _ _ _ _ _ _ us hl => match us, hl with | [_, _], _ => rfl) (sa_cons (sv_v 0 rfl (.inl rfl)) (sa_cons (sv_e (se_sub (se_v 2 rfl (.inl rfl)) se_int)) sa_nil))))) (ss_one (ss_ret (se_tup (sd_cons (se_v 2 rfl (.inl rfl)) (sd_cons (se_v 3 rfl (.inl rfl)) (sd_cons (se_call F_law_crowd (hr.mono (by decide)) rfl (fun _ _ _ _ _ _ us hl => match us, hl with | [_, _, _], _ => rfl) (sa_cons (sv_v 0 rfl (.inl rfl)) (sa_cons (sv_v 2 rfl (.inl rfl)) (sa_cons (sv_v 3 rfl (.inl rfl)) sa_nil)))) sd_nil))))))))
abbrev N_Circle_calls : List Str := ["self", "operation", "chair"]
theorem sc_Circle_calls : FnScope N_Circle_calls ["self"] (defScope s_Circle_calls) := ⟨rfl, rfl, rfl, by decide +kernel, rfl, by decide +kernel, by decide +kernel⟩
theorem f_Circle_calls (B : Bt mg) {C : Addr} (T : CirT K C)  {f : Addr} {fd : FuncData} (F : Fun K "calls" "Circle.calls" s_Circle_calls f fd) (hm : Meth K C "calls" f) : FcM P w K mg base C "calls" "Circle.calls" s_Circle_calls ["self"] 1 (cM C (m_Circle_calls C)) := by
  have sc := sc_Circle_calls
  refine fcm_body (k := 0) (b_Circle_calls C) (F := m_Circle_calls C) (by unfold m_Circle_calls; rfl) F hm sc rfl rfl fun b cdv A outer s H E hr => ?_
  exact (ss_one (ss_ret (se_ccalls T 0 rfl sc.nd (blkOk_by (N := N_Circle_calls) (sc := defScope s_Circle_calls) (by decide +kernel)) (fun _ _ _ _ _ => pg_name (i := 1) sc.nd rfl (by first | exact .inl rfl | exact .inr rfl)) (fun _ _ _ _ _ => pg_name (i := 2) sc.nd rfl (by first | exact .inl rfl | exact .inr rfl)) (fun _ _ _ _ _ => pi_tup (pv 1)) (fun _ _ _ _ _ => pv 2))))
abbrev N_Circle_seats : List Str := ["self"]
theorem sc_Circle_seats : FnScope N_Circle_seats ["self"] (defScope s_Circle_seats) := ⟨rfl, rfl, rfl, by decide +kernel, rfl, by decide +kernel, by decide +kernel⟩
theorem f_Circle_seats (B : Bt mg) {C : Addr} (T : CirT K C) (M_calls : FcM P w K mg base C "calls" "Circle.calls" s_Circle_calls ["self"] 1 (cM C (m_Circle_calls C))) (F_seats_after : Fc P w K mg base "seats_after" s_seats_after ["size", "table", "calls"] 4 (cF m_seats_after)) {f : Addr} {fd : FuncData} (F : Fun K "seats" "Circle.seats" s_Circle_seats f fd) (hm : Meth K C "seats" f) : FcM P w K mg base C "seats" "Circle.seats" s_Circle_seats ["self"] 5 (cM C (m_Circle_seats C)) := by
  have sc := sc_Circle_seats
  refine fcm_body (k := 4) (b_Circle_seats C) (F := m_Circle_seats C) (by unfold m_Circle_seats; rfl) F hm sc rfl rfl fun b cdv A outer s H E hr => ?_
  exact (ss_one (ss_ret (se_call F_seats_after (hr.mono (by decide)) rfl (fun _ _ _ _ _ _ us hl => match us, hl with | [_, _, _], _ => rfl) (sa_cons (sv_e (se_csize T 0)) (sa_cons (sv_e (se_cbeg T 0)) (sa_cons (sv_e (se_meth0 T M_calls (hr.mono (by decide)) ⟨by decide +kernel, by decide +kernel, by decide +kernel, by decide +kernel⟩ rfl (fun _ _ _ _ _ _ us hl => match us, hl with | [_], _ => rfl) 0)) sa_nil))))))
abbrev N_Circle_call : List Str := ["self", "chair", "person"]
theorem sc_Circle_call : FnScope N_Circle_call ["self", "chair"] (defScope s_Circle_call) := ⟨rfl, rfl, rfl, by decide +kernel, rfl, by decide +kernel, by decide +kernel⟩
theorem f_Circle_call (B : Bt mg) {C : Addr} (T : CirT K C) (M_seats : FcM P w K mg base C "seats" "Circle.seats" s_Circle_seats ["self"] 5 (cM C (m_Circle_seats C))) (F_mover : Fc P w K mg base "mover" s_mover ["size", "table", "chair"] 1 (cF m_mover)) (F_is_chair : Fc P w K mg base "is_chair" s_is_chair ["size", "thing"] 1 (cF m_is_chair)) {f : Addr} {fd : FuncData} (F : Fun K "call" "Circle.call" s_Circle_call f fd) (hm : Meth K C "call" f) : FcM P w K mg base C "call" "Circle.call" s_Circle_call ["self", "chair"] 6 (cMc C (m_Circle_call C)) := by
  have sc := sc_Circle_call
  refine fcm_bodyC (k := 5) (b_Circle_call C) (F := m_Circle_call C) (by unfold m_Circle_call; rfl) F hm sc rfl rfl fun b cdv A outer s H E hr => ?_
  exact (ssc_cons (ssk_ifNo (st_not (st_tru (se_call F_is_chair (hr.mono (by decide)) rfl (fun _ _ _ _ _ _ us hl => match us, hl with | [_, _], _ => rfl) (sa_cons (sv_e (se_csize T 0)) (sa_cons (sv_v 1 rfl (.inl rfl)) sa_nil)))))) (ssc_cons (ssk_set 2 (by decide) (se_call F_mover (hr.mono (by decide)) rfl (fun _ _ _ _ _ _ us hl => match us, hl with | [_, _, _], _ => rfl) (sa_cons (sv_e (se_csize T 0)) (sa_cons (sv_e (se_meth0 T M_seats (hr.mono (by decide)) ⟨by decide +kernel, by decide +kernel, by decide +kernel, by decide +kernel⟩ rfl (fun _ _ _ _ _ _ us hl => match us, hl with | [_], _ => rfl) 0)) (sa_cons (sv_v 1 rfl (.inl rfl)) sa_nil)))) sc.nd rfl (.inl rfl)) (ssc_cons (ssk_cops T 0 1) (ssc_cons (ssk_cent T 0) (ssc_ret (se_v 2 rfl (.inl rfl)))))))
abbrev N_Circle_steps : List Str := ["self"]
theorem sc_Circle_steps : FnScope N_Circle_steps ["self"] (defScope s_Circle_steps) := ⟨rfl, rfl, rfl, by decide +kernel, rfl, by decide +kernel, by decide +kernel⟩
theorem f_Circle_steps (B : Bt mg) {C : Addr} (T : CirT K C) (M_calls : FcM P w K mg base C "calls" "Circle.calls" s_Circle_calls ["self"] 1 (cM C (m_Circle_calls C))) (A_steps_tables : mg "steps_tables" = mg "steps") (F_steps : Fc P w K mg base "steps" s_steps ["size", "table", "calls"] 4 (cF m_steps)) {f : Addr} {fd : FuncData} (F : Fun K "steps" "Circle.steps" s_Circle_steps f fd) (hm : Meth K C "steps" f) : FcM P w K mg base C "steps" "Circle.steps" s_Circle_steps ["self"] 5 (cM C (m_Circle_steps C)) := by
  have sc := sc_Circle_steps
  refine fcm_body (k := 4) (b_Circle_steps C) (F := m_Circle_steps C) (by unfold m_Circle_steps; rfl) F hm sc rfl rfl fun b cdv A outer s H E hr => ?_
  exact (ss_one (ss_ret (se_callA F_steps A_steps_tables (hr.mono (by decide)) rfl (fun _ _ _ _ _ _ us hl => match us, hl with | [_, _, _], _ => rfl) (sa_cons (sv_e (se_csize T 0)) (sa_cons (sv_e (se_cbeg T 0)) (sa_cons (sv_e (se_meth0 T M_calls (hr.mono (by decide)) ⟨by decide +kernel, by decide +kernel, by decide +kernel, by decide +kernel⟩ rfl (fun _ _ _ _ _ _ us hl => match us, hl with | [_], _ => rfl) 0)) sa_nil))))))
abbrev N_Circle_table : List Str := ["self"]
theorem sc_Circle_table : FnScope N_Circle_table ["self"] (defScope s_Circle_table) := ⟨rfl, rfl, rfl, by decide +kernel, rfl, by decide +kernel, by decide +kernel⟩
theorem f_Circle_table (B : Bt mg) {C : Addr} (T : CirT K C) (M_seats : FcM P w K mg base C "seats" "Circle.seats" s_Circle_seats ["self"] 5 (cM C (m_Circle_seats C))) (F_as_table : Fc P w K mg base "as_table" s_as_table ["seats"] 1 (cF m_as_table)) {f : Addr} {fd : FuncData} (F : Fun K "table" "Circle.table" s_Circle_table f fd) (hm : Meth K C "table" f) : FcM P w K mg base C "table" "Circle.table" s_Circle_table ["self"] 6 (cM C (m_Circle_table C)) := by
  have sc := sc_Circle_table
  refine fcm_body (k := 5) (b_Circle_table C) (F := m_Circle_table C) (by unfold m_Circle_table; rfl) F hm sc rfl rfl fun b cdv A outer s H E hr => ?_
  exact (ss_one (ss_ret (se_call F_as_table (hr.mono (by decide)) rfl (fun _ _ _ _ _ _ us hl => match us, hl with | [_], _ => rfl) (sa_cons (sv_e (se_meth0 T M_seats (hr.mono (by decide)) ⟨by decide +kernel, by decide +kernel, by decide +kernel, by decide +kernel⟩ rfl (fun _ _ _ _ _ _ us hl => match us, hl with | [_], _ => rfl) 0)) sa_nil))))
abbrev N_Circle_undo : List Str := ["self"]
theorem sc_Circle_undo : FnScope N_Circle_undo ["self"] (defScope s_Circle_undo) := ⟨rfl, rfl, rfl, by decide +kernel, rfl, by decide +kernel, by decide +kernel⟩
theorem f_Circle_undo (B : Bt mg) {C : Addr} (T : CirT K C)  {f : Addr} {fd : FuncData} (F : Fun K "undo" "Circle.undo" s_Circle_undo f fd) (hm : Meth K C "undo" f) : FcM P w K mg base C "undo" "Circle.undo" s_Circle_undo ["self"] 1 (cMc C (m_Circle_undo C)) := by
  have sc := sc_Circle_undo
  refine fcm_bodyC (k := 0) (b_Circle_undo C) (F := m_Circle_undo C) (by unfold m_Circle_undo; rfl) F hm sc rfl rfl fun b cdv A outer s H E hr => ?_
  exact (ssc_if (st_cmp ((op_eqI.or (op_eqD hr.room.units)).or op_eq) (nomark _) ok_eq (se_clen 0 B rfl T) se_int) (ssc_cons (ssk_cent T 0) (ssc_ret se_bl)) (ssc_cons (ssk_cdel T 0) (ssc_cons (ssk_cent T 0) (ssc_ret se_bl))))
abbrev N_law_right : List Str := ["_law_box_here", "_law_spot", "_law_span_here", "_law_folk", "_law_begin", "_law_tour_here", "_law_ring", "_law_sums", "_law_along", "_law_idle", "_law_mark", "_law_kept", "_law_gone", "_law_far", "_law_due", "_law_who", "_law_here", "_law_early"]
theorem sc_law_right : FnScope N_law_right ["_law_box_here"] (defScope s_law_right) := ⟨rfl, rfl, rfl, by decide +kernel, rfl, by decide +kernel, by decide +kernel⟩
theorem f_law_right (B : Bt mg) {C : Addr} (T : CirT K C) (Q : CMk P w K mg base C "Circle" 1) (M_call : FcM P w K mg base C "call" "Circle.call" s_Circle_call ["self", "chair"] 6 (cMc C (m_Circle_call C))) (M_seats : FcM P w K mg base C "seats" "Circle.seats" s_Circle_seats ["self"] 5 (cM C (m_Circle_seats C))) (M_steps : FcM P w K mg base C "steps" "Circle.steps" s_Circle_steps ["self"] 5 (cM C (m_Circle_steps C))) (M_table : FcM P w K mg base C "table" "Circle.table" s_Circle_table ["self"] 6 (cM C (m_Circle_table C))) (M_undo : FcM P w K mg base C "undo" "Circle.undo" s_Circle_undo ["self"] 1 (cMc C (m_Circle_undo C))) (A_steps_tables : mg "steps_tables" = mg "steps") (F_law_scene : Fc P w K mg base "_law_scene" s_law_scene ["_law_box_here", "_law_most"] 4 (cF m_law_scene)) (F_law_tour : Fc P w K mg base "_law_tour" s_law_tour ["_law_box_here", "_law_span_here", "_law_most"] 3 (cF m_law_tour)) (F_tables_along : Fc P w K mg base "tables_along" s_tables_along ["size", "table", "calls"] 4 (cF m_tables_along)) (F_idle_calls : Fc P w K mg base "idle_calls" s_idle_calls ["size", "table", "calls"] 4 (cF m_idle_calls)) (F_mover : Fc P w K mg base "mover" s_mover ["size", "table", "chair"] 1 (cF m_mover)) (F_steps : Fc P w K mg base "steps" s_steps ["size", "table", "calls"] 4 (cF m_steps)) (F_seats_after : Fc P w K mg base "seats_after" s_seats_after ["size", "table", "calls"] 4 (cF m_seats_after)) (F_table_after : Fc P w K mg base "table_after" s_table_after ["size", "table", "calls"] 5 (cF m_table_after))   {f : Addr} {fd : FuncData} (F : Fun K "_law_right" "_law_right" s_law_right f fd) (hm : mg "_law_right" = some (.ref f)) : Fc P w K mg base "_law_right" s_law_right ["_law_box_here"] 7 (cF (m_law_right C)) := by
  have sc := sc_law_right
  refine fc_body (k := 6) (b_law_right C) (m := m_law_right C) (by unfold m_law_right; rfl) F hm sc rfl rfl fun b cdv A outer s H E hr => ?_
  exact (ss_cons (ss_asg (.tp [2, 3, 4]) (pg_tup rfl (pgs_cons (pg_name (i := 2) sc.nd rfl (.inl rfl)) (pgs_cons (pg_name (i := 3) sc.nd rfl (.inl rfl)) (pgs_cons (pg_name (i := 4) sc.nd rfl (.inl rfl)) pgs_nil)))) (se_call F_law_scene (hr.mono (by decide)) rfl (fun _ _ _ _ _ _ us hl => match us, hl with | [_, _], _ => rfl) (sa_cons (sv_v 0 rfl (.inl rfl)) (sa_cons (sv_e se_int) sa_nil)))) (ss_cons (ss_parC 5 6 7 rfl sc.nd rfl rfl rfl (by decide) (by decide) (by decide) rfl rfl rfl rfl (se_call F_law_tour (hr.mono (by decide)) rfl (fun _ _ _ _ _ _ us hl => match us, hl with | [_, _, _], _ => rfl) (sa_cons (sv_v 0 rfl (.inl rfl)) (sa_cons (sv_v 2 rfl (.inl rfl)) (sa_cons (sv_e se_int) sa_nil)))) (scn_make Q (hr.mono (by decide)) rfl (se_v 2 rfl (.inl rfl)) (se_v 4 rfl (.inl rfl))) (so_lst (sd_cons se_int sd_nil))) (ss_cons (ss_par 8 9 rfl sc.nd rfl rfl (by decide) rfl rfl rfl (sd_cons (se_call F_tables_along (hr.mono (by decide)) rfl (fun _ _ _ _ _ _ us hl => match us, hl with | [_, _, _], _ => rfl) (sa_cons (sv_v 2 rfl (.inl rfl)) (sa_cons (sv_v 4 rfl (.inl rfl)) (sa_cons (sv_v 5 rfl (.inl rfl)) sa_nil)))) (sd_cons (se_call F_idle_calls (hr.mono (by decide)) rfl (fun _ _ _ _ _ _ us hl => match us, hl with | [_, _, _], _ => rfl) (sa_cons (sv_v 2 rfl (.inl rfl)) (sa_cons (sv_v 4 rfl (.inl rfl)) (sa_cons (sv_v 5 rfl (.inl rfl)) sa_nil)))) sd_nil))) (ss_cons (ss_for (.tp [1, 10]) PassesOwn.never rfl (pg_tup rfl (pgs_cons (pg_name (i := 1) sc.nd rfl (.inl rfl)) (pgs_cons (pg_name (i := 10) sc.nd rfl (.inl rfl)) pgs_nil))) (si_en B rfl (se_v 5 rfl (.inl rfl))) (ss_cons (ss_par 16 17 rfl sc.nd rfl rfl (by decide) rfl rfl rfl (sd_cons (se_meth0 T M_seats (hr.mono (by decide)) ⟨by decide +kernel, by decide +kernel, by decide +kernel, by decide +kernel⟩ rfl (fun _ _ _ _ _ _ us hl => match us, hl with | [_], _ => rfl) 6) (sd_cons (se_meth0 T M_steps (hr.mono (by decide)) ⟨by decide +kernel, by decide +kernel, by decide +kernel, by decide +kernel⟩ rfl (fun _ _ _ _ _ _ us hl => match us, hl with | [_], _ => rfl) 6) sd_nil))) (ss_cons (ss_set 11 sc.nd rfl (.inl rfl) (se_lst (sd_cons (se_list B rfl (se_v 16 rfl (.inl rfl))) (sd_cons (se_list B rfl (se_v 17 rfl (.inl rfl))) sd_nil)))) (ss_cons (ss_setC 12 (sec_meth T M_call (hr.mono (by decide)) ⟨by decide +kernel, by decide +kernel, by decide +kernel, by decide +kernel⟩ (fun _ _ _ _ _ _ us hl => match us, hl with | [_, _], _ => rfl) 6 (sa_cons (sv_v 10 rfl (.inl rfl)) sa_nil)) sc.nd rfl (.inl rfl)) (ss_cons (ss_if (st_cmp ((op_neI.or (op_neD hr.room.units)).or op_ne) (nomark _) ok_ne (se_lst (sd_cons (se_v 16 rfl (.inl rfl)) (sd_cons (se_v 17 rfl (.inl rfl)) sd_nil))) (se_v 11 rfl (.inl rfl))) (ss_one (ss_ret se_bl)) ss_nil) (ss_cons (ss_app 7 rfl (.inl rfl) (se_sum B rfl rfl (se_meth0 T M_steps (hr.mono (by decide)) ⟨by decide +kernel, by decide +kernel, by decide +kernel, by decide +kernel⟩ rfl (fun _ _ _ _ _ _ us hl => match us, hl with | [_], _ => rfl) 6))) (ss_cons (ss_if (st_w (sw_or (st_cmp ((op_neI.or (op_neD hr.room.units)).or op_ne) (nomark _) ok_ne (se_isN (se_v 12 rfl (.inl rfl))) (se_cmp op_in_seq rfl ok_in (se_v 1 rfl (.inl rfl)) (se_v 9 rfl (.inl rfl)))) (sw_or (st_cmp op_notIn_seq rfl ok_nin (se_v 10 rfl (.inl rfl)) (se_meth0 T M_table (hr.mono (by decide)) ⟨by decide +kernel, by decide +kernel, by decide +kernel, by decide +kernel⟩ rfl (fun _ _ _ _ _ _ us hl => match us, hl with | [_], _ => rfl) 6)) (sw_or1 (st_cmp ((op_neI.or (op_neD hr.room.units)).or op_ne) (nomark _) ok_ne (se_meth0 T M_table (hr.mono (by decide)) ⟨by decide +kernel, by decide +kernel, by decide +kernel, by decide +kernel⟩ rfl (fun _ _ _ _ _ _ us hl => match us, hl with | [_], _ => rfl) 6) (se_ix (fun _ _ => rfl) (se_v 8 rfl (.inl rfl)) (se_add (se_v 1 rfl (.inl rfl)) se_int))))))) (ss_one (ss_ret se_bl)) ss_nil) (ss_cons (ss_set 13 sc.nd rfl (.inl rfl) (se_if (st_notN (se_v 12 rfl (.inl rfl))) (se_mod (se_sub (se_ix (fun _ _ => rfl) (se_v 16 rfl (.inl rfl)) (se_v 12 rfl (.inl rfl))) (se_v 10 rfl (.inl rfl))) (se_v 2 rfl (.inl rfl))) se_int)) (ss_cons (ss_own 14 sc.nd rfl (.inl rfl) (so_list B rfl (se_v 16 rfl (.inl rfl)))) (ss_cons (ss_if (st_notN (se_v 12 rfl (.inl rfl))) (ss_one (ss_ix 14 rfl (.inl rfl) (se_v 12 rfl (.inl rfl)) (se_v 10 rfl (.inl rfl)) (pg_sub pwe pwe set_list))) ss_nil) (ss_frz 14 (ss_cons (ss_if (st_w (sw_or (st_cmp ((op_neI.or (op_neD hr.room.units)).or op_ne) (nomark _) ok_ne (se_sub (se_ixO 7 (fun _ _ => rfl) (se_neg se_int) rfl (.inl rfl)) (se_ixO 7 (fun _ _ => rfl) (se_neg se_int) rfl (.inl rfl))) (se_v 13 rfl (.inl rfl))) (sw_or1 (st_cmp ((op_neI.or (op_neD hr.room.units)).or op_ne) (nomark _) ok_ne (se_meth0 T M_seats (hr.mono (by decide)) ⟨by decide +kernel, by decide +kernel, by decide +kernel, by decide +kernel⟩ rfl (fun _ _ _ _ _ _ us hl => match us, hl with | [_], _ => rfl) 6) (se_v 14 rfl (.inl rfl)))))) (ss_one (ss_ret se_bl)) ss_nil) (ss_cons (ss_set 15 sc.nd rfl (.inl rfl) (se_call F_mover (hr.mono (by decide)) rfl (fun _ _ _ _ _ _ us hl => match us, hl with | [_, _, _], _ => rfl) (sa_cons (sv_v 2 rfl (.inl rfl)) (sa_cons (sv_e (se_ix (fun _ _ => rfl) (se_v 8 rfl (.inl rfl)) (se_v 1 rfl (.inl rfl)))) (sa_cons (sv_v 10 rfl (.inl rfl)) sa_nil))))) (ss_one (ss_if (st_cmp ((op_neI.or (op_neD hr.room.units)).or op_ne) (nomark _) ok_ne (se_if (st_isN (se_v 15 rfl (.inl rfl))) se_non (se_ix (fun _ _ => rfl) (se_ix (fun _ _ => rfl) (se_v 8 rfl (.inl rfl)) (se_v 1 rfl (.inl rfl))) (se_v 15 rfl (.inl rfl)))) (se_if (st_isN (se_v 12 rfl (.inl rfl))) se_non (se_ix (fun _ _ => rfl) (se_v 16 rfl (.inl rfl)) (se_v 12 rfl (.inl rfl))))) (ss_one (ss_ret se_bl)) ss_nil))))))))))))))) (ss_cons (ss_if (st_w (sw_or (st_cmp ((op_neI.or (op_neD hr.room.units)).or op_ne) (nomark _) ok_ne (se_meth0 T M_steps (hr.mono (by decide)) ⟨by decide +kernel, by decide +kernel, by decide +kernel, by decide +kernel⟩ rfl (fun _ _ _ _ _ _ us hl => match us, hl with | [_], _ => rfl) 6) (se_callA F_steps A_steps_tables (hr.mono (by decide)) rfl (fun _ _ _ _ _ _ us hl => match us, hl with | [_, _, _], _ => rfl) (sa_cons (sv_v 2 rfl (.inl rfl)) (sa_cons (sv_v 4 rfl (.inl rfl)) (sa_cons (sv_v 5 rfl (.inl rfl)) sa_nil))))) (sw_or1 (st_cmp ((op_neI.or (op_neD hr.room.units)).or op_ne) (nomark _) ok_ne (se_meth0 T M_seats (hr.mono (by decide)) ⟨by decide +kernel, by decide +kernel, by decide +kernel, by decide +kernel⟩ rfl (fun _ _ _ _ _ _ us hl => match us, hl with | [_], _ => rfl) 6) (se_call F_seats_after (hr.mono (by decide)) rfl (fun _ _ _ _ _ _ us hl => match us, hl with | [_, _, _], _ => rfl) (sa_cons (sv_v 2 rfl (.inl rfl)) (sa_cons (sv_v 4 rfl (.inl rfl)) (sa_cons (sv_v 5 rfl (.inl rfl)) sa_nil)))))))) (ss_one (ss_ret se_bl)) ss_nil) (ss_cons (ss_for (.nm 1) PassesOwn.never rfl (pg_name (i := 1) sc.nd rfl (.inl rfl)) (si_rd B rfl (se_len B rfl (se_v 5 rfl (.inl rfl))) se_int) (ss_one (ss_ifC (stc_w (swc_or (st_cmp ((op_neI.or (op_neD hr.room.units)).or op_ne) (nomark _) ok_ne (se_meth0 T M_table (hr.mono (by decide)) ⟨by decide +kernel, by decide +kernel, by decide +kernel, by decide +kernel⟩ rfl (fun _ _ _ _ _ _ us hl => match us, hl with | [_], _ => rfl) 6) (se_ix (fun _ _ => rfl) (se_v 8 rfl (.inl rfl)) (se_v 1 rfl (.inl rfl)))) (swc_or (st_cmp ((op_neI.or (op_neD hr.room.units)).or op_ne) (nomark _) ok_ne (se_sum B rfl rfl (se_meth0 T M_steps (hr.mono (by decide)) ⟨by decide +kernel, by decide +kernel, by decide +kernel, by decide +kernel⟩ rfl (fun _ _ _ _ _ _ us hl => match us, hl with | [_], _ => rfl) 6)) (se_ixO 7 (fun _ _ => rfl) (se_v 1 rfl (.inl rfl)) rfl (.inl rfl))) (swc_or1 (stc_notB (sec_meth0 T M_undo (hr.mono (by decide)) ⟨by decide +kernel, by decide +kernel, by decide +kernel, by decide +kernel⟩ rfl (fun _ _ _ _ _ _ us hl => match us, hl with | [_], _ => rfl) 6)))))) (ss_one (ss_ret se_bl)) ss_nil))) (ss_one (ss_ret (se_and (se_chainG ((op_eqI.or (op_eqD hr.room.units)).or op_eq) ((op_eqI.or (op_eqD hr.room.units)).or op_eq) ok_eq ok_eq (se_meth0 T M_table (hr.mono (by decide)) ⟨by decide +kernel, by decide +kernel, by decide +kernel, by decide +kernel⟩ rfl (fun _ _ _ _ _ _ us hl => match us, hl with | [_], _ => rfl) 6) (se_v 4 rfl (.inl rfl)) (se_call F_table_after (hr.mono (by decide)) rfl (fun _ _ _ _ _ _ us hl => match us, hl with | [_, _, _], _ => rfl) (sa_cons (sv_v 2 rfl (.inl rfl)) (sa_cons (sv_v 4 rfl (.inl rfl)) (sa_cons (sv_e (se_lst sd_nil)) sa_nil))))) (se_one (se_cmp ((op_eqI.or (op_eqD hr.room.units)).or op_eq) (nomark _) ok_eq (se_meth0 T M_seats (hr.mono (by decide)) ⟨by decide +kernel, by decide +kernel, by decide +kernel, by decide +kernel⟩ rfl (fun _ _ _ _ _ _ us hl => match us, hl with | [_], _ => rfl) 6) (se_list B rfl (se_v 4 rfl (.inl rfl))))))))))))))
theorem sc_law_box : FnScope ["_law_cells_here", "_law_k", "_law_cell"] ["_law_cells_here", "_law_k"] (defScope s_law_box) := ⟨rfl, rfl, rfl, by decide +kernel, rfl, by decide +kernel, by decide +kernel⟩
def c_law_box : Ct := fun os μ Φ => ∃ (cs : List Int) (k : Nat), os = [.im (.list (iL cs)), .im (.int (k : Int))] ∧ k < cs.length ∧ ∀ b p q, μ b = none → Φ (.own b) (μ.put b (bx p q 0))
theorem f_law_box (B : Bt mg) {f : Addr} {fd : FuncData} (F : Fun K "_law_box" "_law_box" s_law_box f fd) (hm : mg "_law_box" = some (.ref f)) : Fc P w K mg base "_law_box" s_law_box ["_law_cells_here", "_law_k"] 1 c_law_box := by
  have sc := sc_law_box
  refine fc_of F hm sc (fun os μ Φ h => ?_) fun cdv A outer s H E os μ Φ hr h => ?_
  · obtain ⟨cs, k, rfl, _⟩ := h
    rfl
  · obtain ⟨cs, k, rfl, hk, q⟩ := h
    refine dss_cons (ds_set 2 sc.nd rfl (.inl rfl) (de_ix (fun _ _ => rfl) (de_var 0 rfl (.inl rfl) rfl (de_var 1 rfl (.inl rfl) rfl ⟨_, _, _, .lst _, rfl, atI_iL hk, ?_⟩))))
    refine dss_one (ds_ret (de_lstO (da_cons (de_mul (de_abs B rfl (de_var 2 rfl (.inl rfl) rfl ⟨_, rfl, de_int1 B rfl (de_ge (de_abs B rfl (de_var 2 rfl (.inl rfl) rfl ⟨_, rfl, de_pow (de_int (de_int ⟨_, _, rfl, rfl, ⟨by decide, by decide, by decide⟩, ⟨_, _, rfl, rfl, .inr ⟨_, rfl, ⟨_, _, rfl, rfl, .inr c01, da_cons (de_add (de_add (de_mod (de_var 2 rfl (.inl rfl) rfl (de_int ⟨_, _, rfl, rfl, by decide, de_mul (de_int (de_var 1 rfl (.inl rfl) rfl ⟨_, _, rfl, rfl, .inl ⟨by decide, by decide⟩, .inl ⟨_, _, rfl, rfl, de_int (.inl ⟨_, _, rfl, rfl, da_cons (de_int (da_nil ⟨lz rfl, fun b hb => q b _ _ hb⟩))⟩)⟩⟩))⟩)))))⟩⟩⟩⟩))⟩)))⟩))))))
theorem sc_law_cells : FnScope ["_law_script", "_law_utmost", "_law_cells_here", "_law_k", "_law_cell"] ["_law_script", "_law_utmost"] (defScope s_law_cells) := ⟨rfl, rfl, rfl, by decide +kernel, rfl, by decide +kernel, by decide +kernel⟩
def c_law_cells (K : PySem.W.Frag) : Ct := fun os μ Φ => ∃ (ns : List Int) (u : Nat), os = [.scr K ns, .im (.int (u : Int))] ∧ 0 < u ∧ u ≤ 1000 ∧ ns.length ≤ 63 ∧ ∀ cs : List Int, cs ≠ [] → cs.length ≤ u → Φ (.im (.list (iL cs))) μ
theorem f_law_cells (B : Bt mg) {f : Addr} {fd : FuncData} (F : Fun K "_law_cells" "_law_cells" s_law_cells f fd) (hm : mg "_law_cells" = some (.ref f)) : Fc P w K mg base "_law_cells" s_law_cells ["_law_script", "_law_utmost"] 1 (c_law_cells K) := by
  have sc := sc_law_cells
  refine fc_of F hm sc (fun os μ Φ h => ?_) fun cdv A outer s H E os μ Φ hr h => ?_
  · obtain ⟨ns, u, rfl, _⟩ := h
    rfl
  · obtain ⟨ns, u, rfl, u0, u1, hn, q⟩ := h
    refine dss_cons (ds_set 2 sc.nd rfl (.inl rfl) (de_orL (de_listO B rfl (de_slS (de_var 0 rfl (.inl rfl) rfl (de_var 1 rfl (.inl rfl) rfl ⟨_, rfl, ⟨_, rfl, ⟨_, .lst _, fun p hp => ?_⟩⟩⟩))))))
    rw [cutI_to]
    have go : ∀ (p : Addr) (μ1 : Mu) (cs : List Int), Sub μ μ1 → μ p = none → μ1 p = some ((iL cs).map OV.im) → cs ≠ [] → cs.length ≤ u → (u < ns.length → cs.length = u) →
        DSs (cxOf CX0 P w K mg base ["_law_script", "_law_utmost", "_law_cells_here", "_law_k", "_law_cell"] "_law_cells" (defScope s_law_cells) f cdv A outer s H E).nox (defBody s_law_cells).tail [some (.scr K ns), some (.im (.int (u : Int))), some (.own p), none, none] μ1 { nx := fun _ μ' => Φ (.im .none) μ', rt := Φ } := by
      intro p μ1 cs hs hp h1 hc hcl hcu
      refine dss_cons (ds_for (.tp [3, 4]) PassesOwn.never rfl (pg_tup rfl (pgs_cons (pg_name (i := 3) sc.nd rfl (.inl rfl)) (pgs_cons (pg_name (i := 4) sc.nd rfl (.inl rfl)) pgs_nil))) (di_en B rfl (de_slS (de_var 0 rfl (.inl rfl) rfl (de_var 1 rfl (.inl rfl) rfl ⟨_, rfl, de_int ⟨_, rfl, ⟨_, rfl, ⟨_, .lst, ?_⟩⟩⟩⟩)))))
      refine ⟨fun i ρ' μ' => ∃ cs' x y, ρ' = [some (.scr K ns), some (.im (.int (u : Int))), some (.own p), x, y] ∧ Sub μ μ' ∧ μ' p = some ((iL cs').map OV.im) ∧ cs'.length = cs.length, ⟨cs, none, none, rfl, hs, h1, rfl⟩, fun _ _ _ _ => trivial, fun i z ρ' μ' hz hP => ?_, fun ρ' μ' hP => ?_⟩
      · obtain ⟨cs', x, y, rfl, hs', hp', hl⟩ := hP
        obtain ⟨d, hd, rfl⟩ := prs_at hz
        obtain ⟨c, hc1, rfl⟩ := iL_get hd
        have hi := (List.getElem?_eq_some_iff.mp hc1).1
        have hlen := cutI_len ns u 63
        have hi' : i < (cutI ns (some (u : Int)) (some ((63 : Nat) : Int))).length := hi
        have hul : cs'.length = u := by rw [hl]; exact hcu (by omega)
        refine ⟨_, rfl, ?_⟩
        have em : ((i : Int) % (u : Int)) = ((i % u : Nat) : Int) := by omega
        have hm' : i % u < cs'.length := by rw [hul]; exact Nat.mod_lt _ u0
        have hix : ixN ((iL cs').map OV.im).length ((i : Int) % (u : Int)) = some (i % u) := by
          rw [em]
          exact ixN_nat (by rw [List.length_map, List.length_map]; exact hm')
        refine dss_one (ds_sub (de_add (de_ix (fun _ _ => rfl) (de_var 2 rfl (.inl rfl) rfl (de_mod (de_var 3 rfl (.inl rfl) rfl (de_var 1 rfl (.inl rfl) rfl ⟨_, _, rfl, rfl, by omega, ⟨_, _, _, .own hp', rfl, (by rw [em]; exact atI_iL hm'), de_mul (de_var 4 rfl (.inl rfl) rfl (de_add (de_var 3 rfl (.inl rfl) rfl (de_int (.inl ⟨_, _, rfl, rfl, ⟨_, _, rfl, rfl, .inr ⟨by omega, by omega⟩, .inl ⟨_, _, rfl, rfl, de_var 2 rfl (.inl rfl) rfl (de_mod (de_var 3 rfl (.inl rfl) rfl (de_var 1 rfl (.inl rfl) rfl ⟨_, _, rfl, rfl, by omega, ⟨_, _, _, _, rfl, rfl, hp', hix, ?_⟩⟩)))⟩⟩⟩)))))⟩⟩)))))) (hsub := pg_sub pwe pwe set_list))
        refine ⟨cs'.set (i % u) (cs'[i % u] + c * ((i : Int) + 2)), _, _, rfl, ⟨fun a l e => ?_, hs'.2⟩, ?_, by rw [List.length_set, hl]⟩
        · rw [put_ne (ne_own e hp)]
          exact hs'.1 a l e
        · rw [put_same, ← List.map_set, ← List.map_set]
      · obtain ⟨cs', x, y, rfl, hs', hp', hl⟩ := hP
        refine dss_frz (i := 2) rfl hp' (dss_drop (μ' := μ) ⟨fun a l e => ?_, hs'.2⟩ (dss_one (ds_ret (de_var 2 rfl (.inl rfl) rfl (q cs' ?_ ?_)))))
        · show (if a = p then none else μ' a) = some l
          rw [if_neg (ne_own e hp)]
          exact hs'.1 a l e
        · intro e
          rw [e] at hl
          exact hc (List.length_eq_zero_iff.mp hl.symm)
        · omega
    by_cases hne : ns.take u = []
    · refine ⟨[], ?_, ?_⟩
      · rw [hne]
        exact .own put_same
      · rw [if_neg (by simp)]
        refine de_one (de_lstO (da_cons (de_int (da_nil ⟨lz rfl, fun p2 hp2 => ?_⟩))))
        have hp3 : μ p2 = none := by
          cases z : μ p2 with
          | none => rfl
          | some l =>
            rw [put_ne (ne_own z hp), z] at hp2
            cases hp2
        refine go p2 _ [0] ⟨fun a l e => ?_, rfl, rfl⟩ hp3 put_same (by simp) (by simp; omega) fun hu => ?_
        · rw [put_ne (ne_own e hp3), put_ne (ne_own e hp)]
          exact e
        · have := congrArg List.length hne
          rw [List.length_take, List.length_nil] at this
          omega
    · refine ⟨iL (ns.take u), .own put_same, ?_⟩
      rw [if_pos (by simpa using hne)]
      refine go p _ (ns.take u) ⟨fun a l e => ?_, rfl, rfl⟩ hp put_same hne (by rw [List.length_take]; omega) fun hu => by rw [List.length_take]; omega
      rw [put_ne (ne_own e hp)]
      exact e
abbrev N_law : List Str := ["_law_script", "_law_cells_here", "_law_k", "_law_box_here", "_law_turn"]
theorem sc_law : FnScope N_law ["_law_script"] (defScope s_law) := ⟨rfl, rfl, rfl, by decide +kernel, rfl, by decide +kernel, by decide +kernel⟩
theorem f_law {kr : Nat} (B : Bt mg) (F_law_cells : Fc P w K mg base "_law_cells" s_law_cells ["_law_script", "_law_utmost"] 1 (c_law_cells K)) (F_law_box : Fc P w K mg base "_law_box" s_law_box ["_law_cells_here", "_law_k"] 1 c_law_box) (F_law_right : Fc P w K mg base "_law_right" s_law_right ["_law_box_here"] (kr + 1) cR) {f : Addr} {fd : FuncData} (F : Fun K "law" "law" s_law f fd) : FnG P w K mg base CX0 (kr + 2) f fd ["_law_script"] (spOf (c_law K)) := by
  have sc := sc_law
  refine fg_of F sc (fun os μ Φ h => ?_) fun cdv A outer s H E os μ Φ hr h => ?_
  · obtain ⟨ns, rfl, _⟩ := h
    rfl
  · obtain ⟨ns, rfl, hn, k⟩ := h
    refine dss_cons (ds_set 1 sc.nd rfl (.inl rfl) (de_call F_law_cells (hr.mono (by omega)) rfl (fun _ _ _ _ _ _ us hl => match us, hl with | [_, _], _ => rfl) (da_cons (de_var 0 rfl (.inl rfl) rfl (da_cons (de_int (da_nil ⟨ns, 3, rfl, by decide, by decide, hn, fun cs hc hcl => ?_⟩)))))))
    refine dss_cons (ds_for (.nm 2) PassesOwn.never rfl (pg_name (i := 2) sc.nd rfl (.inl rfl)) (di_range1 B rfl (de_len B rfl (de_var 1 rfl (.inl rfl) rfl ⟨_, .lst _, ⟨_, rfl, by omega, ?_, ?_⟩⟩))))
    · rw [List.length_map, List.length_map]
      omega
    refine ⟨fun i ρ' μ' => ∃ x y, ρ' = [some (.scr K ns), some (.im (.list (iL cs))), x, y, none], ⟨none, none, rfl⟩, fun _ _ _ _ => trivial, fun i z ρ' μ' hz hP => ?_, fun ρ' μ' hP => ?_⟩
    · obtain ⟨x, y, rfl⟩ := hP
      have hi : i < cs.length := by simpa using (List.getElem?_eq_some_iff.mp hz).1
      simp only [List.length_map, Int.toNat_natCast, List.getElem?_map, List.getElem?_range hi, Option.map_some, Option.some.injEq] at hz
      subst hz
      refine ⟨_, rfl, ?_⟩
      refine dss_cons (ds_set 3 sc.nd rfl (.inr rfl) (de_call F_law_box (hr.mono (by omega)) rfl (fun _ _ _ _ _ _ us hl => match us, hl with | [_, _], _ => rfl) (da_cons (de_var 1 rfl (.inl rfl) rfl (da_cons (de_var 2 rfl (.inl rfl) rfl (da_nil ⟨cs, i, rfl, hi, fun b p q hb => ?_⟩)))))))
      refine dss_one (ds_if (dt_not (dt_val (de_all B rfl rfl (de_lc (own := [("_law_turn", 4)]) (.nm 4) rfl sc.nd (blkOk_by (N := N_law) (sc := defScope s_law) (by decide +kernel)) (by decide) (fun _ _ _ _ _ => pg_name (i := 4) sc.nd rfl (.inl rfl)) (di_range1 B rfl (de_int ⟨_, rfl, by decide, by decide, ?_⟩)))))))
      refine ⟨fun i acc μ' => acc = (List.replicate i (PyData.bool true)).map .im ∧ ∃ p q t, μ' b = some (bx p q t), by decide, ⟨rfl, p, q, 0, put_same⟩, fun _ _ _ _ _ _ => trivial, fun acc μ2 h => ?_, fun i acc μ2 o ho h => ?_⟩
      · obtain ⟨rfl, _⟩ := h
        refine ⟨_, rfl, List.replicate 3 true, .im _, true, rfl, ?_⟩
        exact iteF (dss_nil ⟨_, _, rfl⟩)
      · obtain ⟨rfl, p1, q1, t1, h1⟩ := h
        refine ⟨_, rfl, fun Dl hDl => ?_⟩
        have nbD := ne_own h1 hDl
        dsimp only [DTb]
        rw [if_pos rfl]
        intro s1 H1 C1 cl1 fp1
        refine de_call F_law_right hr rfl (fun _ _ _ _ _ _ us hl => match us, hl with | [_], _ => rfl) (da_cons (de_v 3 rfl (da_nil ⟨b, p1, q1, t1, rfl, (put_ne nbD).trans h1, fun μ3 s3 => ?_⟩)))
        obtain ⟨pb1, pb2⟩ := put_back (s3.old Dl _ (fun e => nbD e.symm) put_same)
        obtain ⟨p2, q2, t2, h2⟩ := s3.box p1 q1 t1 ((put_ne nbD).trans h1)
        refine ⟨μ3.del Dl, pb1, pb2, ?_, p2, q2, t2, (if_neg nbD).trans h2⟩
        rw [List.replicate_succ', List.map_append]
        rfl
    · obtain ⟨x, y, rfl⟩ := hP
      exact dss_one (ds_ret (de_bl (k _)))
end
theorem all_mk {l : PySem.W.OpenLaw} {w : World} {K : PySem.W.Frag} {h : Heap} {mg : Str → Option Value} {fa : Addr} (X : K.In h) (G : h.Ns mainGlobals mg) (hfa : mg "law" = some (.ref fa))
    {f0 : Addr} {od0 an0 : Option Addr} {sl0 : Array (Option Value)} {oc0 kV0 dc0 pm0 cd0 ct0 : Value} (a0 : PySem.W.nsIn K mainGlobals "_wall" = some (some (.ref f0))) (l0 : K.lookup f0 = some ⟨oc0, od0, .func (PySem.W.fnOf "_wall" "_wall" (defArgs s_wall) (defBody s_wall) (defScope s_wall) .none kV0 dc0 pm0 an0 cd0 ct0), sl0⟩) (c0 : PySem.W.codeIn K cd0 "_wall" = true) (k0 : PySem.W.keepIn K (.ref f0) = true)
    {f1 : Addr} {od1 an1 : Option Addr} {sl1 : Array (Option Value)} {oc1 kV1 dc1 pm1 cd1 ct1 : Value} (a1 : PySem.W.nsIn K mainGlobals "is_chair" = some (some (.ref f1))) (l1 : K.lookup f1 = some ⟨oc1, od1, .func (PySem.W.fnOf "is_chair" "is_chair" (defArgs s_is_chair) (defBody s_is_chair) (defScope s_is_chair) .none kV1 dc1 pm1 an1 cd1 ct1), sl1⟩) (c1 : PySem.W.codeIn K cd1 "is_chair" = true) (k1 : PySem.W.keepIn K (.ref f1) = true)
    {f2 : Addr} {od2 an2 : Option Addr} {sl2 : Array (Option Value)} {oc2 kV2 dc2 pm2 cd2 ct2 : Value} (a2 : PySem.W.nsIn K mainGlobals "mover" = some (some (.ref f2))) (l2 : K.lookup f2 = some ⟨oc2, od2, .func (PySem.W.fnOf "mover" "mover" (defArgs s_mover) (defBody s_mover) (defScope s_mover) .none kV2 dc2 pm2 an2 cd2 ct2), sl2⟩) (c2 : PySem.W.codeIn K cd2 "mover" = true) (k2 : PySem.W.keepIn K (.ref f2) = true)
    {f3 : Addr} {od3 an3 : Option Addr} {sl3 : Array (Option Value)} {oc3 kV3 dc3 pm3 cd3 ct3 : Value} (a3 : PySem.W.nsIn K mainGlobals "seats_called" = some (some (.ref f3))) (l3 : K.lookup f3 = some ⟨oc3, od3, .func (PySem.W.fnOf "seats_called" "seats_called" (defArgs s_seats_called) (defBody s_seats_called) (defScope s_seats_called) .none kV3 dc3 pm3 an3 cd3 ct3), sl3⟩) (c3 : PySem.W.codeIn K cd3 "seats_called" = true) (k3 : PySem.W.keepIn K (.ref f3) = true)
    {f4 : Addr} {od4 an4 : Option Addr} {sl4 : Array (Option Value)} {oc4 kV4 dc4 pm4 cd4 ct4 : Value} (a4 : PySem.W.nsIn K mainGlobals "seats_along" = some (some (.ref f4))) (l4 : K.lookup f4 = some ⟨oc4, od4, .func (PySem.W.fnOf "seats_along" "seats_along" (defArgs s_seats_along) (defBody s_seats_along) (defScope s_seats_along) .none kV4 dc4 pm4 an4 cd4 ct4), sl4⟩) (c4 : PySem.W.codeIn K cd4 "seats_along" = true) (k4 : PySem.W.keepIn K (.ref f4) = true)
    {f5 : Addr} {od5 an5 : Option Addr} {sl5 : Array (Option Value)} {oc5 kV5 dc5 pm5 cd5 ct5 : Value} (a5 : PySem.W.nsIn K mainGlobals "as_table" = some (some (.ref f5))) (l5 : K.lookup f5 = some ⟨oc5, od5, .func (PySem.W.fnOf "as_table" "as_table" (defArgs s_as_table) (defBody s_as_table) (defScope s_as_table) .none kV5 dc5 pm5 an5 cd5 ct5), sl5⟩) (c5 : PySem.W.codeIn K cd5 "as_table" = true) (k5 : PySem.W.keepIn K (.ref f5) = true)
    {f6 : Addr} {od6 an6 : Option Addr} {sl6 : Array (Option Value)} {oc6 kV6 dc6 pm6 cd6 ct6 : Value} (a6 : PySem.W.nsIn K mainGlobals "table_after" = some (some (.ref f6))) (l6 : K.lookup f6 = some ⟨oc6, od6, .func (PySem.W.fnOf "table_after" "table_after" (defArgs s_table_after) (defBody s_table_after) (defScope s_table_after) .none kV6 dc6 pm6 an6 cd6 ct6), sl6⟩) (c6 : PySem.W.codeIn K cd6 "table_after" = true) (k6 : PySem.W.keepIn K (.ref f6) = true)
    {f7 : Addr} {od7 an7 : Option Addr} {sl7 : Array (Option Value)} {oc7 kV7 dc7 pm7 cd7 ct7 : Value} (a7 : PySem.W.nsIn K mainGlobals "tables_along" = some (some (.ref f7))) (l7 : K.lookup f7 = some ⟨oc7, od7, .func (PySem.W.fnOf "tables_along" "tables_along" (defArgs s_tables_along) (defBody s_tables_along) (defScope s_tables_along) .none kV7 dc7 pm7 an7 cd7 ct7), sl7⟩) (c7 : PySem.W.codeIn K cd7 "tables_along" = true) (k7 : PySem.W.keepIn K (.ref f7) = true)
    {f8 : Addr} {od8 an8 : Option Addr} {sl8 : Array (Option Value)} {oc8 kV8 dc8 pm8 cd8 ct8 : Value} (a8 : PySem.W.nsIn K mainGlobals "idle_calls" = some (some (.ref f8))) (l8 : K.lookup f8 = some ⟨oc8, od8, .func (PySem.W.fnOf "idle_calls" "idle_calls" (defArgs s_idle_calls) (defBody s_idle_calls) (defScope s_idle_calls) .none kV8 dc8 pm8 an8 cd8 ct8), sl8⟩) (c8 : PySem.W.codeIn K cd8 "idle_calls" = true) (k8 : PySem.W.keepIn K (.ref f8) = true)
    {f9 : Addr} {od9 an9 : Option Addr} {sl9 : Array (Option Value)} {oc9 kV9 dc9 pm9 cd9 ct9 : Value} (a9 : PySem.W.nsIn K mainGlobals "steps" = some (some (.ref f9))) (l9 : K.lookup f9 = some ⟨oc9, od9, .func (PySem.W.fnOf "steps" "steps" (defArgs s_steps) (defBody s_steps) (defScope s_steps) .none kV9 dc9 pm9 an9 cd9 ct9), sl9⟩) (c9 : PySem.W.codeIn K cd9 "steps" = true) (k9 : PySem.W.keepIn K (.ref f9) = true)
    {f10 : Addr} {od10 an10 : Option Addr} {sl10 : Array (Option Value)} {oc10 kV10 dc10 pm10 cd10 ct10 : Value} (a10 : PySem.W.nsIn K mainGlobals "seats_after" = some (some (.ref f10))) (l10 : K.lookup f10 = some ⟨oc10, od10, .func (PySem.W.fnOf "seats_after" "seats_after" (defArgs s_seats_after) (defBody s_seats_after) (defScope s_seats_after) .none kV10 dc10 pm10 an10 cd10 ct10), sl10⟩) (c10 : PySem.W.codeIn K cd10 "seats_after" = true) (k10 : PySem.W.keepIn K (.ref f10) = true)
    {f11 : Addr} {od11 an11 : Option Addr} {sl11 : Array (Option Value)} {oc11 kV11 dc11 pm11 cd11 ct11 : Value} (a11 : PySem.W.nsIn K mainGlobals "_law_box" = some (some (.ref f11))) (l11 : K.lookup f11 = some ⟨oc11, od11, .func (PySem.W.fnOf "_law_box" "_law_box" (defArgs s_law_box) (defBody s_law_box) (defScope s_law_box) .none kV11 dc11 pm11 an11 cd11 ct11), sl11⟩) (c11 : PySem.W.codeIn K cd11 "_law_box" = true) (k11 : PySem.W.keepIn K (.ref f11) = true)
    {f12 : Addr} {od12 an12 : Option Addr} {sl12 : Array (Option Value)} {oc12 kV12 dc12 pm12 cd12 ct12 : Value} (a12 : PySem.W.nsIn K mainGlobals "_law_take" = some (some (.ref f12))) (l12 : K.lookup f12 = some ⟨oc12, od12, .func (PySem.W.fnOf "_law_take" "_law_take" (defArgs s_law_take) (defBody s_law_take) (defScope s_law_take) .none kV12 dc12 pm12 an12 cd12 ct12), sl12⟩) (c12 : PySem.W.codeIn K cd12 "_law_take" = true) (k12 : PySem.W.keepIn K (.ref f12) = true)
    {f13 : Addr} {od13 an13 : Option Addr} {sl13 : Array (Option Value)} {oc13 kV13 dc13 pm13 cd13 ct13 : Value} (a13 : PySem.W.nsIn K mainGlobals "_law_cells" = some (some (.ref f13))) (l13 : K.lookup f13 = some ⟨oc13, od13, .func (PySem.W.fnOf "_law_cells" "_law_cells" (defArgs s_law_cells) (defBody s_law_cells) (defScope s_law_cells) .none kV13 dc13 pm13 an13 cd13 ct13), sl13⟩) (c13 : PySem.W.codeIn K cd13 "_law_cells" = true) (k13 : PySem.W.keepIn K (.ref f13) = true)
    {f14 : Addr} {od14 an14 : Option Addr} {sl14 : Array (Option Value)} {oc14 kV14 dc14 pm14 cd14 ct14 : Value} (a14 : PySem.W.nsIn K mainGlobals "_law_of" = some (some (.ref f14))) (l14 : K.lookup f14 = some ⟨oc14, od14, .func (PySem.W.fnOf "_law_of" "_law_of" (defArgs s_law_of) (defBody s_law_of) (defScope s_law_of) .none kV14 dc14 pm14 an14 cd14 ct14), sl14⟩) (c14 : PySem.W.codeIn K cd14 "_law_of" = true) (k14 : PySem.W.keepIn K (.ref f14) = true)
    {f15 : Addr} {od15 an15 : Option Addr} {sl15 : Array (Option Value)} {oc15 kV15 dc15 pm15 cd15 ct15 : Value} (a15 : PySem.W.nsIn K mainGlobals "_law_strewn" = some (some (.ref f15))) (l15 : K.lookup f15 = some ⟨oc15, od15, .func (PySem.W.fnOf "_law_strewn" "_law_strewn" (defArgs s_law_strewn) (defBody s_law_strewn) (defScope s_law_strewn) .none kV15 dc15 pm15 an15 cd15 ct15), sl15⟩) (c15 : PySem.W.codeIn K cd15 "_law_strewn" = true) (k15 : PySem.W.keepIn K (.ref f15) = true)
    {f16 : Addr} {od16 an16 : Option Addr} {sl16 : Array (Option Value)} {oc16 kV16 dc16 pm16 cd16 ct16 : Value} (a16 : PySem.W.nsIn K mainGlobals "_law_span" = some (some (.ref f16))) (l16 : K.lookup f16 = some ⟨oc16, od16, .func (PySem.W.fnOf "_law_span" "_law_span" (defArgs s_law_span) (defBody s_law_span) (defScope s_law_span) .none kV16 dc16 pm16 an16 cd16 ct16), sl16⟩) (c16 : PySem.W.codeIn K cd16 "_law_span" = true) (k16 : PySem.W.keepIn K (.ref f16) = true)
    {f17 : Addr} {od17 an17 : Option Addr} {sl17 : Array (Option Value)} {oc17 kV17 dc17 pm17 cd17 ct17 : Value} (a17 : PySem.W.nsIn K mainGlobals "_law_crowd" = some (some (.ref f17))) (l17 : K.lookup f17 = some ⟨oc17, od17, .func (PySem.W.fnOf "_law_crowd" "_law_crowd" (defArgs s_law_crowd) (defBody s_law_crowd) (defScope s_law_crowd) .none kV17 dc17 pm17 an17 cd17 ct17), sl17⟩) (c17 : PySem.W.codeIn K cd17 "_law_crowd" = true) (k17 : PySem.W.keepIn K (.ref f17) = true)
    {f18 : Addr} {od18 an18 : Option Addr} {sl18 : Array (Option Value)} {oc18 kV18 dc18 pm18 cd18 ct18 : Value} (a18 : PySem.W.nsIn K mainGlobals "_law_tour" = some (some (.ref f18))) (l18 : K.lookup f18 = some ⟨oc18, od18, .func (PySem.W.fnOf "_law_tour" "_law_tour" (defArgs s_law_tour) (defBody s_law_tour) (defScope s_law_tour) .none kV18 dc18 pm18 an18 cd18 ct18), sl18⟩) (c18 : PySem.W.codeIn K cd18 "_law_tour" = true) (k18 : PySem.W.keepIn K (.ref f18) = true)
    {f19 : Addr} {od19 an19 : Option Addr} {sl19 : Array (Option Value)} {oc19 kV19 dc19 pm19 cd19 ct19 : Value} (a19 : PySem.W.nsIn K mainGlobals "_law_scene" = some (some (.ref f19))) (l19 : K.lookup f19 = some ⟨oc19, od19, .func (PySem.W.fnOf "_law_scene" "_law_scene" (defArgs s_law_scene) (defBody s_law_scene) (defScope s_law_scene) .none kV19 dc19 pm19 an19 cd19 ct19), sl19⟩) (c19 : PySem.W.codeIn K cd19 "_law_scene" = true) (k19 : PySem.W.keepIn K (.ref f19) = true)
    {f20 : Addr} {od20 an20 : Option Addr} {sl20 : Array (Option Value)} {oc20 kV20 dc20 pm20 cd20 ct20 : Value} (a20 : PySem.W.nsIn K mainGlobals "_law_right" = some (some (.ref f20))) (l20 : K.lookup f20 = some ⟨oc20, od20, .func (PySem.W.fnOf "_law_right" "_law_right" (defArgs s_law_right) (defBody s_law_right) (defScope s_law_right) .none kV20 dc20 pm20 an20 cd20 ct20), sl20⟩) (c20 : PySem.W.codeIn K cd20 "_law_right" = true) (k20 : PySem.W.keepIn K (.ref f20) = true)
    {f21 : Addr} {od21 an21 : Option Addr} {sl21 : Array (Option Value)} {oc21 kV21 dc21 pm21 cd21 ct21 : Value} (a21 : PySem.W.nsIn K mainGlobals "law" = some (some (.ref f21))) (l21 : K.lookup f21 = some ⟨oc21, od21, .func (PySem.W.fnOf "law" "law" (defArgs s_law) (defBody s_law) (defScope s_law) .none kV21 dc21 pm21 an21 cd21 ct21), sl21⟩) (c21 : PySem.W.codeIn K cd21 "law" = true) (k21 : PySem.W.keepIn K (.ref f21) = true)
    (z_len : PySem.W.nsIn K mainGlobals "len" = some none)
    (z_range : PySem.W.nsIn K mainGlobals "range" = some none)
    (z_list : PySem.W.nsIn K mainGlobals "list" = some none)
    (z_tuple : PySem.W.nsIn K mainGlobals "tuple" = some none)
    (z_sorted : PySem.W.nsIn K mainGlobals "sorted" = some none)
    (z_abs : PySem.W.nsIn K mainGlobals "abs" = some none)
    (z_int : PySem.W.nsIn K mainGlobals "int" = some none)
    (z_str : PySem.W.nsIn K mainGlobals "str" = some none)
    (z_repr : PySem.W.nsIn K mainGlobals "repr" = some none)
    (z_all : PySem.W.nsIn K mainGlobals "all" = some none)
    (z_any : PySem.W.nsIn K mainGlobals "any" = some none)
    (z_max : PySem.W.nsIn K mainGlobals "max" = some none)
    (z_min : PySem.W.nsIn K mainGlobals "min" = some none)
    (z_sum : PySem.W.nsIn K mainGlobals "sum" = some none)
    (z_enumerate : PySem.W.nsIn K mainGlobals "enumerate" = some none)
    (z_zip : PySem.W.nsIn K mainGlobals "zip" = some none)
    (z_isinstance : PySem.W.nsIn K mainGlobals "isinstance" = some none)
    (z_bool : PySem.W.nsIn K mainGlobals "bool" = some none)
    (z_set : PySem.W.nsIn K mainGlobals "set" = some none)
    (z_dict : PySem.W.nsIn K mainGlobals "dict" = some none)
    (al_steps_tables : PySem.W.nsIn K mainGlobals "steps_tables" = some (some (.ref f9)))
    {C_Circle : Addr} (aC_Circle : PySem.W.nsIn K mainGlobals "Circle" = some (some (.ref C_Circle))) (pgC : PySem.W.plainGet K C_Circle Str.empty = true) (hdC : PySem.W.hasDictIn K C_Circle = true) (poC : PySem.W.plainOver K C_Circle = true) (saC : PySem.W.findIn K (.ref C_Circle) "__setattr__" = some (some (.builtin "object.__setattr__"))) (mkC : PySem.W.makesIn K C_Circle = true) (kcC : PySem.W.keepIn K (.ref C_Circle) = true)
    (no_Csize : PySem.W.findIn K (.ref C_Circle) "size" = some none)
    (no_Cbeginning : PySem.W.findIn K (.ref C_Circle) "beginning" = some none)
    (no_Coperations : PySem.W.findIn K (.ref C_Circle) "operations" = some none)
    (no_Centries : PySem.W.findIn K (.ref C_Circle) "entries" = some none)
    {fMinit : Addr} {odMinit anMinit : Option Addr} {slMinit : Array (Option Value)} {ocMinit kVMinit dcMinit pmMinit cdMinit ctMinit : Value} (atMinit : PySem.W.findIn K (.ref C_Circle) "__init__" = some (some (.ref fMinit))) (isMinit : PySem.W.isFn K (.ref fMinit) = true) (lMinit : K.lookup fMinit = some ⟨ocMinit, odMinit, .func (PySem.W.fnOf "__init__" "Circle.__init__" (defArgs s_Circle___init__) (defBody s_Circle___init__) (defScope s_Circle___init__) .none kVMinit dcMinit pmMinit anMinit cdMinit ctMinit), slMinit⟩) (cMinit : PySem.W.codeIn K cdMinit "Circle.__init__" = true) (kMinit : PySem.W.keepIn K (.ref fMinit) = true)
    {fMcalls : Addr} {odMcalls anMcalls : Option Addr} {slMcalls : Array (Option Value)} {ocMcalls kVMcalls dcMcalls pmMcalls cdMcalls ctMcalls : Value} (atMcalls : PySem.W.findIn K (.ref C_Circle) "calls" = some (some (.ref fMcalls))) (isMcalls : PySem.W.isFn K (.ref fMcalls) = true) (lMcalls : K.lookup fMcalls = some ⟨ocMcalls, odMcalls, .func (PySem.W.fnOf "calls" "Circle.calls" (defArgs s_Circle_calls) (defBody s_Circle_calls) (defScope s_Circle_calls) .none kVMcalls dcMcalls pmMcalls anMcalls cdMcalls ctMcalls), slMcalls⟩) (cMcalls : PySem.W.codeIn K cdMcalls "Circle.calls" = true) (kMcalls : PySem.W.keepIn K (.ref fMcalls) = true)
    {fMseats : Addr} {odMseats anMseats : Option Addr} {slMseats : Array (Option Value)} {ocMseats kVMseats dcMseats pmMseats cdMseats ctMseats : Value} (atMseats : PySem.W.findIn K (.ref C_Circle) "seats" = some (some (.ref fMseats))) (isMseats : PySem.W.isFn K (.ref fMseats) = true) (lMseats : K.lookup fMseats = some ⟨ocMseats, odMseats, .func (PySem.W.fnOf "seats" "Circle.seats" (defArgs s_Circle_seats) (defBody s_Circle_seats) (defScope s_Circle_seats) .none kVMseats dcMseats pmMseats anMseats cdMseats ctMseats), slMseats⟩) (cMseats : PySem.W.codeIn K cdMseats "Circle.seats" = true) (kMseats : PySem.W.keepIn K (.ref fMseats) = true)
    {fMcall : Addr} {odMcall anMcall : Option Addr} {slMcall : Array (Option Value)} {ocMcall kVMcall dcMcall pmMcall cdMcall ctMcall : Value} (atMcall : PySem.W.findIn K (.ref C_Circle) "call" = some (some (.ref fMcall))) (isMcall : PySem.W.isFn K (.ref fMcall) = true) (lMcall : K.lookup fMcall = some ⟨ocMcall, odMcall, .func (PySem.W.fnOf "call" "Circle.call" (defArgs s_Circle_call) (defBody s_Circle_call) (defScope s_Circle_call) .none kVMcall dcMcall pmMcall anMcall cdMcall ctMcall), slMcall⟩) (cMcall : PySem.W.codeIn K cdMcall "Circle.call" = true) (kMcall : PySem.W.keepIn K (.ref fMcall) = true)
    {fMsteps : Addr} {odMsteps anMsteps : Option Addr} {slMsteps : Array (Option Value)} {ocMsteps kVMsteps dcMsteps pmMsteps cdMsteps ctMsteps : Value} (atMsteps : PySem.W.findIn K (.ref C_Circle) "steps" = some (some (.ref fMsteps))) (isMsteps : PySem.W.isFn K (.ref fMsteps) = true) (lMsteps : K.lookup fMsteps = some ⟨ocMsteps, odMsteps, .func (PySem.W.fnOf "steps" "Circle.steps" (defArgs s_Circle_steps) (defBody s_Circle_steps) (defScope s_Circle_steps) .none kVMsteps dcMsteps pmMsteps anMsteps cdMsteps ctMsteps), slMsteps⟩) (cMsteps : PySem.W.codeIn K cdMsteps "Circle.steps" = true) (kMsteps : PySem.W.keepIn K (.ref fMsteps) = true)
    {fMtable : Addr} {odMtable anMtable : Option Addr} {slMtable : Array (Option Value)} {ocMtable kVMtable dcMtable pmMtable cdMtable ctMtable : Value} (atMtable : PySem.W.findIn K (.ref C_Circle) "table" = some (some (.ref fMtable))) (isMtable : PySem.W.isFn K (.ref fMtable) = true) (lMtable : K.lookup fMtable = some ⟨ocMtable, odMtable, .func (PySem.W.fnOf "table" "Circle.table" (defArgs s_Circle_table) (defBody s_Circle_table) (defScope s_Circle_table) .none kVMtable dcMtable pmMtable anMtable cdMtable ctMtable), slMtable⟩) (cMtable : PySem.W.codeIn K cdMtable "Circle.table" = true) (kMtable : PySem.W.keepIn K (.ref fMtable) = true)
    {fMundo : Addr} {odMundo anMundo : Option Addr} {slMundo : Array (Option Value)} {ocMundo kVMundo dcMundo pmMundo cdMundo ctMundo : Value} (atMundo : PySem.W.findIn K (.ref C_Circle) "undo" = some (some (.ref fMundo))) (isMundo : PySem.W.isFn K (.ref fMundo) = true) (lMundo : K.lookup fMundo = some ⟨ocMundo, odMundo, .func (PySem.W.fnOf "undo" "Circle.undo" (defArgs s_Circle_undo) (defBody s_Circle_undo) (defScope s_Circle_undo) .none kVMundo dcMundo pmMundo anMundo cdMundo ctMundo), slMundo⟩) (cMundo : PySem.W.codeIn K cdMundo "Circle.undo" = true) (kMundo : PySem.W.keepIn K (.ref fMundo) = true)
    : ∃ fd : FuncData, (∀ (s : Shared) (v : Value), BindsTo s fd ⟨[v], []⟩ [("_law_script", v)]) ∧ ∀ base : Heap, K.In base → base.Ns mainGlobals mg → FnG l.prog w K mg base CX0 8 fa fd ["_law_script"] (spOf (c_law K)) := by
  have e := hfa.symm.trans (PySem.W.mg_of X G a21)
  cases e
  have B : Bt mg := ⟨PySem.W.mg_none_of X G z_len, PySem.W.mg_none_of X G z_range, PySem.W.mg_none_of X G z_list, PySem.W.mg_none_of X G z_tuple, PySem.W.mg_none_of X G z_sorted, PySem.W.mg_none_of X G z_abs, PySem.W.mg_none_of X G z_int, PySem.W.mg_none_of X G z_str, PySem.W.mg_none_of X G z_repr, PySem.W.mg_none_of X G z_all, PySem.W.mg_none_of X G z_any, PySem.W.mg_none_of X G z_max, PySem.W.mg_none_of X G z_min, PySem.W.mg_none_of X G z_sum, PySem.W.mg_none_of X G z_enumerate, PySem.W.mg_none_of X G z_zip, PySem.W.mg_none_of X G z_isinstance, PySem.W.mg_none_of X G z_bool, PySem.W.mg_none_of X G z_set, PySem.W.mg_none_of X G z_dict⟩
  have TC : CirT K C_Circle := ⟨⟨pgC, hdC, poC, saC⟩, no_Csize, no_Cbeginning, no_Coperations, no_Centries⟩
  have QC := fun base : Heap => i_Circle (P := l.prog) (w := w) (base := base) B TC (fun_mk (st := s_Circle___init__) lMinit cMinit kMinit) ⟨mkC, atMinit, isMinit, kcC⟩ (PySem.W.mg_of X G aC_Circle)
  have AL_steps_tables : mg "steps_tables" = mg "steps" := (PySem.W.mg_of X G al_steps_tables).trans (PySem.W.mg_of X G a9).symm
  have G_law_cells := fun base : Heap => f_law_cells (P := l.prog) (w := w) (base := base) B (fun_mk (st := s_law_cells) l13 c13 k13) (PySem.W.mg_of X G a13)
  have G_law_box := fun base : Heap => f_law_box (P := l.prog) (w := w) (base := base) B (fun_mk (st := s_law_box) l11 c11 k11) (PySem.W.mg_of X G a11)
  have GM_calls := fun base : Heap => f_Circle_calls (P := l.prog) (w := w) (base := base) B TC (fun_mk (st := s_Circle_calls) lMcalls cMcalls kMcalls) ⟨atMcalls, isMcalls, kMcalls⟩
  have G_mover := fun base : Heap => f_mover (P := l.prog) (w := w) (base := base) B (fun_mk (st := s_mover) l2 c2 k2) (PySem.W.mg_of X G a2)
  have G_seats_called := fun base : Heap => f_seats_called (P := l.prog) (w := w) (base := base) B (G_mover base) (fun_mk (st := s_seats_called) l3 c3 k3) (PySem.W.mg_of X G a3)
  have G_seats_along := fun base : Heap => f_seats_along (P := l.prog) (w := w) (base := base) B (G_seats_called base) (fun_mk (st := s_seats_along) l4 c4 k4) (PySem.W.mg_of X G a4)
  have G_seats_after := fun base : Heap => f_seats_after (P := l.prog) (w := w) (base := base) B (G_seats_along base) (fun_mk (st := s_seats_after) l10 c10 k10) (PySem.W.mg_of X G a10)
  have GM_seats := fun base : Heap => f_Circle_seats (P := l.prog) (w := w) (base := base) B TC (GM_calls base) (G_seats_after base) (fun_mk (st := s_Circle_seats) lMseats cMseats kMseats) ⟨atMseats, isMseats, kMseats⟩
  have G_is_chair := fun base : Heap => f_is_chair (P := l.prog) (w := w) (base := base) B (fun_mk (st := s_is_chair) l1 c1 k1) (PySem.W.mg_of X G a1)
  have GM_call := fun base : Heap => f_Circle_call (P := l.prog) (w := w) (base := base) B TC (GM_seats base) (G_mover base) (G_is_chair base) (fun_mk (st := s_Circle_call) lMcall cMcall kMcall) ⟨atMcall, isMcall, kMcall⟩
  have G_steps := fun base : Heap => f_steps (P := l.prog) (w := w) (base := base) B (G_seats_along base) (fun_mk (st := s_steps) l9 c9 k9) (PySem.W.mg_of X G a9)
  have GM_steps := fun base : Heap => f_Circle_steps (P := l.prog) (w := w) (base := base) B TC (GM_calls base) AL_steps_tables (G_steps base) (fun_mk (st := s_Circle_steps) lMsteps cMsteps kMsteps) ⟨atMsteps, isMsteps, kMsteps⟩
  have G_as_table := fun base : Heap => f_as_table (P := l.prog) (w := w) (base := base) B (fun_mk (st := s_as_table) l5 c5 k5) (PySem.W.mg_of X G a5)
  have GM_table := fun base : Heap => f_Circle_table (P := l.prog) (w := w) (base := base) B TC (GM_seats base) (G_as_table base) (fun_mk (st := s_Circle_table) lMtable cMtable kMtable) ⟨atMtable, isMtable, kMtable⟩
  have GM_undo := fun base : Heap => f_Circle_undo (P := l.prog) (w := w) (base := base) B TC (fun_mk (st := s_Circle_undo) lMundo cMundo kMundo) ⟨atMundo, isMundo, kMundo⟩
  have H_law_take := fun base : Heap => f_law_take (P := l.prog) (w := w) (base := base)  (fun_mk (st := s_law_take) l12 c12 k12) (PySem.W.mg_of X G a12)
  have G_law_take := fun base : Heap => (H_law_take base).imp take_ok
  have G_law_span := fun base : Heap => f_law_span (P := l.prog) (w := w) (base := base) B (G_law_take base) (fun_mk (st := s_law_span) l16 c16 k16) (PySem.W.mg_of X G a16)
  have H_law_strewn := fun base : Heap => f_law_strewn (P := l.prog) (w := w) (base := base) B (H_law_take base) (fun_mk (st := s_law_strewn) l15 c15 k15) (PySem.W.mg_of X G a15)
  have G_law_strewn := fun base : Heap => (H_law_strewn base).imp strewn_ok
  have G_law_crowd := fun base : Heap => f_law_crowd (P := l.prog) (w := w) (base := base) B (G_law_take base) (G_law_strewn base) (fun_mk (st := s_law_crowd) l17 c17 k17) (PySem.W.mg_of X G a17)
  have G_law_scene := fun base : Heap => f_law_scene (P := l.prog) (w := w) (base := base) B (G_law_span base) (G_law_take base) (G_law_crowd base) (fun_mk (st := s_law_scene) l19 c19 k19) (PySem.W.mg_of X G a19)
  have G_law_of := fun base : Heap => f_law_of (P := l.prog) (w := w) (base := base) B (G_law_take base) (fun_mk (st := s_law_of) l14 c14 k14) (PySem.W.mg_of X G a14)
  have G_law_tour := fun base : Heap => f_law_tour (P := l.prog) (w := w) (base := base) B (G_law_take base) (G_law_of base) (fun_mk (st := s_law_tour) l18 c18 k18) (PySem.W.mg_of X G a18)
  have G_tables_along := fun base : Heap => f_tables_along (P := l.prog) (w := w) (base := base) B (G_as_table base) (G_seats_along base) (fun_mk (st := s_tables_along) l7 c7 k7) (PySem.W.mg_of X G a7)
  have G_idle_calls := fun base : Heap => f_idle_calls (P := l.prog) (w := w) (base := base) B (G_seats_along base) (fun_mk (st := s_idle_calls) l8 c8 k8) (PySem.W.mg_of X G a8)
  have G_table_after := fun base : Heap => f_table_after (P := l.prog) (w := w) (base := base) B (G_as_table base) (G_seats_after base) (fun_mk (st := s_table_after) l6 c6 k6) (PySem.W.mg_of X G a6)
  have H_law_right := fun base : Heap => f_law_right (P := l.prog) (w := w) (base := base) B TC (QC base) (GM_call base) (GM_seats base) (GM_steps base) (GM_table base) (GM_undo base) AL_steps_tables (G_law_scene base) (G_law_tour base) (G_tables_along base) (G_idle_calls base) (G_mover base) (G_steps base) (G_seats_after base) (G_table_after base) (fun_mk (st := s_law_right) l20 c20 k20) (PySem.W.mg_of X G a20)
  have G_law_right := fun base : Heap => (H_law_right base).imp (cR_of (right_ok C_Circle))
  exact ⟨_, fun s v => .of_eq rfl, fun base _ _ => f_law B (G_law_cells base) (G_law_box base) (G_law_right base) (fun_mk (st := s_law) l21 c21 k21)⟩
end Nx
open PySem PySem.W PyProof.Rows
set_option maxHeartbeats 0 in
theorem PySem.Challenge.cw_nextstands_k82_whole_a_circle_and_the_fu_holds : PySem.Challenge.rw_nextstands_k82_whole_a_circle_and_the_fu.Holds := by
  w_on; o_law; k_head; (case hw => w_witness2)
  k_fill
  refine Nx.walk_G (l := PySem.Challenge.rw_nextstands_k82_whole_a_circle_and_the_fu) (n := 63) (k := 8) (x := "_law_script") (sp := fun K => Nx.spOf (Nx.c_law K)) rfl (by decide) rfl ⟨⟨rfl, by decide, by decide⟩, rfl⟩ (fun w h Y => PySem.W.kIn_of Y) ?F (fun K H a ns hl _ hS => Nx.law_sp K H a ns hl hS)
  case F =>
    intro w mg fa h KX G hmg
    refine' Nx.all_mk KX G hmg ?a0 ?l0 ?c0 ?k0 ?a1 ?l1 ?c1 ?k1 ?a2 ?l2 ?c2 ?k2 ?a3 ?l3 ?c3 ?k3 ?a4 ?l4 ?c4 ?k4 ?a5 ?l5 ?c5 ?k5 ?a6 ?l6 ?c6 ?k6 ?a7 ?l7 ?c7 ?k7 ?a8 ?l8 ?c8 ?k8 ?a9 ?l9 ?c9 ?k9 ?a10 ?l10 ?c10 ?k10 ?a11 ?l11 ?c11 ?k11 ?a12 ?l12 ?c12 ?k12 ?a13 ?l13 ?c13 ?k13 ?a14 ?l14 ?c14 ?k14 ?a15 ?l15 ?c15 ?k15 ?a16 ?l16 ?c16 ?k16 ?a17 ?l17 ?c17 ?k17 ?a18 ?l18 ?c18 ?k18 ?a19 ?l19 ?c19 ?k19 ?a20 ?l20 ?c20 ?k20 ?a21 ?l21 ?c21 ?k21 ?z_len ?z_range ?z_list ?z_tuple ?z_sorted ?z_abs ?z_int ?z_str ?z_repr ?z_all ?z_any ?z_max ?z_min ?z_sum ?z_enumerate ?z_zip ?z_isinstance ?z_bool ?z_set ?z_dict ?al_steps_tables ?aC_Circle ?pgC ?hdC ?poC ?saC ?mkC ?kcC ?no_Csize ?no_Cbeginning ?no_Coperations ?no_Centries ?atMinit ?isMinit ?lMinit ?cMinit ?kMinit ?atMcalls ?isMcalls ?lMcalls ?cMcalls ?kMcalls ?atMseats ?isMseats ?lMseats ?cMseats ?kMseats ?atMcall ?isMcall ?lMcall ?cMcall ?kMcall ?atMsteps ?isMsteps ?lMsteps ?cMsteps ?kMsteps ?atMtable ?isMtable ?lMtable ?cMtable ?kMtable ?atMundo ?isMundo ?lMundo ?cMundo ?kMundo
    (case a0 => k_is); (case l0 => k_is); (case c0 => k_is); (case k0 => k_is); (case a1 => k_is); (case l1 => k_is); (case c1 => k_is); (case k1 => k_is); (case a2 => k_is); (case l2 => k_is); (case c2 => k_is); (case k2 => k_is); (case a3 => k_is); (case l3 => k_is); (case c3 => k_is); (case k3 => k_is); (case a4 => k_is); (case l4 => k_is); (case c4 => k_is); (case k4 => k_is); (case a5 => k_is); (case l5 => k_is); (case c5 => k_is); (case k5 => k_is); (case a6 => k_is); (case l6 => k_is); (case c6 => k_is); (case k6 => k_is); (case a7 => k_is); (case l7 => k_is); (case c7 => k_is); (case k7 => k_is); (case a8 => k_is); (case l8 => k_is); (case c8 => k_is); (case k8 => k_is); (case a9 => k_is); (case l9 => k_is); (case c9 => k_is); (case k9 => k_is); (case a10 => k_is); (case l10 => k_is); (case c10 => k_is); (case k10 => k_is); (case a11 => k_is); (case l11 => k_is); (case c11 => k_is); (case k11 => k_is); (case a12 => k_is); (case l12 => k_is); (case c12 => k_is); (case k12 => k_is); (case a13 => k_is); (case l13 => k_is); (case c13 => k_is); (case k13 => k_is); (case a14 => k_is); (case l14 => k_is); (case c14 => k_is); (case k14 => k_is); (case a15 => k_is); (case l15 => k_is); (case c15 => k_is); (case k15 => k_is); (case a16 => k_is); (case l16 => k_is); (case c16 => k_is); (case k16 => k_is); (case a17 => k_is); (case l17 => k_is); (case c17 => k_is); (case k17 => k_is); (case a18 => k_is); (case l18 => k_is); (case c18 => k_is); (case k18 => k_is); (case a19 => k_is); (case l19 => k_is); (case c19 => k_is); (case k19 => k_is); (case a20 => k_is); (case l20 => k_is); (case c20 => k_is); (case k20 => k_is); (case a21 => k_is); (case l21 => k_is); (case c21 => k_is); (case k21 => k_is); (case z_len => k_is); (case z_range => k_is); (case z_list => k_is); (case z_tuple => k_is); (case z_sorted => k_is); (case z_abs => k_is); (case z_int => k_is); (case z_str => k_is); (case z_repr => k_is); (case z_all => k_is); (case z_any => k_is); (case z_max => k_is); (case z_min => k_is); (case z_sum => k_is); (case z_enumerate => k_is); (case z_zip => k_is); (case z_isinstance => k_is); (case z_bool => k_is); (case z_set => k_is); (case z_dict => k_is); (case al_steps_tables => k_is); (case aC_Circle => k_is); (case pgC => k_is); (case hdC => k_is); (case poC => k_is); (case saC => k_is); (case mkC => k_is); (case kcC => k_is); (case no_Csize => k_is); (case no_Cbeginning => k_is); (case no_Coperations => k_is); (case no_Centries => k_is); (case atMinit => k_is); (case isMinit => k_is); (case lMinit => k_is); (case cMinit => k_is); (case kMinit => k_is); (case atMcalls => k_is); (case isMcalls => k_is); (case lMcalls => k_is); (case cMcalls => k_is); (case kMcalls => k_is); (case atMseats => k_is); (case isMseats => k_is); (case lMseats => k_is); (case cMseats => k_is); (case kMseats => k_is); (case atMcall => k_is); (case isMcall => k_is); (case lMcall => k_is); (case cMcall => k_is); (case kMcall => k_is); (case atMsteps => k_is); (case isMsteps => k_is); (case lMsteps => k_is); (case cMsteps => k_is); (case kMsteps => k_is); (case atMtable => k_is); (case isMtable => k_is); (case lMtable => k_is); (case cMtable => k_is); (case kMtable => k_is); (case atMundo => k_is); (case isMundo => k_is); (case lMundo => k_is); (case cMundo => k_is); (case kMundo => k_is)
