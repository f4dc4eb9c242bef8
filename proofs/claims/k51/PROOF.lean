import PyProof.Rows.All
import Wide.All
import OpenK.AllK
import Wide.FinOn
import HandS.ForMost
import HandS.Walk
import HandS.Deep
import HandS.Flow
import HandS.SortInts
import HandS.Zip
import HandS.Conv
import HandS.Wide
import HandS.RaiseMore
import HandS.TupAny
import HandS.Style
import KE.GoesNew
import HandS.IsInst
import HandS.TupMul
import HandS.Dict
import HandS.TupLen
import HandS.Iter
import HandS.NoneIn
import HandS.SetFor
import HandS.TupSets
import HandS.Strs
import KE.KDictZip
import KE.GoesMore
import HandS.DictComp
import HandS.SetBool
import KE.SortData
import KE.KDictSum
import KE.KDictDisplayH
import KE.KEqDict
import KE.KDictPairs
import HandS.ExcInit
import KE.KExcInit
import KE.KExcIs
import HandS.ExcOwn
import KE.KTryMore
import PySem.Challenge.RW_nextstands_k51_results_gone_through
set_option Elab.async false
set_option linter.all false
set_option maxRecDepth 100000
set_option maxHeartbeats 4000000
namespace Nx
open PySem PySem.Spec PyProof.Rows L2
def WE (X : Cx) (e : Expr) : TE := fun σ H Q => ∀ pins s, Inv X pins σ H s → wpAny (model X.prog X.w) X.A (eval e X.env) (EP X pins σ Q) X.xe s
def WT (X : Cx) (e : Expr) : TT := fun σ H Q => ∀ pins s, Inv X pins σ H s → wpAny (model X.prog X.w) X.A (isTrue e X.env (eval e X.env)) (TP X pins σ Q) X.xe s
def WA (X : Cx) (es : List Expr) : TA := fun σ H Q => ∀ pos pins s, Inv X pins σ H s → wpAny (model X.prog X.w) X.A (spliced (backTo pos (starEach es X.env))) (AP X pins σ Q) X.xe s
def WK (X : Cx) (ks : List Keyword) : TA := fun σ H Q => ∀ pos pins s, Inv X pins σ H s → wpAny (model X.prog X.w) X.A (evalAll ((backToKw pos (keywordEach ks X.env)).map (·.2))) (AP X pins σ Q) X.xe s
def WS (X : Cx) (st : Stmt) : TS := fun D σ H => ∀ pins s, Inv X pins σ H s → wpAny (model X.prog X.w) X.A (exec st X.env) (SP X pins D) X.xe s
def WSs (X : Cx) (st : List Stmt) : TS := fun D σ H => ∀ pins s, Inv X pins σ H s → wpAny (model X.prog X.w) X.A (execs st X.env) (SP X pins D) X.xe s
section
variable {X : Cx} {e : Expr} {es : List Expr} {ks : List Keyword} {st : Stmt} {ss : List Stmt}
theorem pwe : PE X e (WE X e) := ⟨fun pins s _ _ _ I h => h pins s I⟩
theorem pwt : PT X e (WT X e) := ⟨fun pins s _ _ _ I h => h pins s I⟩
theorem pwa : PA X es (WA X es) := ⟨fun pos pins s _ _ _ I h => h pos pins s I⟩
theorem pwk : PK X ks (WK X ks) := ⟨fun pos pins s _ _ _ I h => h pos pins s I⟩
theorem pws : PS X st (WS X st) := ⟨fun pins s _ _ _ I h => h pins s I⟩
theorem pwss : PSs X ss (WSs X ss) := ⟨fun pins s _ _ _ I h => h pins s I⟩
variable {σ : L2.St} {H : Hp}
theorem WE.of {t : TE} {Q : VK} (h : PE X e t) (q : t σ H Q) : WE X e σ H Q := fun pins s I => h.run pins s σ H Q I q
theorem WT.of {t : TT} {Q : Bool → Hp → Prop} (h : PT X e t) (q : t σ H Q) : WT X e σ H Q := fun pins s I => h.run pins s σ H Q I q
theorem WA.of {t : TA} {Q : List V → Hp → Prop} (h : PA X es t) (q : t σ H Q) : WA X es σ H Q := fun pos pins s I => h.run pos pins s σ H Q I q
theorem WK.of {t : TA} {Q : List V → Hp → Prop} (h : PK X ks t) (q : t σ H Q) : WK X ks σ H Q := fun pos pins s I => h.run pos pins s σ H Q I q
theorem WS.of {t : TS} {D : Ends} (h : PS X st t) (q : t D σ H) : WS X st D σ H := fun pins s I => h.run pins s σ H D I q
theorem WSs.of {t : TS} {D : Ends} (h : PSs X ss t) (q : t D σ H) : WSs X ss D σ H := fun pins s I => h.run pins s σ H D I q
end
def Ex (H H' : Hp) : Prop := ∀ a o, H a = some o → H' a = some o
theorem Ex.refl (H : Hp) : Ex H H := fun _ _ h => h
theorem Ex.trans {H H1 H2 : Hp} (a : Ex H H1) (b : Ex H1 H2) : Ex H H2 := fun x o h => b x o (a x o h)
theorem Ex.new {H : Hp} {p : Addr} {o : HO} (h : H p = none) : Ex H (upd H p o) := fun a u e => by
  rw [upd_ne (ne_of_none e h)]
  exact e
theorem Ex.free {H H' : Hp} {p : Addr} (e : Ex H H') (h : H' p = none) : H p = none := by
  cases h1 : H p with
  | none => rfl
  | some o =>
    rw [e p o h1] at h
    cases h
mutual
inductive Dv (H : Hp) : V → PyData → Prop
  | non : Dv H .non .none
  | bl (b : Bool) : Dv H (.bl b) (.bool b)
  | int (i : Int) : Dv H (.int i) (.int i)
  | str (x : Str) : Dv H (.str x) (.str x)
  | lst {a : Addr} {xs : List V} {ds : List PyData} : H a = some (.lst xs) → DvA H xs ds → Dv H (.ref a) (.list ds)
  | tup {a : Addr} {xs : List V} {ds : List PyData} : H a = some (.tup xs) → DvA H xs ds → Dv H (.ref a) (.tuple ds)
inductive DvA (H : Hp) : List V → List PyData → Prop
  | nil : DvA H [] []
  | cons {v : V} {vs : List V} {d : PyData} {ds : List PyData} : Dv H v d → DvA H vs ds → DvA H (v :: vs) (d :: ds)
end
section
variable {H H' : Hp}
mutual
theorem Dv.mono (e : Ex H H') : ∀ {v : V} {d : PyData}, Dv H v d → Dv H' v d
  | _, _, .non => .non
  | _, _, .bl b => .bl b
  | _, _, .int i => .int i
  | _, _, .str x => .str x
  | _, _, .lst h hs => .lst (e _ _ h) (DvA.mono e hs)
  | _, _, .tup h hs => .tup (e _ _ h) (DvA.mono e hs)
theorem DvA.mono (e : Ex H H') : ∀ {vs : List V} {ds : List PyData}, DvA H vs ds → DvA H' vs ds
  | _, _, .nil => .nil
  | _, _, .cons h hs => .cons (Dv.mono e h) (DvA.mono e hs)
end
mutual
theorem Dv.dp {K : PySem.W.Frag} : ∀ {v : V} {d : PyData}, Dv H v d → Dp K H v d
  | _, _, .non => .non
  | _, _, .bl b => .bl b
  | _, _, .int i => .int i
  | _, _, .str x => .str x
  | _, _, .lst h hs => .lst (.inl (.inl h)) (DvA.dp hs)
  | _, _, .tup h hs => .tup (.inl (.inl h)) (DvA.dp hs)
theorem DvA.dp {K : PySem.W.Frag} : ∀ {vs : List V} {ds : List PyData}, DvA H vs ds → DpAll K H vs ds
  | _, _, .nil => .nil
  | _, _, .cons h hs => .cons (Dv.dp h) (DvA.dp hs)
end
theorem DvA.length : ∀ {vs : List V} {ds : List PyData}, DvA H vs ds → vs.length = ds.length
  | _, _, .nil => rfl
  | _, _, .cons _ hs => by rw [List.length_cons, List.length_cons, DvA.length hs]
theorem DvA.get : ∀ {vs : List V} {ds : List PyData} {i : Nat} {d : PyData}, DvA H vs ds → ds[i]? = some d → ∃ v, vs[i]? = some v ∧ Dv H v d
  | _, _, _, _, .nil, e => by simp at e
  | _, _, 0, _, .cons h _, e => by
    simp at e
    subst e
    exact ⟨_, rfl, h⟩
  | _, _, i + 1, d, .cons _ hs, e => by
    obtain ⟨v, h1, h2⟩ := DvA.get (i := i) hs (by simpa using e)
    exact ⟨v, by simpa using h1, h2⟩
theorem DvA.getV : ∀ {vs : List V} {ds : List PyData} {i : Nat} {v : V}, DvA H vs ds → vs[i]? = some v → ∃ d, ds[i]? = some d ∧ Dv H v d
  | _, _, _, _, .nil, e => by simp at e
  | _, _, 0, _, .cons h _, e => by
    simp at e
    subst e
    exact ⟨_, rfl, h⟩
  | _, _, i + 1, d, .cons _ hs, e => by
    obtain ⟨v, h1, h2⟩ := DvA.getV (i := i) hs (by simpa using e)
    exact ⟨v, by simpa using h1, h2⟩
theorem DvA.append : ∀ {vs ws : List V} {ds es : List PyData}, DvA H vs ds → DvA H ws es → DvA H (vs ++ ws) (ds ++ es)
  | _, _, _, _, .nil, s => s
  | _, _, _, _, .cons h t, s => .cons h (DvA.append t s)
theorem DvA.take : ∀ {vs : List V} {ds : List PyData} (n : Nat), DvA H vs ds → DvA H (vs.take n) (ds.take n)
  | _, _, 0, _ => .nil
  | _, _, _ + 1, .nil => .nil
  | _, _, n + 1, .cons r t => .cons r (DvA.take n t)
theorem DvA.drop : ∀ {vs : List V} {ds : List PyData} (n : Nat), DvA H vs ds → DvA H (vs.drop n) (ds.drop n)
  | _, _, 0, r => r
  | _, _, _ + 1, .nil => .nil
  | _, _, n + 1, .cons _ t => DvA.drop n t
theorem DvA.ints : ∀ (ns : List Int) {vs : List V}, DvA H vs (ns.map PyData.int) → vs = ns.map V.int
  | [], _, .nil => rfl
  | n :: ns, _, .cons (.int _) t => by rw [DvA.ints ns t]; rfl
theorem DvA.of_ints : ∀ (ns : List Int), DvA H (ns.map V.int) (ns.map PyData.int)
  | [] => .nil
  | n :: ns => .cons (.int n) (DvA.of_ints ns)
end
def Ez (G G' : Hp) : Prop := ∀ a o, G a = some o → (∀ φ, o ≠ .ext φ) → G' a = some o
theorem Ex.ez {G G' : Hp} (e : Ex G G') : Ez G G' := fun a o h _ => e a o h
section
variable {G G' : Hp}
mutual
theorem Dv.ez (e : Ez G G') : ∀ {v : V} {d : PyData}, Dv G v d → Dv G' v d
  | _, _, .non => .non
  | _, _, .bl b => .bl b
  | _, _, .int i => .int i
  | _, _, .str x => .str x
  | _, _, .lst h hs => .lst (e _ _ h fun _ z => nomatch z) (DvA.ez e hs)
  | _, _, .tup h hs => .tup (e _ _ h fun _ z => nomatch z) (DvA.ez e hs)
theorem DvA.ez (e : Ez G G') : ∀ {vs : List V} {ds : List PyData}, DvA G vs ds → DvA G' vs ds
  | _, _, .nil => .nil
  | _, _, .cons h hs => .cons (Dv.ez e h) (DvA.ez e hs)
end
end
structure ObP where
  p : Hp → V → Prop
  mono : ∀ {G G' : Hp} {v : V}, Ez G G' → p G v → p G' v
  ref : ∀ {G : Hp} {v : V}, p G v → ∃ a, v = .ref a
inductive OV where
  | im (d : PyData) | own (a : Addr) | scr (K : PySem.W.Frag) (ns : List Int) | pr (a : Addr) (d : PyData) | dic (kvs : List (PyData × PyData)) | ob (P : ObP)
def DicAt (G : Hp) (a : Addr) (ks : List PyData) (xs : List V) : Prop :=
  (∃ is : List Int, ks = is.map .int ∧ G a = some (.dK ((is.map fun i => (Sum.inl i : Key)).zip xs))) ∨
  ∃ (iss : List (List Int)) (o : Obj), ks = iss.map (fun is => .tuple (is.map .int)) ∧ G a = some (.frz o (.dT ((iss.map fun is => is.map fun i => (Sum.inl i : Key)).zip xs)))
theorem DicAt.mono {G G' : Hp} (e : Ex G G') {a : Addr} {ks : List PyData} {xs : List V} (h : DicAt G a ks xs) : DicAt G' a ks xs := by
  rcases h with ⟨is, h1, h2⟩ | ⟨iss, o, h1, h2⟩
  · exact .inl ⟨is, h1, e _ _ h2⟩
  · exact .inr ⟨iss, o, h1, e _ _ h2⟩
def RO (G : Hp) (v : V) : OV → Prop
  | .im d => Dv G v d
  | .own a => v = .ref a
  | .scr K ns => ∃ a, v = .ref a ∧ SqL K G a (ns.map V.int)
  | .pr a d => ∃ t v2, v = .ref t ∧ G t = some (.tup [.ref a, v2]) ∧ Dv G v2 d
  | .dic kvs => ∃ a xs, v = .ref a ∧ DicAt G a (kvs.map (·.1)) xs ∧ DvA G xs (kvs.map (·.2))
  | .ob P => P.p G v
abbrev ROs (G : Hp) : List V → List OV → Prop := Paired (RO G)
theorem sql_mono {K : PySem.W.Frag} {G G' : Hp} (e : Ex G G') {a : Addr} {xs : List V} (h : SqL K G a xs) : SqL K G' a xs := by
  rcases h with (h | ⟨o, h⟩) | h
  · exact .inl (.inl (e _ _ h))
  · exact .inl (.inr ⟨o, e _ _ h⟩)
  · exact .inr h
theorem RO.mono {G G' : Hp} (e : Ex G G') {v : V} : ∀ {o : OV}, RO G v o → RO G' v o
  | .im _, h => Dv.mono e h
  | .own _, h => h
  | .scr _ _, ⟨a, h1, h2⟩ => ⟨a, h1, sql_mono e h2⟩
  | .pr _ _, ⟨t, v2, h1, h2, h3⟩ => ⟨t, v2, h1, e _ _ h2, h3.mono e⟩
  | .dic _, ⟨a, xs, h1, h2, h3⟩ => ⟨a, xs, h1, h2.mono e, h3.mono e⟩
  | .ob P, h => P.mono e.ez h
theorem ROs.mono {G G' : Hp} (e : Ex G G') : ∀ {vs : List V} {os : List OV}, ROs G vs os → ROs G' vs os
  | _, _, .nil => .nil
  | _, _, .cons h t => .cons (h.mono e) (ROs.mono e t)
theorem ROs.length {G : Hp} {vs : List V} {os : List OV} (h : ROs G vs os) : vs.length = os.length := Paired.length h
theorem ROs.ims {G : Hp} : ∀ {vs : List V} {ds : List PyData}, ROs G vs (ds.map .im) → DvA G vs ds
  | _, [], .nil => .nil
  | _, _ :: _, .cons h t => .cons h (ROs.ims t)
theorem ROs.of_ims {G : Hp} : ∀ {vs : List V} {ds : List PyData}, DvA G vs ds → ROs G vs (ds.map .im)
  | _, _, .nil => .nil
  | _, _, .cons h t => .cons h (ROs.of_ims t)
theorem ROs.append {G : Hp} : ∀ {vs ws : List V} {os ps : List OV}, ROs G vs os → ROs G ws ps → ROs G (vs ++ ws) (os ++ ps)
  | _, _, _, _, .nil, s => s
  | _, _, _, _, .cons h t, s => .cons h (ROs.append t s)
theorem ROs.get {G : Hp} : ∀ {vs : List V} {os : List OV} {i : Nat} {o : OV}, ROs G vs os → os[i]? = some o → ∃ v, vs[i]? = some v ∧ RO G v o
  | _, _, _, _, .nil, e => by simp at e
  | _, _, 0, _, .cons h _, e => by
    simp at e
    subst e
    exact ⟨_, rfl, h⟩
  | _, _, i + 1, d, .cons _ hs, e => by
    obtain ⟨v, h1, h2⟩ := ROs.get (i := i) hs (by simpa using e)
    exact ⟨v, by simpa using h1, h2⟩
theorem ROs.getV {G : Hp} : ∀ {vs : List V} {os : List OV} {i : Nat} {v : V}, ROs G vs os → vs[i]? = some v → ∃ o, os[i]? = some o ∧ RO G v o
  | _, _, _, _, .nil, e => by simp at e
  | _, _, 0, _, .cons h _, e => by
    simp at e
    subst e
    exact ⟨_, rfl, h⟩
  | _, _, i + 1, d, .cons _ hs, e => by
    obtain ⟨v, h1, h2⟩ := ROs.getV (i := i) hs (by simpa using e)
    exact ⟨v, by simpa using h1, h2⟩
theorem ROs.set {G : Hp} {v : V} {o : OV} (r : RO G v o) : ∀ {vs : List V} {os : List OV} (i : Nat), ROs G vs os → ROs G (vs.set i v) (os.set i o)
  | _, _, _, .nil => .nil
  | _, _, 0, .cons _ t => .cons r t
  | _, _, i + 1, .cons q t => .cons q (ROs.set r i t)
theorem ROs.take {G : Hp} : ∀ {vs : List V} {ds : List OV} (n : Nat), ROs G vs ds → ROs G (vs.take n) (ds.take n)
  | _, _, 0, _ => .nil
  | _, _, _ + 1, .nil => .nil
  | _, _, n + 1, .cons r t => .cons r (ROs.take n t)
theorem ROs.drop {G : Hp} : ∀ {vs : List V} {ds : List OV} (n : Nat), ROs G vs ds → ROs G (vs.drop n) (ds.drop n)
  | _, _, 0, r => r
  | _, _, _ + 1, .nil => .nil
  | _, _, n + 1, .cons _ t => ROs.drop n t
theorem ROs.snoc {G : Hp} {vs : List V} {os : List OV} {v : V} {o : OV} (h : ROs G vs os) (r : RO G v o) : ROs G (vs ++ [v]) (os ++ [o]) := h.append (.cons r .nil)
theorem ROs.reverse {G : Hp} : ∀ {vs : List V} {os : List OV}, ROs G vs os → ROs G vs.reverse os.reverse
  | _, _, .nil => .nil
  | _, _, .cons h t => by
    rw [List.reverse_cons, List.reverse_cons]
    exact (ROs.reverse t).snoc h
structure Cir where
  C : Addr
  sz : Int
  bg : List Int
  ops : List (List Int)
  ent : List Str
inductive Th where
  | dT (kvs : List (List Int × OV))
  | cir (c : Cir)
structure Mu where
  l : Addr → Option (List OV)
  d : Addr → Option Th
  C : Addr
instance : CoeFun Mu (fun _ => Addr → Option (List OV)) := ⟨Mu.l⟩
theorem mu_ext {μ ν : Mu} (h : ∀ b : Addr, μ b = ν b) (hd : μ.d = ν.d) (hC : μ.C = ν.C) : μ = ν := by
  obtain ⟨l, d, C⟩ := μ
  obtain ⟨l', d', C'⟩ := ν
  have h : l = l' := funext h
  cases h
  cases hd
  cases hC
  rfl
def Mu.put (μ : Mu) (a : Addr) (l : List OV) : Mu := { μ with l := fun b => if b = a then some l else μ b }
def Mu.del (μ : Mu) (a : Addr) : Mu := { μ with l := fun b => if b = a then none else μ b }
theorem put_same {μ : Mu} {a : Addr} {l : List OV} : μ.put a l a = some l := if_pos rfl
theorem put_ne {μ : Mu} {a b : Addr} {l : List OV} (h : b ≠ a) : μ.put a l b = μ b := if_neg h
theorem put_put {μ : Mu} {a : Addr} {l m : List OV} : (μ.put a l).put a m = μ.put a m := by
  unfold Mu.put
  congr 1
  funext b
  dsimp only
  split <;> rfl
def Mu.putD (μ : Mu) (a : Addr) (t : Th) : Mu := { μ with d := fun b => if b = a then some t else μ.d b }
def Mu.delD (μ : Mu) (a : Addr) : Mu := { μ with d := fun b => if b = a then none else μ.d b }
theorem putD_same {μ : Mu} {a : Addr} {t : Th} : (μ.putD a t).d a = some t := if_pos rfl
theorem putD_ne {μ : Mu} {a b : Addr} {t : Th} (h : b ≠ a) : (μ.putD a t).d b = μ.d b := if_neg h
def keyT (is : List Int) : List Key := is.map fun i => Sum.inl i
def ThOk (C : Addr) (who : Addr → Option Addr) (G H : Hp) (a : Addr) : Th → Prop
  | .dT kvs => ∃ xs : List V, H a = some (.dT ((kvs.map fun p => keyT p.1).zip xs)) ∧ ROs G xs (kvs.map (·.2))
  | .cir c => ∃ dx q r vb xs ys, H a = some (.ins c.C dx [("size", .int c.sz), ("beginning", vb), ("operations", .ref q), ("entries", .ref r)]) ∧ H dx = some (.own a) ∧ H q = some (.lst xs) ∧ H r = some (.lst ys) ∧
      who dx = some a ∧ who q = some a ∧ who r = some a ∧ q ≠ r ∧ Dv G vb (.tuple (c.bg.map .int)) ∧ DvA G xs (c.ops.map fun is => .tuple (is.map .int)) ∧ DvA G ys (c.ent.map .str)
theorem ThOk.mono {C : Addr} {who : Addr → Option Addr} {G G' H : Hp} {a : Addr} (e : Ex G G') : ∀ {t : Th}, ThOk C who G H a t → ThOk C who G' H a t
  | .dT kvs, ⟨xs, h1, h2⟩ => ⟨xs, h1, h2.mono e⟩
  | .cir c, ⟨dx, q, r, vb, xs, ys, h1, h2, h3, h4, h5, h6, h7, h8, h9, h10, h11⟩ => ⟨dx, q, r, vb, xs, ys, h1, h2, h3, h4, h5, h6, h7, h8, h9.mono e, h10.mono e, h11.mono e⟩
theorem ThOk.keep {C : Addr} {who : Addr → Option Addr} {G H H' : Hp} {a : Addr} (hw : who a = some a) (k : ∀ x, who x = some a → H' x = H x) : ∀ {t : Th}, ThOk C who G H a t → ThOk C who G H' a t
  | .dT kvs, ⟨xs, h1, h2⟩ => ⟨xs, (k _ hw).trans h1, h2⟩
  | .cir c, ⟨dx, q, r, vb, xs, ys, h1, h2, h3, h4, h5, h6, h7, h8, h9, h10, h11⟩ => ⟨dx, q, r, vb, xs, ys, (k _ hw).trans h1, (k _ h5).trans h2, (k _ h6).trans h3, (k _ h7).trans h4, h5, h6, h7, h8, h9, h10, h11⟩
def Mutb : HO → Prop
  | .lst _ => True
  | .dT _ => True
  | .ins _ _ _ => True
  | .own _ => True
  | _ => False
structure Thg (who : Addr → Option Addr) (G H : Hp) (μ : Mu) : Prop where
  ok : ∀ a t, μ.d a = some t → who a = some a ∧ ThOk μ.C who G H a t
  of : ∀ x a, who x = some a → G x = none ∧ μ x = none ∧ (∃ o, H x = some o ∧ Mutb o) ∧ (μ.d a).isSome = true
theorem Thg.keep {who : Addr → Option Addr} {G G' H H' : Hp} {μ μ' : Mu} (h : Thg who G H μ) (e : Ex G G') (hd : μ'.d = μ.d) (hC : μ'.C = μ.C) (k : ∀ x a, who x = some a → H' x = H x ∧ G' x = none ∧ μ' x = none) : Thg who G' H' μ' :=
  ⟨fun a t q => by
    rw [hd] at q
    obtain ⟨h1, h2⟩ := h.ok a t q
    rw [hC]
    exact ⟨h1, (h2.mono e).keep h1 fun x hx => (k x a hx).1⟩, fun x a hx => by
    obtain ⟨h1, h2, h3, h4⟩ := h.of x a hx
    obtain ⟨k1, k2, k3⟩ := k x a hx
    exact ⟨k2, k3, by rw [k1]; exact h3, by rw [hd]; exact h4⟩⟩
structure RM (G H : Hp) (μ : Mu) : Prop where
  ex : Ex G H
  own : ∀ a l, μ a = some l → G a = none ∧ ∃ vs, H a = some (.lst vs) ∧ ROs G vs l
  thg : ∃ who, Thg who G H μ
abbrev Rho := List (Option OV)
structure RV (G : Hp) (ρ : Rho) (σ : L2.St) : Prop where
  len : σ.length = ρ.length
  get : ∀ (i : Nat) o, ρ[i]? = some (some o) → ∃ v, σ[i]? = some (some v) ∧ RO G v o
section
variable {G G' H H' : Hp} {μ : Mu} {ρ : Rho} {σ : L2.St}
theorem RV.mono (h : RV G ρ σ) (e : Ex G G') : RV G' ρ σ := ⟨h.len, fun i o q => let ⟨v, a, b⟩ := h.get i o q; ⟨v, a, b.mono e⟩⟩
theorem RV.set (h : RV G ρ σ) {i : Nat} {v : V} {o : OV} (r : RO G v o) : RV G (ρ.set i (some o)) (σ.set i (some v)) := by
  refine ⟨by rw [List.length_set, List.length_set, h.len], fun j p q => ?_⟩
  by_cases e : i = j
  · subst e
    by_cases hl : i < ρ.length
    · rw [List.getElem?_set_self hl] at q
      cases q
      exact ⟨v, List.getElem?_set_self (by rw [h.len]; exact hl), r⟩
    · rw [List.getElem?_eq_none (by rw [List.length_set]; omega)] at q
      cases q
  · rw [List.getElem?_set_ne e] at q ⊢
    exact h.get j p q
theorem RV.wipe (h : RV G ρ σ) : ∀ (vs : List Nat), RV G (vs.foldr (fun v r => r.set v none) ρ) (L2.wipe σ vs)
  | [] => h
  | v :: vs => by
    have ih := RV.wipe h vs
    refine ⟨by show ((L2.wipe σ vs).set v none).length = _; rw [List.length_set, ih.len, List.foldr_cons, List.length_set], fun j p q => ?_⟩
    rw [List.foldr_cons] at q
    by_cases e : v = j
    · subst e
      by_cases hl : v < (vs.foldr (fun v r => r.set v none) ρ).length
      · rw [List.getElem?_set_self hl] at q
        cases q
      · rw [List.getElem?_eq_none (by rw [List.length_set]; omega)] at q
        cases q
    · rw [List.getElem?_set_ne e] at q
      obtain ⟨v', a, b⟩ := ih.get j p q
      refine ⟨v', ?_, b⟩
      show ((L2.wipe σ vs).set v none)[j]? = _
      rw [List.getElem?_set_ne e]
      exact a
theorem RM.fresh (r : RM G H μ) {p : Addr} (h : H p = none) : μ p = none := by
  cases q : μ p with
  | none => rfl
  | some l =>
    obtain ⟨_, vs, e, _⟩ := r.own p l q
    rw [h] at e
    cases e
theorem Thg.ne {who : Addr → Option Addr} (t : Thg who G H μ) {p x a : Addr} (h : H p = none) (hx : who x = some a) : x ≠ p := fun e => by
  obtain ⟨o, ho, _⟩ := (t.of x a hx).2.2.1
  rw [e, h] at ho
  cases ho
theorem Thg.neL {who : Addr → Option Addr} (t : Thg who G H μ) {p x a : Addr} {l : List OV} (h : μ p = some l) (hx : who x = some a) : x ≠ p := fun e => by
  have := (t.of x a hx).2.1
  rw [e, h] at this
  cases this
theorem RM.lay (r : RM G H μ) {p : Addr} {o : HO} (h : H p = none) : RM (upd G p o) (upd H p o) μ := by
  refine ⟨fun a u e => ?_, fun a l q => ?_, ?_⟩
  · by_cases ha : a = p
    · subst ha
      rw [upd_same] at e ⊢
      exact e
    · rw [upd_ne ha] at e ⊢
      exact r.ex a u e
  · obtain ⟨g, vs, e, w⟩ := r.own a l q
    have ha : a ≠ p := ne_of_none e h
    refine ⟨by rw [upd_ne ha]; exact g, vs, by rw [upd_ne ha]; exact e, w.mono (Ex.new (r.ex.free h))⟩
  · obtain ⟨who, t⟩ := r.thg
    refine ⟨who, t.keep (Ex.new (r.ex.free h)) rfl rfl fun x a hx => ?_⟩
    have n := t.ne h hx
    exact ⟨upd_ne n, by rw [upd_ne n]; exact (t.of x a hx).1, (t.of x a hx).2.1⟩
theorem RM.new (r : RM G H μ) {p : Addr} {vs : List V} {l : List OV} (h : H p = none) (w : ROs G vs l) : RM G (upd H p (.lst vs)) (μ.put p l) := by
  refine ⟨r.ex.trans (Ex.new h), fun a m q => ?_, ?_⟩
  · by_cases ha : a = p
    · subst ha
      rw [put_same] at q
      cases q
      exact ⟨r.ex.free h, vs, upd_same, w⟩
    · rw [put_ne ha] at q
      obtain ⟨g, us, e, w⟩ := r.own a m q
      exact ⟨g, us, by rw [upd_ne ha]; exact e, w⟩
  · obtain ⟨who, t⟩ := r.thg
    refine ⟨who, t.keep (Ex.refl G) rfl rfl fun x a hx => ?_⟩
    have n := t.ne h hx
    exact ⟨upd_ne n, (t.of x a hx).1, by rw [put_ne n]; exact (t.of x a hx).2.1⟩
theorem RM.chg (r : RM G H μ) {p : Addr} {vs : List V} {l m : List OV} (h : μ p = some m) (w : ROs G vs l) : RM G (upd H p (.lst vs)) (μ.put p l) := by
  obtain ⟨g0, us0, e0, _⟩ := r.own p m h
  refine ⟨fun a u e => ?_, fun a m q => ?_, ?_⟩
  · rw [upd_ne (ne_of_none e g0)]
    exact r.ex a u e
  · by_cases ha : a = p
    · subst ha
      rw [put_same] at q
      cases q
      exact ⟨g0, vs, upd_same, w⟩
    · rw [put_ne ha] at q
      obtain ⟨g, us, e, w⟩ := r.own a m q
      exact ⟨g, us, by rw [upd_ne ha]; exact e, w⟩
  · obtain ⟨who, t⟩ := r.thg
    refine ⟨who, t.keep (Ex.refl G) rfl rfl fun x a hx => ?_⟩
    have n := t.neL h hx
    exact ⟨upd_ne n, (t.of x a hx).1, by rw [put_ne n]; exact (t.of x a hx).2.1⟩
theorem RM.frz (r : RM G H μ) {p : Addr} {ds : List PyData} (h : μ p = some (ds.map .im)) : ∃ vs, H p = some (.lst vs) ∧ G p = none ∧ DvA G vs ds ∧ RM (upd G p (.lst vs)) H (μ.del p) := by
  obtain ⟨g0, vs, e0, w⟩ := r.own p _ h
  refine ⟨vs, e0, g0, ROs.ims w, fun a u e => ?_, fun a m q => ?_, ?_⟩
  · by_cases ha : a = p
    · subst ha
      rw [upd_same] at e
      cases e
      exact e0
    · rw [upd_ne ha] at e
      exact r.ex a u e
  · by_cases ha : a = p
    · subst ha
      rw [show μ.del a a = none from if_pos rfl] at q
      cases q
    · rw [show μ.del p a = μ a from if_neg ha] at q
      obtain ⟨g, us, e, w⟩ := r.own a m q
      exact ⟨by rw [upd_ne ha]; exact g, us, e, w.mono (Ex.new g0)⟩
  · obtain ⟨who, t⟩ := r.thg
    refine ⟨who, t.keep (Ex.new g0) rfl rfl fun x a hx => ?_⟩
    have n := t.neL h hx
    exact ⟨rfl, by rw [upd_ne n]; exact (t.of x a hx).1, by rw [show μ.del p x = μ x from if_neg n]; exact (t.of x a hx).2.1⟩
theorem RM.drop (r : RM G H μ) {μ' : Mu} (h : ∀ a l, μ' a = some l → μ a = some l) (hd : μ'.d = μ.d) (hC : μ'.C = μ.C) : RM G H μ' := ⟨r.ex, fun a l q => r.own a l (h a l q), by
  obtain ⟨who, t⟩ := r.thg
  refine ⟨who, t.keep (Ex.refl G) hd hC fun x a hx => ⟨rfl, (t.of x a hx).1, ?_⟩⟩
  cases q : μ' x with
  | none => rfl
  | some l =>
    have := (t.of x a hx).2.1
    rw [h x l q] at this
    cases this⟩
theorem RM.zero (C : Addr) : RM H H ⟨fun _ => none, fun _ => none, C⟩ := ⟨Ex.refl H, fun _ _ h => (nomatch h : False).elim, fun _ => none, fun _ _ h => (nomatch h : False).elim, fun _ _ h => (nomatch h : False).elim⟩
end
end Nx
namespace Nx
open PySem PySem.Spec PyProof.Rows L2
def Fin (G : Hp) (Φ : OV → Mu → Prop) (Q : VK) : Prop := ∀ v o μ' G' H', Φ o μ' → Ex G G' → RM G' H' μ' → RO G' v o → Q v H'
theorem Fin.later {G G' : Hp} {Φ : OV → Mu → Prop} {Q : VK} (f : Fin G Φ Q) (e : Ex G G') : Fin G' Φ Q := fun v o μ' G2 H' h e2 => f v o μ' G2 H' h (e.trans e2)
def DE (X : Cx) (e : Expr) (ρ : Rho) (μ : Mu) (Φ : OV → Mu → Prop) : Prop := ∀ G H σ, RM G H μ → RV G ρ σ → ∀ Q : VK, Fin G Φ Q → WE X e σ H Q
def DT (X : Cx) (e : Expr) (ρ : Rho) (μ : Mu) (Φ : Bool → Mu → Prop) : Prop := ∀ G H σ, RM G H μ → RV G ρ σ → ∀ Q : Bool → Hp → Prop, (∀ b μ' G' H', Φ b μ' → Ex G G' → RM G' H' μ' → Q b H') → WT X e σ H Q
def DA (X : Cx) (es : List Expr) (ρ : Rho) (μ : Mu) (Φ : List OV → Mu → Prop) : Prop := ∀ G H σ, RM G H μ → RV G ρ σ → ∀ Q : List V → Hp → Prop, (∀ vs os μ' G' H', Φ os μ' → Ex G G' → RM G' H' μ' → ROs G' vs os → Q vs H') → WA X es σ H Q
def DK (X : Cx) (ks : List Keyword) (ρ : Rho) (μ : Mu) (Φ : List OV → Mu → Prop) : Prop := ∀ G H σ, RM G H μ → RV G ρ σ → ∀ Q : List V → Hp → Prop, (∀ vs os μ' G' H', Φ os μ' → Ex G G' → RM G' H' μ' → ROs G' vs os → Q vs H') → WK X ks σ H Q
structure DEnds where
  nx : Rho → Mu → Prop
  rt : OV → Mu → Prop
  bk : Rho → Mu → Prop := fun _ _ => False
  ct : Rho → Mu → Prop := fun _ _ => False
def FinS (G : Hp) (P : Rho → Mu → Prop) (Q : L2.St → Hp → Prop) : Prop := ∀ ρ' μ' G' H' σ', P ρ' μ' → Ex G G' → RM G' H' μ' → RV G' ρ' σ' → Q σ' H'
theorem FinS.later {G G' : Hp} {P : Rho → Mu → Prop} {Q : L2.St → Hp → Prop} (f : FinS G P Q) (e : Ex G G') : FinS G' P Q := fun ρ' μ' G2 H' σ' h e2 => f ρ' μ' G2 H' σ' h (e.trans e2)
structure FinE (G : Hp) (D : DEnds) (E : Ends) : Prop where
  nx : FinS G D.nx E.nx
  rt : Fin G D.rt E.rt
  bk : FinS G D.bk E.bk
  ct : FinS G D.ct E.ct
theorem FinE.later {G G' : Hp} {D : DEnds} {E : Ends} (f : FinE G D E) (e : Ex G G') : FinE G' D E := ⟨f.nx.later e, f.rt.later e, f.bk.later e, f.ct.later e⟩
def DS (X : Cx) (st : Stmt) (ρ : Rho) (μ : Mu) (D : DEnds) : Prop := ∀ G H σ, RM G H μ → RV G ρ σ → ∀ E : Ends, FinE G D E → WS X st E σ H
def DSs (X : Cx) (ss : List Stmt) (ρ : Rho) (μ : Mu) (D : DEnds) : Prop := ∀ G H σ, RM G H μ → RV G ρ σ → ∀ E : Ends, FinE G D E → WSs X ss E σ H
section
variable {X : Cx} {a b c e : Expr} {es : List Expr} {ρ : Rho} {μ : Mu} {Φ : OV → Mu → Prop} {pos : Pos}
theorem DE.imp {Ψ : OV → Mu → Prop} (h : DE X e ρ μ Φ) (k : ∀ o μ', Φ o μ' → Ψ o μ') : DE X e ρ μ Ψ := fun G H σ r v Q f => h G H σ r v Q fun v o μ' G' H' q => f v o μ' G' H' (k o μ' q)
theorem DT.imp {Φ Ψ : Bool → Mu → Prop} (h : DT X e ρ μ Φ) (k : ∀ o μ', Φ o μ' → Ψ o μ') : DT X e ρ μ Ψ := fun G H σ r v Q f => h G H σ r v Q fun o μ' G' H' q => f o μ' G' H' (k o μ' q)
theorem DA.imp {Φ Ψ : List OV → Mu → Prop} (h : DA X es ρ μ Φ) (k : ∀ o μ', Φ o μ' → Ψ o μ') : DA X es ρ μ Ψ := fun G H σ r v Q f => h G H σ r v Q fun v o μ' G' H' q => f v o μ' G' H' (k o μ' q)
theorem DSs.imp {ss : List Stmt} {D D' : DEnds} (h : DSs X ss ρ μ D) (k1 : ∀ r m, D.nx r m → D'.nx r m) (k2 : ∀ o m, D.rt o m → D'.rt o m) (k3 : ∀ r m, D.bk r m → D'.bk r m) (k4 : ∀ r m, D.ct r m → D'.ct r m) : DSs X ss ρ μ D' :=
  fun G H σ r v E f => h G H σ r v E ⟨fun ρ' μ' G' H' σ' q => f.nx ρ' μ' G' H' σ' (k1 _ _ q), fun v o μ' G' H' q => f.rt v o μ' G' H' (k2 _ _ q), fun ρ' μ' G' H' σ' q => f.bk ρ' μ' G' H' σ' (k3 _ _ q), fun ρ' μ' G' H' σ' q => f.ct ρ' μ' G' H' σ' (k4 _ _ q)⟩
theorem DS.imp {ss : Stmt} {D D' : DEnds} (h : DS X ss ρ μ D) (k1 : ∀ r m, D.nx r m → D'.nx r m) (k2 : ∀ o m, D.rt o m → D'.rt o m) (k3 : ∀ r m, D.bk r m → D'.bk r m) (k4 : ∀ r m, D.ct r m → D'.ct r m) : DS X ss ρ μ D' :=
  fun G H σ r v E f => h G H σ r v E ⟨fun ρ' μ' G' H' σ' q => f.nx ρ' μ' G' H' σ' (k1 _ _ q), fun v o μ' G' H' q => f.rt v o μ' G' H' (k2 _ _ q), fun ρ' μ' G' H' σ' q => f.bk ρ' μ' G' H' σ' (k3 _ _ q), fun ρ' μ' G' H' σ' q => f.ct ρ' μ' G' H' σ' (k4 _ _ q)⟩
theorem de_frz {ds : List PyData} {p : Addr} (h : DE X e ρ μ fun o μ' => ∃ p ds, o = .own p ∧ μ' p = some (ds.map .im) ∧ Φ (.im (.list ds)) (μ'.del p)) : DE X e ρ μ Φ := fun G H σ r v Q f =>
  h G H σ r v Q fun v o μ' G' H' q e m ro => by
    obtain ⟨p, ds, rfl, hp, q⟩ := q
    obtain ⟨vs, e0, g0, w, m'⟩ := m.frz hp
    have ro : v = .ref p := ro
    subst ro
    exact f _ _ _ _ _ q (e.trans (Ex.new g0)) m' (Dv.lst upd_same (w.mono (Ex.new g0)))
theorem de_var (i : Nat) {x : Str} {o : OV} (hN : X.N[i]? = some x) (hv : Vis X.env.scope x) (hρ : ρ[i]? = some (some o)) (h : Φ o μ) (hd : (x == ("__debug__" : Str)) = false := by decide) (hcd : (x == ("__classdict__" : Str)) = false := by decide) : DE X (.Name x pos) ρ μ Φ := fun G H σ r v Q f => by
  obtain ⟨u, h1, h2⟩ := v.get i o hρ
  exact WE.of (pe_var hN hv hd hcd) ⟨u, h1, f u o μ G H h (Ex.refl G) r h2⟩
theorem de_v (i : Nat) {x : Str} {o : OV} (hρ : ρ[i]? = some (some o)) (h : Φ o μ) (hN : X.N[i]? = some x := by rfl) (hv : Vis X.env.scope x := by first | exact Or.inl rfl | exact Or.inr (Or.inl rfl) | exact Or.inr (Or.inr rfl))
    (hd : (x == ("__debug__" : Str)) = false := by decide) (hcd : (x == ("__classdict__" : Str)) = false := by decide) : DE X (.Name x pos) ρ μ Φ := de_var i hN hv hρ h hd hcd
theorem de_int {i : Int} {j : Nat} (h : Φ (.im (.int i)) μ) : DE X (.Constant (.int i) j pos) ρ μ Φ := fun G H σ r v Q f => WE.of pe_int (f _ _ _ _ _ h (Ex.refl G) r (Dv.int i))
theorem de_bl {i : Bool} {j : Nat} (h : Φ (.im (.bool i)) μ) : DE X (.Constant (.bool i) j pos) ρ μ Φ := fun G H σ r v Q f => WE.of pe_bl (f _ _ _ _ _ h (Ex.refl G) r (Dv.bl i))
theorem de_non {j : Nat} (h : Φ (.im .none) μ) : DE X (.Constant .none j pos) ρ μ Φ := fun G H σ r v Q f => WE.of pe_non (f _ _ _ _ _ h (Ex.refl G) r Dv.non)
theorem de_str {i : Str} {j : Nat} (h : Φ (.im (.str i)) μ) : DE X (.Constant (.str i) j pos) ρ μ Φ := fun G H σ r v Q f => WE.of pe_str (f _ _ _ _ _ h (Ex.refl G) r (Dv.str i))
def OpD (r : R2) (x y : OV) (μ : Mu) (Φ : OV → Mu → Prop) : Prop := ∀ G H vx vy, RM G H μ → RO G vx x → RO G vy y → ∀ Q : VK, Fin G Φ Q → r vx vy H Q
theorem de_op {op : Operator} {r : R2} (ho : OpR X (binaryOp op) r) (h : DE X a ρ μ fun x μ1 => DE X b ρ μ1 fun y μ2 => OpD r x y μ2 Φ) : DE X (.BinOp a op b pos) ρ μ Φ := fun G H σ m v Q f =>
  WE.of (pe_op ho pwe pwe) (h G H σ m v _ fun vx x μ1 G1 H1 q1 e1 m1 r1 => q1 G1 H1 σ m1 (v.mono e1) _ fun vy y μ2 G2 H2 q2 e2 m2 r2 => q2 G2 H2 vx vy m2 (r1.mono e2) r2 Q (f.later (e1.trans e2)))
theorem de_cmp {op : CmpOp} {r : R2} (ho : OpR X (compareOp op) r) (hm : behindInMarks op b = false) (h : DE X a ρ μ fun x μ1 => DE X b ρ μ1 fun y μ2 => OpD r x y μ2 Φ) : DE X (.Compare a [op] [b] pos) ρ μ Φ := fun G H σ m v Q f =>
  WE.of (pe_cmpR ho pwe pwe hm) (h G H σ m v _ fun vx x μ1 G1 H1 q1 e1 m1 r1 => q1 G1 H1 σ m1 (v.mono e1) _ fun vy y μ2 G2 H2 q2 e2 m2 r2 => q2 G2 H2 vx vy m2 (r1.mono e2) r2 Q (f.later (e1.trans e2)))
theorem dt_cmp {Φ : Bool → Mu → Prop} {op : CmpOp} {r : R2} (ho : OpR X (compareOp op) r) (hm : behindInMarks op b = false) (h : DE X a ρ μ fun x μ1 => DE X b ρ μ1 fun y μ2 => OpD r x y μ2 fun z μ3 => ∃ k, z = .im (.bool k) ∧ Φ k μ3) : DT X (.Compare a [op] [b] pos) ρ μ Φ := fun G H σ m v Q f =>
  WT.of (pt_cmpR ho pwe pwe hm) (h G H σ m v _ fun vx x μ1 G1 H1 q1 e1 m1 r1 => q1 G1 H1 σ m1 (v.mono e1) _ fun vy y μ2 G2 H2 q2 e2 m2 r2 => q2 G2 H2 vx vy m2 (r1.mono e2) r2 _ fun vz z μ3 G3 H3 q3 e3 m3 r3 => by
    obtain ⟨k, rfl, q⟩ := q3
    cases r3
    exact ⟨k, rfl, f k μ3 G3 H3 q ((e1.trans e2).trans e3) m3⟩)
theorem od_I0 {g : Int → Int → Int} {i j : Int} (h : Φ (.im (.int (g i j))) μ) : OpD (rI0 fun i j => .int (g i j)) (.im (.int i)) (.im (.int j)) μ Φ := fun G H vx vy m rx ry Q f => by
  cases rx
  cases ry
  exact ⟨i, j, rfl, rfl, f _ _ μ G H h (Ex.refl G) m (Dv.int _)⟩
theorem od_B0 {g : Int → Int → Bool} {i j : Int} (h : Φ (.im (.bool (g i j))) μ) : OpD (rI0 fun i j => .bl (g i j)) (.im (.int i)) (.im (.int j)) μ Φ := fun G H vx vy m rx ry Q f => by
  cases rx
  cases ry
  exact ⟨i, j, rfl, rfl, f _ _ μ G H h (Ex.refl G) m (Dv.bl _)⟩
theorem od_I {C : Int → Int → Prop} {g : Int → Int → Int} {i j : Int} (hc : C i j) (h : Φ (.im (.int (g i j))) μ) : OpD (rI C fun i j => .int (g i j)) (.im (.int i)) (.im (.int j)) μ Φ := fun G H vx vy m rx ry Q f => by
  cases rx
  cases ry
  exact ⟨i, j, rfl, rfl, hc, f _ _ μ G H h (Ex.refl G) m (Dv.int _)⟩
theorem OpD.or {r r' : R2} {x y : OV} (h : OpD r x y μ Φ ∨ OpD r' x y μ Φ) : OpD (fun x y H Q => r x y H Q ∨ r' x y H Q) x y μ Φ := fun G H vx vy m rx ry Q f => by
  rcases h with h | h
  · exact .inl (h G H vx vy m rx ry Q f)
  · exact .inr (h G H vx vy m rx ry Q f)
def AddD (x y : OV) (μ : Mu) (Φ : OV → Mu → Prop) : Prop :=
  (∃ i j, x = .im (.int i) ∧ y = .im (.int j) ∧ Φ (.im (.int (i + j))) μ) ∨
  (∃ xs ys, x = .im (.list xs) ∧ y = .im (.list ys) ∧ xs.length + ys.length ≤ 100000 ∧ Φ (.im (.list (xs ++ ys))) μ) ∨
  (∃ x' y', x = .im (.str x') ∧ y = .im (.str y') ∧ x'.length + y'.length ≤ 100000 ∧ Φ (.im (.str (x' ++ y'))) μ)
theorem od_cat {xs ys : List PyData} (hz : xs.length + ys.length ≤ 100000) (h : Φ (.im (.list (xs ++ ys))) μ) : OpD rCat (.im (.list xs)) (.im (.list ys)) μ Φ := fun G H vx vy m rx ry Q f => by
  cases rx with
  | lst h1 w1 =>
    cases ry with
    | lst h2 w2 =>
      refine ⟨_, _, _, _, rfl, rfl, m.ex _ _ h1, m.ex _ _ h2, by rw [w1.length, w2.length]; exact Nat.le_trans hz (by decide), fun p hp => ?_⟩
      have n := m.ex.free hp
      exact f _ _ μ _ _ h (Ex.new n) (m.lay hp) (Dv.lst upd_same ((w1.append w2).mono (Ex.new n)))
theorem de_add (h : DE X a ρ μ fun x μ1 => DE X b ρ μ1 fun y μ2 => AddD x y μ2 Φ) : DE X (.BinOp a .Add b pos) ρ μ Φ := by
  refine de_op ((op_add.or op_cat).or op_add_str) (h.imp fun x μ1 h1 => h1.imp fun y μ2 h2 => ?_)
  rcases h2 with ⟨i, j, rfl, rfl, q⟩ | ⟨xs, ys, rfl, rfl, hz, q⟩ | ⟨xs, ys, rfl, rfl, hz, q⟩
  · exact .or (.inl (.or (.inl (od_I0 q))))
  · exact .or (.inl (.or (.inr (od_cat hz q))))
  · refine .or (.inr fun G H vx vy m rx ry Q f => ?_)
    cases rx
    cases ry
    exact ⟨_, _, rfl, rfl, Nat.le_trans hz (by decide), f _ _ _ _ _ q (Ex.refl G) m (Dv.str _)⟩
theorem de_mod (h : DE X a ρ μ fun x μ1 => DE X b ρ μ1 fun y μ2 => ∃ i j, x = .im (.int i) ∧ y = .im (.int j) ∧ 0 < j ∧ Φ (.im (.int (i % j))) μ2) : DE X (.BinOp a .Mod b pos) ρ μ Φ := by
  refine de_op op_mod (h.imp fun x μ1 h1 => h1.imp fun y μ2 h2 => ?_)
  obtain ⟨i, j, rfl, rfl, hj, q⟩ := h2
  exact od_I hj q
theorem de_fdiv (h : DE X a ρ μ fun x μ1 => DE X b ρ μ1 fun y μ2 => ∃ i j, x = .im (.int i) ∧ y = .im (.int j) ∧ CDiv i j ∧ Φ (.im (.int (i / j))) μ2) : DE X (.BinOp a .FloorDiv b pos) ρ μ Φ := by
  refine de_op op_fdiv (h.imp fun x μ1 h1 => h1.imp fun y μ2 h2 => ?_)
  obtain ⟨i, j, rfl, rfl, hj, q⟩ := h2
  exact od_I hj q
theorem de_mul (h : DE X a ρ μ fun x μ1 => DE X b ρ μ1 fun y μ2 => ∃ i j, x = .im (.int i) ∧ y = .im (.int j) ∧ CMul i j ∧ Φ (.im (.int (i * j))) μ2) : DE X (.BinOp a .Mult b pos) ρ μ Φ := by
  refine de_op op_mul (h.imp fun x μ1 h1 => h1.imp fun y μ2 h2 => ?_)
  obtain ⟨i, j, rfl, rfl, hj, q⟩ := h2
  exact od_I hj q
theorem de_pow (h : DE X a ρ μ fun x μ1 => DE X b ρ μ1 fun y μ2 => ∃ i j, x = .im (.int i) ∧ y = .im (.int j) ∧ CPow i j ∧ Φ (.im (.int (i ^ j.toNat))) μ2) : DE X (.BinOp a .Pow b pos) ρ μ Φ := by
  refine de_op op_pow (h.imp fun x μ1 h1 => h1.imp fun y μ2 h2 => ?_)
  obtain ⟨i, j, rfl, rfl, hj, q⟩ := h2
  exact od_I hj q
theorem de_neg (h : DE X a ρ μ fun x μ1 => ∃ i, x = .im (.int i) ∧ Φ (.im (.int (-i))) μ1) : DE X (.UnaryOp .USub a pos) ρ μ Φ := fun G H σ m v Q f =>
  WE.of (pe_un un_neg pwe) (h G H σ m v _ fun vx x μ1 G1 H1 q1 e1 m1 r1 => by
    obtain ⟨i, rfl, q⟩ := q1
    cases r1
    exact ⟨i, rfl, f _ _ _ _ _ q e1 m1 (Dv.int _)⟩)
inductive RdD (μ : Mu) : OV → PyData → Prop
  | im (d : PyData) : RdD μ (.im d) d
  | own {a : Addr} {ds : List PyData} : μ a = some (ds.map .im) → RdD μ (.own a) (.list ds)
theorem RdD.at {G H : Hp} {μ : Mu} (m : RM G H μ) {v : V} {o : OV} {d : PyData} (h : RdD μ o d) (r : RO G v o) : Dv H v d := by
  cases h with
  | im d => exact Dv.mono m.ex r
  | own h =>
    have r : v = _ := r
    subst r
    obtain ⟨_, vs, e, w⟩ := m.own _ _ h
    exact .lst e ((ROs.ims w).mono m.ex)
def CmpI (p : Int → Int → Bool) (Φ : OV → Mu → Prop) (x y : OV) (μ : Mu) : Prop := ∃ i j, x = .im (.int i) ∧ y = .im (.int j) ∧ Φ (.im (.bool (p i j))) μ
theorem de_ge (h : DE X a ρ μ fun x μ1 => DE X b ρ μ1 fun y μ2 => CmpI (fun i j => decide (j ≤ i)) Φ x y μ2) : DE X (.Compare a [.GtE] [b] pos) ρ μ Φ :=
  de_cmp op_ge (nomark _) (h.imp fun x μ1 h1 => h1.imp fun y μ2 ⟨i, j, e1, e2, q⟩ => by subst e1 e2; exact od_B0 q)
theorem dt_gt {Φ : Bool → Mu → Prop} (h : DE X a ρ μ fun x μ1 => DE X b ρ μ1 fun y μ2 => ∃ i j, x = .im (.int i) ∧ y = .im (.int j) ∧ Φ (decide (j < i)) μ2) : DT X (.Compare a [.Gt] [b] pos) ρ μ Φ :=
  dt_cmp op_gt (nomark _) (h.imp fun x μ1 h1 => h1.imp fun y μ2 ⟨i, j, e1, e2, q⟩ => by subst e1 e2; exact od_B0 ⟨_, rfl, q⟩)
theorem od_eq {x y : OV} {d e : PyData} (hx : RdD μ x d) (hy : RdD μ y e) (sd : SeqAt.shaped d = true) (se : SeqAt.shaped e = true) (h : Φ (.im (.bool (PyData.eqv d e))) μ) : OpD (rEqD X.K) x y μ Φ := fun G H vx vy m rx ry Q f =>
  ⟨d, e, (hx.at m rx).dp, (hy.at m ry).dp, sd, se, f _ _ _ _ _ h (Ex.refl G) m (Dv.bl _)⟩
theorem od_ne {x y : OV} {d e : PyData} (hx : RdD μ x d) (hy : RdD μ y e) (sd : SeqAt.shaped d = true) (se : SeqAt.shaped e = true) (h : Φ (.im (.bool (!PyData.eqv d e))) μ) : OpD (rNeD X.K) x y μ Φ := fun G H vx vy m rx ry Q f =>
  ⟨d, e, (hx.at m rx).dp, (hy.at m ry).dp, sd, se, f _ _ _ _ _ h (Ex.refl G) m (Dv.bl _)⟩
end
end Nx
namespace Nx
open PySem PySem.Spec PyProof.Rows L2
section
variable {X : Cx} {a b c e : Expr} {es rest : List Expr} {ρ : Rho} {μ : Mu} {Φ : OV → Mu → Prop} {pos : Pos}
theorem op_eqI : OpR X (compareOp .Eq) (rI0 fun i j => .bl (decide (i = j))) := opB0 fun i j t u s Q E q => eq_int (by rw [Bool.beq_eq_decide_eq]; exact q)
theorem op_neI : OpR X (compareOp .NotEq) (rI0 fun i j => .bl (!decide (i = j))) := opB0 fun i j t u s Q E q => ne_int (by rw [bne, Bool.beq_eq_decide_eq]; exact q)
def EqD (x y : OV) (μ : Mu) (f : Bool → Bool) (Φ : OV → Mu → Prop) : Prop :=
  (∃ i j, x = .im (.int i) ∧ y = .im (.int j) ∧ Φ (.im (.bool (f (decide (i = j))))) μ) ∨
  (∃ d e, RdD μ x d ∧ RdD μ y e ∧ SeqAt.shaped d = true ∧ SeqAt.shaped e = true ∧ Φ (.im (.bool (f (PyData.eqv d e)))) μ) ∨
  (∃ a b, x = .im (.str a) ∧ y = .im (.str b) ∧ Φ (.im (.bool (f (decide (a = b))))) μ)
theorem dec_strD {a b : Str} : decide (V.str a = V.str b) = decide (a = b) := by
  by_cases h : a = b
  · subst h
    simp
  · have h' : ¬ V.str a = V.str b := fun e => h (V.str.inj e)
    simp [h]
theorem od_eqS {a b : Str} (h : Φ (.im (.bool (decide (a = b)))) μ) : OpD rEq (.im (.str a)) (.im (.str b)) μ Φ := fun G H vx vy m rx ry Q f => by
  cases rx
  cases ry
  refine ⟨rfl, ?_⟩
  rw [dec_strD]
  exact f _ _ _ _ _ h (Ex.refl G) m (Dv.bl _)
theorem od_neS {a b : Str} (h : Φ (.im (.bool (!decide (a = b)))) μ) : OpD rNe (.im (.str a)) (.im (.str b)) μ Φ := fun G H vx vy m rx ry Q f => by
  cases rx
  cases ry
  refine ⟨rfl, ?_⟩
  rw [dec_strD]
  exact f _ _ _ _ _ h (Ex.refl G) m (Dv.bl _)
theorem de_eq {k : Nat} (hr : Room k X.A) (h : DE X a ρ μ fun x μ1 => DE X b ρ μ1 fun y μ2 => EqD x y μ2 id Φ) : DE X (.Compare a [.Eq] [b] pos) ρ μ Φ := by
  refine de_cmp ((op_eqI.or (op_eqD hr.units)).or op_eq) (nomark _) (h.imp fun x μ1 h1 => h1.imp fun y μ2 h2 => ?_)
  rcases h2 with ⟨i, j, rfl, rfl, q⟩ | ⟨d, e, h1, h2, s1, s2, q⟩ | ⟨a, b, rfl, rfl, q⟩
  · exact .or (.inl (.or (.inl (od_B0 q))))
  · exact .or (.inl (.or (.inr (od_eq h1 h2 s1 s2 q))))
  · exact .or (.inr (od_eqS q))
def InD (x y : OV) (μ : Mu) (f : Bool → Bool) (Φ : OV → Mu → Prop) : Prop :=
  ∃ (n : Int) (ns : List Int), x = .im (.int n) ∧ (RdD μ y (.list (ns.map .int)) ∨ RdD μ y (.tuple (ns.map .int))) ∧ Φ (.im (.bool (f (decide (n ∈ ns))))) μ
theorem inV_ints (n : Int) : ∀ ns : List Int, inV (.int n) (ns.map V.int) = decide (n ∈ ns)
  | [] => rfl
  | m :: ns => by
    have ih := inV_ints n ns
    unfold inV at ih ⊢
    rw [List.map_cons, List.any_cons, ih]
    show ((m == n) || decide (n ∈ ns)) = decide (n ∈ m :: ns)
    by_cases h : n = m
    · subst h
      simp
    · have h' : ¬ m = n := fun e => h e.symm
      simp [h, h']
theorem flat_ints : ∀ ns : List Int, (ns.map V.int).all flatV = true
  | [] => rfl
  | _ :: ns => by
    rw [List.map_cons, List.all_cons, flat_ints ns]
    rfl
theorem od_in {neg : Bool} {x y : OV} (h : InD x y μ (fun k => if neg then !k else k) Φ) : OpD (rIn X.K neg) x y μ Φ := fun G H vx vy m rx ry Q f => by
  obtain ⟨n, ns, rfl, hy, q⟩ := h
  cases rx
  have fin : Q (.bl (if neg then !inV (.int n) (ns.map V.int) else inV (.int n) (ns.map V.int))) H := by
    rw [inV_ints]
    exact f _ _ _ _ _ q (Ex.refl G) m (Dv.bl _)
  rcases hy with hy | hy
  · have d := hy.at m ry
    generalize hd : PyData.list (ns.map .int) = dd at d
    cases d with
    | lst h1 w => cases hd; exact ⟨_, _, rfl, .inl (.inl (.inl h1)), rfl, by rw [w.ints]; exact flat_ints ns, by rw [w.ints]; exact fin⟩
    | _ => cases hd
  · have d := hy.at m ry
    generalize hd : PyData.tuple (ns.map .int) = dd at d
    cases d with
    | tup h1 w => cases hd; exact ⟨_, _, rfl, .inr (.inl (.inl h1)), rfl, by rw [w.ints]; exact flat_ints ns, by rw [w.ints]; exact fin⟩
    | _ => cases hd
def WW (X : Cx) (e : Expr) : TT := fun σ H Q => ∀ whole pins s, Inv X pins σ H s → wpAny (model X.prog X.w) X.A (isTrue e X.env whole) (TP X pins σ Q) X.xe s
theorem pww : PW X e (WW X e) := ⟨fun whole pins s _ _ _ I h => h whole pins s I⟩
theorem WW.of {t : TT} {σ : L2.St} {H : Hp} {Q : Bool → Hp → Prop} (h : PW X e t) (q : t σ H Q) : WW X e σ H Q := fun whole pins s I => h.run whole pins s σ H Q I q
def DW (X : Cx) (e : Expr) (ρ : Rho) (μ : Mu) (Φ : Bool → Mu → Prop) : Prop := ∀ G H σ, RM G H μ → RV G ρ σ → ∀ Q : Bool → Hp → Prop, (∀ b μ' G' H', Φ b μ' → Ex G G' → RM G' H' μ' → Q b H') → WW X e σ H Q
variable {Ψ : Bool → Mu → Prop}
theorem dt_not (h : DT X a ρ μ fun k μ1 => Ψ (!k) μ1) : DT X (.UnaryOp .Not a pos) ρ μ Ψ := fun G H σ m v Q f =>
  WT.of (pt_not pwt) (h G H σ m v _ fun k μ1 G1 H1 q1 e1 m1 => f _ _ _ _ q1 e1 m1)
theorem DW.dt (h : DW X e ρ μ Ψ) : DT X e ρ μ Ψ := fun G H σ m v Q f pins s I => h G H σ m v Q f _ pins s I
theorem dw_or1 (h : DT X a ρ μ Ψ) : DW X (.BoolOp .Or [a] pos) ρ μ Ψ := fun G H σ m v Q f => WW.of (pw_or1 pwt) (h G H σ m v Q f)
theorem dw_or (h : DT X a ρ μ fun k μ1 => if k = true then Ψ true μ1 else DW X (.BoolOp .Or (b :: rest) pos) ρ μ1 Ψ) : DW X (.BoolOp .Or (a :: b :: rest) pos) ρ μ Ψ := fun G H σ m v Q f =>
  WW.of (pw_or pwt pww) (h G H σ m v _ fun k μ1 G1 H1 q1 e1 m1 => by
    dsimp only at q1
    split at q1
    · rename_i hk
      subst hk
      rw [if_pos rfl]
      exact f _ _ _ _ q1 e1 m1
    · rename_i hk
      rw [if_neg hk]
      exact q1 G1 H1 σ m1 (v.mono e1) Q fun k μ2 G2 H2 q2 e2 m2 => f _ _ _ _ q2 (e1.trans e2) m2)
theorem de_one {op} (h : DE X a ρ μ Φ) : DE X (.BoolOp op [a] pos) ρ μ Φ := fun G H σ m v Q f => WE.of (pe_one pwe) (h G H σ m v Q f)
theorem de_and (h : DE X a ρ μ fun x μ1 => ∃ k, x = .im (.bool k) ∧ if k = true then DE X (.BoolOp .And (b :: rest) pos) ρ μ1 Φ else Φ (.im (.bool false)) μ1) : DE X (.BoolOp .And (a :: b :: rest) pos) ρ μ Φ := fun G H σ m v Q f =>
  WE.of (pe_and pwe pwe) (h G H σ m v _ fun vx x μ1 G1 H1 q1 e1 m1 r1 => by
    obtain ⟨k, rfl, q⟩ := q1
    cases r1
    refine ⟨k, rfl, ?_⟩
    split at q
    · rename_i hk
      rw [if_pos hk]
      exact q G1 H1 σ m1 (v.mono e1) Q (f.later e1)
    · rename_i hk
      rw [if_neg hk]
      exact f _ _ _ _ _ q e1 m1 (Dv.bl _))
theorem de_ifExp (h : DT X c ρ μ fun k μ1 => if k = true then DE X a ρ μ1 Φ else DE X b ρ μ1 Φ) : DE X (.IfExp c a b pos) ρ μ Φ := fun G H σ m v Q f =>
  WE.of (pe_ifExp pwt pwe pwe) (h G H σ m v _ fun k μ1 G1 H1 q1 e1 m1 => by
    dsimp only at q1
    split at q1
    · rename_i hk
      rw [if_pos hk]
      exact q1 G1 H1 σ m1 (v.mono e1) Q (f.later e1)
    · rename_i hk
      rw [if_neg hk]
      exact q1 G1 H1 σ m1 (v.mono e1) Q (f.later e1))
theorem de_orL (h : DE X a ρ μ fun x μ1 => ∃ ds, RdD μ1 x (.list ds) ∧ if ds ≠ [] then Φ x μ1 else DE X (.BoolOp .Or (b :: rest) pos) ρ μ1 Φ) : DE X (.BoolOp .Or (a :: b :: rest) pos) ρ μ Φ := fun G H σ m v Q f =>
  WE.of (pe_orT pwe pwe) (h G H σ m v _ fun vx x μ1 G1 H1 q1 e1 m1 r1 => by
    obtain ⟨ds, hd, q⟩ := q1
    have d := hd.at m1 r1
    generalize hdd : PyData.list ds = dd at d
    cases d with
    | lst h1 w =>
      cases hdd
      refine ⟨_, .inl ⟨_, .inl (.inl h1), rfl⟩, ?_⟩
      by_cases hn : ds = []
      · rw [if_neg (by simp [hn])] at q
        subst hn
        cases w
        rw [if_neg (by simp)]
        exact q G1 H1 σ m1 (v.mono e1) Q (f.later e1)
      · rw [if_pos hn] at q
        rw [if_pos (by
          cases w with
          | nil => exact absurd rfl hn
          | cons _ _ => rfl)]
        exact f _ _ _ _ _ q e1 m1 r1
    | _ => cases hdd)
end
end Nx
namespace Nx
open PySem PySem.Spec PyProof.Rows L2
section
variable {X : Cx} {a b c e : Expr} {es rest : List Expr} {ρ : Rho} {μ : Mu} {Φ : OV → Mu → Prop} {Λ : List OV → Mu → Prop} {pos : Pos}
theorem da_nil (h : Λ [] μ) : DA X [] ρ μ Λ := fun G H σ m v Q f => WA.of pa_nil (f [] [] μ G H h (Ex.refl G) m .nil)
theorem da_cons (h : DE X e ρ μ fun x μ1 => DA X es ρ μ1 fun xs μ2 => Λ (x :: xs) μ2) (hs : starEach (e :: es) X.env = (false, eval e X.env) :: starEach es X.env := by rfl) : DA X (e :: es) ρ μ Λ := fun G H σ m v Q f =>
  WA.of (pa_cons pwe pwa hs) (h G H σ m v _ fun vx x μ1 G1 H1 q1 e1 m1 r1 => q1 G1 H1 σ m1 (v.mono e1) _ fun vs xs μ2 G2 H2 q2 e2 m2 r2 => f _ _ _ _ _ q2 (e1.trans e2) m2 (.cons (r1.mono e2) r2))
theorem dk_nil (h : Λ [] μ) : DK X [] ρ μ Λ := fun G H σ m v Q f => WK.of pk_nil (f [] [] μ G H h (Ex.refl G) m .nil)
theorem dk_cons {nm : Option Str} {kpos : Pos} {ks : List Keyword} (h : DE X e ρ μ fun x μ1 => DK X ks ρ μ1 fun xs μ2 => Λ (x :: xs) μ2) : DK X (⟨nm, e, kpos⟩ :: ks) ρ μ Λ := fun G H σ m v Q f =>
  WK.of (pk_cons pwe pwk) (h G H σ m v _ fun vx x μ1 G1 H1 q1 e1 m1 r1 => q1 G1 H1 σ m1 (v.mono e1) _ fun vs xs μ2 G2 H2 q2 e2 m2 r2 => f _ _ _ _ _ q2 (e1.trans e2) m2 (.cons (r1.mono e2) r2))
theorem sz {n : Nat} (h : n ≤ 100000) : n ≤ sizeLine := Nat.le_trans h (by decide)
theorem de_lst (h : DA X es ρ μ fun os μ1 => ∃ ds, os = ds.map .im ∧ ds.length ≤ 100000 ∧ Φ (.im (.list ds)) μ1) : DE X (.List es pos) ρ μ Φ := fun G H σ m v Q f =>
  WE.of (pe_lst pwa) (h G H σ m v _ fun vs os μ1 G1 H1 q1 e1 m1 r1 => by
    obtain ⟨ds, rfl, hz, q⟩ := q1
    refine ⟨by rw [r1.length, List.length_map]; exact sz hz, fun p hp => ?_⟩
    have n := m1.ex.free hp
    exact f _ _ _ _ _ q (e1.trans (Ex.new n)) (m1.lay hp) (Dv.lst upd_same (r1.ims.mono (Ex.new n))))
theorem de_lstO (h : DA X es ρ μ fun os μ1 => os.length ≤ 100000 ∧ ∀ p, μ1 p = none → Φ (.own p) (μ1.put p os)) : DE X (.List es pos) ρ μ Φ := fun G H σ m v Q f =>
  WE.of (pe_lst pwa) (h G H σ m v _ fun vs os μ1 G1 H1 q1 e1 m1 r1 => by
    obtain ⟨hz, q⟩ := q1
    refine ⟨by rw [r1.length]; exact sz hz, fun p hp => ?_⟩
    exact f _ _ _ _ _ (q p (m1.fresh hp)) e1 (m1.new hp r1) rfl)
theorem de_tup {x1} (h : DA X es ρ μ fun os μ1 => ∃ ds, os = ds.map .im ∧ ds.length ≤ 100000 ∧ Φ (.im (.tuple ds)) μ1) : DE X (.Tuple es x1 pos) ρ μ Φ := fun G H σ m v Q f =>
  WE.of (pe_tup pwa) (h G H σ m v _ fun vs os μ1 G1 H1 q1 e1 m1 r1 => by
    obtain ⟨ds, rfl, hz, q⟩ := q1
    refine ⟨by rw [r1.length, List.length_map]; exact sz hz, fun p hp => ?_⟩
    have n := m1.ex.free hp
    exact f _ _ _ _ _ q (e1.trans (Ex.new n)) (m1.lay hp) (Dv.tup upd_same (r1.ims.mono (Ex.new n))))
inductive SqD (μ : Mu) : OV → List OV → Prop
  | lst (ds : List PyData) : SqD μ (.im (.list ds)) (ds.map .im)
  | tup (ds : List PyData) : SqD μ (.im (.tuple ds)) (ds.map .im)
  | own {a : Addr} {l : List OV} : μ a = some l → SqD μ (.own a) l
theorem SqD.at {G H : Hp} (m : RM G H μ) {v : V} {o : OV} {l : List OV} (h : SqD μ o l) (r : RO G v o) : ∃ a xs, v = .ref a ∧ (H a = some (.lst xs) ∨ H a = some (.tup xs)) ∧ ROs G xs l := by
  cases h with
  | lst ds =>
    have r : Dv G v (.list ds) := r
    cases r with
    | lst h w => exact ⟨_, _, rfl, .inl (m.ex _ _ h), ROs.of_ims w⟩
  | tup ds =>
    have r : Dv G v (.tuple ds) := r
    cases r with
    | tup h w => exact ⟨_, _, rfl, .inr (m.ex _ _ h), ROs.of_ims w⟩
  | own h =>
    have r : v = _ := r
    subst r
    obtain ⟨_, vs, e, w⟩ := m.own _ _ h
    exact ⟨_, vs, rfl, .inl e, w⟩
theorem sq_or {K : PySem.W.Frag} {H : Hp} {a : Addr} {xs : List V} (h : H a = some (.lst xs) ∨ H a = some (.tup xs)) : SqL K H a xs ∨ SqT K H a xs := by
  rcases h with h | h
  · exact .inl (.inl (.inl h))
  · exact .inr (.inl (.inl h))
theorem ROs.at {G : Hp} {xs : List V} {l : List OV} {i : Int} {o : OV} (w : ROs G xs l) (h : atI l i = some o) : ∃ v, atI xs i = some v ∧ RO G v o := by
  unfold atI at h ⊢
  rw [w.length]
  cases q : ixN l.length i with
  | none =>
    rw [q] at h
    cases h
  | some j =>
    rw [q] at h
    obtain ⟨v, h1, h2⟩ := ROs.get w (show l[j]? = some o from h)
    exact ⟨v, h1, h2⟩
theorem de_ix (hs : PlainIx b) (h : DE X a ρ μ fun x μ1 => DE X b ρ μ1 fun y μ2 => ∃ l i o, SqD μ2 x l ∧ y = .im (.int i) ∧ atI l i = some o ∧ Φ o μ2) : DE X (.Subscript a b pos) ρ μ Φ := fun G H σ m v Q f =>
  WE.of (pe_ix (ix_list.or ix_tup) pwe pwe hs) (h G H σ m v _ fun vx x μ1 G1 H1 q1 e1 m1 r1 => q1 G1 H1 σ m1 (v.mono e1) _ fun vy y μ2 G2 H2 q2 e2 m2 r2 => by
    obtain ⟨l, i, o, hx, rfl, ho, q⟩ := q2
    cases r2
    obtain ⟨p, xs, rfl, hp, w⟩ := hx.at m2 (r1.mono e2)
    obtain ⟨u, h1, h2⟩ := w.at ho
    have fin := f u o μ2 G2 H2 q (e1.trans e2) m2 h2
    rcases hp with hp | hp
    · exact .inl ⟨p, xs, i, u, rfl, rfl, .inl (.inl hp), h1, fin⟩
    · exact .inr ⟨p, xs, i, u, rfl, rfl, .inl (.inl hp), h1, fin⟩)
theorem atI_im {ds : List PyData} {i : Int} {d : PyData} (h : atI ds i = some d) : atI (ds.map OV.im) i = some (.im d) := by
  unfold atI at h ⊢
  rw [List.length_map]
  cases q : ixN ds.length i with
  | none =>
    rw [q] at h
    cases h
  | some j =>
    rw [q] at h
    have h : ds[j]? = some d := h
    show (ds.map OV.im)[j]? = _
    rw [List.getElem?_map, h]
    rfl
def DO (X : Cx) (e : Option Expr) (ρ : Rho) (μ : Mu) (Φ : Option Int → Mu → Prop) : Prop :=
  match e with
  | none => Φ none μ
  | some e => DE X e ρ μ fun x μ1 => ∃ i, x = .im (.int i) ∧ Φ (some i) μ1
def cutO (xs : List OV) (lo hi : Option Int) : List OV := (xs.drop (HT.sIx xs.length 0 lo)).take (HT.sIx xs.length xs.length hi - HT.sIx xs.length 0 lo)
def cutD (xs : List PyData) (lo hi : Option Int) : List PyData := (xs.drop (HT.sIx xs.length 0 lo)).take (HT.sIx xs.length xs.length hi - HT.sIx xs.length 0 lo)
theorem ROs.cut {G : Hp} {xs : List V} {l : List OV} (w : ROs G xs l) (lo hi : Option Int) : ROs G (cutV xs lo hi) (cutO l lo hi) := by
  unfold cutV cutO
  rw [w.length]
  exact (w.drop _).take _
theorem cutO_im (ds : List PyData) (lo hi : Option Int) : cutO (ds.map .im) lo hi = (cutD ds lo hi).map .im := by
  unfold cutO cutD
  rw [List.length_map, List.map_take, List.map_drop]
def WO (X : Cx) (lo : Option Expr) : TO := fun σ H R => match lo with
  | none => R none H
  | some e => WE X e σ H fun x H1 => ∃ i, x = .int i ∧ R (some i) H1
theorem pwo {lo : Option Expr} : PO X lo (WO X lo) := by
  cases lo with
  | none => exact po_none
  | some e => exact po_some pwe
theorem DO.run {lo : Option Expr} {Ψ : Option Int → Mu → Prop} {G H : Hp} {σ : L2.St} {R : Option Int → Hp → Prop} (h : DO X lo ρ μ Ψ) (m : RM G H μ) (v : RV G ρ σ) (k : ∀ o μ1 G1 H1, Ψ o μ1 → Ex G G1 → RM G1 H1 μ1 → R o H1) : WO X lo σ H R := by
  cases lo with
  | none => exact k _ _ _ _ h (Ex.refl G) m
  | some e =>
    refine h G H σ m v _ fun vx x μ1 G1 H1 q1 e1 m1 r1 => ?_
    obtain ⟨i, rfl, q⟩ := q1
    cases r1
    exact ⟨i, rfl, k _ _ _ _ q e1 m1⟩
def cutI (ns : List Int) (lo hi : Option Int) : List Int := (ns.drop (HT.sIx ns.length 0 lo)).take (HT.sIx ns.length ns.length hi - HT.sIx ns.length 0 lo)
theorem cutI_V (ns : List Int) (lo hi : Option Int) : cutV (ns.map V.int) lo hi = (cutI ns lo hi).map V.int := by
  unfold cutV cutI
  rw [List.length_map, List.map_take, List.map_drop]
theorem de_slS {lo hi : Option Expr} {p2 : Pos} (h : DE X e ρ μ fun x μ1 => DO X lo ρ μ1 fun l μ2 => DO X hi ρ μ2 fun u μ3 => ∃ ns, x = .scr X.K ns ∧ Φ (.im (.list ((cutI ns l u).map .int))) μ3) : DE X (.Subscript e (.Slice lo hi none p2) pos) ρ μ Φ := fun G H σ m v Q f =>
  WE.of (pe_slice sl_list pwe pwo pwo) (h G H σ m v _ fun vx x μ1 G1 H1 q1 e1 m1 r1 => q1.run m1 (v.mono e1) fun l μ2 G2 H2 q2 e2 m2 => q2.run m2 (v.mono (e1.trans e2)) fun u μ3 G3 H3 q3 e3 m3 => by
    obtain ⟨ns, rfl, q⟩ := q3
    obtain ⟨a, rfl, ha⟩ := r1
    refine ⟨_, _, rfl, sql_mono (e2.trans (e3.trans m3.ex)) ha, fun p hp => ?_⟩
    have n := m3.ex.free hp
    rw [cutI_V]
    exact f _ _ _ _ _ q (((e1.trans e2).trans e3).trans (Ex.new n)) (m3.lay hp) (Dv.lst upd_same (DvA.of_ints _)))
theorem de_rev {k : Nat} {p1 p2 p3 : Pos} (h : DE X e ρ μ fun x μ1 => ∃ ds, x = .im (.list ds) ∧ Φ (.im (.list ds.reverse)) μ1) : DE X (.Subscript e (.Slice none none (some (.UnaryOp .USub (.Constant (.int 1) k p1) p2)) p3) pos) ρ μ Φ := fun G H σ m v Q f =>
  WE.of (pe_revL pwe) (h G H σ m v _ fun vx x μ1 G1 H1 q1 e1 m1 r1 => by
    obtain ⟨ds, rfl, q⟩ := q1
    cases r1 with
    | lst h1 w1 =>
      refine ⟨_, _, rfl, .inl (.inl (m1.ex _ _ h1)), fun p hp => ?_⟩
      have n := m1.ex.free hp
      have w2 := (ROs.of_ims w1).reverse
      rw [← List.map_reverse] at w2
      exact f _ _ _ _ _ q (e1.trans (Ex.new n)) (m1.lay hp) (Dv.lst upd_same (w2.ims.mono (Ex.new n))))
end
end Nx
namespace Nx
open PySem PySem.Spec PyProof.Rows L2
structure Rm (k : Nat) (A : Around) : Prop where
  room : Room k A
  gds : A.guards = some []
theorem Rm.mono {j k : Nat} {A : Around} (r : Rm k A) (h : j ≤ k) : Rm j A := ⟨r.room.mono h, r.gds⟩
structure FnG (P : Program) (w : World) (K : PySem.W.Frag) (mg : Str → Option Value) (base : Heap) (CX : CXT) (k : Nat) (f : Addr) (fd : FuncData) (ps : List Str) (sp : Sp) : Prop where
  len : ∀ vs H Q E, sp vs H Q E → vs.length = ps.length
  run : ∀ A outer s H args us vs Q E, Rm k A → Env0 P w K mg base A outer s H → BindsTo s fd args (ps.zip us) → Vals vs us → sp vs H Q E → codeAny (model P w) A (.call (.ref f) args) (CR CX outer P w H s Q E) s
theorem FnG.mono {P : Program} {w : World} {K : PySem.W.Frag} {mg : Str → Option Value} {base : Heap} {CX : CXT} {j k : Nat} {f : Addr} {fd : FuncData} {ps : List Str} {sp : Sp} (F : FnG P w K mg base CX j f fd ps sp) (h : j ≤ k) : FnG P w K mg base CX k f fd ps sp :=
  ⟨F.len, fun A outer s H args us vs Q E r => F.run A outer s H args us vs Q E (r.mono h)⟩
section
variable {P : Program} {w : World} {K : PySem.W.Frag} {mg : Str → Option Value} {base : Heap} {CX : CXT}
theorem fng_of {k : Nat} {f : Addr} {x q : Str} {st : Stmt} {fd : FuncData} {N ps : List Str} {sp : Sp} (F : Fun K x q st f fd) (S : FnScope N ps (defScope st)) (len : ∀ vs H Q E, sp vs H Q E → vs.length = ps.length)
    (body : ∀ (cdv : Value) A outer s H vs Q E, Rm k (A.deeper (envOfC q (defScope st) s.heap.objs.size f cdv)) → sp vs H Q E →
      WSs (cxOf CX P w K mg base N q (defScope st) f cdv A outer s H E) (defBody st) { nx := fun _ H' => Q .non H', rt := Q } (start N vs) H) : FnG P w K mg base CX (k + 1) f fd ps sp := by
  obtain ⟨oc, od, kV, doc, pm, an, cdv, ct, osl, rfl, lk, hcd⟩ := F.ex
  constructor
  · exact len
  intro A outer s H args us vs Q E hr e0 hb r hsp
  have inH : ∀ b o, base.get? b = some o → s.heap.get? b = some o := fun b o e => (e0.bs b o e).1
  have KX : K.In s.heap := e0.mod.kin.keeps inH
  have nolim : s.heap.NoLimit := e0.mod.nolimit.keeps inH
  have kinds : ∀ y ∈ ps.zip us, (defScope st).names.lookup y.1 = some .local ∨
      ((defScope st).names.lookup y.1 = some .cell ∧ ((cellsFrom (s.heap.objs.size + 1) (defScope st).names []).lookup y.1).isSome = true) := by
    rintro ⟨n, v⟩ hy
    rcases S.par n (List.of_mem_zip hy).1 with z | z
    · exact Or.inl z
    · exact Or.inr ⟨z, PySem.W.cellsFrom_some _ _ _ (Or.inl z)⟩
  apply codeAny_call_function hr.room.depth (KX _ _ lk) rfl S.co S.gen rfl (PySem.W.codeRec_of KX hcd)
  apply hb _ _ _ _
  apply wpAny_newFunctionEnv_cells S.kind kinds
  intro env he s1 y
  subst he
  refine ⟨nolim.keeps y.toInCall.keep, codeAny_func ?_⟩
  have go := body cdv A outer s H vs Q E ⟨hr.room.deeper _, hr.gds⟩ hsp
  have I : Inv (cxOf CX P w K mg base N q (defScope st) f cdv A outer s H E) [] (start N vs) H s1 := inv_start S hr.room.hd e0 (len _ _ _ _ hsp) r y
  refine wpAny_mono (go [] s1 I) (fun fl s' hs => ?_) (fun _ _ z => z)
  cases fl with
  | ret u =>
    obtain ⟨v, σ', H', J, rv, z⟩ := hs
    exact ⟨v, H', J.os, J.bare, J.base, J.hok, rv, z⟩
  | next =>
    obtain ⟨σ', H', J, z⟩ := hs
    exact ⟨V.non, H', J.os, J.bare, J.base, J.hok, rfl, z⟩
  | brk =>
    obtain ⟨_, _, _, z⟩ := hs
    exact z.elim
  | cont =>
    obtain ⟨_, _, _, z⟩ := hs
    exact z.elim
end
section
variable {X : Cx} {CX : CXT} {k : Nat} {f : Addr} {fd : FuncData} {ps : List Str} {sp : Sp} {E : XK}
theorem run_g {pins : List (Addr × Obj)} {σ : L2.St} {H : Hp} {s : Shared} {Q : VK} {args : Args} {us : List Value} {vs : List V} (F : FnG X.prog X.w X.K X.mg X.base CX k f fd ps sp) (hr : Rm k X.A) (hx : Passes CX X E)
    (I : Inv X pins σ H s) (hb : BindsTo s fd args (ps.zip us)) (r : Vals vs us) (h : sp vs H Q E) : wpAny (model X.prog X.w) X.A (call (.ref f) args.pos args.kw) (EP X pins σ Q) X.xe s := by
  refine wpAny_call (codeAny_mono (F.run X.A X.stack s H args us vs Q E hr I.env0 hb r h) fun z s' hq => ?_)
  match z, hq with
  | .error e, hq => exact hx pins σ H s e s' I hq
  | .ok (.ret u), hq => exact I.after hq
end
abbrev Ct := List OV → Mu → (OV → Mu → Prop) → Prop
def spOf (C : Ct) : Sp := fun vs H Q _ => ∃ os μ G Φ, RM G H μ ∧ ROs G vs os ∧ C os μ Φ ∧ Fin G Φ Q
structure Fc (P : Program) (w : World) (K : PySem.W.Frag) (mg : Str → Option Value) (base : Heap) (x : Str) (st : Stmt) (ps : List Str) (k : Nat) (C : Ct) : Prop where
  ex : ∃ f fd, Fun K x x st f fd ∧ mg x = some (.ref f) ∧ FnG P w K mg base CX0 k f fd ps (spOf C)
section
variable {P : Program} {w : World} {K : PySem.W.Frag} {mg : Str → Option Value} {base : Heap}
theorem rv_start {G : Hp} {N : List Str} {vs : List V} {os : List OV} (r : ROs G vs os) : RV G (os.map some ++ List.replicate (N.length - os.length) none) (start N vs) := by
  unfold L2.start
  refine ⟨by simp only [List.length_append, List.length_map, List.length_replicate, r.length], fun i o h => ?_⟩
  by_cases hi : i < os.length
  · rw [List.getElem?_append_left (by simpa using hi), List.getElem?_map] at h
    have h : os[i]? = some o := by
      cases q : os[i]? with
      | none =>
        rw [q] at h
        cases h
      | some z =>
        rw [q] at h
        cases h
        rfl
    obtain ⟨v, h1, h2⟩ := ROs.get r h
    refine ⟨v, ?_, h2⟩
    rw [List.getElem?_append_left (by rw [List.length_map, r.length]; exact hi), List.getElem?_map, h1]
    rfl
  · rw [List.getElem?_append_right (by simpa using hi), List.getElem?_replicate] at h
    split at h <;> cases h
theorem fc_of {k : Nat} {f : Addr} {x : Str} {st : Stmt} {fd : FuncData} {N ps : List Str} {C : Ct} (F : Fun K x x st f fd) (hm : mg x = some (.ref f)) (S : FnScope N ps (defScope st)) (len : ∀ os μ Φ, C os μ Φ → os.length = ps.length)
    (body : ∀ (cdv : Value) A outer s H E os μ Φ, Rm k (A.deeper (envOfC x (defScope st) s.heap.objs.size f cdv)) → C os μ Φ →
      DSs (cxOf CX0 P w K mg base N x (defScope st) f cdv A outer s H E).nox (defBody st) (os.map some ++ List.replicate (N.length - os.length) none) μ { nx := fun _ μ' => Φ (.im .none) μ', rt := Φ }) : Fc P w K mg base x st ps (k + 1) C := by
  refine ⟨⟨f, fd, F, hm, fng_of F S (fun vs H Q E h => ?_) fun cdv A outer s H vs Q E hr h => ?_⟩⟩
  · obtain ⟨os, μ, G, Φ, _, r, c, _⟩ := h
    rw [r.length]
    exact len _ _ _ c
  · obtain ⟨os, μ, G, Φ, m, r, c, fin⟩ := h
    refine WSs.of (PSs.nox pwss) (body cdv A outer s H E os μ Φ hr c G H _ m (rv_start r) _ ⟨fun ρ' μ' G' H' σ' q e m' _ => fin _ _ _ _ _ q e m' Dv.non, fin, fun _ _ _ _ _ q => q.elim, fun _ _ _ _ _ q => q.elim⟩)
theorem Fc.mono {j k : Nat} {x : Str} {st : Stmt} {ps : List Str} {C : Ct} (F : Fc P w K mg base x st ps j C) (h : j ≤ k) : Fc P w K mg base x st ps k C := by
  obtain ⟨f, fd, a, b, c⟩ := F.ex
  exact ⟨⟨f, fd, a, b, c.mono h⟩⟩
end
section
variable {X : Cx} {a b c e : Expr} {es rest : List Expr} {ρ : Rho} {μ : Mu} {Φ : OV → Mu → Prop} {pos p : Pos} {x : Str} {st : Stmt} {ps : List Str} {k : Nat} {C : Ct}
theorem passE {X : Cx} : Passes CX0 X fun _ _ _ => False := fun _ _ _ _ _ _ _ h => h.elim
theorem de_call (F : Fc X.prog X.w X.K X.mg X.base x st ps k C) (hr : Rm k X.A) (hg : Gl X x)
    (hb : ∀ (kV doc pm : Value) (an : Option Addr) (cdv ct : Value) (us : List Value), us.length = ps.length → bindArgs (PySem.W.fnOf x x (defArgs st) (defBody st) (defScope st) .none kV doc pm an cdv ct) ⟨us, []⟩ = pure (ps.zip us))
    (h : DA X (e :: es) ρ μ fun os μ1 => C os μ1 Φ) (hdb : (x == ("__debug__" : Str)) = false := by decide) (he : starEach (e :: es) X.env = (false, eval e X.env) :: starEach es X.env := by rfl) (hpl : (backTo pos (starEach es X.env)).any (·.1) = false := by rfl) :
    DE X (.Call (.Name x p) (e :: es) [] pos) ρ μ Φ := fun G H σ m v Q f pins s I => by
  obtain ⟨fa, fd, FF, hm, FG⟩ := F.ex
  refine wpAny_Call_Name_kw (ld_glob I hg hm ?_ hdb)
  have hargs : WA X (e :: es) σ H fun vs H1 => spOf C vs H1 Q fun _ _ _ => False := h G H σ m v _ fun vs os μ1 G1 H1 q1 e1 m1 r1 => ⟨os, μ1, G1, Φ, m1, r1, q1, f.later e1⟩
  refine PySem.W.callWith_K (h₀ := X.base) I.ok.mod.kin FF.kp (thn (hargs pos pins s I) fun us s1 ⟨vs, H1, I1, r, q⟩ => ⟨I1.kIn, ?_⟩) he hpl
  refine run_g (args := ⟨us, []⟩) FG hr passE I1 ?_ r q
  obtain ⟨oc, od, kV, doc, pm, an, cdv, ct, osl, rfl, lk, hcd⟩ := FF.ex
  exact .of_eq (hb kV doc pm an cdv ct us (by rw [← r.length]; exact FG.len _ _ _ _ q))
def pick {α : Type} (ix : List Nat) (l : List α) : List α := ix.filterMap fun i => l[i]?
theorem pick_rel {α β : Type} {R : α → β → Prop} {l : List α} {m : List β} (h : Paired R l m) : ∀ ix : List Nat, Paired R (pick ix l) (pick ix m) := by
  have get : ∀ {l : List α} {m : List β}, Paired R l m → ∀ i : Nat, (∃ a b, l[i]? = some a ∧ m[i]? = some b ∧ R a b) ∨ (l[i]? = none ∧ m[i]? = none) := by
    intro l m h
    induction h with
    | nil => intro i; exact .inr ⟨rfl, rfl⟩
    | cons r _ ih =>
      intro i
      cases i with
      | zero => exact .inl ⟨_, _, rfl, rfl, r⟩
      | succ i => exact ih i
  intro ix
  induction ix with
  | nil => exact .nil
  | cons i ix ih =>
    unfold pick at ih ⊢
    rcases get h i with ⟨a, b, h1, h2, r⟩ | ⟨h1, h2⟩
    · rw [List.filterMap_cons_some h1, List.filterMap_cons_some h2]
      exact .cons r ih
    · rw [List.filterMap_cons_none h1, List.filterMap_cons_none h2]
      exact ih
theorem de_callK {kws : List Keyword} (ks : List Str) (ix : List Nat) (F : Fc X.prog X.w X.K X.mg X.base x st ps k C) (hr : Rm k X.A) (hg : Gl X x)
    (hb : ∀ (kV doc pm : Value) (an : Option Addr) (cdv ct : Value) (us : List Value), us.length = ks.length → bindArgs (PySem.W.fnOf x x (defArgs st) (defBody st) (defScope st) .none kV doc pm an cdv ct) ⟨[], ks.zip us⟩ = pure (ps.zip (pick ix us)))
    (h : DK X kws ρ μ fun os μ1 => os.length = ks.length ∧ C (pick ix os) μ1 Φ) (hall : (backToKw pos (keywordEach kws X.env)).all (·.1.isSome) = true := by rfl) (hks : (backToKw pos (keywordEach kws X.env)).filterMap (·.1) = ks := by rfl)
    (hpl : ((backTo pos (starEach [] X.env)).any (·.1) || (backToKw pos (keywordEach kws X.env)).any (·.1.isNone)) = false := by rfl) (hdb : (x == ("__debug__" : Str)) = false := by decide) :
    DE X (.Call (.Name x p) [] kws pos) ρ μ Φ := fun G H σ m v Q f pins s I => by
  obtain ⟨fa, fd, FF, hm, FG⟩ := F.ex
  refine wpAny_Call_Name_kw (ld_glob I hg hm ?_ hdb)
  have hargs : WK X kws σ H fun vs H1 => vs.length = ks.length ∧ spOf C (pick ix vs) H1 Q fun _ _ _ => False := h G H σ m v _ fun vs os μ1 G1 H1 q1 e1 m1 r1 => ⟨by rw [r1.length]; exact q1.1, pick ix os, μ1, G1, Φ, m1, pick_rel r1 ix, q1.2, f.later e1⟩
  refine PySem.W.callWith_KW0 (h₀ := X.base) I.ok.mod.kin FF.kp hall (thn (hargs pos pins s I) fun us s1 ⟨vs, H1, I1, r, hl, q⟩ => ⟨I1.kIn, ?_⟩) hpl
  rw [hks]
  refine run_g (args := ⟨[], ks.zip us⟩) FG hr passE I1 ?_ (pick_rel r ix) q
  obtain ⟨oc, od, kV, doc, pm, an, cdv, ct, osl, rfl, lk, hcd⟩ := FF.ex
  exact .of_eq (hb kV doc pm an cdv ct us (by rw [← r.length]; exact hl))
end
end Nx
namespace Nx
open PySem PySem.Spec PyProof.Rows L2
mutual
inductive DR (μ : Mu) : OV → PyData → Prop
  | im (d : PyData) : DR μ (.im d) d
  | own {a : Addr} {l : List OV} {ds : List PyData} : μ a = some l → DRs μ l ds → DR μ (.own a) (.list ds)
inductive DRs (μ : Mu) : List OV → List PyData → Prop
  | nil : DRs μ [] []
  | cons {o : OV} {os : List OV} {d : PyData} {ds : List PyData} : DR μ o d → DRs μ os ds → DRs μ (o :: os) (d :: ds)
end
theorem DRs.ims {μ : Mu} : ∀ ds : List PyData, DRs μ (ds.map .im) ds
  | [] => .nil
  | d :: ds => .cons (.im d) (DRs.ims ds)
mutual
theorem DR.at {G H : Hp} {μ : Mu} (m : RM G H μ) : ∀ {v : V} {o : OV} {d : PyData}, DR μ o d → RO G v o → Dv H v d
  | _, _, _, .im d, r => Dv.mono m.ex r
  | v, _, _, .own (a := a) h hs, r => by
    have r : v = .ref a := r
    subst r
    obtain ⟨_, vs, e, w⟩ := m.own _ _ h
    exact .lst e (DRs.at m hs w)
theorem DRs.at {G H : Hp} {μ : Mu} (m : RM G H μ) : ∀ {vs : List V} {os : List OV} {ds : List PyData}, DRs μ os ds → ROs G vs os → DvA H vs ds
  | _, _, _, .nil, .nil => .nil
  | _, _, _, .cons h hs, .cons r rs => .cons (DR.at m h r) (DRs.at m hs rs)
end
structure Bt (mg : Str → Option Value) : Prop where
  len : mg "len" = none
  range : mg "range" = none
  list : mg "list" = none
  tuple : mg "tuple" = none
  sorted : mg "sorted" = none
  abs : mg "abs" = none
  int : mg "int" = none
  str : mg "str" = none
  repr : mg "repr" = none
  all : mg "all" = none
  any : mg "any" = none
  max : mg "max" = none
  min : mg "min" = none
  sum : mg "sum" = none
  enumerate : mg "enumerate" = none
  zip : mg "zip" = none
  isinstance : mg "isinstance" = none
  bool : mg "bool" = none
  set : mg "set" = none
  dict : mg "dict" = none
section
variable {X : Cx} {a b c e : Expr} {es rest : List Expr} {ρ : Rho} {μ : Mu} {Φ : OV → Mu → Prop} {pos p : Pos} {x : Str}
abbrev CR1 := List V → Hp → VK → Prop
def CallD (r : CR1) (os : List OV) (μ : Mu) (Φ : OV → Mu → Prop) : Prop := ∀ G H vs, RM G H μ → ROs G vs os → ∀ Q : VK, Fin G Φ Q → r vs H Q
theorem de_callB {id : String} {r : CR1} (hc : CallR X (.builtin id) r) (hg : Gl X x) (hm : X.mg x = none) (hv : bootBuiltins x = some (.builtin id)) (h : DA X (e :: es) ρ μ fun os μ1 => CallD r os μ1 Φ) (hn : x ≠ "__name__" := by decide) (hdb : (x == ("__debug__" : Str)) = false := by decide)
    (he : starEach (e :: es) X.env = (false, eval e X.env) :: starEach es X.env := by rfl) (hpl : (backTo pos (starEach es X.env)).any (·.1) = false := by rfl) : DE X (.Call (.Name x p) (e :: es) [] pos) ρ μ Φ := fun G H σ m v Q f =>
  WE.of (pe_callB hc hg hm hv pwa hn hdb he hpl) (h G H σ m v _ fun vs os μ1 G1 H1 q1 e1 m1 r1 => q1 G1 H1 vs m1 r1 Q (f.later e1))
theorem de_callT {T : String} {r : CR1} (hc : CallR X (.type T) r) (hg : Gl X x) (hm : X.mg x = none) (hv : bootBuiltins x = some (.type T)) (h : DA X (e :: es) ρ μ fun os μ1 => CallD r os μ1 Φ) (hn : x ≠ "__name__" := by decide) (hdb : (x == ("__debug__" : Str)) = false := by decide)
    (he : starEach (e :: es) X.env = (false, eval e X.env) :: starEach es X.env := by rfl) (hpl : (backTo pos (starEach es X.env)).any (·.1) = false := by rfl) : DE X (.Call (.Name x p) (e :: es) [] pos) ρ μ Φ := fun G H σ m v Q f =>
  WE.of (pe_callTy hc hg hm hv pwa hn hdb he hpl) (h G H σ m v _ fun vs os μ1 G1 H1 q1 e1 m1 r1 => q1 G1 H1 vs m1 r1 Q (f.later e1))
theorem ro1 {G : Hp} {vs : List V} {o : OV} (r : ROs G vs [o]) : ∃ v, vs = [v] ∧ RO G v o := by
  cases r with
  | cons r t =>
    cases t
    exact ⟨_, rfl, r⟩
theorem de_len (B : Bt X.mg) (hg : Gl X "len") (h : DE X e ρ μ fun o μ1 => ∃ l, SqD μ1 o l ∧ Φ (.im (.int (l.length : Nat))) μ1) (he : starEach [e] X.env = (false, eval e X.env) :: starEach [] X.env := by rfl) (hpl : (backTo pos (starEach [] X.env)).any (·.1) = false := by rfl) : DE X (.Call (.Name "len" p) [e] [] pos) ρ μ Φ :=
  de_callB call_len_seq hg B.len PySem.boot_len (he := he) (hpl := hpl) (da_cons (hs := he) (h.imp fun o μ1 ⟨l, hl, q⟩ => da_nil fun G H vs m r Q f => by
    obtain ⟨v, rfl, r1⟩ := ro1 r
    obtain ⟨a, xs, rfl, hx, w⟩ := hl.at m r1
    refine ⟨a, xs, rfl, sq_or hx, ?_⟩
    rw [w.length]
    exact f _ _ _ _ _ q (Ex.refl G) m (Dv.int _)))
theorem de_abs (B : Bt X.mg) (hg : Gl X "abs") (h : DE X e ρ μ fun o μ1 => ∃ i, o = .im (.int i) ∧ Φ (.im (.int (if i < 0 then -i else i))) μ1) (he : starEach [e] X.env = (false, eval e X.env) :: starEach [] X.env := by rfl) (hpl : (backTo pos (starEach [] X.env)).any (·.1) = false := by rfl) : DE X (.Call (.Name "abs" p) [e] [] pos) ρ μ Φ :=
  de_callB call_abs hg B.abs PyProof.Rows.boot_abs (he := he) (hpl := hpl) (da_cons (hs := he) (h.imp fun o μ1 ⟨i, ho, q⟩ => da_nil fun G H vs m r Q f => by
    obtain ⟨v, rfl, r1⟩ := ro1 r
    subst ho
    cases r1
    exact ⟨i, rfl, f _ _ _ _ _ q (Ex.refl G) m (Dv.int _)⟩))
theorem de_int1 (B : Bt X.mg) (hg : Gl X "int") (h : DE X e ρ μ fun o μ1 => (∃ i, o = .im (.int i) ∧ Φ (.im (.int i)) μ1) ∨ ∃ k, o = .im (.bool k) ∧ Φ (.im (.int (if k then 1 else 0))) μ1) (he : starEach [e] X.env = (false, eval e X.env) :: starEach [] X.env := by rfl) (hpl : (backTo pos (starEach [] X.env)).any (·.1) = false := by rfl) : DE X (.Call (.Name "int" p) [e] [] pos) ρ μ Φ :=
  de_callT call_int1 hg B.int PyProof.Rows.boot_int (he := he) (hpl := hpl) (da_cons (hs := he) (h.imp fun o μ1 hq => da_nil fun G H vs m r Q f => by
    obtain ⟨v, rfl, r1⟩ := ro1 r
    rcases hq with ⟨i, rfl, q⟩ | ⟨k, rfl, q⟩
    · cases r1
      exact .inl ⟨i, rfl, f _ _ _ _ _ q (Ex.refl G) m (Dv.int _)⟩
    · cases r1
      exact .inr ⟨k, rfl, f _ _ _ _ _ q (Ex.refl G) m (Dv.int _)⟩))
theorem de_list (B : Bt X.mg) (hg : Gl X "list") (h : DE X e ρ μ fun o μ1 => ∃ ds, SqD μ1 o (ds.map .im) ∧ Φ (.im (.list ds)) μ1) (he : starEach [e] X.env = (false, eval e X.env) :: starEach [] X.env := by rfl) (hpl : (backTo pos (starEach [] X.env)).any (·.1) = false := by rfl) : DE X (.Call (.Name "list" p) [e] [] pos) ρ μ Φ :=
  de_callT call_list_of hg B.list PyProof.Rows.boot_list (he := he) (hpl := hpl) (da_cons (hs := he) (h.imp fun o μ1 ⟨ds, hl, q⟩ => da_nil fun G H vs m r Q f => by
    obtain ⟨v, rfl, r1⟩ := ro1 r
    obtain ⟨a, xs, rfl, hx, w⟩ := hl.at m r1
    refine ⟨a, xs, rfl, sq_or hx, fun l hl => ?_⟩
    have n := m.ex.free hl
    exact f _ _ _ _ _ q (Ex.new n) (m.lay hl) (Dv.lst upd_same (w.ims.mono (Ex.new n)))))
theorem de_listO (B : Bt X.mg) (hg : Gl X "list") (h : DE X e ρ μ fun o μ1 => ∃ l, SqD μ1 o l ∧ ∀ p, μ1 p = none → Φ (.own p) (μ1.put p l)) (he : starEach [e] X.env = (false, eval e X.env) :: starEach [] X.env := by rfl) (hpl : (backTo pos (starEach [] X.env)).any (·.1) = false := by rfl) : DE X (.Call (.Name "list" p) [e] [] pos) ρ μ Φ :=
  de_callT call_list_of hg B.list PyProof.Rows.boot_list (he := he) (hpl := hpl) (da_cons (hs := he) (h.imp fun o μ1 ⟨ds, hl, q⟩ => da_nil fun G H vs m r Q f => by
    obtain ⟨v, rfl, r1⟩ := ro1 r
    obtain ⟨a, xs, rfl, hx, w⟩ := hl.at m r1
    refine ⟨a, xs, rfl, sq_or hx, fun l hl => ?_⟩
    exact f _ _ _ _ _ (q l (m.fresh hl)) (Ex.refl G) (m.new hl w) rfl))
theorem de_tuple (B : Bt X.mg) (hg : Gl X "tuple") (h : DE X e ρ μ fun o μ1 => ∃ ds, SqD μ1 o (ds.map .im) ∧ Φ (.im (.tuple ds)) μ1) (he : starEach [e] X.env = (false, eval e X.env) :: starEach [] X.env := by rfl) (hpl : (backTo pos (starEach [] X.env)).any (·.1) = false := by rfl) : DE X (.Call (.Name "tuple" p) [e] [] pos) ρ μ Φ :=
  de_callT call_tuple_of hg B.tuple PyProof.Rows.boot_tuple (he := he) (hpl := hpl) (da_cons (hs := he) (h.imp fun o μ1 ⟨ds, hl, q⟩ => da_nil fun G H vs m r Q f => by
    obtain ⟨v, rfl, r1⟩ := ro1 r
    generalize hll : ds.map OV.im = ll at hl
    cases hl with
    | tup ds' =>
      have e12 : ds = ds' := by
        have := congrArg (List.map fun o => match o with | OV.im d => d | _ => PyData.none) hll
        simpa [List.map_map, Function.comp_def] using this
      subst e12
      have rr : Dv G v (.tuple ds) := r1
      cases rr with
      | tup h1 w1 => exact ⟨_, _, rfl, .inr ⟨.inl (.inl (m.ex _ _ h1)), f _ _ _ _ _ q (Ex.refl G) m (Dv.tup h1 w1)⟩⟩
    | lst ds' =>
      have hsq : SqD μ1 (.im (.list ds')) (ds.map .im) := by rw [hll]; exact .lst ds'
      obtain ⟨a, xs, rfl, hx, w⟩ := hsq.at m r1
      have hx : H a = some (.lst xs) := by
        rcases hx with z | z
        · exact z
        · have rr : Dv G (.ref a) (.list ds') := r1
          cases rr with
          | lst h1 _ =>
            have := m.ex _ _ h1
            rw [z] at this
            cases this
      refine ⟨a, xs, rfl, .inl ⟨.inl (.inl hx), fun l hl => ?_⟩⟩
      have n := m.ex.free hl
      exact f _ _ _ _ _ q (Ex.new n) (m.lay hl) (Dv.tup upd_same (w.ims.mono (Ex.new n)))
    | own ho =>
      obtain ⟨_, xs, hx, w⟩ := m.own _ _ ho
      have rr : v = .ref _ := r1
      subst rr
      rw [← hll] at w
      refine ⟨_, xs, rfl, .inl ⟨.inl (.inl hx), fun l hl => ?_⟩⟩
      have n := m.ex.free hl
      exact f _ _ _ _ _ q (Ex.new n) (m.lay hl) (Dv.tup upd_same (w.ims.mono (Ex.new n)))))
def srt (ns : List Int) : List Int := ns.mergeSort (fun a b => decide (a ≤ b))
theorem srt_perm (ns : List Int) : (srt ns).Perm ns := List.mergeSort_perm ns _
theorem srt_pw (ns : List Int) : (srt ns).Pairwise (· ≤ ·) := by
  have h := List.pairwise_mergeSort (le := fun a b : Int => decide (a ≤ b)) (fun a b c h1 h2 => by
    simp only [decide_eq_true_eq] at *
    omega) (fun a b => by
    simp only [Bool.or_eq_true, decide_eq_true_eq]
    omega) ns
  exact h.imp fun {a b} h => by simpa using h
theorem srt_eq {ns ms : List Int} (hp : ms.Perm ns) (hw : ms.Pairwise (· ≤ ·)) : ms = srt ns :=
  (hp.trans (srt_perm ns).symm).eq_of_pairwise (fun x y _ _ h1 h2 => Int.le_antisymm h1 h2) hw (srt_pw ns)
theorem de_sorted (B : Bt X.mg) (hg : Gl X "sorted") (h : DE X e ρ μ fun o μ1 => ∃ ns : List Int, RdD μ1 o (.list (ns.map .int)) ∧ Φ (.im (.list ((srt ns).map .int))) μ1) (he : starEach [e] X.env = (false, eval e X.env) :: starEach [] X.env := by rfl) (hpl : (backTo pos (starEach [] X.env)).any (·.1) = false := by rfl) : DE X (.Call (.Name "sorted" p) [e] [] pos) ρ μ Φ :=
  de_callB cr_sortedI hg B.sorted PyProof.Rows.boot_sorted (he := he) (hpl := hpl) (da_cons (hs := he) (h.imp fun o μ1 ⟨ns, hd, q⟩ => da_nil fun G H vs m r Q f => by
    obtain ⟨v, rfl, r1⟩ := ro1 r
    have d := hd.at m r1
    generalize hdd : PyData.list (ns.map .int) = dd at d
    cases d with
    | lst h1 w =>
      cases hdd
      have e1 := w.ints
      subst e1
      refine ⟨_, ns, rfl, .inl (.inl h1), fun ns' p hp hw hn => ?_⟩
      rw [srt_eq hp hw]
      have n := m.ex.free hn
      exact f _ _ _ _ _ q (Ex.new n) (m.lay hn) (Dv.lst upd_same ((DvA.of_ints _).mono (Ex.new n)))
    | _ => cases hdd))
def Shw (d : PyData) : Prop := d.showable = true ∧ d.hasDict = false ∧ isDisplay d = true ∧ d.depth ≤ 60 ∧ d.shown.length ≤ sizeLine
theorem call_reprD (hr : Room 0 X.A) (hgd : X.A.guards = some []) : CallR X (.builtin "repr") (fun xs H Q => ∃ v d, xs = [v] ∧ Dp X.K H v d ∧ Shw d ∧ Q (.str d.shown) H) := by
  intro pins s σ H xs us Q I r h
  obtain ⟨v, d, rfl, hd, ⟨h1, h2, h3, h4, h5⟩, q⟩ := h
  obtain ⟨u, rfl, ru⟩ := vals1 r
  obtain ⟨as, rd⟩ := Dp.reads I d v u hd ru
  obtain ⟨a, rfl⟩ := isRef_of_reads rd h3
  refine repr_of_reads' rd h1 (PyData.noDict_hsm h2) hgd (by have := hr.units; omega) (fun _ _ e => e) (fun h' u' tk hk => ?_) h5
  exact ⟨.str d.shown, H, I.kept hk, ⟨_, rfl⟩, q⟩
end
end Nx
namespace Nx
open PySem PySem.Spec PyProof.Rows L2
structure Itd where
  its : List OV
  ok : Mu → Prop
def Gives (J : It) (D : Itd) (G1 : Hp) : Prop := ∃ Gd Y, Walk J D.its.length Gd Y ∧ (∀ G' H' μ', Ex G1 G' → RM G' H' μ' → D.ok μ' → Gd H') ∧
  ∀ i H' x H2 G' μ', Ex G1 G' → RM G' H' μ' → D.ok μ' → Y i H' x H2 → i < D.its.length → ∃ G2 o, Ex G' G2 ∧ RM G2 H2 μ' ∧ D.its[i]? = some o ∧ RO G2 x o
def DI (X : Cx) (tg iter : Expr) (ρ : Rho) (μ : Mu) (Ψ : Itd → Mu → Prop) : Prop := ∃ wi, PI X tg iter wi ∧ ∀ G H σ, RM G H μ → RV G ρ σ → ∀ R : It → Hp → Prop, (∀ J D μ1 G1 H1, Ψ D μ1 → Ex G G1 → RM G1 H1 μ1 → Gives J D G1 → R J H1) → wi σ H R
section
variable {X : Cx} {tg e e2 : Expr} {ρ : Rho} {μ : Mu} {Ψ : Itd → Mu → Prop} {p pos : Pos}
theorem DI.imp {iter : Expr} {Ψ' : Itd → Mu → Prop} (h : DI X tg iter ρ μ Ψ) (k : ∀ D μ', Ψ D μ' → Ψ' D μ') : DI X tg iter ρ μ Ψ' := by
  obtain ⟨wi, a, b⟩ := h
  exact ⟨wi, a, fun G H σ m v R f => b G H σ m v R fun J D μ1 G1 H1 q => f J D μ1 G1 H1 (k _ _ q)⟩
theorem gives_list {K : PySem.W.Frag} {a : Addr} {xs : List V} {ds : List PyData} {G : Hp} (h : G a = some (.lst xs)) (w : DvA G xs ds) : Gives (Itl K a) ⟨ds.map .im, fun _ => True⟩ G := by
  refine ⟨fun H => SqL K H a xs, YAt xs, ?_, fun G' H' μ' e m _ => .inl (.inl (m.ex _ _ (e _ _ h))), fun i H' x H2 G' μ' e m _ y _ => ?_⟩
  · show Walk _ (ds.map OV.im).length _ _
    rw [List.length_map, ← w.length]
    exact walk_list
  · obtain ⟨rfl, hx⟩ := y
    obtain ⟨d, h1, h2⟩ := w.getV hx
    exact ⟨G', .im d, Ex.refl _, m, by rw [List.getElem?_map, h1]; rfl, h2.mono e⟩
theorem gives_tup {K : PySem.W.Frag} {a : Addr} {xs : List V} {ds : List PyData} {G : Hp} (h : G a = some (.tup xs)) (w : DvA G xs ds) : Gives (Itt K a) ⟨ds.map .im, fun _ => True⟩ G := by
  refine ⟨fun H => SqT K H a xs, YAt xs, ?_, fun G' H' μ' e m _ => .inl (.inl (m.ex _ _ (e _ _ h))), fun i H' x H2 G' μ' e m _ y _ => ?_⟩
  · show Walk _ (ds.map OV.im).length _ _
    rw [List.length_map, ← w.length]
    exact walk_tup
  · obtain ⟨rfl, hx⟩ := y
    obtain ⟨d, h1, h2⟩ := w.getV hx
    exact ⟨G', .im d, Ex.refl _, m, by rw [List.getElem?_map, h1]; rfl, h2.mono e⟩
theorem walk_own {K : PySem.W.Frag} {a : Addr} {n : Nat} : Walk (Itl K a) n (fun H => ∃ xs, SqL K H a xs ∧ xs.length = n) (fun i H x H' => H' = H ∧ ∀ xs, SqL K H a xs → xs[i]? = some x) :=
  ⟨fun i H hi ⟨xs, h, hl⟩ => ⟨xs, xs[i]'(by omega), h, by simp [show i < xs.length by omega]⟩, fun H ⟨xs, h, hl⟩ => ⟨xs, h, by omega⟩, fun i H x H' _ _ y => y⟩
theorem di_own (h : DE X e ρ μ fun o μ1 => ∃ a l, o = .own a ∧ μ1 a = some l ∧ Ψ ⟨l, fun μ' => μ' a = some l⟩ μ1) : DI X tg e ρ μ Ψ :=
  ⟨_, pi_list pwe, fun G H σ m v R f => h G H σ m v _ fun vx x μ1 G1 H1 q1 e1 m1 r1 => by
    obtain ⟨a, l, rfl, hl, q⟩ := q1
    have r1 : vx = .ref a := r1
    subst r1
    obtain ⟨g, vs, hv, w⟩ := m1.own _ _ hl
    refine ⟨_, rfl, ⟨_, .inl (.inl hv)⟩, f _ _ _ _ _ q e1 m1 ⟨_, _, walk_own, fun G' H' μ' e m' ok => ?_, fun i H' x H2 G' μ' e m' ok y hi => ?_⟩⟩
    · obtain ⟨_, us, hu, wu⟩ := m'.own _ _ ok
      exact ⟨us, .inl (.inl hu), wu.length⟩
    · obtain ⟨rfl, hy⟩ := y
      obtain ⟨_, us, hu, wu⟩ := m'.own _ _ ok
      obtain ⟨o, h1, h2⟩ := ROs.getV wu (hy us (.inl (.inl hu)))
      exact ⟨G', o, Ex.refl _, m', h1, h2⟩⟩
theorem gives_range {lo : Int} {n : Nat} {G : Hp} : Gives (Itr lo n) ⟨(List.range n).map fun (k : Nat) => .im (.int (lo + (k : Int))), fun _ => True⟩ G := by
  refine ⟨fun _ => True, YFn fun i => .int (lo + i), ?_, fun _ _ _ _ _ _ => trivial, fun i H' x H2 G' μ' e m _ y hi => ?_⟩
  · show Walk _ ((List.range n).map _).length _ _
    rw [List.length_map, List.length_range]
    exact walk_range
  · obtain ⟨rfl, rfl⟩ := y
    have hi : i < n := by simpa using hi
    exact ⟨G', .im (.int (lo + (i : Int))), Ex.refl _, m, by rw [List.getElem?_map, List.getElem?_range hi]; rfl, Dv.int _⟩
theorem di_range1 (B : Bt X.mg) (hg : Gl X "range") (h : DE X e ρ μ fun o μ1 => ∃ j : Int, o = .im (.int j) ∧ -100000 ≤ j ∧ j ≤ 100000 ∧ Ψ ⟨(List.range j.toNat).map fun (k : Nat) => .im (.int (k : Int)), fun _ => True⟩ μ1)
    (he : starEach [e] X.env = (false, eval e X.env) :: starEach [] X.env := by rfl) : DI X tg (.Call (.Name "range" p) [e] [] pos) ρ μ Ψ :=
  ⟨_, pi_range1 hg B.range pwa (hs := by rw [he]; rfl), fun G H σ m v R f => (da_cons (Λ := fun os μ1 => ∃ j : Int, os = [.im (.int j)] ∧ -100000 ≤ j ∧ j ≤ 100000 ∧ Ψ ⟨(List.range j.toNat).map fun (k : Nat) => .im (.int (k : Int)), fun _ => True⟩ μ1)
      (h.imp fun o μ1 ⟨j, ho, h1, h2, q⟩ => da_nil ⟨j, by rw [ho], h1, h2, q⟩) he) G H σ m v _ fun vs os μ1 G1 H1 q1 e1 m1 r1 => by
    obtain ⟨j, rfl, h1, h2, q⟩ := q1
    obtain ⟨u, rfl, ru⟩ := ro1 r1
    cases ru
    exact ⟨j, rfl, by omega, by omega, f _ _ _ _ _ q e1 m1 (by have := gives_range (lo := 0) (n := j.toNat) (G := G1); simpa only [Int.zero_add] using this)⟩⟩
def prs (xs ys : List PyData) : List PyData := (xs.zip ys).map fun q => .tuple [q.1, q.2]
theorem prs_get {xs ys : List PyData} {i : Nat} {x y : PyData} (h1 : xs[i]? = some x) (h2 : ys[i]? = some y) : (prs xs ys)[i]? = some (.tuple [x, y]) := by
  unfold prs
  rw [List.getElem?_map, List.getElem?_zip_eq_some (z := (x, y)) |>.mpr ⟨h1, h2⟩]
  rfl
def nums (n : Nat) : List PyData := (List.range n).map fun (k : Nat) => PyData.int (k : Int)
theorem nums_get {n i : Nat} (h : i < n) : (nums n)[i]? = some (.int (i : Int)) := by
  unfold nums
  rw [List.getElem?_map, List.getElem?_range h]
  rfl
theorem pair_new {G H' : Hp} {μ' : Mu} {T : Addr} {x y : V} {d e : PyData} (m : RM G H' μ') (hT : H' T = none) (h1 : Dv G x d) (h2 : Dv G y e) : Ex G (upd G T (.tup [x, y])) ∧ RM (upd G T (.tup [x, y])) (upd H' T (.tup [x, y])) μ' ∧ RO (upd G T (.tup [x, y])) (.ref T) (.im (.tuple [d, e])) := by
  have n := m.ex.free hT
  exact ⟨Ex.new n, m.lay hT, Dv.tup upd_same (.cons (h1.mono (Ex.new n)) (.cons (h2.mono (Ex.new n)) .nil))⟩
end
def setAll (ρ : Rho) : List Nat → List PyData → Rho
  | i :: is, d :: ds => setAll (ρ.set i (some (.im d))) is ds
  | _, _ => ρ
inductive Tgt where
  | nm (i : Nat) | tp (is : List Nat)
def Tgt.put : Tgt → OV → Rho → Option Rho
  | .nm i, o, ρ => some (ρ.set i (some o))
  | .tp is, .im (.tuple ds), ρ => if ds.length = is.length then some (setAll ρ is ds) else none
  | .tp _, _, _ => none
def gNames : List Nat → TGs
  | [] => gNil
  | i :: is => gCons (gName i) (gNames is)
def TgtG (K : PySem.W.Frag) : Tgt → TG
  | .nm i => gName i
  | .tp is => gTup K is.length (gNames is)
theorem names_run {G H : Hp} {Q : L2.St → Hp → Prop} : ∀ (is : List Nat) {xs : List V} {ds : List PyData} {ρ : Rho} {σ : L2.St}, RV G ρ σ → DvA G xs ds → ds.length = is.length → (∀ σ', RV G (setAll ρ is ds) σ' → Q σ' H) → gNames is xs σ H Q
  | [], _, _, _, _, w, .nil, _, q => ⟨rfl, q _ w⟩
  | i :: is, _, _, _, _, w, .cons hd tl, hl, q => ⟨_, _, rfl, names_run is (w.set (o := .im _) hd) tl (by simpa using hl) q⟩
  | i :: is, _, _, _, _, w, .nil, hl, q => by cases hl
theorem tgt_run {K : PySem.W.Frag} {t : Tgt} {G H : Hp} {μ : Mu} {v : V} {o : OV} {ρ ρ' : Rho} {σ : L2.St} {Q : L2.St → Hp → Prop} (m : RM G H μ) (r : RO G v o) (w : RV G ρ σ) (h : t.put o ρ = some ρ') (q : ∀ σ', RV G ρ' σ' → Q σ' H) : TgtG K t v σ H Q := by
  cases t with
  | nm i =>
    cases h
    exact q _ (w.set r)
  | tp is =>
    cases o with
    | own a => cases h
    | scr K ns => cases h
    | pr p d => cases h
    | dic kvs => cases h
    | ob P => cases h
    | im d =>
      cases d with
      | tuple ds =>
        have h : (if ds.length = is.length then some (setAll ρ is ds) else none) = some ρ' := h
        split at h
        · rename_i hl
          cases h
          have r : Dv G v (.tuple ds) := r
          cases r with
          | tup h1 w1 => exact ⟨_, _, rfl, .inl (.inl (m.ex _ _ h1)), by rw [w1.length, hl], names_run is w w1 hl q⟩
        · cases h
      | _ => cases h
end Nx
namespace Nx
open PySem PySem.Spec PyProof.Rows L2
def Tgt.slots : Tgt → List Nat
  | .nm i => [i]
  | .tp is => is
theorem wipe_set {σ : L2.St} {x : Option V} {j : Nat} : ∀ {vs : List Nat}, j ∈ vs → L2.wipe (σ.set j x) vs = L2.wipe σ vs
  | [], h => nomatch h
  | v :: vs, h => by
    show (L2.wipe (σ.set j x) vs).set v none = (L2.wipe σ vs).set v none
    rcases List.mem_cons.mp h with e | e
    · subst e
      have comm : ∀ (ws : List Nat), (L2.wipe (σ.set j x) ws).set j none = (L2.wipe σ ws).set j none := by
        intro ws
        induction ws with
        | nil => exact List.set_set _
        | cons w ws ih =>
          show ((L2.wipe (σ.set j x) ws).set w none).set j none = ((L2.wipe σ ws).set w none).set j none
          by_cases hw : w = j
          · subst hw
            rw [List.set_set, List.set_set]
            exact ih
          · rw [List.set_comm _ _ hw, List.set_comm _ _ hw, ih]
      exact comm vs
    · rw [wipe_set e]
theorem wipe_idem (σ : L2.St) (vs : List Nat) : L2.wipe (L2.wipe σ vs) vs = L2.wipe σ vs := by
  have go : ∀ (ws : List Nat) (τ : L2.St), (∀ i ∈ ws, i ∈ vs) → L2.wipe (L2.wipe τ ws) vs = L2.wipe τ vs := by
    intro ws
    induction ws with
    | nil => intro τ _; rfl
    | cons w ws ih =>
      intro τ h
      show L2.wipe ((L2.wipe τ ws).set w none) vs = _
      rw [wipe_set (h w (List.mem_cons_self ..))]
      exact ih τ fun i hi => h i (List.mem_cons_of_mem _ hi)
  exact go vs σ fun _ h => h
theorem names_runW {G H : Hp} {Q : L2.St → Hp → Prop} (vs : List Nat) : ∀ (is : List Nat) {xs : List V} {ds : List PyData} {ρ : Rho} {σ : L2.St}, (∀ i ∈ is, i ∈ vs) → RV G ρ σ → DvA G xs ds → ds.length = is.length → (∀ σ', RV G (setAll ρ is ds) σ' → L2.wipe σ' vs = L2.wipe σ vs → Q σ' H) → gNames is xs σ H Q
  | [], _, _, _, _, _, w, .nil, _, q => ⟨rfl, q _ w rfl⟩
  | i :: is, _, _, _, _, hs, w, .cons hd tl, hl, q => ⟨_, _, rfl, names_runW vs is (fun j hj => hs j (List.mem_cons_of_mem _ hj)) (w.set (o := .im _) hd) tl (by simpa using hl) fun σ' r e => q σ' r (e.trans (wipe_set (hs i (List.mem_cons_self ..))))⟩
  | i :: is, _, _, _, _, _, w, .nil, hl, q => by cases hl
theorem tgt_runW {K : PySem.W.Frag} {t : Tgt} {G H : Hp} {μ : Mu} {v : V} {o : OV} {ρ ρ' : Rho} {σ : L2.St} {Q : L2.St → Hp → Prop} (vs : List Nat) (hs : ∀ i ∈ t.slots, i ∈ vs) (m : RM G H μ) (r : RO G v o) (w : RV G ρ σ) (h : t.put o ρ = some ρ') (q : ∀ σ', RV G ρ' σ' → L2.wipe σ' vs = L2.wipe σ vs → Q σ' H) : TgtG K t v σ H Q := by
  cases t with
  | nm i =>
    cases h
    exact q _ (w.set r) (wipe_set (hs i (List.mem_cons_self ..)))
  | tp is =>
    cases o with
    | own a => cases h
    | scr K ns => cases h
    | pr p d => cases h
    | dic kvs => cases h
    | ob P => cases h
    | im d =>
      cases d with
      | tuple ds =>
        have h : (if ds.length = is.length then some (setAll ρ is ds) else none) = some ρ' := h
        split at h
        · rename_i hl
          cases h
          have r : Dv G v (.tuple ds) := r
          cases r with
          | tup h1 w1 => exact ⟨_, _, rfl, .inl (.inl (m.ex _ _ h1)), by rw [w1.length, hl], names_runW vs is hs w w1 hl q⟩
        · cases h
      | _ => cases h
def wipeR (ρ : Rho) (vs : List Nat) : Rho := vs.foldr (fun v r => r.set v none) ρ
theorem RV.wipeV {G : Hp} {ρ : Rho} {σ : L2.St} (h : RV G ρ σ) (vs : List Nat) : RV G (wipeR ρ vs) (L2.wipe σ vs) := h.wipe vs
theorem del_put {μ : Mu} {a : Addr} {l : List OV} (h : μ a = none) : (μ.put a l).del a = μ := by
  refine mu_ext (fun b => ?_) rfl rfl
  show (if b = a then none else if b = a then some l else μ b) = μ b
  by_cases e : b = a
  · rw [if_pos e, e, h]
  · rw [if_neg e, if_neg e]
section
variable {X : Cx} {tg iter elt : Expr} {ifs : List Expr} {scope : Scope} {ρ : Rho} {μ : Mu} {Φ : OV → Mu → Prop} {pos : Pos}
abbrev Blk (X : Cx) (scope : Scope) (s : Shared) (H : Hp) (C : Addr) (cl : List (Str × Addr)) (fp : List Addr) : Cx := X.blk s H scope (compEnvC scope cl C X.env) fp
def DEb (X : Cx) (scope : Scope) (e : Expr) (ρ : Rho) (μ : Mu) (Φ : OV → Mu → Prop) : Prop := ∀ s H C cl fp, DE (Blk X scope s H C cl fp) e ρ μ Φ
def DTb (X : Cx) (scope : Scope) (ifs : List Expr) (ρ : Rho) (μ : Mu) (Φ : Bool → Mu → Prop) : Prop := match ifs with
  | [] => Φ true μ
  | [c] => ∀ s H C cl fp, DT (Blk X scope s H C cl fp) c ρ μ Φ
  | _ => False
def WTb (X : Cx) (scope : Scope) (ifs : List Expr) : TT := match ifs with
  | [] => tYes
  | [c] => fun σ H Q => ∀ s H0 C cl fp, WT (Blk X scope s H0 C cl fp) c σ H Q
  | _ => fun _ _ _ => False
theorem pwtb (s : Shared) (H : Hp) (C : Addr) (cl : List (Str × Addr)) (fp : List Addr) : PTs (Blk X scope s H C cl fp) ifs (WTb X scope ifs) := by
  match ifs with
  | [] => exact pts_nil
  | [c] => exact pts_one ⟨fun pins s' σ H' Q I h => h s H C cl fp pins s' I⟩
  | _ :: _ :: _ => exact ⟨fun _ _ _ _ _ _ h => h.elim⟩
theorem DTb.run {G H : Hp} {σ : L2.St} {Ψ : Bool → Mu → Prop} (h : DTb X scope ifs ρ μ Ψ) (m : RM G H μ) (v : RV G ρ σ) {Q : Bool → Hp → Prop} (f : ∀ b μ' G' H', Ψ b μ' → Ex G G' → RM G' H' μ' → Q b H') : WTb X scope ifs σ H Q := by
  match ifs, h with
  | [], h => exact f _ _ _ _ h (Ex.refl G) m
  | [c], h => exact fun s H0 C cl fp => h s H0 C cl fp G H σ m v Q f
def LcD (X : Cx) (scope : Scope) (ifs : List Expr) (elt : Expr) (t : Tgt) (vs : List Nat) (ρ : Rho) (D : Itd) (μ1 : Mu) (done : List OV → Mu → Prop) : Prop :=
  ∃ Pv : Nat → List OV → Mu → Prop, D.its.length ≤ 50000 ∧ Pv 0 [] μ1 ∧ (∀ i acc μ' Dl, Pv i acc μ' → μ' Dl = none → D.ok (μ'.put Dl acc)) ∧ (∀ acc μ', Pv D.its.length acc μ' → done acc μ') ∧
    ∀ i acc μ' o, D.its[i]? = some o → Pv i acc μ' → ∃ ρ', t.put o (wipeR ρ vs) = some ρ' ∧ ∀ Dl, μ' Dl = none →
      DTb X scope ifs ρ' (μ'.put Dl acc) fun k μ2 => if k = true then DEb X scope elt ρ' μ2 fun o' μ3 => ∃ μ4, μ3 = μ4.put Dl acc ∧ μ4 Dl = none ∧ Pv (i + 1) (acc ++ [o']) μ4 else ∃ μ4, μ2 = μ4.put Dl acc ∧ μ4 Dl = none ∧ Pv (i + 1) acc μ4
def WEb (X : Cx) (scope : Scope) (elt : Expr) : TE := fun σ H Q => ∀ s H0 C cl fp, WE (Blk X scope s H0 C cl fp) elt σ H Q
theorem lc_run {own : List (Str × Nat)} {t : Tgt} (hs : ∀ i ∈ t.slots, i ∈ own.map (·.2)) {G : Hp} {σ : L2.St} (v : RV G ρ σ) {J : It} {D : Itd} {μ1 : Mu} {G1 H1 : Hp} {done : List OV → Mu → Prop} {Qd : Addr → Hp → Prop}
    (h : LcD X scope ifs elt t (own.map (·.2)) ρ D μ1 done) (e1 : Ex G G1) (m1 : RM G1 H1 μ1) (gv : Gives J D G1) (fin : ∀ Dl acc μ' G' H', done acc μ' → μ' Dl = none → Ex G1 G' → RM G' H' (μ'.put Dl acc) → Qd Dl H') (Dl : Addr) (hD : H1 Dl = none) :
    ∃ W : Nat → Nat → Hp → Prop, (∃ m, W 0 m (upd H1 Dl (.lst []))) ∧ ∀ i m H, W i m H →
      (J.stop i H ∧ Qd Dl H) ∨ (J.go i H ∧ ∃ Nx : Hp → Prop, (∀ H', Nx H' → ∃ m', m' < m ∧ W (i + 1) m' H') ∧ ∀ x H', J.yld i H x H' → TgtG X.K t x (L2.wipe σ (own.map (·.2))) H' fun σ2 H2 => L2.wipe σ2 (own.map (·.2)) = L2.wipe σ (own.map (·.2)) ∧ WTb X scope ifs σ2 H2 fun b H3 =>
        if b = true then WEb X scope elt σ2 H3 fun y H4 => ∃ acc, H4 Dl = some (.lst acc) ∧ acc.length < sizeLine ∧ Nx (upd H4 Dl (.lst (acc ++ [y]))) else Nx H3) := by
  obtain ⟨Pv, hn, h0, hok, hdone, step⟩ := h
  obtain ⟨Gd, Y, wk, hG, hY⟩ := gv
  refine lc_it wk (Qd := Qd Dl) (fun i H => ∃ acc μ' G', acc.length ≤ i ∧ Pv i acc μ' ∧ μ' Dl = none ∧ Ex G1 G' ∧ RM G' H (μ'.put Dl acc)) ⟨[], μ1, G1, Nat.le_refl _, h0, m1.fresh hD, Ex.refl _, m1.new hD .nil⟩ ?_ ?_ ?_
  · rintro i H _ ⟨acc, μ', G', _, p, n, e, m⟩
    exact hG G' H _ e m (hok i acc μ' Dl p n)
  · rintro i x H H' hi ⟨acc, μ', G', hl, p, n, e, m⟩ y
    obtain ⟨G2, o, e2, m2, ho, r2⟩ := hY i H x H' G' _ e m (hok i acc μ' Dl p n) y hi
    obtain ⟨ρ', hp, hb⟩ := step i acc μ' o ho p
    have v2 : RV G2 (wipeR ρ (own.map (·.2))) (L2.wipe σ (own.map (·.2))) := (v.mono ((e1.trans e).trans e2)).wipeV _
    refine tgt_runW (own.map (·.2)) hs m2 r2 v2 hp fun σ' v3 hw => ⟨hw.trans (wipe_idem _ _), (hb Dl n).run m2 v3 fun b μ3 G3 H3 q3 e3 m3 => ?_⟩
    cases b with
    | true =>
      rw [if_pos rfl] at q3 ⊢
      intro s H0 C cl fp
      refine q3 s H0 C cl fp G3 H3 σ' m3 (v3.mono e3) _ fun vy o' μ4 G4 H4 q4 e4 m4 r4 => ?_
      obtain ⟨μ5, rfl, n5, p5⟩ := q4
      obtain ⟨g5, accv, h5, w5⟩ := m4.own Dl acc put_same
      refine ⟨accv, h5, by rw [w5.length]; exact Nat.lt_of_lt_of_le (show acc.length < 100000 by omega) (by decide), acc ++ [o'], μ5, G4, by rw [List.length_append]; exact Nat.succ_le_succ hl, p5, n5, ((e.trans e2).trans e3).trans e4, ?_⟩
      have m5 := m4.chg (p := Dl) put_same (w5.snoc r4)
      rw [put_put] at m5
      exact m5
    | false =>
      rw [if_neg (by decide)] at q3 ⊢
      obtain ⟨μ5, rfl, n5, p5⟩ := q3
      exact ⟨acc, μ5, G3, Nat.le_succ_of_le hl, p5, n5, (e.trans e2).trans e3, m3⟩
  · rintro H ⟨acc, μ', G', hl, p, n, e, m⟩
    exact fin Dl acc μ' G' H (hdone acc μ' p) n e m
theorem pweb (s : Shared) (H : Hp) (C : Addr) (cl : List (Str × Addr)) (fp : List Addr) : PE (Blk X scope s H C cl fp) elt (WEb X scope elt) := ⟨fun pins s' σ H' Q I h => h s H C cl fp pins s' I⟩
theorem de_lcO {own : List (Str × Nat)} (t : Tgt) (hc : X.calm = true) (hN : X.N.Nodup) (ok : BlkOk X.N X.env.scope scope own) (hs : ∀ i ∈ t.slots, i ∈ own.map (·.2))
    (hg : ∀ s H C cl fp, PG (Blk X scope s H C cl fp) tg (TgtG X.K t)) (h : DI X tg iter ρ μ fun D μ1 => LcD X scope ifs elt t (own.map (·.2)) ρ D μ1 fun acc μ' => ∀ p, μ' p = none → Φ (.own p) (μ'.put p acc))
    (hf : ∀ x, foldedSetIterable iter X.env x = pure x := by intro _; rfl) : DE X (.ListComp elt [⟨tg, iter, ifs, 0⟩] scope pos) ρ μ Φ := by
  obtain ⟨wi, pi, run⟩ := h
  intro G H σ m v Q f
  refine WE.of (pe_lc (own := own) hc hN pi ok hg (fun s H C cl fp => pwtb s H C cl fp) (fun s H C cl fp => pweb s H C cl fp) hf) (run G H σ m v _ fun J D μ1 G1 H1 q e1 m1 gv Dl hD => ?_)
  exact lc_run hs v q e1 m1 gv (Qd := fun Dl H => Q (.ref Dl) H) (fun Dl acc μ' G' H' d n e m' => f _ _ _ _ _ (d Dl n) (e1.trans e) m' rfl) Dl hD
theorem de_lc {own : List (Str × Nat)} (t : Tgt) (hc : X.calm = true) (hN : X.N.Nodup) (ok : BlkOk X.N X.env.scope scope own) (hs : ∀ i ∈ t.slots, i ∈ own.map (·.2))
    (hg : ∀ s H C cl fp, PG (Blk X scope s H C cl fp) tg (TgtG X.K t)) (h : DI X tg iter ρ μ fun D μ1 => LcD X scope ifs elt t (own.map (·.2)) ρ D μ1 fun acc μ' => ∃ ds, acc = ds.map .im ∧ Φ (.im (.list ds)) μ')
    (hf : ∀ x, foldedSetIterable iter X.env x = pure x := by intro _; rfl) : DE X (.ListComp elt [⟨tg, iter, ifs, 0⟩] scope pos) ρ μ Φ := by
  refine de_frz (ds := []) (p := 0) (de_lcO t hc hN ok hs hg (h.imp fun D μ1 hL => ?_) hf)
  obtain ⟨Pv, a, b, c, d, e⟩ := hL
  refine ⟨Pv, a, b, c, fun acc μ' p q hq => ?_, e⟩
  obtain ⟨ds, rfl, z⟩ := d acc μ' p
  exact ⟨q, ds, rfl, put_same, by rw [del_put hq]; exact z⟩
def Xt (μ μ' : Mu) : Prop := ∀ a l, μ a = some l → μ' a = some l
theorem Xt.put {μ : Mu} {p : Addr} {l : List OV} (h : μ p = none) : Xt μ (μ.put p l) := fun a m e => by
  rw [put_ne (fun z => by rw [z, h] at e; cases e)]
  exact e
end
end Nx
namespace Nx
open PySem PySem.Spec PyProof.Rows L2
section
variable {X : Cx} {a b c e o : Expr} {es : List Expr} {st : Stmt} {ss : List Stmt} {ρ : Rho} {μ : Mu} {D : DEnds} {Φ : OV → Mu → Prop} {pos : Pos}
theorem dss_nil (h : D.nx ρ μ) : DSs X [] ρ μ D := fun G H σ m v E f => WSs.of pss_nil (f.nx ρ μ G H σ h (Ex.refl G) m v)
theorem dss_one (h : DS X st ρ μ D) : DSs X [st] ρ μ D := fun G H σ m v E f => WSs.of (pss_one pws) (h G H σ m v E f)
theorem dss_cons (h : DS X st ρ μ { D with nx := fun ρ' μ' => DSs X ss ρ' μ' D }) : DSs X (st :: ss) ρ μ D := fun G H σ m v E f =>
  WSs.of (pss_cons pws pwss) (h G H σ m v _ ⟨fun ρ' μ' G' H' σ' q e m' v' => q G' H' σ' m' v' E (f.later e), f.rt, f.bk, f.ct⟩)
theorem ds_expr (h : DE X e ρ μ fun _ μ1 => D.nx ρ μ1) (hs : swapsWith e none pos.line X.env = pure false := by rfl) : DS X (.Expr e pos) ρ μ D := fun G H σ m v E f =>
  WS.of (ps_expr pwe hs) (h G H σ m v _ fun vx x μ1 G1 H1 q1 e1 m1 r1 => f.nx _ _ _ _ _ q1 e1 m1 (v.mono e1))
theorem ds_ret (h : DE X e ρ μ D.rt) : DS X (.Return (some e) pos) ρ μ D := fun G H σ m v E f => WS.of (ps_ret pwe) (h G H σ m v _ f.rt)
theorem ds_if {s1 s2 : List Stmt} (h : DT X c ρ μ fun k μ1 => if k = true then DSs X s1 ρ μ1 D else DSs X s2 ρ μ1 D) : DS X (.If c s1 s2 pos) ρ μ D := fun G H σ m v E f =>
  WS.of (ps_if pwt pwss pwss) (h G H σ m v _ fun k μ1 G1 H1 q e1 m1 => by
    dsimp only at q
    split at q
    · rename_i hk
      rw [if_pos hk]
      exact q G1 H1 σ m1 (v.mono e1) E (f.later e1)
    · rename_i hk
      rw [if_neg hk]
      exact q G1 H1 σ m1 (v.mono e1) E (f.later e1))
theorem ds_set (i : Nat) {x : Str} {p' : Pos} (hN : X.N.Nodup) (hi : X.N[i]? = some x) (hx : Loc X.env.scope x) (h : DE X e ρ μ fun z μ1 => D.nx (ρ.set i (some z)) μ1) (hs : swapsWith e (some (.Name x p')) pos.line X.env = pure false := by rfl)
    (hf : X.fn x = true ∨ X.env.scope.names.lookup x = some .local := by first | exact .inl rfl | exact .inr rfl | assumption) : DS X (.Assign [.Name x p'] e pos) ρ μ D := fun G H σ m v E f =>
  WS.of (ps_set hN hi hx pwe hs hf) (h G H σ m v _ fun vx z μ1 G1 H1 q1 e1 m1 r1 => f.nx _ _ _ _ _ q1 e1 m1 ((v.mono e1).set r1))
theorem ds_par (i j : Nat) {x y : Str} {px py pt : Pos} {kt k2 pt2} (hc : X.calm = true) (hN : X.N.Nodup) (hi : X.N[i]? = some x) (hj : X.N[j]? = some y) (hij : i ≠ j)
    (hx : X.env.scope.names.lookup x = some .local) (hy : X.env.scope.names.lookup y = some .local) (hw : swappedStores [.Tuple [.Name x px, .Name y py] kt pt] (.Tuple [a, b] k2 pt2) X.env = pure (some [x, y]))
    (h : DA X [a, b] ρ μ fun os μ1 => ∃ u v, os = [u, v] ∧ D.nx ((ρ.set i (some u)).set j (some v)) μ1)
    (hs : swapsWithSole [.Tuple [.Name x px, .Name y py] kt pt] (.Tuple [a, b] k2 pt2) pos.line X.env = pure false := by rfl) : DS X (.Assign [.Tuple [.Name x px, .Name y py] kt pt] (.Tuple [a, b] k2 pt2) pos) ρ μ D := fun G H σ m v E f =>
  WS.of (ps_par hc hN hi hj hij hx hy pwa hw hs) (h G H σ m v _ fun vs os μ1 G1 H1 q1 e1 m1 r1 => by
    obtain ⟨u, w, rfl, q⟩ := q1
    cases r1 with
    | cons r1 t1 =>
      obtain ⟨z, rfl, r2⟩ := ro1 t1
      exact ⟨_, _, rfl, f.nx _ _ _ _ _ q e1 m1 (((v.mono e1).set r1).set r2)⟩)
theorem ds_sub {p' : Pos} (h : DE X e ρ μ fun z μ1 => DE X a ρ μ1 fun x μ2 => DE X b ρ μ2 fun y μ3 => ∃ (p : Addr) (l : List OV) (i : Int) (j : Nat), x = .own p ∧ y = .im (.int i) ∧ μ3 p = some l ∧ ixN l.length i = some j ∧ D.nx ρ (μ3.put p (l.set j z))) (hs : swapsWithSole [.Subscript a b p'] e pos.line X.env = pure false := by rfl)
    (hw : swappedStores [.Subscript a b p'] e X.env = pure none := by rfl) (h1 : (assignEach [.Subscript a b p'] X.env).map (·.2) = [assign (.Subscript a b p') X.env] := by rfl) (hsub : PG X (.Subscript a b p') (gSub (WE X a) (WE X b) rSetL)) : DS X (.Assign [.Subscript a b p'] e pos) ρ μ D := fun G H σ m v E f =>
  WS.of (ps_asg pwe hsub hs hw h1) (h G H σ m v _ fun vz z μ1 G1 H1 q1 e1 m1 r1 => q1 G1 H1 σ m1 (v.mono e1) _ fun vx x μ2 G2 H2 q2 e2 m2 r2 => q2 G2 H2 σ m2 (v.mono (e1.trans e2)) _ fun vy y μ3 G3 H3 q3 e3 m3 r3 => by
    obtain ⟨p, l, i, j, rfl, rfl, hp, hj, q⟩ := q3
    have r2 : vx = .ref p := r2
    subst r2
    cases r3
    obtain ⟨g, vs, hv, w⟩ := m3.own _ _ hp
    refine ⟨p, vs, i, j, rfl, rfl, hv, by rw [w.length]; exact hj, ?_⟩
    exact f.nx _ _ _ _ _ q ((e1.trans e2).trans e3) (m3.chg hp (w.set (r1.mono (e2.trans e3)) j)) (v.mono ((e1.trans e2).trans e3)))
theorem ds_for (t : Tgt) {tg iter : Expr} {body : List Stmt} (hp : PassesOwn (model X.prog X.w) X.A X.env X.xe) (hc : X.calm = true) (hg : PG X tg (TgtG X.K t))
    (h : DI X tg iter ρ μ fun I μ1 => ∃ Pv : Nat → Rho → Mu → Prop, Pv 0 ρ μ1 ∧ (∀ i ρ' μ', Pv i ρ' μ' → I.ok μ') ∧ (∀ (i : Nat) (z : OV) ρ' μ', I.its[i]? = some z → Pv i ρ' μ' → ∃ ρ2, t.put z ρ' = some ρ2 ∧ DSs X body ρ2 μ' { D with nx := Pv (i + 1), ct := Pv (i + 1), bk := D.nx }) ∧ ∀ ρ' μ', Pv I.its.length ρ' μ' → D.nx ρ' μ')
    (hs : ∀ x, foldedSetIterable iter X.env x = pure x := by intro _; rfl) : DS X (.For tg iter body [] pos) ρ μ D := by
  obtain ⟨wi, pi, run⟩ := h
  intro G H σ m v E f
  refine WS.of (ps_for hp hc pi hg pwss hs) (run G H σ m v _ fun J I μ1 G1 H1 q e1 m1 gv => ?_)
  obtain ⟨Pv, h0, hok, step, hd⟩ := q
  obtain ⟨Gd, Y, wk, hG, hY⟩ := gv
  refine for_it wk (D := E) (fun i σ' H' => ∃ ρ' μ' G', Pv i ρ' μ' ∧ Ex G1 G' ∧ RM G' H' μ' ∧ RV G' ρ' σ') ⟨ρ, μ1, G1, h0, Ex.refl _, m1, v.mono e1⟩ ?_ ?_ ?_
  · rintro i σ' H' _ ⟨ρ', μ', G', p, e, m', v'⟩
    exact hG G' H' μ' e m' (hok _ _ _ p)
  · rintro i x σ' H' H2 hi ⟨ρ', μ', G', p, e, m', v'⟩ y
    obtain ⟨G2, z, e2, m2, hz, r2⟩ := hY i H' x H2 G' μ' e m' (hok _ _ _ p) y hi
    obtain ⟨ρ2, hp2, hb⟩ := step i z ρ' μ' hz p
    refine tgt_run m2 r2 (v'.mono e2) hp2 fun σ2 v2 => ?_
    have e02 := (e1.trans e).trans e2
    refine hb G2 H2 σ2 m2 v2 _ ⟨fun ρ3 μ3 G3 H3 σ3 p3 e3 m3 v3 => ⟨ρ3, μ3, G3, p3, (e.trans e2).trans e3, m3, v3⟩, f.rt.later e02, f.nx.later e02, fun ρ3 μ3 G3 H3 σ3 p3 e3 m3 v3 => ⟨ρ3, μ3, G3, p3, (e.trans e2).trans e3, m3, v3⟩⟩
  · rintro σ' H' ⟨ρ', μ', G', p, e, m', v'⟩
    exact f.nx _ _ _ _ _ (hd _ _ p) (e1.trans e) m' v'
theorem ds_setLc {own : List (Str × Nat)} (t : Tgt) (i : Nat) {y : Str} {py spos : Pos} {tg iter elt : Expr} {ifs : List Expr} {scope : Scope} (hc : X.calm = true) (hN : X.N.Nodup) (hy : X.N[i]? = some y) (hyl : X.env.scope.names.lookup y = some .local)
    (hsw : swapsWith (.ListComp elt [⟨tg, iter, ifs, 0⟩] scope pos) (some (.Name y py)) spos.line X.env = pure true) (ok : BlkOk X.N X.env.scope scope own) (hs : ∀ i ∈ t.slots, i ∈ own.map (·.2))
    (hg : ∀ s H C cl fp, PG (Blk X scope s H C cl fp) tg (TgtG X.K t)) (h : DI X tg iter ρ μ fun I μ1 => LcD X scope ifs elt t (own.map (·.2)) ρ I μ1 fun acc μ' => ∃ ds, acc = ds.map .im ∧ D.nx (ρ.set i (some (.im (.list ds)))) μ')
    (hf : ∀ x, foldedSetIterable iter X.env x = pure x := by intro _; rfl) : DS X (.Assign [.Name y py] (.ListComp elt [⟨tg, iter, ifs, 0⟩] scope pos) spos) ρ μ D := by
  obtain ⟨wi, pi, run⟩ := h
  intro G H σ m v E f
  refine WS.of (ps_setLc (own := own) hc hN hy hyl hsw pi ok hg (fun s H C cl fp => pwtb s H C cl fp) (fun s H C cl fp => pweb s H C cl fp) hf) (run G H σ m v _ fun J I μ1 G1 H1 q e1 m1 gv Dl hD => ?_)
  refine lc_run hs v q e1 m1 gv (Qd := fun Dl H => E.nx (σ.set i (some (.ref Dl))) H) (fun Dl acc μ' G' H' d n e m' => ?_) Dl hD
  obtain ⟨ds, rfl, z⟩ := d
  obtain ⟨vs, e0, g0, w, m2⟩ := m'.frz (p := Dl) put_same
  rw [del_put n] at m2
  exact f.nx _ _ _ _ _ z ((e1.trans e).trans (Ex.new g0)) m2 ((v.mono ((e1.trans e).trans (Ex.new g0))).set (o := .im _) (Dv.lst upd_same (w.mono (Ex.new g0))))
variable {apos cpos : Pos}
theorem de_append (h : DE X o ρ μ fun x μ1 => ∃ p l, x = .own p ∧ μ1 p = some l ∧ DE X e ρ μ1 fun y μ2 => ∃ l2, μ2 p = some l2 ∧ l2.length < 100000 ∧ Φ (.im .none) (μ2.put p (l2 ++ [y])))
    (hbase : attributeBase o "append" X.env (eval o X.env) = eval o X.env := by rfl)
    (hfew : ((backTo cpos (starEach [e] X.env)).all (fun x => !x.1) && (backToKw cpos (keywordEach [] X.env)).all (fun x => x.1.isSome) && decide ([e].length + ([] : List Keyword).length + (if ([] : List Keyword).isEmpty then 0 else 1) < 30)) = true := by rfl)
    (hline : (apos.endLine == cpos.line) = true := by rfl) (hs : starEach [e] X.env = (false, eval e X.env) :: starEach [] X.env := by rfl) (hplain : (backTo cpos (starEach [] X.env)).any (·.1) = false := by rfl) :
    DE X (.Call (.Attribute o "append" apos) [e] [] cpos) ρ μ Φ := fun G H σ m v Q f =>
  WE.of (pe_bm PySem.F.plainAttrs_list PySem.F.slot_list_append PySem.F.type_list_append mt_append pwe pwa hbase hfew hline hs hplain) (h G H σ m v _ fun vx x μ1 G1 H1 q1 e1 m1 r1 => by
    obtain ⟨p, l, rfl, hp, q⟩ := q1
    have r1 : vx = .ref p := r1
    subst r1
    obtain ⟨_, vs1, hv1, _⟩ := m1.own _ _ hp
    refine ⟨.inl ⟨rfl, _, .inl (.inl hv1)⟩, ?_⟩
    refine (da_cons (Λ := fun os μ2 => ∃ y l2, os = [y] ∧ μ2 p = some l2 ∧ l2.length < 100000 ∧ Φ (.im .none) (μ2.put p (l2 ++ [y]))) (q.imp fun y μ2 ⟨l2, a1, a2, a3⟩ => da_nil ⟨y, l2, rfl, a1, a2, a3⟩) hs) G1 H1 σ m1 (v.mono e1) _ fun vs os μ2 G2 H2 q2 e2 m2 r2 => ?_
    obtain ⟨y, l2, rfl, hp2, hz, q⟩ := q2
    obtain ⟨u, rfl, ru⟩ := ro1 r2
    obtain ⟨_, ws, hw, ww⟩ := m2.own _ _ hp2
    exact ⟨p, ws, u, rfl, rfl, hw, by rw [ww.length]; exact Nat.lt_of_lt_of_le hz (by decide), f _ _ _ _ _ q (e1.trans e2) (m2.chg hp2 (ww.snoc ru)) Dv.non⟩)
end
end Nx
namespace Nx
open PySem PySem.Spec PyProof.Rows L2
def ItO (k : Bool) (h : Heap) (it a : Addr) (i : Nat) : Prop := if k then h.IsListIter it a i else h.IsTupleIter it a i
def SrO (k : Bool) (h : Heap) (a : Addr) (its : Array Value) : Prop := if k then h.IsList a its else h.IsTuple a its
def SqK (k : Bool) (H : Hp) (a : Addr) (xs : List V) : Prop := H a = some (if k then HO.lst xs else HO.tup xs)
def itOb (k : Bool) (a : Addr) : Obj := { cls := .type (if k then "list_iterator" else "tuple_iterator"), data := .fields #[.ref a, .int 0 0] }
theorem draws (k : Bool) {prog : Program} {w : World} {A : Around} (hh : A.handled = none) (it a : Addr) (hne : a ≠ it) (its : Array Value) : Draws prog w A it [it, a] its.size (fun i v => its[i]? = some v) (fun i h => ItO k h it a i ∧ SrO k h a its) := by
  cases k
  · exact Draws.tuple hh it a hne its
  · exact Draws.list hh it a hne its
theorem begins (k : Bool) (a : Addr) (its : Array Value) : Begins (.ref a) (itOb k a) fun h => SrO k h a its := by
  cases k
  · exact begins_tuple a its
  · exact begins_list a its
theorem ItO.new {k : Bool} {h : Heap} {it a : Addr} (e : h.get? it = some (itOb k a)) : ItO k h it a 0 := by
  cases k
  · exact ⟨_, e, rfl, rfl⟩
  · exact ⟨_, e, rfl, rfl⟩
theorem ItO.keep {k : Bool} {h h' : Heap} {it a : Addr} {i : Nat} (x : ItO k h it a i) (e : ∀ o, h.get? it = some o → h'.get? it = some o) : ItO k h' it a i := by
  cases k
  · obtain ⟨o, h1, h2, h3⟩ := x
    exact ⟨o, e o h1, h2, h3⟩
  · obtain ⟨o, h1, h2, h3⟩ := x
    exact ⟨o, e o h1, h2, h3⟩
theorem ItO.obj {k : Bool} {h : Heap} {it a : Addr} {i : Nat} (x : ItO k h it a i) : ∃ o, h.get? it = some o ∧ ∀ v, o.data ≠ .cell v := by
  cases k
  · obtain ⟨o, h1, h2, h3⟩ := x
    exact ⟨o, h1, fun v q => by rw [h3] at q; cases q⟩
  · obtain ⟨o, h1, h2, h3⟩ := x
    exact ⟨o, h1, fun v q => by rw [h3] at q; cases q⟩
theorem SqK.at {X : Cx} {pins : List (Addr × Obj)} {σ : L2.St} {H : Hp} {s : Shared} {k : Bool} {a : Addr} {xs : List V} (I : Inv X pins σ H s) (h : SqK k H a xs) : ∃ its : List Value, Vals xs its ∧ SrO k s.heap a its.toArray := by
  cases k
  · obtain ⟨its, rv, t, _⟩ := I.tuple (X := X) (xs := xs) (a := a) (.inl (.inl h))
    exact ⟨its, rv, t⟩
  · obtain ⟨its, rv, p, _⟩ := I.list (X := X) (xs := xs) (a := a) (.inl (.inl h))
    exact ⟨its, rv, p.isList⟩
theorem mem2 {b e it : Addr} (h : b ∈ [e, it]) : b = e ∨ b = it := by simpa using h
def Jen (k : Bool) (a : Addr) (xs : List V) : It :=
  ⟨fun i H => i < xs.length ∧ SqK k H a xs, fun i H v H' => ∃ T x, v = .ref T ∧ H T = none ∧ H' = upd H T (.tup [.int (i : Nat), x]) ∧ xs[i]? = some x, fun i H => i = xs.length ∧ SqK k H a xs⟩
theorem turn_en {P : Program} {w : World} {K : PySem.W.Frag} {elts : List Expr} {kk : Nat} {tpos : Pos} (k : Bool) (a e it : Addr) (xs : List V) (hei : e ≠ it) :
    Turn P w K (.Tuple elts kk tpos) (Jen k a xs) [e, it] e (fun i h => (∃ old, IsEnum h e it ((i : Nat) : Int) old) ∧ ItO k h it a i) where
  mem := by simp
  obj := fun i h st b hb => by
    obtain ⟨⟨old, he⟩, hi⟩ := st
    rcases mem2 hb with z | z
    · rw [z]
      exact ⟨_, he, fun v q => nomatch q⟩
    · rw [z]
      exact hi.obj
  keep := fun i h h' st kp => by
    obtain ⟨⟨old, he⟩, hi⟩ := st
    exact ⟨⟨old, kp e (by simp) _ he⟩, hi.keep fun o q => kp it (by simp) o q⟩
  item := by
    intro X hP hw hK hc i pins s σ H E I hf st hg
    subst hP hw hK
    obtain ⟨⟨old, he⟩, hit⟩ := st
    obtain ⟨hi, hq⟩ := hg
    obtain ⟨its, rv, hs⟩ := hq.at I
    have na : ∀ b ∈ [e, it], a ≠ b := fun b hb => ne_of_none hq (hf b hb).1
    have W := GoesN.enumFrom (elts := elts) (x1 := kk) (pos := tpos) (A := X.A) 0 (draws (prog := X.prog) (w := X.w) (A := X.A.in1) k (I.ok.hd hc) it a (na it (by simp)) its.toArray) e hei (by
      intro hm
      rcases mem2 hm with z | z
      · exact hei z
      · exact na e (by simp) z.symm) (by simp)
    have hl := rv.length
    refine W.goes i s _ E (by simp; omega) ⟨⟨old, by rw [Int.zero_add]; exact he⟩, hit, hs⟩ fun v h' tk hY st' hk _ => ?_
    obtain ⟨T, t, x, rfl, hT, hx, hTu⟩ := hY
    obtain ⟨⟨old', he'⟩, hit', _⟩ := st'
    have hx' : its[i]? = some x := by simpa using hx
    obtain ⟨y, hy⟩ : ∃ y, xs[i]? = some y := ⟨_, List.getElem?_eq_getElem hi⟩
    obtain ⟨u, hu, ru⟩ := rv.get hy
    rw [hx'] at hu
    cases hu
    have new : ObjOk X.prog X.w (upd H T (.tup [.int (i : Nat), y])) h' T (.tup [.int (i : Nat), y]) :=
      ⟨by show 2 ≤ sizeLine; decide, [.int (0 + (i : Int)) t, x], .cons ⟨t, by rw [Int.zero_add]⟩ (.cons ru .nil), hTu⟩
    have hTn := I.hok.fresh hT
    refine ⟨.ref T, _, I.turnedNew (t' := tk) (ch := [e, it]) hk hf hT new, rfl, ⟨T, y, rfl, hTn, rfl, hy⟩, ⟨⟨old', ?_⟩, hit'⟩, fun b hb => ?_⟩
    · rw [Int.zero_add] at he'
      exact he'
    · have hb' : b ≠ T := fun z => by
        obtain ⟨o, ho, _⟩ : ∃ o, s.heap.get? b = some o ∧ ∀ v, o.data ≠ .cell v := by
          rcases mem2 hb with z | z
          · rw [z]
            exact ⟨_, he, fun v q => nomatch q⟩
          · rw [z]
            exact hit.obj
        have := Heap.lt_size ho
        rw [z] at this
        exact absurd hT (Nat.not_le.mpr this)
      rw [upd_ne hb']
      exact (hf b hb).1
  done := by
    intro X hP hw hK hc i pins s σ H E I hf st hg
    subst hP hw hK
    obtain ⟨⟨old, he⟩, hit⟩ := st
    obtain ⟨rfl, hq⟩ := hg
    obtain ⟨its, rv, hs⟩ := hq.at I
    have na : ∀ b ∈ [e, it], a ≠ b := fun b hb => ne_of_none hq (hf b hb).1
    have W := GoesN.enumFrom (elts := elts) (x1 := kk) (pos := tpos) (A := X.A) 0 (draws (prog := X.prog) (w := X.w) (A := X.A.in1) k (I.ok.hd hc) it a (na it (by simp)) its.toArray) e hei (by
      intro hm
      rcases mem2 hm with z | z
      · exact hei z
      · exact na e (by simp) z.symm) (by simp)
    have hl := rv.length
    have hn : its.toArray.size = xs.length := by simp; omega
    refine W.stops s _ E (by rw [hn]; exact ⟨⟨old, by rw [Int.zero_add]; exact he⟩, hit, hs⟩) fun h' tk hk _ => ?_
    exact I.turnedL hk hf
  self := fun A i s Q E st h => let ⟨⟨_, he⟩, _⟩ := st; wpAny_pyIter_enum he h
set_option maxHeartbeats 1000000 in
theorem meets_en {v : Value} {o : Obj} {Hs : Heap → Prop} (B : Begins v o Hs) :
    Meets (Builtin.«enumerate.__new__» ⟨[.type "enumerate", v], []⟩) (fun _ R s => Hs s.heap ∧
      R (.ok (.ret (.ref (s.heap.push o).objs.size))) { s with heap := (s.heap.push o).push { cls := .type "enumerate", data := .fields #[.none, .bool false, .ref s.heap.objs.size, rawInt 0, .none, .none] } }) :=
  .of_wp fun prog w A R s h => by
    obtain ⟨hp, g, d, tk, os⟩ := s
    obtain ⟨h1, h⟩ := h
    have sub := sub_enumerate
    have it1 : ∀ {A' : Around} {E : Value → Shared → Prop} {Q : Value → Shared → Prop}, Q (.ref hp.objs.size) ⟨hp.push o, g, d, tk, os⟩ → wpAny (model prog w) A' (pyIter v) Q E ⟨hp, g, d, tk, os⟩ := fun q => B.iter prog w _ _ ⟨hp, g, d, tk, os⟩ _ h1 q
    wp_walk using it1
    refine wpAny_stack_any fun st => wpAny_pure ?_
    split
    · rename_i c _ _ _ _ _
      cases (c == Value.type "enumerate") <;> (wp_walk using it1; exact ⟨_, rfl, h⟩)
    · wp_walk using it1
      exact ⟨_, rfl, h⟩
theorem call_en {prog : Program} {w : World} {A : Around} {E : Value → Shared → Prop} {s : Shared} {v : Value} {o : Obj} {Hs : Heap → Prop} {Q : Value → Shared → Prop} (B : Begins v o Hs) (h1 : Hs s.heap)
    (h : ∀ h', IsEnum h' (s.heap.objs.size + 1) s.heap.objs.size 0 .none → h'.get? s.heap.objs.size = some o → (∀ b o, s.heap.get? b = some o → h'.get? b = some o) → Q (.ref (s.heap.objs.size + 1)) { s with heap := h' }) : wpAny (model prog w) A (call (.type "enumerate") [v]) Q E s := by
  refine callType_new F.called_enumerate (by decide) (F.typeCall_enumerate_1 _) (F.newCall_enumerate_1 _) (fun obj => F.args_object_init_2 obj _) F.entry_enumerate_new (meets_en B) ⟨h1, ?_⟩
  have hz : (s.heap.push o).objs.size = s.heap.objs.size + 1 := Heap.size_push ..
  rw [hz]
  have he := Heap.get?_push_size (s.heap.push o) (o := { cls := .type "enumerate", data := .fields #[.none, .bool false, .ref s.heap.objs.size, rawInt 0, .none, .none] }) rfl
  rw [hz] at he
  exact ⟨⟨_, he, rfl⟩, h _ he (Heap.get?_push_of_some _ (Heap.get?_push_size _ B.free)) fun b o x => Heap.get?_push_of_some _ (Heap.get?_push_of_some _ x)⟩
def iEn (ta : TA) : TI := fun σ H R => ta σ H fun vs H1 => ∃ k a xs, vs = [.ref a] ∧ SqK k H1 a xs ∧ R (Jen k a xs) H1
theorem pi_en {X : Cx} {e : Expr} {ta : TA} {p pos tpos : Pos} {elts : List Expr} {kk : Nat} (hg : Gl X "enumerate") (hm : X.mg "enumerate" = none) (ha : PA X [e] ta) (hs : starEach [e] X.env = [(false, eval e X.env)]) :
    PI X (.Tuple elts kk tpos) (.Call (.Name "enumerate" p) [e] [] pos) (iEn ta) := by
  constructor
  intro pins s σ H R I h
  refine Call_ (ld_blt I hg hm boot_enumerate (PyProof.Rows.callWith_type1 (thn (ha.run pos pins s σ H _ I h) fun us s1 ⟨vs, H1, I1, r1, q1⟩ => ?_) hs rfl))
  obtain ⟨k, a, xs, rfl, hq, q⟩ := q1
  obtain rfl := r1.ref1
  obtain ⟨its, rv, hsr⟩ := hq.at I1
  refine call_en (begins k a its.toArray) hsr fun h' he hit hk => wpAny_pyIter_enum he ?_
  refine ⟨s1.heap.objs.size + 1, [s1.heap.objs.size + 1, s1.heap.objs.size], _, _, H1, rfl, I1.kept (t' := s1.toks) hk, turn_en k a (s1.heap.objs.size + 1) s1.heap.objs.size xs (Nat.succ_ne_self _), ⟨⟨.none, he⟩, ItO.new hit⟩, fun b hb => ?_, q⟩
  have hle : s1.heap.objs.size ≤ b := by
    rcases mem2 hb with z | z
    · rw [z]; exact Nat.le_add_right _ _
    · rw [z]; exact Nat.le_refl _
  exact I1.fpOk hle (I1.hok.fresh hle)
theorem walk_en {k : Bool} {a : Addr} {xs : List V} : Walk (Jen k a xs) xs.length (fun H => SqK k H a xs) (YPair (fun i => some (.int (i : Nat))) (fun i => xs[i]?)) :=
  ⟨fun i H hi q => ⟨hi, q⟩, fun H q => ⟨rfl, q⟩, fun i H v H' _ q ⟨T, x, h1, h2, h3, h4⟩ => ⟨T, .int (i : Nat), x, h1, h2, h3, rfl, h4⟩⟩
inductive Seq (ds : List PyData) : OV → Prop
  | lst : Seq ds (.im (.list ds))
  | tup : Seq ds (.im (.tuple ds))
theorem Seq.at {G : Hp} {v : V} {o : OV} {ds : List PyData} (h : Seq ds o) (r : RO G v o) : ∃ k a xs, v = .ref a ∧ SqK k G a xs ∧ DvA G xs ds := by
  cases h with
  | lst =>
    have r : Dv G v (.list ds) := r
    cases r with
    | lst h1 w => exact ⟨true, _, _, rfl, h1, w⟩
  | tup =>
    have r : Dv G v (.tuple ds) := r
    cases r with
    | tup h1 w => exact ⟨false, _, _, rfl, h1, w⟩
section
variable {X : Cx} {tg e e2 e3 : Expr} {ρ : Rho} {μ : Mu} {Ψ : Itd → Mu → Prop} {p pos : Pos}
theorem di_en {elts : List Expr} {kk : Nat} {tpos : Pos} (B : Bt X.mg) (hg : Gl X "enumerate") (h : DE X e ρ μ fun o μ1 => ∃ ds, Seq ds o ∧ Ψ ⟨(prs (nums ds.length) ds).map .im, fun _ => True⟩ μ1)
    (he : starEach [e] X.env = (false, eval e X.env) :: starEach [] X.env := by rfl) (he2 : starEach [e] X.env = [(false, eval e X.env)] := by rfl) : DI X (.Tuple elts kk tpos) (.Call (.Name "enumerate" p) [e] [] pos) ρ μ Ψ :=
  ⟨_, pi_en hg B.enumerate pwa he2, fun G H σ m v R f => (da_cons (Λ := fun os μ1 => ∃ o ds, os = [o] ∧ Seq ds o ∧ Ψ ⟨(prs (nums ds.length) ds).map .im, fun _ => True⟩ μ1)
      (h.imp fun o μ1 ⟨ds, ho, q⟩ => da_nil ⟨o, ds, rfl, ho, q⟩) he) G H σ m v _ fun vs os μ1 G1 H1 q1 e1 m1 r1 => by
    obtain ⟨o, ds, rfl, hd, q⟩ := q1
    obtain ⟨u, rfl, ru⟩ := ro1 r1
    obtain ⟨k, a, xs, rfl, hq, w⟩ := hd.at ru
    refine ⟨k, a, xs, rfl, m1.ex _ _ hq, f _ _ _ _ _ q e1 m1 ?_⟩
    have hlen : ((prs (nums ds.length) ds).map OV.im).length = ds.length := by simp [prs, nums]
    refine ⟨fun H => SqK k H a xs, YPair (fun i => some (.int (i : Nat))) (fun i => xs[i]?), ?_, fun G' H' μ' e m _ => m.ex _ _ (e _ _ hq), fun i H' x H2 G' μ' e m _ y hi => ?_⟩
    · show Walk _ ((prs (nums ds.length) ds).map OV.im).length _ _
      rw [hlen, ← w.length]
      exact walk_en
    · obtain ⟨T, x1, y1, rfl, hT, rfl, h1, h2⟩ := y
      cases h1
      obtain ⟨d, h3, h4⟩ := w.getV h2
      have hi : i < ds.length := by rw [← hlen]; exact hi
      obtain ⟨a1, a2, a3⟩ := pair_new m hT (Dv.int (i : Int)) (h4.mono e)
      exact ⟨_, .im (.tuple [.int (i : Int), d]), a1, a2, by rw [List.getElem?_map, prs_get (nums_get hi) h3]; rfl, a3⟩⟩
end
end Nx
namespace Nx
open PySem PySem.Spec PyProof.Rows L2
def Jz2 (k1 k2 : Bool) (a1 a2 : Addr) (xs ys : List V) : It :=
  ⟨fun i H => i < min xs.length ys.length ∧ SqK k1 H a1 xs ∧ SqK k2 H a2 ys, fun i H v H' => ∃ T x y, v = .ref T ∧ H T = none ∧ H' = upd H T (.tup [x, y]) ∧ xs[i]? = some x ∧ ys[i]? = some y, fun i H => i = min xs.length ys.length ∧ SqK k1 H a1 xs ∧ SqK k2 H a2 ys⟩
def tnz2 (k1 k2 : Bool) (z TI TO i1 i2 a1 a2 : Addr) (i : Nat) (h : Heap) : Prop := IsZip h z TI TO .none ∧ IsTupOf2 h TI (.ref i1) (.ref i2) ∧ (∃ x y, IsTupOf2 h TO x y) ∧ ItO k1 h i1 a1 i ∧ ItO k2 h i2 a2 i
theorem turn_z2 {P : Program} {w : World} {K : PySem.W.Frag} {elts : List Expr} {kk : Nat} {tpos : Pos} (k1 k2 : Bool) (a1 a2 z TI TO i1 i2 : Addr) (xs ys : List V) (hd : [z, TI, TO, i1, i2].Nodup) :
    Turn P w K (.Tuple elts kk tpos) (Jz2 k1 k2 a1 a2 xs ys) [z, TI, TO, i1, i2] z (tnz2 k1 k2 z TI TO i1 i2 a1 a2) := by
  have obj : ∀ i h, tnz2 k1 k2 z TI TO i1 i2 a1 a2 i h → ∀ b ∈ [z, TI, TO, i1, i2], ∃ o, h.get? b = some o ∧ ∀ v, o.data ≠ .cell v := by
    rintro i h ⟨h1, h2, ⟨x, y, h3⟩, h4, h5⟩ b hb
    simp only [List.mem_cons, List.not_mem_nil, or_false] at hb
    rcases hb with rfl | rfl | rfl | rfl | rfl
    · exact ⟨_, h1, fun v q => nomatch q⟩
    · exact ⟨_, h2, fun v q => nomatch q⟩
    · exact ⟨_, h3, fun v q => nomatch q⟩
    · exact h4.obj
    · exact h5.obj
  have goes : ∀ (X : Cx) (i : Nat) (pins : List (Addr × Obj)) (s : Shared) (σ : L2.St) (H : Hp), X.prog = P → X.w = w → X.calm = true → Inv X pins σ H s → (∀ b ∈ [z, TI, TO, i1, i2], FpOk X pins H b) → SqK k1 H a1 xs → SqK k2 H a2 ys →
      ∃ (its jts : List Value), Vals xs its ∧ Vals ys jts ∧ SrO k1 s.heap a1 its.toArray ∧ SrO k2 s.heap a2 jts.toArray ∧ GoesN P w X.A (.Tuple elts kk tpos) z (z :: TI :: TO :: ([i1, a1] ++ [i2, a2])) [z, TO, i1, i2] (min its.toArray.size jts.toArray.size)
        (fun i h₀ v h => ∃ T x y, v = .ref T ∧ h₀.objs.size ≤ T ∧ its.toArray[i]? = some x ∧ jts.toArray[i]? = some y ∧ h.IsTuple T #[x, y])
        (fun i h => IsZip h z TI TO .none ∧ IsTupOf2 h TI (.ref i1) (.ref i2) ∧ (∃ a1 a2, IsTupOf2 h TO a1 a2) ∧ (ItO k1 h i1 a1 i ∧ SrO k1 h a1 its.toArray) ∧ (ItO k2 h i2 a2 i ∧ SrO k2 h a2 jts.toArray)) := by
    intro X i pins s σ H hP hw hc I hf q1 q2
    subst hP hw
    obtain ⟨its, rv, hs1⟩ := q1.at I
    obtain ⟨jts, rw_, hs2⟩ := q2.at I
    have n1 : ∀ b ∈ [z, TI, TO, i1, i2], a1 ≠ b := fun b hb => ne_of_none q1 (hf b hb).1
    have n2 : ∀ b ∈ [z, TI, TO, i1, i2], a2 ≠ b := fun b hb => ne_of_none q2 (hf b hb).1
    have m1 := n1 z (by simp)
    have m3 := n1 TO (by simp)
    have m4 := n1 i1 (by simp)
    have m5 := n1 i2 (by simp)
    have l1 := n2 z (by simp)
    have l3 := n2 TO (by simp)
    have l4 := n2 i1 (by simp)
    have l5 := n2 i2 (by simp)
    simp only [List.nodup_cons, List.mem_cons, List.not_mem_nil, or_false, not_or, List.nodup_nil, and_true, not_false_eq_true] at hd
    obtain ⟨⟨d1, d2, d3, d4⟩, ⟨d5, d6, d7⟩, ⟨d8, d9⟩, d10⟩ := hd
    refine ⟨its, jts, rv, rw_, hs1, hs2, GoesN.zip2 ?_ (draws (A := X.A.in1) k1 (I.ok.hd hc) i1 a1 m4 its.toArray) (draws (A := X.A.in1) k2 (I.ok.hd hc) i2 a2 l5 jts.toArray)⟩
    exact { TIz := fun e => d1 e.symm, TOz := fun e => d2 e.symm, TITO := d5, TIi1 := d6, mem1 := by simp, zf1 := by simp; exact ⟨d3, fun e => m1 e.symm⟩, Tf1 := by simp; exact ⟨d8, fun e => m3 e.symm⟩, TIi2 := d7, mem2 := by simp,
            zf2 := by simp; exact ⟨d4, fun e => l1 e.symm⟩, Tf2 := by simp; exact ⟨d9, fun e => l3 e.symm⟩, sep1_2 := by simp; exact ⟨d10, fun e => l4 e.symm⟩, sep2_1 := by simp; exact ⟨fun e => d10 e.symm, fun e => m5 e.symm⟩ }
  have keepF : ∀ {h h' : Heap} {b : Addr}, b ∉ [z, TI, TO, i1, i2] → b ∉ [z, TO, i1, i2] := fun {h h' b} hb hm => hb (by
    simp only [List.mem_cons, List.not_mem_nil, or_false] at hm ⊢
    rcases hm with e | e | e | e
    · exact .inl e
    · exact .inr (.inr (.inl e))
    · exact .inr (.inr (.inr (.inl e)))
    · exact .inr (.inr (.inr (.inr e))))
  constructor
  · simp
  · exact obj
  · rintro i h h' ⟨h1, h2, ⟨x, y, h3⟩, h4, h5⟩ kp
    exact ⟨kp z (by simp) _ h1, kp TI (by simp) _ h2, ⟨x, y, kp TO (by simp) _ h3⟩, h4.keep (kp i1 (by simp)), h5.keep (kp i2 (by simp))⟩
  · intro X hP hw hK hc i pins s σ H E I hf st hg
    obtain ⟨hi, q1, q2⟩ := hg
    obtain ⟨its, jts, rv, rw_, hs1, hs2, W⟩ := goes X i pins s σ H hP hw hc I hf q1 q2
    subst hP hw hK
    obtain ⟨h1, h2, h3, h4, h5⟩ := id st
    have hl := rv.length
    have hl2 := rw_.length
    refine W.goes i s _ E (by simp; omega) ⟨h1, h2, h3, ⟨h4, hs1⟩, h5, hs2⟩ fun v h' tk hY st' hk _ => ?_
    obtain ⟨T, x, y, rfl, hT, hx, hy, hTu⟩ := hY
    obtain ⟨g1, g2, g3, ⟨g4, _⟩, g5, _⟩ := st'
    obtain ⟨x', hx'⟩ : ∃ y, xs[i]? = some y := ⟨_, List.getElem?_eq_getElem (by omega)⟩
    obtain ⟨y', hy'⟩ : ∃ y, ys[i]? = some y := ⟨_, List.getElem?_eq_getElem (by omega)⟩
    obtain ⟨u, hu, ru⟩ := rv.get hx'
    obtain ⟨u2, hu2, ru2⟩ := rw_.get hy'
    have ex : u = x := by
      have : its[i]? = some x := by simpa using hx
      rw [this] at hu
      exact (Option.some.inj hu).symm
    have ey : u2 = y := by
      have : jts[i]? = some y := by simpa using hy
      rw [this] at hu2
      exact (Option.some.inj hu2).symm
    subst ex ey
    have new : ObjOk X.prog X.w (upd H T (.tup [x', y'])) h' T (.tup [x', y']) := ⟨by show 2 ≤ sizeLine; decide, [u, u2], .cons ru (.cons ru2 .nil), hTu⟩
    refine ⟨.ref T, _, I.turnedNew (t' := tk) (ch := [z, TI, TO, i1, i2]) (fun b o hb => hk b o (keepF (h := h') (h' := h') hb)) hf hT new, rfl, ⟨T, x', y', rfl, I.hok.fresh hT, rfl, hx', hy'⟩, ⟨g1, g2, g3, g4, g5⟩, fun b hb => ?_⟩
    obtain ⟨o, ho, _⟩ := obj i _ st b hb
    have hb' : b ≠ T := fun e => by
      have := Heap.lt_size ho
      rw [e] at this
      exact absurd hT (Nat.not_le.mpr this)
    rw [upd_ne hb']
    exact (hf b hb).1
  · intro X hP hw hK hc i pins s σ H E I hf st hg
    obtain ⟨rfl, q1, q2⟩ := hg
    obtain ⟨its, jts, rv, rw_, hs1, hs2, W⟩ := goes X 0 pins s σ H hP hw hc I hf q1 q2
    subst hP hw hK
    obtain ⟨h1, h2, h3, h4, h5⟩ := id st
    have hl := rv.length
    have hl2 := rw_.length
    have hn : min its.toArray.size jts.toArray.size = min xs.length ys.length := by simp; omega
    refine W.stops s _ E (by rw [hn]; exact ⟨h1, h2, h3, ⟨h4, hs1⟩, h5, hs2⟩) fun h' tk hk _ => ?_
    exact I.turnedL (fun b o hb => hk b o (keepF (h := h') (h' := h') hb)) hf
  · rintro A i s Q E ⟨h1, _⟩ h
    exact wpAny_pyIter_zip h1 h
def iZ2 (ta : TA) : TI := fun σ H R => ta σ H fun vs H1 => ∃ k1 k2 a1 a2 xs ys, vs = [.ref a1, .ref a2] ∧ SqK k1 H1 a1 xs ∧ SqK k2 H1 a2 ys ∧ R (Jz2 k1 k2 a1 a2 xs ys) H1
theorem pi_z2 {X : Cx} {e e2 : Expr} {ta : TA} {p pos tpos : Pos} {elts : List Expr} {kk : Nat} (hg : Gl X "zip") (hm : X.mg "zip" = none) (ha : PA X [e, e2] ta) (hs : starEach [e, e2] X.env = (false, eval e X.env) :: starEach [e2] X.env) (hs2 : (backTo pos (starEach [e2] X.env)).any (·.1) = false) :
    PI X (.Tuple elts kk tpos) (.Call (.Name "zip" p) [e, e2] [] pos) (iZ2 ta) := by
  constructor
  intro pins s σ H R I h
  refine Call_ (ld_blt I hg hm boot_zip (PyProof.Rows.callWith_type1 (thn (ha.run pos pins s σ H _ I h) fun us s1 ⟨vs, H1, I1, r1, q1⟩ => ?_) hs hs2))
  obtain ⟨k1, k2, a1, a2, xs, ys, rfl, hq1, hq2, q⟩ := q1
  obtain ⟨u, u2, rfl, ru, ru2⟩ := r1.two
  cases ru
  cases ru2
  obtain ⟨its, rv, hs1⟩ := hq1.at I1
  obtain ⟨jts, rw_, hs2⟩ := hq2.at I1
  refine zip_begins2 (begins k1 a1 its.toArray) (begins k2 a2 jts.toArray) hs1 hs2 fun h' hz hTI hTO ho1 ho2 _ hk => wpAny_pyIter_zip hz ?_
  refine ⟨s1.heap.objs.size + 4, [s1.heap.objs.size + 4, s1.heap.objs.size + 2, s1.heap.objs.size + 3, s1.heap.objs.size, s1.heap.objs.size + 1], _, _, H1, rfl, I1.kept (t' := s1.toks) hk, turn_z2 k1 k2 a1 a2 _ _ _ _ _ xs ys ?_, ⟨hz, hTI, ⟨_, _, hTO⟩, ItO.new ho1, ItO.new ho2⟩, fun b hb => ?_, q⟩
  · simp only [List.nodup_cons, List.mem_cons, List.not_mem_nil, or_false, not_or, List.nodup_nil, and_true, not_false_eq_true]
    refine ⟨⟨?_, ?_, ?_, ?_⟩, ⟨?_, ?_, ?_⟩, ⟨?_, ?_⟩, ?_⟩ <;> (intro e; have e : (_ : Nat) = _ := e; omega)
  · have hle : s1.heap.objs.size ≤ b := by
      simp only [List.mem_cons, List.not_mem_nil, or_false] at hb
      rcases hb with z | z | z | z | z <;> (subst z; first | exact Nat.le_refl _ | exact Nat.le_add_right _ _)
    exact I1.fpOk hle (I1.hok.fresh hle)
theorem walk_z2 {k1 k2 : Bool} {a1 a2 : Addr} {xs ys : List V} : Walk (Jz2 k1 k2 a1 a2 xs ys) (min xs.length ys.length) (fun H => SqK k1 H a1 xs ∧ SqK k2 H a2 ys) (YPair (fun i => xs[i]?) (fun i => ys[i]?)) :=
  ⟨fun i H hi q => ⟨hi, q⟩, fun H q => ⟨rfl, q⟩, fun i H v H' _ q y => y⟩
section
variable {X : Cx} {tg e e2 e3 : Expr} {ρ : Rho} {μ : Mu} {Ψ : Itd → Mu → Prop} {p pos : Pos}
theorem di_zip2 {elts : List Expr} {kk : Nat} {tpos : Pos} (B : Bt X.mg) (hg : Gl X "zip") (h : DE X e ρ μ fun o μ1 => DE X e2 ρ μ1 fun o2 μ2 => ∃ ds es, Seq ds o ∧ Seq es o2 ∧ Ψ ⟨(prs ds es).map .im, fun _ => True⟩ μ2)
    (he : starEach [e, e2] X.env = (false, eval e X.env) :: starEach [e2] X.env := by rfl) (he2 : starEach [e2] X.env = (false, eval e2 X.env) :: starEach [] X.env := by rfl) (hpl : (backTo pos (starEach [e2] X.env)).any (·.1) = false := by rfl) : DI X (.Tuple elts kk tpos) (.Call (.Name "zip" p) [e, e2] [] pos) ρ μ Ψ :=
  ⟨_, pi_z2 hg B.zip pwa he hpl, fun G H σ m v R f => (da_cons (Λ := fun os μ1 => ∃ o o2 ds es, os = [o, o2] ∧ Seq ds o ∧ Seq es o2 ∧ Ψ ⟨(prs ds es).map .im, fun _ => True⟩ μ1)
      (h.imp fun o μ1 h2 => da_cons (h2.imp fun o2 μ2 ⟨ds, es, h3, h4, q⟩ => da_nil ⟨o, o2, ds, es, rfl, h3, h4, q⟩) he2) he) G H σ m v _ fun vs os μ1 G1 H1 q1 e1 m1 r1 => by
    obtain ⟨o, o2, ds, es, rfl, hd, hd2, q⟩ := q1
    cases r1 with
    | cons r1 t1 =>
      obtain ⟨u, rfl, ru⟩ := ro1 t1
      obtain ⟨k1, a1, xs, rfl, hq1, w1⟩ := hd.at r1
      obtain ⟨k2, a2, ys, rfl, hq2, w2⟩ := hd2.at ru
      refine ⟨k1, k2, a1, a2, xs, ys, rfl, m1.ex _ _ hq1, m1.ex _ _ hq2, f _ _ _ _ _ q e1 m1 ?_⟩
      have hlen : ((prs ds es).map OV.im).length = min xs.length ys.length := by simp [prs, w1.length, w2.length]
      refine ⟨fun H => SqK k1 H a1 xs ∧ SqK k2 H a2 ys, YPair (fun i => xs[i]?) (fun i => ys[i]?), (by show Walk _ ((prs ds es).map OV.im).length _ _; rw [hlen]; exact walk_z2), fun G' H' μ' e m _ => ⟨m.ex _ _ (e _ _ hq1), m.ex _ _ (e _ _ hq2)⟩, fun i H' x H2 G' μ' e m _ y hi => ?_⟩
      obtain ⟨T, x1, y1, rfl, hT, rfl, h1, h2⟩ := y
      obtain ⟨d, h3, h4⟩ := w1.getV h1
      obtain ⟨d2, h5, h6⟩ := w2.getV h2
      obtain ⟨b1, b2, b3⟩ := pair_new m hT (h4.mono e) (h6.mono e)
      exact ⟨_, .im (.tuple [d, d2]), b1, b2, by rw [List.getElem?_map, prs_get h3 h5]; rfl, b3⟩⟩
end
end Nx
namespace Nx
open PySem PySem.Spec PyProof.Rows L2
def Jz3 (k1 k2 k3 : Bool) (a1 a2 a3 : Addr) (xs ys zs : List V) : It :=
  ⟨fun i H => i < min (min xs.length ys.length) zs.length ∧ SqK k1 H a1 xs ∧ SqK k2 H a2 ys ∧ SqK k3 H a3 zs, fun i H v H' => ∃ T x y u, v = .ref T ∧ H T = none ∧ H' = upd H T (.tup [x, y, u]) ∧ xs[i]? = some x ∧ ys[i]? = some y ∧ zs[i]? = some u,
    fun i H => i = min (min xs.length ys.length) zs.length ∧ SqK k1 H a1 xs ∧ SqK k2 H a2 ys ∧ SqK k3 H a3 zs⟩
def tnz3 (k1 k2 k3 : Bool) (z TI TO i1 i2 i3 a1 a2 a3 : Addr) (i : Nat) (h : Heap) : Prop := IsZip h z TI TO .none ∧ IsTupOf3 h TI (.ref i1) (.ref i2) (.ref i3) ∧ (∃ x y u, IsTupOf3 h TO x y u) ∧ ItO k1 h i1 a1 i ∧ ItO k2 h i2 a2 i ∧ ItO k3 h i3 a3 i
theorem turn_z3 {P : Program} {w : World} {K : PySem.W.Frag} {elts : List Expr} {kk : Nat} {tpos : Pos} (k1 k2 k3 : Bool) (a1 a2 a3 z TI TO i1 i2 i3 : Addr) (xs ys zs : List V) (hd : [z, TI, TO, i1, i2, i3].Nodup) :
    Turn P w K (.Tuple elts kk tpos) (Jz3 k1 k2 k3 a1 a2 a3 xs ys zs) [z, TI, TO, i1, i2, i3] z (tnz3 k1 k2 k3 z TI TO i1 i2 i3 a1 a2 a3) := by
  have obj : ∀ i h, tnz3 k1 k2 k3 z TI TO i1 i2 i3 a1 a2 a3 i h → ∀ b ∈ [z, TI, TO, i1, i2, i3], ∃ o, h.get? b = some o ∧ ∀ v, o.data ≠ .cell v := by
    rintro i h ⟨h1, h2, ⟨x, y, u, h3⟩, h4, h5, h6⟩ b hb
    simp only [List.mem_cons, List.not_mem_nil, or_false] at hb
    rcases hb with rfl | rfl | rfl | rfl | rfl | rfl
    · exact ⟨_, h1, fun v q => nomatch q⟩
    · exact ⟨_, h2, fun v q => nomatch q⟩
    · exact ⟨_, h3, fun v q => nomatch q⟩
    · exact h4.obj
    · exact h5.obj
    · exact h6.obj
  have goes : ∀ (X : Cx) (pins : List (Addr × Obj)) (s : Shared) (σ : L2.St) (H : Hp), X.prog = P → X.w = w → X.calm = true → Inv X pins σ H s → (∀ b ∈ [z, TI, TO, i1, i2, i3], FpOk X pins H b) → SqK k1 H a1 xs → SqK k2 H a2 ys → SqK k3 H a3 zs →
      ∃ (its jts uts : List Value), Vals xs its ∧ Vals ys jts ∧ Vals zs uts ∧ SrO k1 s.heap a1 its.toArray ∧ SrO k2 s.heap a2 jts.toArray ∧ SrO k3 s.heap a3 uts.toArray ∧ GoesN P w X.A (.Tuple elts kk tpos) z (z :: TI :: TO :: ([i1, a1] ++ [i2, a2] ++ [i3, a3])) [z, TO, i1, i2, i3] (min (min its.toArray.size jts.toArray.size) uts.toArray.size)
        (fun i h₀ v h => ∃ T x y u, v = .ref T ∧ h₀.objs.size ≤ T ∧ its.toArray[i]? = some x ∧ jts.toArray[i]? = some y ∧ uts.toArray[i]? = some u ∧ h.IsTuple T #[x, y, u])
        (fun i h => IsZip h z TI TO .none ∧ IsTupOf3 h TI (.ref i1) (.ref i2) (.ref i3) ∧ (∃ a1 a2 a3, IsTupOf3 h TO a1 a2 a3) ∧ (ItO k1 h i1 a1 i ∧ SrO k1 h a1 its.toArray) ∧ (ItO k2 h i2 a2 i ∧ SrO k2 h a2 jts.toArray) ∧ (ItO k3 h i3 a3 i ∧ SrO k3 h a3 uts.toArray)) := by
    intro X pins s σ H hP hw hc I hf q1 q2 q3
    subst hP hw
    obtain ⟨its, rv, hs1⟩ := q1.at I
    obtain ⟨jts, rw_, hs2⟩ := q2.at I
    obtain ⟨uts, ru_, hs3⟩ := q3.at I
    have n1 : ∀ b ∈ [z, TI, TO, i1, i2, i3], a1 ≠ b := fun b hb => ne_of_none q1 (hf b hb).1
    have n2 : ∀ b ∈ [z, TI, TO, i1, i2, i3], a2 ≠ b := fun b hb => ne_of_none q2 (hf b hb).1
    have n3 : ∀ b ∈ [z, TI, TO, i1, i2, i3], a3 ≠ b := fun b hb => ne_of_none q3 (hf b hb).1
    simp only [List.nodup_cons, List.mem_cons, List.not_mem_nil, or_false, not_or, List.nodup_nil, and_true, not_false_eq_true] at hd
    obtain ⟨⟨d1, d2, d3, d4, d5⟩, ⟨d6, d7, d8, d9⟩, ⟨d10, d11, d12⟩, ⟨d13, d14⟩, d15⟩ := hd
    refine ⟨its, jts, uts, rv, rw_, ru_, hs1, hs2, hs3, GoesN.zip3 ?_ (draws (A := X.A.in1) k1 (I.ok.hd hc) i1 a1 (n1 i1 (by simp)) its.toArray) (draws (A := X.A.in1) k2 (I.ok.hd hc) i2 a2 (n2 i2 (by simp)) jts.toArray) (draws (A := X.A.in1) k3 (I.ok.hd hc) i3 a3 (n3 i3 (by simp)) uts.toArray)⟩
    have no : ∀ {c i a : Addr}, c ≠ i → a ≠ c → c ∉ [i, a] := fun {c i a} p q hm => by
      rcases mem2 hm with e | e
      · exact p e
      · exact q e.symm
    exact { TIz := fun e => d1 e.symm, TOz := fun e => d2 e.symm, TITO := d6, TIi1 := d7, mem1 := by simp, zf1 := no d3 (n1 z (by simp)), Tf1 := no d10 (n1 TO (by simp)), TIi2 := d8, mem2 := by simp,
            zf2 := no d4 (n2 z (by simp)), Tf2 := no d11 (n2 TO (by simp)), TIi3 := d9, mem3 := by simp, zf3 := no d5 (n3 z (by simp)), Tf3 := no d12 (n3 TO (by simp)), sep1_2 := no d13 (n2 i1 (by simp)), sep1_3 := no d14 (n3 i1 (by simp)),
            sep2_1 := no (fun e => d13 e.symm) (n1 i2 (by simp)), sep2_3 := no d15 (n3 i2 (by simp)), sep3_1 := no (fun e => d14 e.symm) (n1 i3 (by simp)), sep3_2 := no (fun e => d15 e.symm) (n2 i3 (by simp)) }
  have keepF : ∀ {b : Addr}, b ∉ [z, TI, TO, i1, i2, i3] → b ∉ [z, TO, i1, i2, i3] := fun {b} hb hm => hb (by
    simp only [List.mem_cons, List.not_mem_nil, or_false] at hm ⊢
    rcases hm with e | e | e | e | e
    · exact .inl e
    · exact .inr (.inr (.inl e))
    · exact .inr (.inr (.inr (.inl e)))
    · exact .inr (.inr (.inr (.inr (.inl e))))
    · exact .inr (.inr (.inr (.inr (.inr e)))))
  have pickV : ∀ {xs : List V} {its : List Value} {i : Nat} {x : Value}, Vals xs its → i < xs.length → its.toArray[i]? = some x → ∃ x', xs[i]? = some x' ∧ RelV x' x := by
    intro xs its i x rv hi hx
    obtain ⟨x', hx'⟩ : ∃ y, xs[i]? = some y := ⟨_, List.getElem?_eq_getElem hi⟩
    obtain ⟨u, hu, ru⟩ := rv.get hx'
    have : its[i]? = some x := by simpa using hx
    rw [this] at hu
    cases hu
    exact ⟨x', hx', ru⟩
  constructor
  · simp
  · exact obj
  · rintro i h h' ⟨h1, h2, ⟨x, y, u, h3⟩, h4, h5, h6⟩ kp
    exact ⟨kp z (by simp) _ h1, kp TI (by simp) _ h2, ⟨x, y, u, kp TO (by simp) _ h3⟩, h4.keep (kp i1 (by simp)), h5.keep (kp i2 (by simp)), h6.keep (kp i3 (by simp))⟩
  · intro X hP hw hK hc i pins s σ H E I hf st hg
    obtain ⟨hi, q1, q2, q3⟩ := hg
    obtain ⟨its, jts, uts, rv, rw_, ru_, hs1, hs2, hs3, W⟩ := goes X pins s σ H hP hw hc I hf q1 q2 q3
    subst hP hw hK
    obtain ⟨h1, h2, h3, h4, h5, h6⟩ := id st
    have hl := rv.length
    have hl2 := rw_.length
    have hl3 := ru_.length
    refine W.goes i s _ E (by simp; omega) ⟨h1, h2, h3, ⟨h4, hs1⟩, ⟨h5, hs2⟩, h6, hs3⟩ fun v h' tk hY st' hk _ => ?_
    obtain ⟨T, x, y, u, rfl, hT, hx, hy, hu, hTu⟩ := hY
    obtain ⟨g1, g2, g3, ⟨g4, _⟩, ⟨g5, _⟩, g6, _⟩ := st'
    obtain ⟨x', hx', rx⟩ := pickV rv (by omega) hx
    obtain ⟨y', hy', ry⟩ := pickV rw_ (by omega) hy
    obtain ⟨u', hu', ru⟩ := pickV ru_ (by omega) hu
    have new : ObjOk X.prog X.w (upd H T (.tup [x', y', u'])) h' T (.tup [x', y', u']) := ⟨by show 3 ≤ sizeLine; decide, [x, y, u], .cons rx (.cons ry (.cons ru .nil)), hTu⟩
    refine ⟨.ref T, _, I.turnedNew (t' := tk) (ch := [z, TI, TO, i1, i2, i3]) (fun b o hb => hk b o (keepF hb)) hf hT new, rfl, ⟨T, x', y', u', rfl, I.hok.fresh hT, rfl, hx', hy', hu'⟩, ⟨g1, g2, g3, g4, g5, g6⟩, fun b hb => ?_⟩
    obtain ⟨o, ho, _⟩ := obj i _ st b hb
    have hb' : b ≠ T := fun e => by
      have := Heap.lt_size ho
      rw [e] at this
      exact absurd hT (Nat.not_le.mpr this)
    rw [upd_ne hb']
    exact (hf b hb).1
  · intro X hP hw hK hc i pins s σ H E I hf st hg
    obtain ⟨rfl, q1, q2, q3⟩ := hg
    obtain ⟨its, jts, uts, rv, rw_, ru_, hs1, hs2, hs3, W⟩ := goes X pins s σ H hP hw hc I hf q1 q2 q3
    subst hP hw hK
    obtain ⟨h1, h2, h3, h4, h5, h6⟩ := id st
    have hl := rv.length
    have hl2 := rw_.length
    have hl3 := ru_.length
    have hn : min (min its.toArray.size jts.toArray.size) uts.toArray.size = min (min xs.length ys.length) zs.length := by simp; omega
    refine W.stops s _ E (by rw [hn]; exact ⟨h1, h2, h3, ⟨h4, hs1⟩, ⟨h5, hs2⟩, h6, hs3⟩) fun h' tk hk _ => ?_
    exact I.turnedL (fun b o hb => hk b o (keepF hb)) hf
  · rintro A i s Q E ⟨h1, _⟩ h
    exact wpAny_pyIter_zip h1 h
def iZ3 (ta : TA) : TI := fun σ H R => ta σ H fun vs H1 => ∃ k1 k2 k3 a1 a2 a3 xs ys zs, vs = [.ref a1, .ref a2, .ref a3] ∧ SqK k1 H1 a1 xs ∧ SqK k2 H1 a2 ys ∧ SqK k3 H1 a3 zs ∧ R (Jz3 k1 k2 k3 a1 a2 a3 xs ys zs) H1
theorem pi_z3 {X : Cx} {e e2 e3 : Expr} {ta : TA} {p pos tpos : Pos} {elts : List Expr} {kk : Nat} (hg : Gl X "zip") (hm : X.mg "zip" = none) (ha : PA X [e, e2, e3] ta) (hs : starEach [e, e2, e3] X.env = (false, eval e X.env) :: starEach [e2, e3] X.env) (hs2 : (backTo pos (starEach [e2, e3] X.env)).any (·.1) = false) :
    PI X (.Tuple elts kk tpos) (.Call (.Name "zip" p) [e, e2, e3] [] pos) (iZ3 ta) := by
  constructor
  intro pins s σ H R I h
  refine Call_ (ld_blt I hg hm boot_zip (PyProof.Rows.callWith_type1 (thn (ha.run pos pins s σ H _ I h) fun us s1 ⟨vs, H1, I1, r1, q1⟩ => ?_) hs hs2))
  obtain ⟨k1, k2, k3, a1, a2, a3, xs, ys, zs, rfl, hq1, hq2, hq3, q⟩ := q1
  cases r1 with
  | cons ru t1 =>
    obtain ⟨u2, u3, rfl, ru2, ru3⟩ := Vals.two t1
    cases ru
    cases ru2
    cases ru3
    obtain ⟨its, rv, hs1⟩ := hq1.at I1
    obtain ⟨jts, rw_, hs2⟩ := hq2.at I1
    obtain ⟨uts, ru_, hs3⟩ := hq3.at I1
    refine zip_begins3 (begins k1 a1 its.toArray) (begins k2 a2 jts.toArray) (begins k3 a3 uts.toArray) hs1 hs2 hs3 fun h' hz hTI hTO ho1 ho2 ho3 _ hk => wpAny_pyIter_zip hz ?_
    refine ⟨s1.heap.objs.size + 5, [s1.heap.objs.size + 5, s1.heap.objs.size + 3, s1.heap.objs.size + 4, s1.heap.objs.size, s1.heap.objs.size + 1, s1.heap.objs.size + 2], _, _, H1, rfl, I1.kept (t' := s1.toks) hk, turn_z3 k1 k2 k3 a1 a2 a3 _ _ _ _ _ _ xs ys zs ?_, ⟨hz, hTI, ⟨_, _, _, hTO⟩, ItO.new ho1, ItO.new ho2, ItO.new ho3⟩, fun b hb => ?_, q⟩
    · simp only [List.nodup_cons, List.mem_cons, List.not_mem_nil, or_false, not_or, List.nodup_nil, and_true, not_false_eq_true]
      refine ⟨⟨?_, ?_, ?_, ?_, ?_⟩, ⟨?_, ?_, ?_, ?_⟩, ⟨?_, ?_, ?_⟩, ⟨?_, ?_⟩, ?_⟩ <;> (intro e; have e : (_ : Nat) = _ := e; omega)
    · have hle : s1.heap.objs.size ≤ b := by
        simp only [List.mem_cons, List.not_mem_nil, or_false] at hb
        rcases hb with z | z | z | z | z | z <;> (subst z; first | exact Nat.le_refl _ | exact Nat.le_add_right _ _)
      exact I1.fpOk hle (I1.hok.fresh hle)
def trs (xs ys zs : List PyData) : List PyData := (xs.zip (ys.zip zs)).map fun q => .tuple [q.1, q.2.1, q.2.2]
theorem trs_get {xs ys zs : List PyData} {i : Nat} {x y z : PyData} (h1 : xs[i]? = some x) (h2 : ys[i]? = some y) (h3 : zs[i]? = some z) : (trs xs ys zs)[i]? = some (.tuple [x, y, z]) := by
  unfold trs
  rw [List.getElem?_map, List.getElem?_zip_eq_some (z := (x, (y, z))) |>.mpr ⟨h1, List.getElem?_zip_eq_some (z := (y, z)) |>.mpr ⟨h2, h3⟩⟩]
  rfl
section
variable {X : Cx} {tg e e2 e3 : Expr} {ρ : Rho} {μ : Mu} {Ψ : Itd → Mu → Prop} {Φ : OV → Mu → Prop} {p pos : Pos}
theorem di_zip3 {elts : List Expr} {kk : Nat} {tpos : Pos} (B : Bt X.mg) (hg : Gl X "zip") (h : DE X e ρ μ fun o μ1 => DE X e2 ρ μ1 fun o2 μ2 => DE X e3 ρ μ2 fun o3 μ3 => ∃ ds es fs, Seq ds o ∧ Seq es o2 ∧ Seq fs o3 ∧ Ψ ⟨(trs ds es fs).map .im, fun _ => True⟩ μ3)
    (he : starEach [e, e2, e3] X.env = (false, eval e X.env) :: starEach [e2, e3] X.env := by rfl) (he2 : starEach [e2, e3] X.env = (false, eval e2 X.env) :: starEach [e3] X.env := by rfl) (he3 : starEach [e3] X.env = (false, eval e3 X.env) :: starEach [] X.env := by rfl) (hpl : (backTo pos (starEach [e2, e3] X.env)).any (·.1) = false := by rfl) : DI X (.Tuple elts kk tpos) (.Call (.Name "zip" p) [e, e2, e3] [] pos) ρ μ Ψ :=
  ⟨_, pi_z3 hg B.zip pwa he hpl, fun G H σ m v R f => (da_cons (Λ := fun os μ1 => ∃ o o2 o3 ds es fs, os = [o, o2, o3] ∧ Seq ds o ∧ Seq es o2 ∧ Seq fs o3 ∧ Ψ ⟨(trs ds es fs).map .im, fun _ => True⟩ μ1)
      (h.imp fun o μ1 h2 => da_cons (h2.imp fun o2 μ2 h3 => da_cons (h3.imp fun o3 μ3 ⟨ds, es, fs, h4, h5, h6, q⟩ => da_nil ⟨o, o2, o3, ds, es, fs, rfl, h4, h5, h6, q⟩) he3) he2) he) G H σ m v _ fun vs os μ1 G1 H1 q1 e1 m1 r1 => by
    obtain ⟨o, o2, o3, ds, es, fs, rfl, hd, hd2, hd3, q⟩ := q1
    cases r1 with
    | cons r1 t1 =>
      cases t1 with
      | cons r2 t2 =>
        obtain ⟨u, rfl, r3⟩ := ro1 t2
        obtain ⟨k1, a1, xs, rfl, hq1, w1⟩ := hd.at r1
        obtain ⟨k2, a2, ys, rfl, hq2, w2⟩ := hd2.at r2
        obtain ⟨k3, a3, zs, rfl, hq3, w3⟩ := hd3.at r3
        refine ⟨k1, k2, k3, a1, a2, a3, xs, ys, zs, rfl, m1.ex _ _ hq1, m1.ex _ _ hq2, m1.ex _ _ hq3, f _ _ _ _ _ q e1 m1 ?_⟩
        have hlen : ((trs ds es fs).map OV.im).length = min (min xs.length ys.length) zs.length := by simp [trs, w1.length, w2.length, w3.length, Nat.min_assoc]
        refine ⟨fun H => SqK k1 H a1 xs ∧ SqK k2 H a2 ys ∧ SqK k3 H a3 zs, fun i H v H' => ∃ T x y u, v = .ref T ∧ H T = none ∧ H' = upd H T (.tup [x, y, u]) ∧ xs[i]? = some x ∧ ys[i]? = some y ∧ zs[i]? = some u,
          (by show Walk _ ((trs ds es fs).map OV.im).length _ _; rw [hlen]; exact ⟨fun i H hi q => ⟨hi, q⟩, fun H q => ⟨rfl, q⟩, fun i H v H' _ q y => y⟩), fun G' H' μ' e m _ => ⟨m.ex _ _ (e _ _ hq1), m.ex _ _ (e _ _ hq2), m.ex _ _ (e _ _ hq3)⟩, fun i H' x H2 G' μ' e m _ y hi => ?_⟩
        obtain ⟨T, x1, y1, z1, rfl, hT, rfl, h1, h2, h3⟩ := y
        obtain ⟨d1, g1, g2⟩ := w1.getV h1
        obtain ⟨d2, g3, g4⟩ := w2.getV h2
        obtain ⟨d3, g5, g6⟩ := w3.getV h3
        have n := m.ex.free hT
        exact ⟨_, .im (.tuple [d1, d2, d3]), Ex.new n, m.lay hT, by rw [List.getElem?_map, trs_get g1 g3 g5]; rfl, Dv.tup upd_same (.cons ((g2.mono e).mono (Ex.new n)) (.cons ((g4.mono e).mono (Ex.new n)) (.cons ((g6.mono e).mono (Ex.new n)) .nil)))⟩⟩
theorem dv_list {G H : Hp} {μ : Mu} {v : V} {o : OV} {ds : List PyData} (m : RM G H μ) (hd : RdD μ o (.list ds)) (r : RO G v o) : ∃ a xs, v = .ref a ∧ H a = some (.lst xs) ∧ DvA H xs ds := by
  have d := hd.at m r
  generalize hdd : PyData.list ds = dd at d
  cases d with
  | lst h1 w => cases hdd; exact ⟨_, _, rfl, h1, w⟩
  | _ => cases hdd
theorem DvA.bls {H : Hp} : ∀ (bs : List Bool) {vs : List V}, DvA H vs (bs.map PyData.bool) → vs = bs.map V.bl
  | [], _, .nil => rfl
  | n :: ns, _, .cons (.bl _) t => by rw [DvA.bls ns t]; rfl
theorem de_all (B : Bt X.mg) (hc : X.calm = true) (hg : Gl X "all") (h : DE X e ρ μ fun o μ1 => ∃ bs : List Bool, RdD μ1 o (.list (bs.map .bool)) ∧ Φ (.im (.bool (bs.all id))) μ1) (he : starEach [e] X.env = (false, eval e X.env) :: starEach [] X.env := by rfl) (hpl : (backTo pos (starEach [] X.env)).any (·.1) = false := by rfl) : DE X (.Call (.Name "all" p) [e] [] pos) ρ μ Φ :=
  de_callB (cr_all hc) hg B.all PyProof.Rows.boot_all (he := he) (hpl := hpl) (da_cons (hs := he) (h.imp fun o μ1 ⟨bs, hd, q⟩ => da_nil fun G H vs m r Q f => by
    obtain ⟨v, rfl, r1⟩ := ro1 r
    obtain ⟨a, xs, rfl, h1, w⟩ := dv_list m hd r1
    exact ⟨a, bs, rfl, .inl (.inl (by rw [← w.bls]; exact h1)), f _ _ _ _ _ q (Ex.refl G) m (Dv.bl _)⟩))
theorem de_any (B : Bt X.mg) (hc : X.calm = true) (hg : Gl X "any") (h : DE X e ρ μ fun o μ1 => ∃ bs : List Bool, RdD μ1 o (.list (bs.map .bool)) ∧ Φ (.im (.bool (bs.any id))) μ1) (he : starEach [e] X.env = (false, eval e X.env) :: starEach [] X.env := by rfl) (hpl : (backTo pos (starEach [] X.env)).any (·.1) = false := by rfl) : DE X (.Call (.Name "any" p) [e] [] pos) ρ μ Φ :=
  de_callB (cr_any hc) hg B.any PyProof.Rows.boot_any (he := he) (hpl := hpl) (da_cons (hs := he) (h.imp fun o μ1 ⟨bs, hd, q⟩ => da_nil fun G H vs m r Q f => by
    obtain ⟨v, rfl, r1⟩ := ro1 r
    obtain ⟨a, xs, rfl, h1, w⟩ := dv_list m hd r1
    exact ⟨a, bs, rfl, .inl (.inl (by rw [← w.bls]; exact h1)), f _ _ _ _ _ q (Ex.refl G) m (Dv.bl _)⟩))
theorem de_max (B : Bt X.mg) (hc : X.calm = true) (hg : Gl X "max") (h : DE X e ρ μ fun o μ1 => ∃ ns : List Int, RdD μ1 o (.list (ns.map .int)) ∧ 0 < ns.length ∧ ∀ k, k ∈ ns → (∀ y, y ∈ ns → y ≤ k) → Φ (.im (.int k)) μ1) (he : starEach [e] X.env = (false, eval e X.env) :: starEach [] X.env := by rfl) (hpl : (backTo pos (starEach [] X.env)).any (·.1) = false := by rfl) : DE X (.Call (.Name "max" p) [e] [] pos) ρ μ Φ :=
  de_callB (cr_max hc) hg B.max PyProof.Rows.boot_max (he := he) (hpl := hpl) (da_cons (hs := he) (h.imp fun o μ1 ⟨bs, hd, hz, q⟩ => da_nil fun G H vs m r Q f => by
    obtain ⟨v, rfl, r1⟩ := ro1 r
    obtain ⟨a, xs, rfl, h1, w⟩ := dv_list m hd r1
    exact ⟨a, bs, rfl, .inl (.inl (by rw [← w.ints]; exact h1)), hz, fun k hk hm => f _ _ _ _ _ (q k hk hm) (Ex.refl G) m (Dv.int _)⟩))
end
end Nx
namespace Nx
open PySem PySem.Spec PyProof.Rows L2
theorem law_core {P : Program} {w : World} {K : PySem.W.Frag} {mg mb : Str → Option Value} {k : Nat} {fa a : Addr} {fd : FuncData} {x : Str} {sp : Sp} {s : Shared}
    (KX : K.In s.heap) (hns : s.heap.Ns mainGlobals mg) (hb : s.heap.Ns builtinsNs mb) (hbb : ∀ x : Str, x ≠ "__name__" → mb x = bootBuiltins x) (hlim : s.heap.NoLimit) (hgn : s.gens = #[]) (hr : Rm k callerA)
    (F : ∀ base : Heap, K.In base → base.Ns mainGlobals mg → FnG P w K mg base CX0 k fa fd [x] sp) (bind : ∀ (s : Shared) (u : Value), BindsTo s fd ⟨[u], []⟩ [(x, u)])
    (H : Hp) (hO : Only H) (nd : ∀ b o, H b ≠ none → s.heap.get? b = some o → ∀ es ep, o.data ≠ .dict es ep) (hok : HOk P w H s.heap) (hK : ∀ b, H b ≠ none → K.lookup b = none) (hsp : sp [.ref a] H (fun v _ => v = .bl true) fun _ _ _ => False) :
    codeAny (model P w) callerA (.call (.ref fa) ⟨[.ref a], []⟩) (fun r s' => r = .ok (.ret (.bool true)) ∧ OldK s.heap s'.heap ∧ s'.os = s.os ∧ AllBare s'.gens) s := by
  have up : ∀ {b : Addr} {o : Obj}, s.heap.get? b = some o → H b = none → (hidT s.heap H).get? b = some o := fun e n => hidT_get e n
  have nsUp : ∀ {b : Addr} {m : Str → Option Value}, s.heap.Ns b m → (hidT s.heap H).Ns b m := by
    rintro b m ⟨o, es, ep, e, d, r⟩
    refine ⟨o, es, ep, up e ?_, d, r⟩
    cases q : H b with
    | none => rfl
    | some u => exact absurd d (nd b o (by rw [q]; simp) e es ep)
  have inK : K.In (hidT s.heap H) := by
    intro b o e
    refine up (KX b o e) ?_
    cases q : H b with
    | none => rfl
    | some u =>
      have := hK b (by rw [q]; simp)
      rw [e] at this
      cases this
  have lim : (hidT s.heap H).NoLimit := by
    obtain ⟨mc, h1, h2⟩ := hlim
    exact ⟨mc, nsUp h1, h2⟩
  have env0 : Env0 P w K mg (hidT s.heap H) callerA [] s H :=
    { frames := rfl, mod := ⟨inK, nsUp hns, ⟨mb, nsUp hb, hbb⟩, lim⟩, bs := fun b o e => of_hidT e, bsz := Nat.le_of_eq (hidT_size _ _), funs := trivial, frf := (fun b hb => absurd (show b ∈ ([] : List Addr) from hb) (by simp)), hok := hok, bare := .of_eq hgn }
  have run := (F _ inK (nsUp hns)).run callerA [] s H ⟨[.ref a], []⟩ [.ref a] [.ref a] _ _ hr env0 (bind s (.ref a)) (.cons rfl .nil) hsp
  refine codeAny_mono run fun r s' h => ?_
  match r, h with
  | .error e, h => exact h.elim
  | .ok (.ret u), h =>
    obtain ⟨v, H', os, bare, un, hok', r', q⟩ := h
    have q : v = .bl true := q
    subst q
    have r' : u = Value.bool true := r'
    subst r'
    refine ⟨rfl, OldK.of_keep fun b o e => ?_, os, bare⟩
    cases q : H b with
    | none => exact un.keep b o e q (fun z => nomatch z) (by simp)
    | some u =>
      obtain z | ⟨ob, xs, z⟩ := hO b
      · rw [q] at z
        cases z
      · have e1 := (hok b _ z).1
        have e2 := (hok' b _ (un.frzs b ob _ z)).1
        rw [e] at e1
        cases e1
        exact e2
theorem law_end {P : Program} {w : World} {K : PySem.W.Frag} {mg mb : Str → Option Value} {k : Nat} {fa a : Addr} {fd : FuncData} {x : Str} {sp : Sp} {s : Shared} {vs : List Value} {ns : List Int}
    (KX : K.In s.heap) (hns : s.heap.Ns mainGlobals mg) (hb : s.heap.Ns builtinsNs mb) (hbb : ∀ x : Str, x ≠ "__name__" → mb x = bootBuiltins x) (hlim : s.heap.NoLimit) (hgn : s.gens = #[]) (hr : Rm k callerA)
    (F : ∀ base : Heap, K.In base → base.Ns mainGlobals mg → FnG P w K mg base CX0 k fa fd [x] sp) (bind : ∀ (s : Shared) (u : Value), BindsTo s fd ⟨[u], []⟩ [(x, u)])
    (ha : s.heap.get? a = some { cls := .type "list", data := .seq vs.toArray }) (hi : IntsAre vs ns) (hl : ns.length ≤ sizeLine) (hsp : ∀ H : Hp, Only H → SqL K H a (ns.map V.int) → sp [.ref a] H (fun v _ => v = .bl true) fun _ _ _ => False) :
    codeAny (model P w) callerA (.call (.ref fa) ⟨[.ref a], []⟩) (fun r s' => r = .ok (.ret (.bool true)) ∧ OldK s.heap s'.heap ∧ s'.os = s.os ∧ AllBare s'.gens) s := by
  have rv := vals_ints hi
  have lv := hi.length
  cases hk : K.lookup a with
  | some o =>
    have e := KX a o hk
    rw [ha] at e
    cases e
    have hS : SqL K (fun _ => none) a (ns.map V.int) := .inr ⟨_, vs.toArray, _, hk, rfl, rfl, rfl, by rw [List.size_toArray, lv]; exact hl, by simpa using rv⟩
    exact law_core KX hns hb hbb hlim hgn hr F bind (fun _ => none) (fun _ => .inl rfl) (fun b o z => absurd rfl z) (fun b u z => nomatch z) (fun b z => absurd rfl z) (hsp _ (fun _ => .inl rfl) hS)
  | none =>
    let fz : HO := .frz { cls := .type "list", data := .seq vs.toArray } (.lst (ns.map V.int))
    have at_ : ∀ b u, upd (fun _ => none) a fz b = some u → b = a ∧ u = fz := by
      intro b u z
      by_cases e : b = a
      · subst e
        rw [upd_same] at z
        exact ⟨rfl, (Option.some.inj z).symm⟩
      · rw [upd_ne e] at z
        cases z
    have isA : ∀ b, upd (fun _ => none) a fz b ≠ none → b = a := fun b z => by
      cases q : upd (fun _ => none) a fz b with
      | none => exact absurd q z
      | some u => exact (at_ b u q).1
    have hO : Only (upd (fun _ => none) a fz) := fun b => by
      cases q : upd (fun _ => none) a fz b with
      | none => exact .inl rfl
      | some u => exact .inr ⟨_, _, by rw [(at_ b u q).2]⟩
    refine law_core KX hns hb hbb hlim hgn hr F bind (upd (fun _ => none) a fz) hO (fun b o z e es ep d => ?_) (fun b u z => ?_) (fun b z => ?_) (hsp _ hO (.inl (.inr ⟨_, upd_same⟩)))
    · rw [isA b z, ha] at e
      cases e
      cases d
    · obtain ⟨rfl, rfl⟩ := at_ b u z
      exact ⟨ha, by rw [List.length_map]; exact hl, vs, _, rv, ha⟩
    · rw [isA b z]
      exact hk
theorem walk_G {l : PySem.W.OpenLaw} {n k : Nat} {q : Program} {loose : List Str} {XP : (Str → Option Value) → Heap → Prop} {YP : World → Heap → Prop} {d : DefRec} {K : Params → PySem.W.Frag} {sp : PySem.W.Frag → Sp} {x : Str}
    (hn : l.most = some n) (hn2 : n ≤ sizeLine) (hdf : d.params.defaults = []) (hr : Rm k callerA) (hY : ∀ (w : World) (h : Heap), YP w h → (K w.params).In h)
    (F : ∀ (w : World) (mg : Str → Option Value) (fa : Addr) (h : Heap), (K w.params).In h → h.Ns mainGlobals mg → mg d.name = some (.ref fa) →
      ∃ fd : FuncData, (∀ (s : Shared) (u : Value), BindsTo s fd ⟨[u], []⟩ [(x, u)]) ∧ ∀ base : Heap, (K w.params).In base → base.Ns mainGlobals mg → FnG l.prog w (K w.params) mg base CX0 k fa fd [x] (sp (K w.params)))
    (hsp : ∀ (K : PySem.W.Frag) (H : Hp) (a : Addr) (ns : List Int), ns.length ≤ n → Only H → SqL K H a (ns.map V.int) → sp K [.ref a] H (fun v _ => v = .bl true) fun _ _ _ => False) :
    PySem.W.WalkO q loose XP YP l.row.toRowW d [] (fun f vs => PySem.call f vs) := by
  apply Att.attach_call hn hdf
  intro w s₀ s₁ mg mb fa o pm cd doc a vs ns G Y ho hd hcd hmg hobj hints hlen hgn
  have KX := hY w _ Y
  obtain ⟨fd, hb, hF⟩ := F w mg fa _ KX G.T.g hmg
  exact law_end KX G.T.g G.T.b G.T.builtins G.T.nolimit hgn hr hF hb hobj hints (Nat.le_trans hlen hn2) fun H hO hS => hsp _ H a ns hlen hO hS
end Nx
namespace Nx
open PySem PySem.Spec PyProof.Rows L2
def Sub (μ' μ : Mu) : Prop := (∀ a l, μ' a = some l → μ a = some l) ∧ μ'.d = μ.d ∧ μ'.C = μ.C
theorem Sub.refl (μ : Mu) : Sub μ μ := ⟨fun _ _ h => h, rfl, rfl⟩
section
variable {X : Cx} {e : Expr} {st : Stmt} {ss : List Stmt} {ρ : Rho} {μ μ' : Mu} {D : DEnds} {Φ : OV → Mu → Prop}
theorem dss_drop (h : Sub μ' μ) (k : DSs X ss ρ μ' D) : DSs X ss ρ μ D := fun G H σ m v E f => k G H σ (m.drop h.1 h.2.1 h.2.2) v E f
theorem dss_frz {i : Nat} {p : Addr} {ds : List PyData} (hi : ρ[i]? = some (some (.own p))) (hp : μ p = some (ds.map .im)) (k : DSs X ss (ρ.set i (some (.im (.list ds)))) (μ.del p) D) : DSs X ss ρ μ D := fun G H σ m v E f => by
  obtain ⟨vs, e0, g0, w, m'⟩ := m.frz hp
  have v2 := (v.mono (Ex.new (o := .lst vs) g0)).set (i := i) (v := .ref p) (o := .im (.list ds)) (Dv.lst upd_same (w.mono (Ex.new g0)))
  obtain ⟨u, hu, ru⟩ := v.get i _ hi
  have ru : u = .ref p := ru
  subst ru
  have e1 : σ.set i (some (.ref p)) = σ := by
    apply List.ext_getElem?
    intro j
    by_cases hj : i = j
    · subst hj
      rw [List.getElem?_set_self (List.getElem?_eq_some_iff.mp hu).1, hu]
    · rw [List.getElem?_set_ne hj]
  rw [e1] at v2
  exact k _ H σ m' v2 E (f.later (Ex.new g0))
end
theorem put_get {μ : Mu} {a b : Addr} {l : List OV} : μ.put a l b = if b = a then some l else μ b := rfl
theorem put_back {μ : Mu} {a : Addr} {l : List OV} (h : μ a = some l) : μ = (μ.del a).put a l ∧ (μ.del a) a = none := by
  refine ⟨mu_ext (fun b => ?_) rfl rfl, if_pos rfl⟩
  rw [put_get]
  by_cases e : b = a
  · rw [if_pos e, e, h]
  · rw [if_neg e]
    exact (if_neg e).symm
theorem ne_own {μ : Mu} {a b : Addr} {l : List OV} (h : μ.l a = some l) (n : μ b = none) : a ≠ b := fun e => by
  rw [e, n] at h
  cases h
theorem lz {n : Nat} (h : Nat.ble n 100000 = true) : n ≤ 100000 := Nat.le_of_ble_eq_true h
theorem c01 {k : Bool} : -(2 ^ 64 : Int) < (if k = true then 1 else 0) ∧ (if k = true then (1 : Int) else 0) < 2 ^ 64 := by cases k <;> decide
theorem ixN_nat {n j : Nat} (h : j < n) : ixN n (j : Int) = some j := by
  unfold ixN
  rw [if_pos (by omega), if_pos (by omega), Int.toNat_natCast]
theorem cutI_to (ns : List Int) (u : Nat) : cutI ns none (some (u : Int)) = ns.take u := by
  unfold cutI
  rw [HT.sIx_none, HT.sIx_nat, List.drop_zero, Nat.sub_zero]
  exact List.take_eq_take_iff.mpr (by omega)
theorem cutI_len (ns : List Int) (u v : Nat) : (cutI ns (some (u : Int)) (some (v : Int))).length ≤ ns.length - u := by
  unfold cutI
  rw [HT.sIx_nat, HT.sIx_nat, List.length_take, List.length_drop]
  omega
theorem cutD_to (ns : List PyData) (u : Nat) : cutD ns none (some (u : Int)) = ns.take u := by
  unfold cutD
  rw [HT.sIx_none, HT.sIx_nat, List.drop_zero, Nat.sub_zero]
  exact List.take_eq_take_iff.mpr (by omega)
theorem cutD_from (ns : List PyData) (u : Nat) : cutD ns (some (u : Int)) none = ns.drop u := by
  unfold cutD
  rw [HT.sIx_none, HT.sIx_nat]
  by_cases h : u ≤ ns.length
  · rw [Nat.min_eq_left h]
    exact List.take_of_length_le (by rw [List.length_drop]; omega)
  · rw [Nat.min_eq_right (by omega), List.drop_length, List.drop_of_length_le (by omega)]
    simp
theorem prs_at {ds : List PyData} {i : Nat} {z : OV} (h : ((prs (nums ds.length) ds).map OV.im)[i]? = some z) : ∃ d, ds[i]? = some d ∧ z = .im (.tuple [.int (i : Int), d]) := by
  have hi : i < ds.length := by
    have := (List.getElem?_eq_some_iff.mp h).1
    simpa [prs, nums] using this
  rw [List.getElem?_map, prs_get (nums_get hi) (List.getElem?_eq_getElem hi)] at h
  cases h
  exact ⟨_, List.getElem?_eq_getElem hi, rfl⟩
theorem fg_of {P : Program} {w : World} {K : PySem.W.Frag} {mg : Str → Option Value} {base : Heap} {k : Nat} {f : Addr} {x : Str} {st : Stmt} {fd : FuncData} {N ps : List Str} {C : Ct} (F : Fun K x x st f fd) (S : FnScope N ps (defScope st)) (len : ∀ os μ Φ, C os μ Φ → os.length = ps.length)
    (body : ∀ (cdv : Value) A outer s H E os μ Φ, Rm k (A.deeper (envOfC x (defScope st) s.heap.objs.size f cdv)) → C os μ Φ →
      DSs (cxOf CX0 P w K mg base N x (defScope st) f cdv A outer s H E).nox (defBody st) (os.map some ++ List.replicate (N.length - os.length) none) μ { nx := fun _ μ' => Φ (.im .none) μ', rt := Φ }) : FnG P w K mg base CX0 (k + 1) f fd ps (spOf C) := by
  refine fng_of F S (fun vs H Q E h => ?_) fun cdv A outer s H vs Q E hr h => ?_
  · obtain ⟨os, μ, G, Φ, _, r, c, _⟩ := h
    rw [r.length]
    exact len _ _ _ c
  · obtain ⟨os, μ, G, Φ, m, r, c, fin⟩ := h
    refine WSs.of (PSs.nox pwss) (body cdv A outer s H E os μ Φ hr c G H _ m (rv_start r) _ ⟨fun ρ' μ' G' H' σ' q e m' _ => fin _ _ _ _ _ q e m' Dv.non, fin, fun _ _ _ _ _ q => q.elim, fun _ _ _ _ _ q => q.elim⟩)
def c_law (K : PySem.W.Frag) : Ct := fun os μ Φ => ∃ ns : List Int, os = [.scr K ns] ∧ ns.length ≤ 63 ∧ ∀ μ', Φ (.im (.bool true)) μ'
theorem law_sp (K : PySem.W.Frag) (H : Hp) (a : Addr) (ns : List Int) (hn : ns.length ≤ 63) (hS : SqL K H a (ns.map V.int)) : spOf (c_law K) [.ref a] H (fun v _ => v = .bl true) fun _ _ _ => False :=
  ⟨[.scr K ns], ⟨fun _ => none, fun _ => none, 0⟩, H, fun o _ => o = .im (.bool true), RM.zero 0, .cons ⟨a, rfl, hS⟩ .nil, ⟨ns, rfl, hn, fun _ => rfl⟩, fun v o μ' G' H' h e m r => by
    subst h
    cases r
    rfl⟩
abbrev iL (ns : List Int) : List PyData := ns.map .int
theorem depth_ints : ∀ ns : List Int, PyData.depthAll (iL ns) ≤ 1
  | [] => by simp [PyData.depthAll]
  | n :: ns => by
    have := depth_ints ns
    simp [PyData.depthAll, PyData.depth]
    omega
theorem atI_iL {cs : List Int} {k : Nat} (h : k < cs.length) : atI ((iL cs).map OV.im) (k : Int) = some (.im (.int cs[k])) := by
  apply atI_nat
  rw [List.getElem?_map, List.getElem?_map, List.getElem?_eq_getElem h]
  rfl
theorem iL_get {cs : List Int} {k : Nat} {d : PyData} (h : (iL cs)[k]? = some d) : ∃ c, cs[k]? = some c ∧ d = .int c := by
  rw [List.getElem?_map] at h
  cases q : cs[k]? with
  | none =>
    rw [q] at h
    cases h
  | some c =>
    rw [q] at h
    cases h
    exact ⟨c, rfl, rfl⟩
end Nx
namespace Nx
open PySem PySem.Spec PyProof.Rows L2
def pile : List Str → Nat
  | [] => 0
  | t :: ts => t.length + 2 + pile ts
theorem textFrom_le : ∀ (ts : List Str) (k : Nat) (acc : Str), (textFrom k acc ts).length ≤ acc.length + pile ts
  | [], k, acc => by
    show acc.length ≤ _
    exact Nat.le_add_right _ _
  | t :: r, k, acc => by
    have ih := textFrom_le r (k + 1) (acc ++ (if k > 0 then ", " else "" : String) ++ t)
    have h2 : (Str.ofString (if k > 0 then ", " else "" : String)).length ≤ 2 := by split <;> decide
    rw [Str.length_append, Str.length_append] at ih
    show (textFrom (k + 1) (acc ++ (if k > 0 then ", " else "" : String) ++ t) r).length ≤ acc.length + (t.length + 2 + pile r)
    omega
theorem listText_le (ts : List Str) : (listText ts).length ≤ pile ts + 2 := by
  have h := textFrom_le ts 0 (Str.ofString "[")
  have e1 : (Str.ofString "[").length = 1 := by decide
  have e2 : (Str.ofString "]").length = 1 := by decide
  show (textFrom 0 (Str.ofString "[") ts ++ Str.ofString "]").length ≤ _
  rw [Str.length_append, e2]
  omega
theorem join_le : ∀ ts : List Str, (Str.join ", " ts).length ≤ pile ts
  | [] => by decide
  | [x] => by
    show x.length ≤ x.length + 2 + 0
    omega
  | x :: y :: r => by
    have ih := join_le (y :: r)
    have e : (Str.ofString ", ").length = 2 := by decide
    show (x ++ Str.ofString ", " ++ Str.join ", " (y :: r)).length ≤ x.length + 2 + pile (y :: r)
    rw [Str.length_append, Str.length_append, e]
    omega
theorem tupleText_le (ts : List Str) : (tupleText ts).length ≤ pile ts + 3 := by
  have h := join_le ts
  have e1 : (Str.ofString "(").length = 1 := by decide
  have e2 : (Str.ofString (if ts.length == 1 then ",)" else ")" : String)).length ≤ 2 := by split <;> decide
  show (Str.ofString "(" ++ Str.join ", " ts ++ Str.ofString (if ts.length == 1 then ",)" else ")" : String)).length ≤ _
  rw [Str.length_append, Str.length_append, e1]
  omega
structure Sd (k w : Nat) (d : PyData) : Prop where
  sh : d.showable = true
  nd : d.hasDict = false
  dp : d.depth ≤ k
  ln : d.shown.length ≤ w
structure SdA (k w : Nat) (ds : List PyData) : Prop where
  sh : PyData.showableAll ds = true
  nd : PyData.hasDictAll ds = false
  dp : PyData.depthAll ds ≤ k
  ln : pile (PyData.shownAll ds) ≤ w
theorem Sd.mono {k w k' w' : Nat} {d : PyData} (h : Sd k w d) (hk : k ≤ k') (hw : w ≤ w') : Sd k' w' d := ⟨h.sh, h.nd, Nat.le_trans h.dp hk, Nat.le_trans h.ln hw⟩
theorem SdA.mono {k w k' w' : Nat} {d : List PyData} (h : SdA k w d) (hk : k ≤ k') (hw : w ≤ w') : SdA k' w' d := ⟨h.sh, h.nd, Nat.le_trans h.dp hk, Nat.le_trans h.ln hw⟩
theorem Sd.none : Sd 0 4 .none := ⟨by simp [PyData.showable], by simp [PyData.hasDict], by simp [PyData.depth], by simp only [PyData.shown]; decide⟩
theorem Sd.bool (b : Bool) : Sd 0 5 (.bool b) := ⟨by simp [PyData.showable], by simp [PyData.hasDict], by simp [PyData.depth], by simp only [PyData.shown]; cases b <;> decide⟩
theorem log_small {n : Nat} (h : n < 10 ^ 60) : n.log2 < 1920 := by
  by_cases h0 : n = 0
  · subst h0
    decide
  · exact (Nat.log2_lt h0).mpr (Nat.lt_of_lt_of_le h (Nat.le_trans (show 10 ^ 60 ≤ 2 ^ 200 by decide) (Nat.pow_le_pow_right (by decide) (by decide))))
theorem Sd.int {i : Int} (h : i.natAbs < 10 ^ 60) : Sd 0 61 (.int i) := by
  refine ⟨by simp only [PyData.showable]; exact decide_eq_true (log_small h), by simp [PyData.hasDict], by simp [PyData.depth], ?_⟩
  simp only [PyData.shown]
  have := int_text_length_le10 (a := i) (k := 60) (by decide) h
  show (Str.ofString (toString i)).length ≤ 61
  rw [PySem.ofString_length]
  exact this
theorem SdA.nil : SdA 0 0 [] := ⟨by simp [PyData.showableAll], by simp [PyData.hasDictAll], by simp [PyData.depthAll], by simp [PyData.shownAll, pile]⟩
theorem SdA.cons {k w k' w' : Nat} {d : PyData} {ds : List PyData} (h : Sd k w d) (t : SdA k' w' ds) : SdA (max k k') (w + 2 + w') (d :: ds) := by
  refine ⟨by simp [PyData.showableAll, h.sh, t.sh], by simp [PyData.hasDictAll, h.nd, t.nd], ?_, ?_⟩
  · have := h.dp
    have := t.dp
    simp only [PyData.depthAll]
    omega
  · have := h.ln
    have := t.ln
    simp only [PyData.shownAll, pile]
    omega
theorem Sd.list {k w : Nat} {ds : List PyData} (h : SdA k w ds) : Sd (k + 1) (w + 2) (.list ds) := by
  refine ⟨by simp only [PyData.showable]; exact h.sh, by simp only [PyData.hasDict]; exact h.nd, by simp only [PyData.depth]; exact Nat.succ_le_succ h.dp, ?_⟩
  simp only [PyData.shown]
  exact Nat.le_trans (listText_le _) (Nat.add_le_add_right h.ln 2)
theorem Sd.tuple {k w : Nat} {ds : List PyData} (h : SdA k w ds) : Sd (k + 1) (w + 3) (.tuple ds) := by
  refine ⟨by simp only [PyData.showable]; exact h.sh, by simp only [PyData.hasDict]; exact h.nd, by simp only [PyData.depth]; exact Nat.succ_le_succ h.dp, ?_⟩
  simp only [PyData.shown]
  exact Nat.le_trans (tupleText_le _) (Nat.add_le_add_right h.ln 3)
theorem SdA.all {k w : Nat} : ∀ {ds : List PyData}, (∀ d ∈ ds, Sd k w d) → SdA k ((w + 2) * ds.length) ds
  | [], _ => SdA.nil.mono (Nat.zero_le _) (Nat.zero_le _)
  | d :: ds, h => by
    have t := SdA.all fun d hd => h d (List.mem_cons_of_mem _ hd)
    refine (SdA.cons (h d (List.mem_cons_self ..)) t).mono (by omega) ?_
    rw [List.length_cons, Nat.mul_add, Nat.mul_one]
    omega
theorem SdA.ints {ns : List Int} (h : ∀ i ∈ ns, i.natAbs < 10 ^ 60) : SdA 0 (63 * ns.length) (iL ns) := by
  have := SdA.all (k := 0) (w := 61) (ds := iL ns) fun d hd => by
    obtain ⟨i, hi, rfl⟩ := List.mem_map.mp hd
    exact Sd.int (h i hi)
  rw [List.length_map] at this
  exact this
theorem Sd.shw {k w : Nat} {d : PyData} (h : Sd k w d) (hd : isDisplay d = true) (hk : k ≤ 60) (hw : w ≤ 16777216) : Shw d := ⟨h.sh, h.nd, hd, Nat.le_trans h.dp hk, Nat.le_trans h.ln hw⟩
theorem eqvAll_ints : ∀ ns ms : List Int, PyData.eqvAll (iL ns) (iL ms) = decide (ns = ms)
  | [], [] => by simp [PyData.eqvAll]
  | [], m :: ms => by simp [PyData.eqvAll]
  | n :: ns, [] => by simp [PyData.eqvAll]
  | n :: ns, m :: ms => by
    have ih := eqvAll_ints ns ms
    show (PyData.eqv (.int n) (.int m) && PyData.eqvAll (iL ns) (iL ms)) = _
    rw [ih]
    show ((n == m) && _) = _
    by_cases h1 : n = m
    · subst h1
      simp
    · simp [h1]
theorem eqv_tuple_ints (ns ms : List Int) : PyData.eqv (.tuple (iL ns)) (.tuple (iL ms)) = decide (ns = ms) := by
  simp only [PyData.eqv]
  exact eqvAll_ints ns ms
end Nx
namespace Nx
open PySem PySem.Spec PyProof.Rows L2
def Jsq (K : PySem.W.Frag) (k : Bool) (a : Addr) : It := if k then Itl K a else Itt K a
def iSq (K : PySem.W.Frag) (tl : TE) : TI := fun σ H R => tl σ H fun x H1 => ∃ k a xs, x = .ref a ∧ SqK k H1 a xs ∧ R (Jsq K k a) H1
theorem pi_sq {X : Cx} {tg l : Expr} {tl : TE} (hl : PE X l tl) : PI X tg l (iSq X.K tl) := by
  constructor
  intro pins s σ H R I h
  refine thn (hl.run pins s σ H _ I h) fun v s1 ⟨x, H1, I1, r1, k, a, xs, e, hq, q⟩ => ?_
  subst e
  cases r1
  obtain ⟨its, rv, hs⟩ := hq.at I1
  refine (begins k a its.toArray).iter _ _ _ _ s1 _ hs ?_
  have fp : ∀ b ∈ [s1.heap.objs.size], FpOk X pins H1 b := fun b hb => by
    rw [List.mem_singleton.mp hb]
    exact I1.fpOk (Nat.le_refl _) (I1.hok.fresh (Nat.le_refl _))
  have I2 : Inv X pins σ H1 { s1 with heap := s1.heap.push (itOb k a) } := I1.kept (t' := s1.toks) fun b o e => Heap.get?_push_of_some _ e
  cases k with
  | true => exact ⟨s1.heap.objs.size, [s1.heap.objs.size], _, _, H1, rfl, I2, turn_list a _, ⟨_, Heap.get?_push_size _ rfl, rfl, rfl⟩, fp, q⟩
  | false => exact ⟨s1.heap.objs.size, [s1.heap.objs.size], _, _, H1, rfl, I2, turn_tuple a _, ⟨_, Heap.get?_push_size _ rfl, rfl, rfl⟩, fp, q⟩
theorem di_seq {X : Cx} {tg e : Expr} {ρ : Rho} {μ : Mu} {Ψ : Itd → Mu → Prop} (h : DE X e ρ μ fun o μ1 => ∃ ds, Seq ds o ∧ Ψ ⟨ds.map .im, fun _ => True⟩ μ1) : DI X tg e ρ μ Ψ :=
  ⟨_, pi_sq pwe, fun G H σ m v R f => h G H σ m v _ fun vx x μ1 G1 H1 q1 e1 m1 r1 => by
    obtain ⟨ds, hd, q⟩ := q1
    obtain ⟨k, a, xs, rfl, hq, w⟩ := hd.at r1
    refine ⟨k, a, xs, rfl, m1.ex _ _ hq, f _ _ _ _ _ q e1 m1 ?_⟩
    cases k with
    | true => exact gives_list hq w
    | false => exact gives_tup hq w⟩
theorem ll {n : Nat} (h : Nat.ble (n + 1) 100000 = true) : n < 100000 := Nat.le_of_ble_eq_true h
theorem Seq.sq {μ : Mu} {ds : List PyData} {o : OV} (h : Seq ds o) : SqD μ o (ds.map .im) := by
  cases h with
  | lst => exact .lst ds
  | tup => exact .tup ds
end Nx
namespace Nx
open PySem PySem.Spec PyProof.Rows L2
theorem Gives.ok {J : It} {its : List OV} {ok1 ok2 : Mu → Prop} {G : Hp} (h : Gives J ⟨its, ok1⟩ G) (hi : ∀ μ, ok2 μ → ok1 μ) : Gives J ⟨its, ok2⟩ G := by
  obtain ⟨Gd, Y, wk, h1, h2⟩ := h
  exact ⟨Gd, Y, wk, fun G' H' μ' e m o => h1 G' H' μ' e m (hi _ o), fun i H' x H2 G' μ' e m o y hl => h2 i H' x H2 G' μ' e m (hi _ o) y hl⟩
theorem SqD.sub {μ μ' : Mu} {o : OV} {l : List OV} (h : SqD μ o l) (s : ∀ (a : Addr) (l : List OV), μ a = some l → μ' a = some l) : SqD μ' o l := by
  cases h with
  | lst => exact .lst _
  | tup => exact .tup _
  | own h => exact .own (s _ _ h)
theorem SqD.put {μ : Mu} {o : OV} {l l' : List OV} {p : Addr} (h : SqD μ o l) (hp : μ p = none) : SqD (μ.put p l') o l := h.sub fun a m e => (put_ne (ne_own (μ := μ) e hp)).trans e
end Nx
namespace Nx
open PySem PySem.Spec PyProof.Rows L2
def dTy : PyData → String
  | .none => "NoneType"
  | .bool _ => "bool"
  | .int _ => "int"
  | .str _ => "str"
  | .list _ => "list"
  | .tuple _ => "tuple"
  | .dict _ => "dict"
inductive TyD (μ : Mu) : OV → String → Prop
  | im (d : PyData) : TyD μ (.im d) (dTy d)
  | own {a : Addr} {l : List OV} : μ a = some l → TyD μ (.own a) "list"
theorem TyD.at {K : PySem.W.Frag} {G H : Hp} {μ : Mu} {o : OV} {T : String} {v : V} (h : TyD μ o T) (m : RM G H μ) (r : RO G v o) : TyX K H v (.type T) := by
  cases h with
  | im d =>
    cases r with
    | non => exact .base .non
    | bl b => exact .base (.bl b)
    | int i => exact .base (.int i)
    | str x => exact .base (.str x)
    | lst h1 w => exact .base (.lst (m.ex _ _ h1))
    | tup h1 w => exact .base (.tup (m.ex _ _ h1))
  | own h =>
    have r : v = .ref _ := r
    subst r
    obtain ⟨_, vs, e, w⟩ := m.own _ _ h
    exact .base (.lst e)
end Nx
namespace Nx
open PySem PySem.Spec PyProof.Rows L2
end Nx
namespace Nx
open PySem PySem.Spec PyProof.Rows L2
section
variable {G H : Hp} {μ : Mu} {p : Addr} {kvs kvs0 : List (List Int × OV)} {xs : List V} {ρ : Rho} {σ : L2.St}
def kvV (kvs : List (List Int × OV)) (xs : List V) : List (List Key × V) := (kvs.map fun p => keyT p.1).zip xs
theorem RM.see (m : RM G H μ) {q : Addr} {ys : List V} (h : H q = some (.tup ys)) : Ex G (upd G q (.tup ys)) ∧ RM (upd G q (.tup ys)) H μ := by
  have e : Ex G (upd G q (.tup ys)) := fun a o ha => by
    by_cases hq : a = q
    · subst hq
      have := m.ex a o ha
      rw [h] at this
      rw [upd_same]
      exact this
    · rw [upd_ne hq]
      exact ha
  refine ⟨e, fun a o ha => ?_, fun a l ha => ?_, ?_⟩
  · by_cases hq : a = q
    · subst hq
      rw [upd_same] at ha
      rw [← ha]
      exact h
    · rw [upd_ne hq] at ha
      exact m.ex a o ha
  · obtain ⟨g, vs, hv, w⟩ := m.own a l ha
    have hq : a ≠ q := fun z => by rw [z, h] at hv; cases hv
    exact ⟨by rw [upd_ne hq]; exact g, vs, hv, w.mono e⟩
  · obtain ⟨who, t⟩ := m.thg
    refine ⟨who, t.keep e rfl rfl fun x a hx => ?_⟩
    obtain ⟨t1, t2, ⟨o, ho, hm⟩, _⟩ := t.of x a hx
    have hq : x ≠ q := fun z => by
      rw [z, h] at ho
      cases ho
      exact hm
    exact ⟨rfl, by rw [upd_ne hq]; exact t1, t2⟩
theorem ThOk.who {C : Addr} {who who' : Addr → Option Addr} {a : Addr} (hw : ∀ x, who x = some a → who' x = some a) : ∀ {t : Th}, ThOk C who G H a t → ThOk C who' G H a t
  | .dT kvs, h => h
  | .cir c, ⟨dx, q, r, vb, xs, ys, h1, h2, h3, h4, h5, h6, h7, h8, h9, h10, h11⟩ => ⟨dx, q, r, vb, xs, ys, h1, h2, h3, h4, hw _ h5, hw _ h6, hw _ h7, h8, h9, h10, h11⟩
theorem RM.freshD (m : RM G H μ) (h : H p = none) : μ.d p = none := by
  obtain ⟨who, t⟩ := m.thg
  cases z : μ.d p with
  | none => rfl
  | some t' => exact absurd rfl (t.ne h (t.ok p t' z).1)
theorem RM.newD (m : RM G H μ) (h : H p = none) (w : ROs G xs (kvs.map (·.2))) : RM G (upd H p (.dT (kvV kvs xs))) (μ.putD p (.dT kvs)) := by
  refine ⟨m.ex.trans (Ex.new h), fun a l q => ?_, ?_⟩
  · obtain ⟨g, vs, hv, w⟩ := m.own a l q
    exact ⟨g, vs, by rw [upd_ne (ne_of_none hv h)]; exact hv, w⟩
  · obtain ⟨who, t⟩ := m.thg
    have nw : ∀ x a, who x = some a → x ≠ p := fun x a hx => t.ne h hx
    have hμ : μ.d p = none := by
      cases z : μ.d p with
      | none => rfl
      | some t' => exact absurd rfl (nw p p (t.ok p t' z).1)
    refine ⟨fun x => if x = p then some p else who x, fun a t' ha => ?_, fun x a hx => ?_⟩
    · by_cases hp : a = p
      · subst hp
        rw [putD_same] at ha
        cases ha
        exact ⟨if_pos rfl, xs, upd_same, w⟩
      · rw [putD_ne hp] at ha
        obtain ⟨t1, t2⟩ := t.ok a t' ha
        refine ⟨(if_neg hp).trans t1, (t2.keep t1 fun x hx => upd_ne (nw x a hx)).who fun x hx => (if_neg (nw x a hx)).trans hx⟩
    · by_cases hp : x = p
      · subst hp
        rw [if_pos rfl] at hx
        cases hx
        exact ⟨m.ex.free h, m.fresh h, ⟨_, upd_same, trivial⟩, by rw [putD_same]; rfl⟩
      · rw [if_neg hp] at hx
        obtain ⟨t1, t2, ⟨o, ho, hm⟩, t4⟩ := t.of x a hx
        refine ⟨t1, t2, ⟨o, (upd_ne hp).trans ho, hm⟩, ?_⟩
        have ha : a ≠ p := fun z => by
          rw [z, hμ] at t4
          cases t4
        rw [putD_ne ha]
        exact t4
theorem RM.atD (m : RM G H μ) (h : μ.d p = some (.dT kvs)) : G p = none ∧ μ p = none ∧ ∃ xs, H p = some (.dT (kvV kvs xs)) ∧ ROs G xs (kvs.map (·.2)) := by
  obtain ⟨who, t⟩ := m.thg
  obtain ⟨t1, xs, t2, t3⟩ := t.ok p _ h
  exact ⟨(t.of p p t1).1, (t.of p p t1).2.1, xs, t2, t3⟩
theorem RM.chgD (m : RM G H μ) (h : μ.d p = some (.dT kvs0)) (w : ROs G xs (kvs.map (·.2))) : RM G (upd H p (.dT (kvV kvs xs))) (μ.putD p (.dT kvs)) := by
  obtain ⟨g, hμ, xs0, h0, _⟩ := m.atD h
  refine ⟨fun a o e => ?_, fun a l q => ?_, ?_⟩
  · rw [upd_ne (ne_of_none e g)]
    exact m.ex a o e
  · obtain ⟨g', vs, hv, w⟩ := m.own a l q
    have hp : a ≠ p := fun z => by
      have q : μ a = some l := q
      rw [z, hμ] at q
      cases q
    exact ⟨g', vs, by rw [upd_ne hp]; exact hv, w⟩
  · obtain ⟨who, t⟩ := m.thg
    have wp := (t.ok p _ h).1
    refine ⟨who, fun a t' ha => ?_, fun x a hx => ?_⟩
    · by_cases hp : a = p
      · subst hp
        rw [putD_same] at ha
        cases ha
        exact ⟨wp, xs, upd_same, w⟩
      · rw [putD_ne hp] at ha
        obtain ⟨t1, t2⟩ := t.ok a t' ha
        refine ⟨t1, t2.keep t1 fun x hx => upd_ne fun z => ?_⟩
        rw [z, wp] at hx
        cases hx
        exact hp rfl
    · obtain ⟨t1, t2, t3, t4⟩ := t.of x a hx
      refine ⟨t1, t2, ?_, ?_⟩
      · by_cases hp : x = p
        · subst hp
          exact ⟨_, upd_same, trivial⟩
        · obtain ⟨o, ho, hm⟩ := t3
          exact ⟨o, (upd_ne hp).trans ho, hm⟩
      · by_cases hp : a = p
        · subst hp
          rw [putD_same]
          rfl
        · rw [putD_ne hp]
          exact t4
theorem RM.frzD (m : RM G H μ) (h : μ.d p = some (.dT kvs)) (o : Obj) : ∃ xs, H p = some (.dT (kvV kvs xs)) ∧ G p = none ∧ ROs G xs (kvs.map (·.2)) ∧ RM (upd G p (.frz o (.dT (kvV kvs xs)))) (upd H p (.frz o (.dT (kvV kvs xs)))) (μ.delD p) := by
  obtain ⟨g, hμ, xs, h0, w⟩ := m.atD h
  refine ⟨xs, h0, g, w, fun a u e => ?_, fun a l q => ?_, ?_⟩
  · by_cases hp : a = p
    · subst hp
      rw [upd_same] at e ⊢
      exact e
    · rw [upd_ne hp] at e ⊢
      exact m.ex a u e
  · obtain ⟨g', vs, hv, w⟩ := m.own a l q
    have hp : a ≠ p := fun z => by
      have q : μ a = some l := q
      rw [z, hμ] at q
      cases q
    exact ⟨by rw [upd_ne hp]; exact g', vs, by rw [upd_ne hp]; exact hv, w.mono (Ex.new g)⟩
  · obtain ⟨who, t⟩ := m.thg
    have wp := (t.ok p _ h).1
    have dl : ∀ a, a ≠ p → (μ.delD p).d a = μ.d a := fun a n => if_neg n
    refine ⟨fun x => if who x = some p then none else who x, fun a t' ha => ?_, fun x a hx => ?_⟩
    · have hp : a ≠ p := fun z => by
        rw [z, show (μ.delD p).d p = none from if_pos rfl] at ha
        cases ha
      rw [dl a hp] at ha
      obtain ⟨t1, t2⟩ := t.ok a t' ha
      have ne : ∀ x, who x = some a → x ≠ p := fun x hx z => by
        rw [z, wp] at hx
        cases hx
        exact hp rfl
      have key : ∀ x, who x = some a → (if who x = some p then none else who x) = some a := fun x hx => by
        rw [if_neg (by rw [hx]; intro z; cases z; exact hp rfl)]
        exact hx
      exact ⟨key a t1, ((t2.mono (Ex.new g)).keep t1 fun x hx => upd_ne (ne x hx)).who key⟩
    · have hx : (if who x = some p then none else who x) = some a := hx
      split at hx
      · cases hx
      · rename_i nw
        obtain ⟨t1, t2, ⟨o', ho, hm⟩, t4⟩ := t.of x a hx
        have xp : x ≠ p := fun z => nw (by rw [z]; exact wp)
        have ap : a ≠ p := fun z => nw (by rw [hx, z])
        exact ⟨by rw [upd_ne xp]; exact t1, t2, ⟨o', (upd_ne xp).trans ho, hm⟩, by rw [dl a ap]; exact t4⟩
end
theorem WE.lock {X : Cx} {e : Expr} {σ : L2.St} {H : Hp} {Q : VK} (h : WE X e σ H fun v H1 => ∃ d u, H1 d = some u ∧ Mut (some u) ∧ ∀ od, Q v (upd H1 d (.frz od u))) : WE X e σ H Q := fun pins s I =>
  thn (h pins s I) fun v s1 ⟨x, H1, I1, r, d, u, hd, mu, q⟩ => by
    obtain ⟨od, I2⟩ := I1.lock hd mu
    exact ⟨x, _, I2, r, q od⟩
theorem WS.lock {X : Cx} {st : Stmt} {σ : L2.St} {H : Hp} {E : Ends} {d : Addr} {u : HO} (hd : H d = some u) (mu : Mut (some u)) (h : ∀ od, WS X st E σ (upd H d (.frz od u))) : WS X st E σ H := fun pins s I => by
  obtain ⟨od, I2⟩ := I.lock hd mu
  exact h od pins s I2
theorem WSs.lock {X : Cx} {ss : List Stmt} {σ : L2.St} {H : Hp} {E : Ends} {d : Addr} {u : HO} (hd : H d = some u) (mu : Mut (some u)) (h : ∀ od, WSs X ss E σ (upd H d (.frz od u))) : WSs X ss E σ H := fun pins s I => by
  obtain ⟨od, I2⟩ := I.lock hd mu
  exact h od pins s I2
end Nx
namespace L2
open PySem PySem.Spec PyProof.Rows
end L2
namespace Nx
open PySem PySem.Spec PyProof.Rows L2
inductive Tree (α : Type) where
  | ret (a : α) | fail | draw (n : Nat) (k : Nat → Tree α)
namespace Tree
variable {α β γ : Type}
def bind : Tree α → (α → Tree β) → Tree β
  | ret a, f => f a
  | fail, _ => fail
  | draw n k, f => draw n fun r => bind (k r) f
def All : Tree α → (α → Prop) → Prop
  | ret a, Q => Q a
  | fail, _ => False
  | draw n k, Q => ∀ r, r < n → All (k r) Q
theorem all_bind {f : α → Tree β} {Q : β → Prop} : ∀ {t : Tree α}, (bind t f).All Q ↔ t.All fun a => (f a).All Q
  | ret a => Iff.rfl
  | fail => Iff.rfl
  | draw n k => ⟨fun h r hr => all_bind.mp (h r hr), fun h r hr => all_bind.mpr (h r hr)⟩
theorem All.imp {Q R : α → Prop} (k : ∀ a, Q a → R a) : ∀ {t : Tree α}, t.All Q → t.All R
  | ret a, h => k a h
  | fail, h => h
  | draw n f, h => fun r hr => All.imp k (h r hr)
theorem bind_assoc (f : α → Tree β) (g : β → Tree γ) (t : Tree α) : bind (bind t f) g = bind t fun a => bind (f a) g := by
  induction t with
  | ret a => rfl
  | fail => rfl
  | draw n k ih => exact congrArg (draw n) (funext ih)
end Tree
def liftO {α : Type} : Option α → Tree α
  | some a => .ret a
  | none => .fail
theorem lift_all {α : Type} {Q : α → Prop} : ∀ {o : Option α}, (liftO o).All Q → ∃ a, o = some a ∧ Q a
  | some a, h => ⟨a, rfl, h⟩
  | none, h => h.elim
section
variable {α β σ : Type}
def mapT (f : α → Tree β) : List α → Tree (List β)
  | [] => .ret []
  | x :: xs => (f x).bind fun y => (mapT f xs).bind fun ys => .ret (y :: ys)
def pickT (f : α → Tree (Option β)) : List α → Tree (List β)
  | [] => .ret []
  | x :: xs => (f x).bind fun o => (pickT f xs).bind fun ys => .ret (match o with | some y => y :: ys | none => ys)
theorem mapT_ret {f : α → Tree β} {g : α → β} : ∀ {xs : List α}, (∀ x ∈ xs, f x = .ret (g x)) → mapT f xs = .ret (xs.map g)
  | [], _ => rfl
  | x :: xs, h => by
    rw [mapT, h x (List.mem_cons_self ..), mapT_ret (g := g) fun y hy => h y (List.mem_cons_of_mem _ hy)]
    rfl
theorem pickT_ret {f : α → Tree (Option β)} {g : α → Option β} : ∀ {xs : List α}, (∀ x ∈ xs, f x = .ret (g x)) → pickT f xs = .ret (xs.filterMap g)
  | [], _ => rfl
  | x :: xs, h => by
    rw [pickT, h x (List.mem_cons_self ..), pickT_ret (g := g) fun y hy => h y (List.mem_cons_of_mem _ hy)]
    show Tree.ret _ = _
    rw [List.filterMap_cons]
    cases g x <;> rfl
theorem mapT_map {γ : Type} (f : β → Tree γ) (g : α → β) : ∀ xs : List α, mapT f (xs.map g) = mapT (fun x => f (g x)) xs
  | [] => rfl
  | x :: xs => by rw [List.map_cons, mapT, mapT, mapT_map f g xs]
theorem pickT_map {γ : Type} (f : β → Tree (Option γ)) (g : α → β) : ∀ xs : List α, pickT f (xs.map g) = pickT (fun x => f (g x)) xs
  | [] => rfl
  | x :: xs => by rw [List.map_cons, pickT, pickT, pickT_map f g xs]
end
def bx (p q t : Int) : List OV := [.im (.int p), .im (.int q), .im (.int t)]
abbrev TD := List (List Int × PyData)
def imD (kvs : TD) : List (List Int × OV) := kvs.map fun p => (p.1, .im p.2)
def dttP (kvs : TD) : ObP := ⟨fun G v => ∃ a o xs, v = .ref a ∧ G a = some (.frz o (.dT (kvV (imD kvs) xs))) ∧ DvA G xs (kvs.map (·.2)),
  fun e ⟨a, o, xs, h1, h2, h3⟩ => ⟨a, o, xs, h1, e _ _ h2 (fun _ z => nomatch z), h3.ez e⟩, fun ⟨a, _, _, h, _⟩ => ⟨a, h⟩⟩
def excO (oe : Obj) (C dx : Addr) : Prop := oe.cls = .ref C ∧ oe.dict = some dx ∧ ∃ vs, oe.data = .fields vs
def exnP (C : Addr) (f : Str) (d : PyData) : ObP := ⟨fun G v => ∃ a oe u dx y, v = .ref a ∧ G a = some (.frz oe u) ∧ excO oe C dx ∧ G dx = some (.xd [(f, y)]) ∧ Dv G y d,
  fun e ⟨a, oe, u, dx, y, h1, h2, h3, h4, h5⟩ => ⟨a, oe, u, dx, y, h1, e _ _ h2 (fun _ z => nomatch z), h3, e _ _ h4 (fun _ z => nomatch z), h5.ez e⟩, fun ⟨a, _, _, _, _, h, _⟩ => ⟨a, h⟩⟩
abbrev Exs := List (Addr × Str × PyData)
def exsP (l : Exs) : ObP := ⟨fun G v => ∃ a vs, v = .ref a ∧ G a = some (.lst vs) ∧ Paired (fun v x => (exnP x.1 x.2.1 x.2.2).p G v) vs l,
  fun e ⟨a, vs, h1, h2, h3⟩ => ⟨a, vs, h1, e _ _ h2 (fun _ z => nomatch z), Paired.mono (fun _ x h => (exnP x.1 x.2.1 x.2.2).mono e h) h3⟩, fun ⟨a, _, h, _⟩ => ⟨a, h⟩⟩
inductive W where
  | d (x : PyData) | own (ds : List PyData) | bx | dic (kvs : List (PyData × PyData)) | odc (kvs : List (List Int × PyData)) | cir (c : Cir) | lc (c : Cir) | dtt (kvs : TD) | exn (C : Addr) (f : Str) (d : PyData) | exs (l : Exs) | ll (ls : List (List PyData))
def thW : W → Option Th
  | .odc kvs => some (.dT (kvs.map fun p => (p.1, .im p.2)))
  | .cir c => some (.cir c)
  | _ => none
abbrev Env := List (Option W)
inductive Out where
  | nx (E : Env) | rt (v : PyData) | bk (E : Env) | ct (E : Env)
structure Bs (b : Addr) (μ μ' : Mu) : Prop where
  old : ∀ a l, a ≠ b → μ a = some l → μ' a = some l
  box : ∀ p q t, μ b = some (bx p q t) → ∃ p' q' t', μ' b = some (bx p' q' t')
  thg : ∀ a t, μ.d a = some t → μ'.d a = some t
  cls : μ'.C = μ.C
theorem Bs.refl (b : Addr) (μ : Mu) : Bs b μ μ := ⟨fun _ _ _ h => h, fun p q t h => ⟨p, q, t, h⟩, fun _ _ h => h, rfl⟩
theorem Bs.trans {b : Addr} {μ μ1 μ2 : Mu} (h : Bs b μ μ1) (k : Bs b μ1 μ2) : Bs b μ μ2 :=
  ⟨fun a l n e => k.old a l n (h.old a l n e), fun p q t e => let ⟨p1, q1, t1, e1⟩ := h.box p q t e; k.box p1 q1 t1 e1, fun a t e => k.thg a t (h.thg a t e), k.cls.trans h.cls⟩
theorem Bs.put {b p : Addr} {μ : Mu} {l : List OV} (h : μ p = none) : Bs b μ (μ.put p l) :=
  ⟨fun a m _ e => (put_ne (ne_own e h)).trans e, fun u q t e => ⟨u, q, t, (put_ne (ne_own e h)).trans e⟩, fun _ _ e => e, rfl⟩
theorem Bs.set {b : Addr} {μ : Mu} {p q t : Int} : Bs b μ (μ.put b (bx p q t)) := ⟨fun a l n e => (put_ne n).trans e, fun _ _ _ _ => ⟨p, q, t, put_same⟩, fun _ _ e => e, rfl⟩
theorem Bs.sub {b : Addr} {μ μ' μ2 : Mu} (h : Bs b μ μ') (k : ∀ (a : Addr) (l : List OV), μ' a = some l → (μ a).isSome = true ∨ a = b → μ2 a = some l) (kd : ∀ a t, μ'.d a = some t → (μ.d a).isSome = true → μ2.d a = some t) (kC : μ2.C = μ'.C) : Bs b μ μ2 :=
  ⟨fun a l n e => k a l (h.old a l n e) (.inl (by rw [e]; rfl)), fun p q t e => let ⟨p', q', t', e'⟩ := h.box p q t e; ⟨p', q', t', k b _ e' (.inr rfl)⟩, fun a t e => kd a t (h.thg a t e) (by rw [e]; rfl), kC.trans h.cls⟩
def LlAt (b : Addr) (μ0 : Mu) (p : Addr) (ls : List (List PyData)) : Prop := ∃ ps : List Addr, p ≠ b ∧ μ0 p = some (ps.map .own) ∧ (p :: ps).Nodup ∧ Paired (fun q ds => q ≠ b ∧ μ0 q = some (ds.map .im)) ps ls
def RW (b : Addr) (μ0 μ : Mu) : W → OV → Prop
  | .d x, o => o = .im x
  | .bx, o => o = .own b
  | .own ds, o => ∃ p, o = .own p ∧ p ≠ b ∧ μ0 p = none ∧ μ p = some (ds.map .im)
  | .dic kvs, o => o = .dic kvs
  | .odc kvs, o => ∃ p, o = .own p ∧ μ0.d p = none ∧ μ.d p = some (.dT (kvs.map fun p => (p.1, .im p.2)))
  | .cir c, o => ∃ p, o = .own p ∧ μ0.d p = none ∧ μ.d p = some (.cir c)
  | .lc c, o => ∃ p, o = .own p ∧ μ0.d p = some (.cir c)
  | .dtt kvs, o => o = .ob (dttP kvs)
  | .exn C f d, o => o = .ob (exnP C f d)
  | .exs l, o => o = .ob (exsP l)
  | .ll ls, o => ∃ p, o = .own p ∧ LlAt b μ0 p ls
def perW : W → Option OV
  | .dic kvs => some (.dic kvs)
  | .dtt kvs => some (.ob (dttP kvs))
  | .exn C f d => some (.ob (exnP C f d))
  | .exs l => some (.ob (exsP l))
  | _ => none
theorem RW.th {b : Addr} {μ0 μ : Mu} {w : W} {t : Th} (h : thW w = some t) {o : OV} : RW b μ0 μ w o ↔ ∃ p, o = .own p ∧ μ0.d p = none ∧ μ.d p = some t := by
  cases w <;> cases h <;> exact Iff.rfl
theorem RW.per {b : Addr} {μ0 μ : Mu} {w : W} {o o' : OV} (h : perW w = some o) : RW b μ0 μ w o' ↔ o' = o := by
  cases w <;> cases h <;> exact Iff.rfl
theorem perW_th {w : W} {o : OV} (h : perW w = some o) : thW w = none := by
  cases w <;> cases h <;> rfl
def InjT (E : Env) (ρ : Rho) : Prop := ∀ (i j : Nat) w w' p, E[i]? = some (some w) → E[j]? = some (some w') → (thW w).isSome = true → (thW w').isSome = true → ρ[i]? = some (some (.own p)) → ρ[j]? = some (some (.own p)) → i = j
structure Rel (b : Addr) (μ0 : Mu) (E : Env) (ρ : Rho) (μ : Mu) : Prop where
  len : ρ.length = E.length
  bxs : ∃ p q t, μ b = some (bx p q t)
  bx0 : ∃ p q t, μ0 b = some (bx p q t)
  ext : Bs b μ0 μ
  get : ∀ (i : Nat) w, E[i]? = some (some w) → ∃ o, ρ[i]? = some (some o) ∧ RW b μ0 μ w o
  inj : ∀ (i j : Nat) ds es p, E[i]? = some (some (.own ds)) → E[j]? = some (some (.own es)) → ρ[i]? = some (some (.own p)) → ρ[j]? = some (some (.own p)) → i = j
  injT : InjT E ρ
section
variable {b : Addr} {μ0 μ μ' : Mu} {E : Env} {ρ : Rho}
theorem RW.upto {w : W} {o : OV} (h : RW b μ0 μ w o) (kl : ∀ ds p, w = .own ds → o = .own p → p ≠ b → μ0 p = none → μ p = some (ds.map .im) → μ' p = some (ds.map .im)) (kd : ∀ p t, thW w = some t → o = .own p → μ0.d p = none → μ.d p = some t → μ'.d p = some t) : RW b μ0 μ' w o := by
  cases w with
  | d x => exact h
  | bx => exact h
  | dic kvs => exact h
  | lc c => exact h
  | dtt kvs => exact h
  | exn C f d => exact h
  | exs l => exact h
  | ll ls => exact h
  | own ds =>
    obtain ⟨p, a1, a2, a3, a4⟩ := h
    exact ⟨p, a1, a2, a3, kl ds p rfl a1 a2 a3 a4⟩
  | odc kvs =>
    obtain ⟨p, a1, a2, a3⟩ := h
    exact ⟨p, a1, a2, kd p _ rfl a1 a2 a3⟩
  | cir c =>
    obtain ⟨p, a1, a2, a3⟩ := h
    exact ⟨p, a1, a2, kd p _ rfl a1 a2 a3⟩
theorem get_set {α : Type} {l : List (Option α)} {i j : Nat} {x y : α} (h : (l.set i (some x))[j]? = some (some y)) : (i = j ∧ x = y ∧ i < l.length) ∨ (i ≠ j ∧ l[j]? = some (some y)) := by
  by_cases e : i = j
  · subst e
    by_cases hl : i < l.length
    · rw [List.getElem?_set_self hl] at h
      cases h
      exact .inl ⟨rfl, rfl, hl⟩
    · rw [List.getElem?_eq_none (by rw [List.length_set]; omega)] at h
      cases h
  · rw [List.getElem?_set_ne e] at h
    exact .inr ⟨e, h⟩
theorem get_setN {α : Type} {l : List (Option α)} {v j : Nat} {w : α} (e : (l.set v none)[j]? = some (some w)) : v ≠ j ∧ l[j]? = some (some w) := by
  by_cases h : v = j
  · subst h
    by_cases hl : v < l.length
    · rw [List.getElem?_set_self hl] at e
      cases e
    · rw [List.getElem?_eq_none (by rw [List.length_set]; omega)] at e
      cases e
  · rw [List.getElem?_set_ne h] at e
    exact ⟨h, e⟩
theorem InjT.setN (h : InjT E ρ) {i : Nat} {w : W} {o : Option OV} (hw : thW w = none) : InjT (E.set i (some w)) (ρ.set i o) := fun j k u v p e1 e2 t1 t2 h1 h2 => by
  rcases get_set e1 with ⟨_, rfl, _⟩ | ⟨n1, e1⟩
  · rw [hw] at t1
    cases t1
  rcases get_set e2 with ⟨_, rfl, _⟩ | ⟨n2, e2⟩
  · rw [hw] at t2
    cases t2
  rw [List.getElem?_set_ne n1] at h1
  rw [List.getElem?_set_ne n2] at h2
  exact h j k u v p e1 e2 t1 t2 h1 h2
theorem InjT.none (h : InjT E ρ) {i : Nat} {o : Option OV} : InjT (E.set i .none) (ρ.set i o) := fun j k u v p e1 e2 t1 t2 h1 h2 => by
  obtain ⟨n1, e1⟩ := get_setN e1
  obtain ⟨n2, e2⟩ := get_setN e2
  rw [List.getElem?_set_ne n1] at h1
  rw [List.getElem?_set_ne n2] at h2
  exact h j k u v p e1 e2 t1 t2 h1 h2
theorem InjT.chg (h : InjT E ρ) {i : Nat} {w w0 : W} (h0 : E[i]? = some (some w0)) (hw : (thW w).isSome = true → (thW w0).isSome = true) : InjT (E.set i (some w)) ρ := fun j k u v p e1 e2 t1 t2 h1 h2 => by
  have key : ∀ (j : Nat) u, (E.set i (some w))[j]? = some (some u) → (thW u).isSome = true → ∃ u', E[j]? = some (some u') ∧ (thW u').isSome = true := fun j u e t => by
    rcases get_set e with ⟨rfl, rfl, _⟩ | ⟨_, e⟩
    · exact ⟨w0, h0, hw t⟩
    · exact ⟨u, e, t⟩
  obtain ⟨u', f1, t1⟩ := key j u e1 t1
  obtain ⟨v', f2, t2⟩ := key k v e2 t2
  exact h j k u' v' p f1 f2 t1 t2 h1 h2
theorem InjT.new (h : InjT E ρ) (hl : ρ.length = E.length) {i : Nat} {w : W} {p : Addr} (no : ∀ (j : Nat) u, E[j]? = some (some u) → (thW u).isSome = true → ρ[j]? ≠ some (some (.own p))) : InjT (E.set i (some w)) (ρ.set i (some (.own p))) := fun j k u v q e1 e2 t1 t2 h1 h2 => by
  rcases get_set e1 with ⟨rfl, _, l1⟩ | ⟨n1, e1⟩
  · rcases get_set e2 with ⟨rfl, _, _⟩ | ⟨n2, e2⟩
    · rfl
    · rw [List.getElem?_set_self (by rw [hl]; exact l1)] at h1
      cases h1
      rw [List.getElem?_set_ne n2] at h2
      exact absurd h2 (no k v e2 t2)
  · rw [List.getElem?_set_ne n1] at h1
    rcases get_set e2 with ⟨rfl, _, l2⟩ | ⟨n2, e2⟩
    · rw [List.getElem?_set_self (by rw [hl]; exact l2)] at h2
      cases h2
      exact absurd h1 (no j u e1 t1)
    · rw [List.getElem?_set_ne n2] at h2
      exact h j k u v q e1 e2 t1 t2 h1 h2
theorem Rel.step (R : Rel b μ0 E ρ μ) (s : Bs b μ μ') : Rel b μ0 E ρ μ' := by
  obtain ⟨p, q, t, hb⟩ := R.bxs
  refine ⟨R.len, s.box p q t hb, R.bx0, R.ext.trans s, fun i w e => ?_, R.inj, R.injT⟩
  obtain ⟨o, h1, h2⟩ := R.get i w e
  exact ⟨o, h1, h2.upto (fun ds p _ _ nb _ e => s.old _ _ nb e) fun p t _ _ _ e => s.thg _ _ e⟩
theorem Rel.setP (R : Rel b μ0 E ρ μ) (i : Nat) {w : W} {o : OV} (hw : thW w = none) (hn : ∀ ds, w ≠ .own ds) (r : RW b μ0 μ w o) : Rel b μ0 (E.set i (some w)) (ρ.set i (some o)) μ := by
  refine ⟨by rw [List.length_set, List.length_set, R.len], R.bxs, R.bx0, R.ext, fun j w' e => ?_, fun j k ds es p e1 e2 h1 h2 => ?_, R.injT.setN hw⟩
  · rcases get_set e with ⟨rfl, rfl, hl⟩ | ⟨n, e⟩
    · exact ⟨_, List.getElem?_set_self (by rw [R.len]; exact hl), r⟩
    · obtain ⟨o, a1, a2⟩ := R.get j w' e
      exact ⟨o, by rw [List.getElem?_set_ne n]; exact a1, a2⟩
  · rcases get_set e1 with ⟨_, h, _⟩ | ⟨n1, e1⟩
    · exact absurd h (hn _)
    rcases get_set e2 with ⟨_, h, _⟩ | ⟨n2, e2⟩
    · exact absurd h (hn _)
    rw [List.getElem?_set_ne n1] at h1
    rw [List.getElem?_set_ne n2] at h2
    exact R.inj j k ds es p e1 e2 h1 h2
theorem Rel.setD (R : Rel b μ0 E ρ μ) (i : Nat) (x : PyData) : Rel b μ0 (E.set i (some (.d x))) (ρ.set i (some (.im x))) μ := R.setP i rfl (fun _ h => nomatch h) rfl
theorem Rel.setO (R : Rel b μ0 E ρ μ) (i : Nat) {p : Addr} {ds : List PyData} (hp : μ p = none) : Rel b μ0 (E.set i (some (.own ds))) (ρ.set i (some (.own p))) (μ.put p (ds.map .im)) := by
  obtain ⟨u, q, t, hb⟩ := R.bxs
  have nb : p ≠ b := fun e => by rw [e, hb] at hp; cases hp
  have h0 : μ0 p = none := by
    cases z : μ0 p with
    | none => rfl
    | some l =>
      rw [R.ext.old p l nb z] at hp
      cases hp
  have R' := R.step (Bs.put (b := b) (l := ds.map .im) hp)
  refine ⟨by rw [List.length_set, List.length_set, R.len], R'.bxs, R.bx0, R'.ext, fun j w e => ?_, fun j k xs es u e1 e2 h1 h2 => ?_, R.injT.setN rfl⟩
  · rcases get_set e with ⟨rfl, rfl, hl⟩ | ⟨n, e⟩
    · exact ⟨_, List.getElem?_set_self (by rw [R.len]; exact hl), p, rfl, nb, h0, put_same⟩
    · obtain ⟨o, a1, a2⟩ := R'.get j w e
      exact ⟨o, by rw [List.getElem?_set_ne n]; exact a1, a2⟩
  · have other : ∀ (j : Nat) xs, E[j]? = some (some (.own xs)) → ρ[j]? ≠ some (some (.own p)) := fun j xs e h => by
      obtain ⟨o, a1, u', a2, _, _, a3⟩ := R.get j _ e
      rw [a1, a2] at h
      cases h
      rw [a3] at hp
      cases hp
    rcases get_set e1 with ⟨hj, _, hl⟩ | ⟨n1, e1⟩
    · rcases get_set e2 with ⟨hk, _, _⟩ | ⟨n2, e2⟩
      · exact hj.symm.trans hk
      · rw [← hj, List.getElem?_set_self (by rw [R.len]; exact hl)] at h1
        cases h1
        rw [List.getElem?_set_ne n2] at h2
        exact absurd h2 (other k es e2)
    · rw [List.getElem?_set_ne n1] at h1
      rcases get_set e2 with ⟨hk, _, hl⟩ | ⟨n2, e2⟩
      · rw [← hk, List.getElem?_set_self (by rw [R.len]; exact hl)] at h2
        cases h2
        exact absurd h1 (other j xs e1)
      · rw [List.getElem?_set_ne n2] at h2
        exact R.inj j k xs es u e1 e2 h1 h2
theorem Rel.chg (R : Rel b μ0 E ρ μ) {i : Nat} {p : Addr} {ds es : List PyData} (hi : E[i]? = some (some (.own ds))) (hp : ρ[i]? = some (some (.own p))) : Rel b μ0 (E.set i (some (.own es))) ρ (μ.put p (es.map .im)) := by
  obtain ⟨o, a1, p', a2, nb, h0, hμ⟩ := R.get i _ hi
  rw [hp] at a1
  cases a1
  cases a2
  obtain ⟨u, q, t, hb⟩ := R.bxs
  refine ⟨by rw [List.length_set, R.len], ⟨u, q, t, (put_ne fun e => nb e.symm).trans hb⟩, R.bx0, ⟨fun a l n e => ?_, fun u q t e => ?_, R.ext.thg, R.ext.cls⟩, fun j w e => ?_, fun j k xs ys u e1 e2 h1 h2 => ?_, R.injT.chg hi fun h => nomatch h⟩
  · rw [put_ne (fun z => by rw [z, h0] at e; cases e)]
    exact R.ext.old a l n e
  · obtain ⟨u', q', t', e'⟩ := R.ext.box u q t e
    exact ⟨u', q', t', (put_ne fun e => nb e.symm).trans e'⟩
  · rcases get_set e with ⟨rfl, rfl, hl⟩ | ⟨n, e⟩
    · exact ⟨_, hp, p, rfl, nb, h0, put_same⟩
    · obtain ⟨o, a1, a2⟩ := R.get j w e
      refine ⟨o, a1, a2.upto (fun xs u hw c1 _ _ c4 => ?_) fun _ _ _ _ _ e => e⟩
      subst hw
      rw [put_ne]
      · exact c4
      · intro z
        rw [c1, z] at a1
        exact n (R.inj i j ds xs p hi e hp a1)
  · have back : ∀ (j : Nat) xs, (E.set i (some (.own es)))[j]? = some (some (.own xs)) → ∃ ys, E[j]? = some (some (.own ys)) := fun j xs e => by
      rcases get_set e with ⟨rfl, _, _⟩ | ⟨n, e⟩
      · exact ⟨ds, hi⟩
      · exact ⟨xs, e⟩
    obtain ⟨xs', f1⟩ := back j xs e1
    obtain ⟨ys', f2⟩ := back k ys e2
    exact R.inj j k xs' ys' u f1 f2 h1 h2
theorem Rel.frz (R : Rel b μ0 E ρ μ) {i : Nat} {p : Addr} {ds : List PyData} (hi : E[i]? = some (some (.own ds))) (hp : ρ[i]? = some (some (.own p))) : Rel b μ0 (E.set i (some (.d (.list ds)))) (ρ.set i (some (.im (.list ds)))) (μ.del p) := by
  obtain ⟨o, a1, p', a2, nb, h0, hμ⟩ := R.get i _ hi
  rw [hp] at a1
  cases a1
  cases a2
  have dl : ∀ a, a ≠ p → μ.del p a = μ a := fun a n => if_neg n
  obtain ⟨u, q, t, hb⟩ := R.bxs
  refine ⟨by rw [List.length_set, List.length_set, R.len], ⟨u, q, t, (dl b fun e => nb e.symm).trans hb⟩, R.bx0, ⟨fun a l n e => ?_, fun u q t e => ?_, R.ext.thg, R.ext.cls⟩, fun j w e => ?_, fun j k xs ys u e1 e2 h1 h2 => ?_, R.injT.setN rfl⟩
  · rw [dl a (fun z => by rw [z, h0] at e; cases e)]
    exact R.ext.old a l n e
  · obtain ⟨u', q', t', e'⟩ := R.ext.box u q t e
    exact ⟨u', q', t', (dl b fun e => nb e.symm).trans e'⟩
  · rcases get_set e with ⟨rfl, rfl, hl⟩ | ⟨n, e⟩
    · exact ⟨_, List.getElem?_set_self (by rw [R.len]; exact hl), rfl⟩
    · obtain ⟨o, a1, a2⟩ := R.get j w e
      refine ⟨o, by rw [List.getElem?_set_ne n]; exact a1, a2.upto (fun xs u hw c1 _ _ c4 => ?_) fun _ _ _ _ _ e => e⟩
      subst hw
      rw [dl]
      · exact c4
      · intro z
        rw [c1, z] at a1
        exact n (R.inj i j ds xs p hi e hp a1)
  · rcases get_set e1 with ⟨_, h, _⟩ | ⟨n1, e1⟩
    · cases h
    rcases get_set e2 with ⟨_, h, _⟩ | ⟨n2, e2⟩
    · cases h
    rw [List.getElem?_set_ne n1] at h1
    rw [List.getElem?_set_ne n2] at h2
    exact R.inj j k xs ys u e1 e2 h1 h2
theorem Rel.setT (R : Rel b μ0 E ρ μ) (i : Nat) {p : Addr} {w : W} {t : Th} (hw : thW w = some t) (hp : μ.d p = none) : Rel b μ0 (E.set i (some w)) (ρ.set i (some (.own p))) (μ.putD p t) := by
  have h0 : μ0.d p = none := by
    cases z : μ0.d p with
    | none => rfl
    | some l =>
      rw [R.ext.thg p l z] at hp
      cases hp
  have no : ∀ (j : Nat) u, E[j]? = some (some u) → (thW u).isSome = true → ρ[j]? ≠ some (some (.own p)) := fun j u e t h => by
    obtain ⟨o, a1, a2⟩ := R.get j u e
    obtain ⟨t', ht⟩ := Option.isSome_iff_exists.mp t
    obtain ⟨q, rfl, c1, c2⟩ := (RW.th ht).mp a2
    rw [a1] at h
    cases h
    rw [c2] at hp
    cases hp
  have kd : ∀ a t', μ.d a = some t' → (μ.putD p t).d a = some t' := fun a t' e => (putD_ne fun z => by rw [z, hp] at e; cases e).trans e
  refine ⟨by rw [List.length_set, List.length_set, R.len], R.bxs, R.bx0, ⟨R.ext.old, R.ext.box, fun a t' e => kd a t' (R.ext.thg a t' e), R.ext.cls⟩, fun j w' e => ?_, fun j k ds es q e1 e2 h1 h2 => ?_, R.injT.new R.len no⟩
  · rcases get_set e with ⟨rfl, rfl, hl⟩ | ⟨n, e⟩
    · exact ⟨_, List.getElem?_set_self (by rw [R.len]; exact hl), (RW.th hw).mpr ⟨p, rfl, h0, putD_same⟩⟩
    · obtain ⟨o, a1, a2⟩ := R.get j w' e
      exact ⟨o, by rw [List.getElem?_set_ne n]; exact a1, a2.upto (fun _ _ _ _ _ _ h => h) fun q t' _ _ _ h => kd q t' h⟩
  · rcases get_set e1 with ⟨_, h, _⟩ | ⟨n1, e1⟩
    · rw [h] at hw
      cases hw
    rcases get_set e2 with ⟨_, h, _⟩ | ⟨n2, e2⟩
    · rw [h] at hw
      cases hw
    rw [List.getElem?_set_ne n1] at h1
    rw [List.getElem?_set_ne n2] at h2
    exact R.inj j k ds es q e1 e2 h1 h2
theorem Rel.chgT (R : Rel b μ0 E ρ μ) {i : Nat} {p : Addr} {w0 w : W} {t0 t : Th} (hi : E[i]? = some (some w0)) (hp : ρ[i]? = some (some (.own p))) (h0 : thW w0 = some t0) (hw : thW w = some t) : Rel b μ0 (E.set i (some w)) ρ (μ.putD p t) := by
  obtain ⟨o, a1, a2⟩ := R.get i _ hi
  obtain ⟨p', rfl, c1, c2⟩ := (RW.th h0).mp a2
  rw [hp] at a1
  cases a1
  refine ⟨by rw [List.length_set, R.len], R.bxs, R.bx0, ⟨R.ext.old, R.ext.box, fun a t' e => (putD_ne fun z => by rw [z, c1] at e; cases e).trans (R.ext.thg a t' e), R.ext.cls⟩, fun j w' e => ?_, fun j k xs ys u e1 e2 h1 h2 => ?_, R.injT.chg hi fun _ => by rw [h0]; rfl⟩
  · rcases get_set e with ⟨rfl, rfl, hl⟩ | ⟨n, e⟩
    · exact ⟨_, hp, (RW.th hw).mpr ⟨_, rfl, c1, putD_same⟩⟩
    · obtain ⟨o, b1, b2⟩ := R.get j w' e
      refine ⟨o, b1, b2.upto (fun _ _ _ _ _ _ h => h) fun q t' ht ho _ h => (putD_ne fun z => ?_).trans h⟩
      rw [ho, z] at b1
      exact n (R.injT i j w0 w' _ hi e (by rw [h0]; rfl) (by rw [ht]; rfl) hp b1)
  · rcases get_set e1 with ⟨_, h, _⟩ | ⟨n1, e1⟩
    · rw [h] at hw
      cases hw
    rcases get_set e2 with ⟨_, h, _⟩ | ⟨n2, e2⟩
    · rw [h] at hw
      cases hw
    exact R.inj j k xs ys u e1 e2 h1 h2
theorem Rel.delT (R : Rel b μ0 E ρ μ) {i : Nat} {p : Addr} {w0 w : W} {o : OV} {t0 : Th} (hi : E[i]? = some (some w0)) (hp : ρ[i]? = some (some (.own p))) (h0 : thW w0 = some t0) (hw : thW w = none) (hn : ∀ ds, w ≠ .own ds) (r : RW b μ0 (μ.delD p) w o) : Rel b μ0 (E.set i (some w)) (ρ.set i (some o)) (μ.delD p) := by
  obtain ⟨o', a1, a2⟩ := R.get i _ hi
  obtain ⟨p', rfl, c1, c2⟩ := (RW.th h0).mp a2
  rw [hp] at a1
  cases a1
  have dl : ∀ a, a ≠ p → (μ.delD p).d a = μ.d a := fun a n => if_neg n
  refine ⟨by rw [List.length_set, List.length_set, R.len], R.bxs, R.bx0, ⟨R.ext.old, R.ext.box, fun a t' e => (dl a fun z => by rw [z, c1] at e; cases e).trans (R.ext.thg a t' e), R.ext.cls⟩, fun j w' e => ?_, fun j k xs ys u e1 e2 h1 h2 => ?_, R.injT.setN hw⟩
  · rcases get_set e with ⟨rfl, rfl, hl⟩ | ⟨n, e⟩
    · exact ⟨_, List.getElem?_set_self (by rw [R.len]; exact hl), r⟩
    · obtain ⟨o, b1, b2⟩ := R.get j w' e
      refine ⟨o, by rw [List.getElem?_set_ne n]; exact b1, b2.upto (fun _ _ _ _ _ _ h => h) fun q t' ht ho _ h => (dl q fun z => ?_).trans h⟩
      rw [ho, z] at b1
      exact n (R.injT i j w0 w' _ hi e (by rw [h0]; rfl) (by rw [ht]; rfl) hp b1)
  · rcases get_set e1 with ⟨_, h, _⟩ | ⟨n1, e1⟩
    · exact absurd h (hn _)
    rcases get_set e2 with ⟨_, h, _⟩ | ⟨n2, e2⟩
    · exact absurd h (hn _)
    rw [List.getElem?_set_ne n1] at h1
    rw [List.getElem?_set_ne n2] at h2
    exact R.inj j k xs ys u e1 e2 h1 h2
theorem Bs.putD {p : Addr} {t : Th} (h : μ.d p = none) : Bs b μ (μ.putD p t) := ⟨fun _ _ _ e => e, fun p q t e => ⟨p, q, t, e⟩, fun a t' e => (putD_ne fun z => by rw [z, h] at e; cases e).trans e, rfl⟩
def NoTh (E : Env) (ρ : Rho) (d : Addr) : Prop := ∀ (j : Nat) w, E[j]? = some (some w) → (thW w).isSome = true → ρ[j]? ≠ some (some (.own d))
theorem NoTh.setN {d : Addr} (h : NoTh E ρ d) {i : Nat} {w : W} {o : Option OV} (hw : thW w = none) : NoTh (E.set i (some w)) (ρ.set i o) d := fun j u e t => by
  rcases get_set e with ⟨_, rfl, _⟩ | ⟨n, e⟩
  · rw [hw] at t
    cases t
  · rw [List.getElem?_set_ne n]
    exact h j u e t
theorem Rel.putD (R : Rel b μ0 E ρ μ) {d : Addr} {t : Th} (h0 : μ0.d d = none) (no : NoTh E ρ d) : Rel b μ0 E ρ (μ.putD d t) := by
  refine ⟨R.len, R.bxs, R.bx0, ⟨R.ext.old, R.ext.box, fun a t' e => (putD_ne fun z => by rw [z, h0] at e; cases e).trans (R.ext.thg a t' e), R.ext.cls⟩, fun j w e => ?_, R.inj, R.injT⟩
  obtain ⟨o, a1, a2⟩ := R.get j w e
  refine ⟨o, a1, a2.upto (fun _ _ _ _ _ _ h => h) fun p t' ht ho _ h => (putD_ne fun z => ?_).trans h⟩
  rw [ho, z] at a1
  exact no j w e (by rw [ht]; rfl) a1
def wipeE (E : Env) (vs : List Nat) : Env := vs.foldr (fun v r => r.set v none) E
theorem Rel.wipeO (R : Rel b μ0 E ρ μ) (v : Nat) (o : Option OV) : Rel b μ0 (E.set v none) (ρ.set v o) μ := by
  refine ⟨by rw [List.length_set, List.length_set, R.len], R.bxs, R.bx0, R.ext, fun j w e => ?_, fun j k xs ys u e1 e2 h1 h2 => ?_, R.injT.none⟩
  · obtain ⟨n, e⟩ := get_setN e
    obtain ⟨o, a1, a2⟩ := R.get j w e
    exact ⟨o, by rw [List.getElem?_set_ne n]; exact a1, a2⟩
  · obtain ⟨n1, e1⟩ := get_setN e1
    obtain ⟨n2, e2⟩ := get_setN e2
    rw [List.getElem?_set_ne n1] at h1
    rw [List.getElem?_set_ne n2] at h2
    exact R.inj j k xs ys u e1 e2 h1 h2
theorem Rel.wipe (R : Rel b μ0 E ρ μ) (v : Nat) : Rel b μ0 (E.set v none) (ρ.set v none) μ := R.wipeO v none
theorem Rel.wipes (R : Rel b μ0 E ρ μ) : ∀ vs : List Nat, Rel b μ0 (wipeE E vs) (wipeR ρ vs) μ
  | [] => R
  | v :: vs => (R.wipes vs).wipe v
def putsE (E : Env) : List Nat → List PyData → Env
  | i :: is, x :: xs => putsE (E.set i (some (.d x))) is xs
  | _, _ => E
def putE : Tgt → PyData → Env → Option Env
  | .nm i, x, E => some (E.set i (some (.d x)))
  | .tp is, .tuple xs, E => if xs.length = is.length then some (putsE E is xs) else none
  | .tp _, _, _ => none
theorem Rel.puts : ∀ (is : List Nat) (xs : List PyData) {E : Env} {ρ : Rho}, Rel b μ0 E ρ μ → Rel b μ0 (putsE E is xs) (setAll ρ is xs) μ
  | [], _, _, _, R => R
  | _ :: _, [], _, _, R => R
  | i :: is, x :: xs, _, _, R => Rel.puts is xs (R.setD i x)
theorem Rel.putT (R : Rel b μ0 E ρ μ) {t : Tgt} {x : PyData} {E' : Env} (h : putE t x E = some E') : ∃ ρ', t.put (.im x) ρ = some ρ' ∧ Rel b μ0 E' ρ' μ := by
  cases t with
  | nm i =>
    cases h
    exact ⟨_, rfl, R.setD i x⟩
  | tp is =>
    cases x with
    | tuple xs =>
      simp only [putE] at h
      split at h
      · rename_i hl
        cases h
        exact ⟨_, if_pos hl, R.puts is xs⟩
      · cases h
    | _ => cases h
end
end Nx
namespace Nx
open PySem PySem.Spec PyProof.Rows L2
abbrev DenE := Env → Tree PyData
abbrev DenB := Env → Tree Bool
abbrev DenL := Env → Tree (List PyData)
abbrev DenS := Env → Tree Out
def wo (b : Addr) : W → OV
  | .d x => .im x
  | .bx => .own b
  | .dic kvs => .dic kvs
  | .own _ => .im .none
  | .odc _ => .im .none
  | .cir _ => .im .none
  | .lc _ => .im .none
  | .dtt kvs => .ob (dttP kvs)
  | .exn C f d => .ob (exnP C f d)
  | .exs l => .ob (exsP l)
  | .ll _ => .im .none
structure SE (b : Addr) (X : Cx) (e : Expr) (f : DenE) : Prop where
  run : ∀ μ0 E ρ μ Φ, Rel b μ0 E ρ μ → (f E).All (fun d => ∀ μ', Bs b μ μ' → Φ (.im d) μ') → DE X e ρ μ Φ
structure ST (b : Addr) (X : Cx) (e : Expr) (f : DenB) : Prop where
  run : ∀ μ0 E ρ μ Φ, Rel b μ0 E ρ μ → (f E).All (fun d => ∀ μ', Bs b μ μ' → Φ d μ') → DT X e ρ μ Φ
structure SW (b : Addr) (X : Cx) (e : Expr) (f : DenB) : Prop where
  run : ∀ μ0 E ρ μ Φ, Rel b μ0 E ρ μ → (f E).All (fun d => ∀ μ', Bs b μ μ' → Φ d μ') → DW X e ρ μ Φ
structure SD (b : Addr) (X : Cx) (es : List Expr) (f : DenL) : Prop where
  run : ∀ μ0 E ρ μ Λ, Rel b μ0 E ρ μ → (f E).All (fun ds => ∀ μ', Bs b μ μ' → Λ (ds.map .im) μ') → DA X es ρ μ Λ
structure SA (b : Addr) (X : Cx) (es : List Expr) (f : Env → Tree (List W)) : Prop where
  run : ∀ μ0 E ρ μ Λ, Rel b μ0 E ρ μ → (f E).All (fun ws => ∀ μ', Bs b μ μ' → Λ (ws.map (wo b)) μ') → DA X es ρ μ Λ
structure SK (b : Addr) (X : Cx) (ks : List Keyword) (f : Env → Tree (List W)) : Prop where
  run : ∀ μ0 E ρ μ Λ, Rel b μ0 E ρ μ → (f E).All (fun ws => ∀ μ', Bs b μ μ' → Λ (ws.map (wo b)) μ') → DK X ks ρ μ Λ
structure SI (b : Addr) (X : Cx) (tg e : Expr) (f : DenL) : Prop where
  run : ∀ μ0 E ρ μ Ψ, Rel b μ0 E ρ μ → (f E).All (fun ds => ∀ μ', Bs b μ μ' → Ψ ⟨ds.map .im, fun _ => True⟩ μ') → DI X tg e ρ μ Ψ
def OutOk (b : Addr) (μ0 : Mu) (D : DEnds) : Out → Prop
  | .nx E => ∀ ρ μ, Rel b μ0 E ρ μ → D.nx ρ μ
  | .bk E => ∀ ρ μ, Rel b μ0 E ρ μ → D.bk ρ μ
  | .ct E => ∀ ρ μ, Rel b μ0 E ρ μ → D.ct ρ μ
  | .rt v => ∀ μ, Bs b μ0 μ → D.rt (.im v) μ
structure SS (b : Addr) (X : Cx) (s : Stmt) (f : DenS) : Prop where
  run : ∀ μ0 E ρ μ D, Rel b μ0 E ρ μ → (f E).All (OutOk b μ0 D) → DS X s ρ μ D
structure SSs (b : Addr) (X : Cx) (ss : List Stmt) (f : DenS) : Prop where
  run : ∀ μ0 E ρ μ D, Rel b μ0 E ρ μ → (f E).All (OutOk b μ0 D) → DSs X ss ρ μ D
def dV (i : Nat) : DenE := fun E => match E[i]? with | some (some (.d x)) => .ret x | _ => .fail
def dC (x : PyData) : DenE := fun _ => .ret x
def d1 (g : PyData → Option PyData) (f : DenE) : DenE := fun E => (f E).bind fun x => liftO (g x)
def d2 (g : PyData → PyData → Option PyData) (f h : DenE) : DenE := fun E => (f E).bind fun x => (h E).bind fun y => liftO (g x y)
def t2 (g : PyData → PyData → Option Bool) (f h : DenE) : DenB := fun E => (f E).bind fun x => (h E).bind fun y => liftO (g x y)
def l0 : DenL := fun _ => .ret []
def lC (f : DenE) (fs : DenL) : DenL := fun E => (f E).bind fun x => (fs E).bind fun xs => .ret (x :: xs)
def small (n : Nat) : Option Unit := if n ≤ 100000 then some () else none
def dL (fs : DenL) : DenE := fun E => (fs E).bind fun xs => (liftO (small xs.length)).bind fun _ => .ret (.list xs)
def dT (fs : DenL) : DenE := fun E => (fs E).bind fun xs => (liftO (small xs.length)).bind fun _ => .ret (.tuple xs)
def aV (i : Nat) : Env → Tree W := fun E => match E[i]? with | some (some (.d x)) => .ret (.d x) | some (some .bx) => .ret .bx | some (some (.dic k)) => .ret (.dic k) | some (some (.dtt k)) => .ret (.dtt k) | some (some (.exn C f d)) => .ret (.exn C f d) | some (some (.exs l)) => .ret (.exs l) | _ => .fail
def aE (f : DenE) : Env → Tree W := fun E => (f E).bind fun x => .ret (.d x)
def a0 : Env → Tree (List W) := fun _ => .ret []
def aC (f : Env → Tree W) (fs : Env → Tree (List W)) : Env → Tree (List W) := fun E => (f E).bind fun x => (fs E).bind fun xs => .ret (x :: xs)
def dCall (F : List W → Tree PyData) (fs : Env → Tree (List W)) : DenE := fun E => (fs E).bind F
def dIf (c : DenB) (f g : DenE) : DenE := fun E => (c E).bind fun k => match k with | true => f E | false => g E
def asB : PyData → Option Bool
  | .bool k => some k
  | _ => none
def truth : PyData → Option Bool
  | .none => some false
  | .bool k => some k
  | .int i => some (i != 0)
  | .list xs => some !xs.isEmpty
  | .tuple xs => some !xs.isEmpty
  | _ => none
def tV (f : DenE) : DenB := fun E => (f E).bind fun x => liftO (asB x)
def tTr (f : DenE) : DenB := fun E => (f E).bind fun x => liftO (truth x)
def tNot (f : DenB) : DenB := fun E => (f E).bind fun k => .ret (!k)
def tAnd (f g : DenB) : DenB := fun E => (f E).bind fun k => match k with | true => g E | false => .ret false
def tOr (f g : DenB) : DenB := fun E => (f E).bind fun k => match k with | true => .ret true | false => g E
def dAnd (f g : DenE) : DenE := fun E => (f E).bind fun x => match x with | .bool true => g E | .bool false => .ret (.bool false) | _ => .fail
def dOr (f g : DenE) : DenE := fun E => (f E).bind fun x => match x with | .bool true => .ret (.bool true) | .bool false => g E | _ => .fail
def few (n : Nat) : Option Unit := if n ≤ 50000 then some () else none
def dLc (t : Tgt) (vs : List Nat) (it : DenL) (elt : DenE) : DenE := fun E => (it E).bind fun xs => (liftO (few xs.length)).bind fun _ =>
  (mapT (fun x => (liftO (putE t x (wipeE E vs))).bind elt) xs).bind fun ys => .ret (.list ys)
def dLf (t : Tgt) (vs : List Nat) (it : DenL) (c : DenB) (elt : DenE) : DenE := fun E => (it E).bind fun xs => (liftO (few xs.length)).bind fun _ =>
  (pickT (fun x => (liftO (putE t x (wipeE E vs))).bind fun E' => (c E').bind fun k => match k with | true => (elt E').bind fun y => .ret (some y) | false => .ret none) xs).bind fun ys => .ret (.list ys)
def sSet (i : Nat) (f : DenE) : DenS := fun E => (f E).bind fun x => .ret (.nx (E.set i (some (.d x))))
def sAsg (t : Tgt) (f : DenE) : DenS := fun E => (f E).bind fun x => (liftO (putE t x E)).bind fun E' => .ret (.nx E')
def sPar (is : List Nat) (fs : DenL) : DenS := fun E => (fs E).bind fun xs => .ret (.nx (putsE E is xs))
def sRet (f : DenE) : DenS := fun E => (f E).bind fun x => .ret (.rt x)
def s0 : DenS := fun E => .ret (.nx E)
def sC (s ss : DenS) : DenS := fun E => (s E).bind fun o => match o with | .nx E' => ss E' | o => .ret o
def sIf (c : DenB) (s1 s2 : DenS) : DenS := fun E => (c E).bind fun k => match k with | true => s1 E | false => s2 E
def sX (f : DenE) : DenS := fun E => (f E).bind fun _ => .ret (.nx E)
def forT (t : Tgt) (body : DenS) : List PyData → Env → Tree Out
  | [], E => .ret (.nx E)
  | x :: xs, E => (liftO (putE t x E)).bind fun E' => (body E').bind fun o => match o with
    | .nx E2 => forT t body xs E2
    | .ct E2 => forT t body xs E2
    | .bk E2 => .ret (.nx E2)
    | .rt v => .ret (.rt v)
def sFor (t : Tgt) (it : DenL) (body : DenS) : DenS := fun E => (it E).bind fun xs => forT t body xs E
def sOwn (i : Nat) (f : DenE) : DenS := fun E => (f E).bind fun x => match x with | .list xs => .ret (.nx (E.set i (some (.own xs)))) | _ => .fail
def sApp (i : Nat) (f : DenE) : DenS := fun E => match E[i]? with | some (some (.own l)) => (f E).bind fun y => (liftO (small (l.length + 1))).bind fun _ => .ret (.nx (E.set i (some (.own (l ++ [y]))))) | _ => .fail
def frzE (i : Nat) (E : Env) : Env := match E[i]? with | some (some (.own l)) => E.set i (some (.d (.list l))) | _ => E
def sFrz (i : Nat) (ss : DenS) : DenS := fun E => ss (frzE i E)
def outV : Out → Tree PyData
  | .rt v => .ret v
  | .nx _ => .ret .none
  | _ => .fail
def noOwn : W → Bool
  | .own _ => false
  | .odc _ => false
  | .cir _ => false
  | .lc _ => false
  | .ll _ => false
  | _ => true
section
variable {b : Addr} {X : Cx} {e x y : Expr} {es : List Expr} {f fx fy fz : DenE} {fs : DenL} {pos : Pos}
open Tree
theorem dV_all {i : Nat} {E : Env} {Q : PyData → Prop} (h : (dV i E).All Q) : ∃ d, E[i]? = some (some (.d d)) ∧ Q d := by
  unfold dV at h
  split at h
  · rename_i d hd
    exact ⟨d, hd, h⟩
  · exact h.elim
theorem se_v (i : Nat) {n : Str} (hN : X.N[i]? = some n := by rfl) (hv : Vis X.env.scope n := by first | exact Or.inl rfl | exact Or.inr (Or.inl rfl) | exact Or.inr (Or.inr rfl)) (hd : (n == ("__debug__" : Str)) = false := by decide) (hcd : (n == ("__classdict__" : Str)) = false := by decide) : SE b X (.Name n pos) (dV i) := .mk fun μ0 E ρ μ Φ R h => by
  obtain ⟨d, hd', q⟩ := dV_all h
  obtain ⟨o, h1, h2⟩ := R.get i _ hd'
  cases h2
  exact de_var i hN hv h1 (q μ (Bs.refl b μ)) hd hcd
theorem se_int {i : Int} {j : Nat} : SE b X (.Constant (.int i) j pos) (dC (.int i)) := .mk fun μ0 E ρ μ Φ R h => de_int (h μ (Bs.refl b μ))
theorem se_bl {i : Bool} {j : Nat} : SE b X (.Constant (.bool i) j pos) (dC (.bool i)) := .mk fun μ0 E ρ μ Φ R h => de_bl (h μ (Bs.refl b μ))
theorem se_non {j : Nat} : SE b X (.Constant .none j pos) (dC .none) := .mk fun μ0 E ρ μ Φ R h => de_non (h μ (Bs.refl b μ))
theorem se_str {i : Str} {j : Nat} : SE b X (.Constant (.str i) j pos) (dC (.str i)) := .mk fun μ0 E ρ μ Φ R h => de_str (h μ (Bs.refl b μ))
def G1 (g : PyData → Option PyData) (u : OV) (μ : Mu) (Φ : OV → Mu → Prop) : Prop := ∃ d r, u = .im d ∧ g d = some r ∧ Φ (.im r) μ
theorem se_1 {g : PyData → Option PyData} (hx : SE b X x fx) (hop : ∀ ρ μ Φ, (DE X x ρ μ fun u μ1 => G1 g u μ1 Φ) → DE X e ρ μ Φ) : SE b X e (d1 g fx) := .mk fun μ0 E ρ μ Φ R h =>
  hop ρ μ Φ (hx.run μ0 E ρ μ _ R ((all_bind.mp h).imp fun d q μ1 s1 => let ⟨r, hr, q⟩ := lift_all q; ⟨d, r, rfl, hr, q μ1 s1⟩))
def G2 (g : PyData → PyData → Option PyData) (u v : OV) (μ : Mu) (Φ : OV → Mu → Prop) : Prop := ∃ d d' r, u = .im d ∧ v = .im d' ∧ g d d' = some r ∧ Φ (.im r) μ
theorem se_2 {g : PyData → PyData → Option PyData} (hx : SE b X x fx) (hy : SE b X y fy) (hop : ∀ ρ μ Φ, (DE X x ρ μ fun u μ1 => DE X y ρ μ1 fun v μ2 => G2 g u v μ2 Φ) → DE X e ρ μ Φ) : SE b X e (d2 g fx fy) := .mk fun μ0 E ρ μ Φ R h =>
  hop ρ μ Φ (hx.run μ0 E ρ μ _ R ((all_bind.mp h).imp fun d q μ1 s1 => hy.run μ0 E ρ μ1 _ (R.step s1) ((all_bind.mp q).imp fun d' q μ2 s2 => let ⟨r, hr, q⟩ := lift_all q; ⟨d, d', r, rfl, rfl, hr, q μ2 (s1.trans s2)⟩)))
def OkOp (r : R2) (g : PyData → PyData → Option PyData) : Prop := ∀ d d' v μ Φ, g d d' = some v → Φ (.im v) μ → OpD r (.im d) (.im d') μ Φ
theorem se_op {op : Operator} {r : R2} {g : PyData → PyData → Option PyData} (ho : OpR X (binaryOp op) r) (hk : OkOp r g) (hx : SE b X x fx) (hy : SE b X y fy) : SE b X (.BinOp x op y pos) (d2 g fx fy) :=
  se_2 hx hy fun ρ μ Φ h => de_op ho (h.imp fun u μ1 h1 => h1.imp fun v μ2 ⟨d, d', r, e1, e2, hr, q⟩ => by subst e1 e2; exact hk d d' r μ2 Φ hr q)
def OkCmp (r : R2) (g : PyData → PyData → Option Bool) : Prop := ∀ d d' v μ Φ, g d d' = some v → Φ (.im (.bool v)) μ → OpD r (.im d) (.im d') μ Φ
def bD (g : PyData → PyData → Option Bool) (d d' : PyData) : Option PyData := match g d d' with | some k => some (.bool k) | none => none
theorem bD_some {g : PyData → PyData → Option Bool} {d d' r : PyData} (h : bD g d d' = some r) : ∃ k, g d d' = some k ∧ r = .bool k := by
  unfold bD at h
  split at h
  · cases h
    exact ⟨_, ‹_›, rfl⟩
  · cases h
theorem se_cmp {op : CmpOp} {r : R2} {g : PyData → PyData → Option Bool} (ho : OpR X (compareOp op) r) (hm : behindInMarks op y = false) (hk : OkCmp r g) (hx : SE b X x fx) (hy : SE b X y fy) : SE b X (.Compare x [op] [y] pos) (d2 (bD g) fx fy) :=
  se_2 hx hy fun ρ μ Φ h => de_cmp ho hm (h.imp fun u μ1 h1 => h1.imp fun v μ2 ⟨d, d', r, e1, e2, hr, q⟩ => by
    subst e1 e2
    obtain ⟨k, hk', rfl⟩ := bD_some hr
    exact hk d d' k μ2 Φ hk' q)
theorem st_cmp {op : CmpOp} {r : R2} {g : PyData → PyData → Option Bool} (ho : OpR X (compareOp op) r) (hm : behindInMarks op y = false) (hk : OkCmp r g) (hx : SE b X x fx) (hy : SE b X y fy) : ST b X (.Compare x [op] [y] pos) (t2 g fx fy) := .mk fun μ0 E ρ μ Φ R h =>
  dt_cmp ho hm (hx.run μ0 E ρ μ _ R ((all_bind.mp h).imp fun d q μ1 s1 => hy.run μ0 E ρ μ1 _ (R.step s1) ((all_bind.mp q).imp fun d' q μ2 s2 => let ⟨r, hr, q⟩ := lift_all q; hk d d' r μ2 _ hr ⟨r, rfl, q μ2 (s1.trans s2)⟩)))
theorem dt_tru {ρ : Rho} {μ : Mu} {Φ : Bool → Mu → Prop} (h : DE X x ρ μ fun u μ1 => ∃ d k, u = .im d ∧ truth d = some k ∧ Φ k μ1) (he : ∀ whole, isTrue x X.env whole = (do let v ← whole; standAt x.pos; holding [v] (truthy v)) := by intro _; rfl) : DT X x ρ μ Φ := fun G H σ m v Q f =>
  WT.of (pt_truth pwe he) (h G H σ m v _ fun vx u μ1 G1 H1 q1 e1 m1 r1 => by
    obtain ⟨d, k, rfl, hk, q⟩ := q1
    refine ⟨k, ?_, f _ _ _ _ q e1 m1⟩
    have r1 : Dv G1 vx d := r1
    cases r1 with
    | non => cases hk; rfl
    | bl k => cases hk; rfl
    | int i => cases hk; rfl
    | str x => cases hk
    | lst h1 w =>
      cases hk
      exact .inl ⟨_, .inl (.inl (m1.ex _ _ h1)), by cases w <;> rfl⟩
    | tup h1 w =>
      cases hk
      exact .inr (.inl ⟨_, .inl (.inl (m1.ex _ _ h1)), by cases w <;> rfl⟩))
theorem st_tru (hx : SE b X x fx) (he : ∀ whole, isTrue x X.env whole = (do let v ← whole; standAt x.pos; holding [v] (truthy v)) := by intro _; rfl) : ST b X x (tTr fx) := .mk fun μ0 E ρ μ Φ R h =>
  dt_tru (hx.run μ0 E ρ μ _ R ((all_bind.mp h).imp fun d q μ1 s1 => let ⟨k, hk, q⟩ := lift_all q; ⟨d, k, rfl, hk, q μ1 s1⟩)) he
variable {fb gb : DenB} {rest : List Expr}
theorem st_not (hx : ST b X x fb) : ST b X (.UnaryOp .Not x pos) (tNot fb) := .mk fun μ0 E ρ μ Φ R h => dt_not (hx.run μ0 E ρ μ _ R ((all_bind.mp h).imp fun k q => q))
theorem st_w (h : SW b X e fb) : ST b X e fb := .mk fun μ0 E ρ μ Φ R q => (h.run μ0 E ρ μ Φ R q).dt
theorem sw_or1 (h : ST b X x fb) : SW b X (.BoolOp .Or [x] pos) fb := .mk fun μ0 E ρ μ Φ R q => dw_or1 (h.run μ0 E ρ μ Φ R q)
theorem sw_or (h : ST b X x fb) (k : SW b X (.BoolOp .Or (y :: rest) pos) gb) : SW b X (.BoolOp .Or (x :: y :: rest) pos) (tOr fb gb) := .mk fun μ0 E ρ μ Φ R q =>
  dw_or (h.run μ0 E ρ μ _ R ((all_bind.mp q).imp fun v q μ1 s1 => by
    cases v with
    | true =>
      rw [if_pos rfl]
      exact q μ1 s1
    | false =>
      rw [if_neg (by decide)]
      exact k.run μ0 E ρ μ1 _ (R.step s1) (All.imp (fun v q μ2 s2 => q μ2 (s1.trans s2)) q)))
theorem se_one {op} (h : SE b X x fx) : SE b X (.BoolOp op [x] pos) fx := .mk fun μ0 E ρ μ Φ R q => de_one (h.run μ0 E ρ μ Φ R q)
theorem se_and (h : SE b X x fx) (k : SE b X (.BoolOp .And (y :: rest) pos) fy) : SE b X (.BoolOp .And (x :: y :: rest) pos) (dAnd fx fy) := .mk fun μ0 E ρ μ Φ R q =>
  de_and (h.run μ0 E ρ μ _ R ((all_bind.mp q).imp fun v q μ1 s1 => by
    split at q
    · exact ⟨true, rfl, by rw [if_pos rfl]; exact k.run μ0 E ρ μ1 _ (R.step s1) (All.imp (fun v q μ2 s2 => q μ2 (s1.trans s2)) q)⟩
    · exact ⟨false, rfl, by rw [if_neg (by decide)]; exact q μ1 s1⟩
    · exact q.elim))
def pNot (d : PyData) : Option PyData := match d with | .bool k => some (.bool !k) | _ => none
theorem se_if (hc : ST b X e fb) (hx : SE b X x fx) (hy : SE b X y fy) : SE b X (.IfExp e x y pos) (dIf fb fx fy) := .mk fun μ0 E ρ μ Φ R q =>
  de_ifExp (hc.run μ0 E ρ μ _ R ((all_bind.mp q).imp fun k q μ1 s1 => by
    cases k with
    | true =>
      rw [if_pos rfl]
      exact hx.run μ0 E ρ μ1 _ (R.step s1) (All.imp (fun v q μ2 s2 => q μ2 (s1.trans s2)) q)
    | false =>
      rw [if_neg (by decide)]
      exact hy.run μ0 E ρ μ1 _ (R.step s1) (All.imp (fun v q μ2 s2 => q μ2 (s1.trans s2)) q)))
theorem sd_nil : SD b X [] l0 := .mk fun μ0 E ρ μ Λ R h => da_nil (h μ (Bs.refl b μ))
theorem sd_cons (hx : SE b X x fx) (ht : SD b X es fs) (hs : starEach (x :: es) X.env = (false, eval x X.env) :: starEach es X.env := by rfl) : SD b X (x :: es) (lC fx fs) := .mk fun μ0 E ρ μ Λ R h =>
  da_cons (hx.run μ0 E ρ μ _ R ((all_bind.mp h).imp fun d q μ1 s1 => ht.run μ0 E ρ μ1 _ (R.step s1) ((all_bind.mp q).imp fun ds q μ2 s2 => q μ2 (s1.trans s2)))) hs
theorem small_le {n : Nat} {Q : Unit → Prop} (h : (liftO (small n)).All Q) : n ≤ 100000 ∧ Q () := by
  obtain ⟨a, h1, h2⟩ := lift_all h
  unfold small at h1
  split at h1
  · exact ⟨‹_›, h2⟩
  · cases h1
theorem few_le {n : Nat} {Q : Unit → Prop} (h : (liftO (few n)).All Q) : n ≤ 50000 ∧ Q () := by
  obtain ⟨a, h1, h2⟩ := lift_all h
  unfold few at h1
  split at h1
  · exact ⟨‹_›, h2⟩
  · cases h1
theorem se_lst (h : SD b X es fs) : SE b X (.List es pos) (dL fs) := .mk fun μ0 E ρ μ Φ R q =>
  de_lst (h.run μ0 E ρ μ _ R ((all_bind.mp q).imp fun ds q μ1 s1 => let ⟨hz, q⟩ := small_le (all_bind.mp q); ⟨ds, rfl, hz, q μ1 s1⟩))
theorem se_tup {k : Nat} (h : SD b X es fs) : SE b X (.Tuple es k pos) (dT fs) := .mk fun μ0 E ρ μ Φ R q =>
  de_tup (h.run μ0 E ρ μ _ R ((all_bind.mp q).imp fun ds q μ1 s1 => let ⟨hz, q⟩ := small_le (all_bind.mp q); ⟨ds, rfl, hz, q μ1 s1⟩))
variable {ga : Env → Tree W} {gs : Env → Tree (List W)}
structure SV (b : Addr) (X : Cx) (e : Expr) (f : Env → Tree W) : Prop where
  run : ∀ μ0 E ρ μ Φ, Rel b μ0 E ρ μ → (f E).All (fun w => ∀ μ', Bs b μ μ' → Φ (wo b w) μ') → DE X e ρ μ Φ
theorem sv_v (i : Nat) {n : Str} (hN : X.N[i]? = some n := by rfl) (hv : Vis X.env.scope n := by first | exact Or.inl rfl | exact Or.inr (Or.inl rfl) | exact Or.inr (Or.inr rfl)) (hd : (n == ("__debug__" : Str)) = false := by decide) (hcd : (n == ("__classdict__" : Str)) = false := by decide) : SV b X (.Name n pos) (aV i) := .mk fun μ0 E ρ μ Φ R h => by
  unfold aV at h
  split at h
  · rename_i d hd'
    obtain ⟨o, h1, h2⟩ := R.get i _ hd'
    cases h2
    exact de_var i hN hv h1 (h μ (Bs.refl b μ)) hd hcd
  · rename_i hd'
    obtain ⟨o, h1, h2⟩ := R.get i _ hd'
    cases h2
    exact de_var i hN hv h1 (h μ (Bs.refl b μ)) hd hcd
  · rename_i hd'
    obtain ⟨o, h1, h2⟩ := R.get i _ hd'
    cases h2
    exact de_var i hN hv h1 (h μ (Bs.refl b μ)) hd hcd
  · rename_i hd'
    obtain ⟨o, h1, h2⟩ := R.get i _ hd'
    cases h2
    exact de_var i hN hv h1 (h μ (Bs.refl b μ)) hd hcd
  · rename_i hd'
    obtain ⟨o, h1, h2⟩ := R.get i _ hd'
    cases h2
    exact de_var i hN hv h1 (h μ (Bs.refl b μ)) hd hcd
  · rename_i hd'
    obtain ⟨o, h1, h2⟩ := R.get i _ hd'
    cases h2
    exact de_var i hN hv h1 (h μ (Bs.refl b μ)) hd hcd
  · exact h.elim
theorem sv_e (h : SE b X x fx) : SV b X x (aE fx) := .mk fun μ0 E ρ μ Φ R q => h.run μ0 E ρ μ Φ R ((all_bind.mp q).imp fun d q => q)
theorem sa_nil : SA b X [] a0 := .mk fun μ0 E ρ μ Λ R h => da_nil (h μ (Bs.refl b μ))
theorem sa_cons (hx : SV b X x ga) (ht : SA b X es gs) (hs : starEach (x :: es) X.env = (false, eval x X.env) :: starEach es X.env := by rfl) : SA b X (x :: es) (aC ga gs) := .mk fun μ0 E ρ μ Λ R h =>
  da_cons (hx.run μ0 E ρ μ _ R ((all_bind.mp h).imp fun d q μ1 s1 => ht.run μ0 E ρ μ1 _ (R.step s1) ((all_bind.mp q).imp fun ds q μ2 s2 => q μ2 (s1.trans s2)))) hs
theorem sk_nil : SK b X [] a0 := .mk fun μ0 E ρ μ Λ R h => dk_nil (h μ (Bs.refl b μ))
theorem sk_cons {nm : Option Str} {kp : Pos} {ks : List Keyword} (hx : SV b X x ga) (ht : SK b X ks gs) : SK b X (⟨nm, x, kp⟩ :: ks) (aC ga gs) := .mk fun μ0 E ρ μ Λ R h =>
  dk_cons (hx.run μ0 E ρ μ _ R ((all_bind.mp h).imp fun d q μ1 s1 => ht.run μ0 E ρ μ1 _ (R.step s1) ((all_bind.mp q).imp fun ds q μ2 s2 => q μ2 (s1.trans s2))))
end
end Nx
namespace Nx
open PySem PySem.Spec PyProof.Rows L2
open Tree
def ent : W → W
  | .own _ => .d .none
  | .odc _ => .d .none
  | .cir _ => .d .none
  | .lc _ => .d .none
  | .ll _ => .d .none
  | w => w
def lenIs {α : Type} (n : Nat) (ws : List α) : Option Unit := if ws.length = n then some () else none
theorem lenIs_all {α : Type} {n : Nat} {ws : List α} {Q : Unit → Prop} (h : (liftO (lenIs n ws)).All Q) : ws.length = n ∧ Q () := by
  obtain ⟨a, h1, h2⟩ := lift_all h
  unfold lenIs at h1
  split at h1
  · exact ⟨‹_›, h2⟩
  · cases h1
def fnF (a n : Nat) (body : DenS) : List W → Tree PyData := fun ws => (liftO (lenIs a ws)).bind fun _ => (body (ws.map (fun w => some (ent w)) ++ List.replicate (n - a) none)).bind outV
def cF (F : List W → Tree PyData) : Ct := fun os μ Φ => ∃ b ws, os = ws.map (wo b) ∧ (∃ p q t, μ b = some (bx p q t)) ∧ (F ws).All (fun d => ∀ μ', Bs b μ μ' → Φ (.im d) μ')
section
variable {P : Program} {w : World} {K : PySem.W.Frag} {mg : Str → Option Value} {base : Heap}
theorem Fc.imp {k : Nat} {x : Str} {st : Stmt} {ps : List Str} {C C' : Ct} (F : Fc P w K mg base x st ps k C) (h : ∀ os μ Φ, C' os μ Φ → C os μ Φ) : Fc P w K mg base x st ps k C' := by
  obtain ⟨f, fd, a, b, c⟩ := F.ex
  refine ⟨⟨f, fd, a, b, ⟨fun vs H Q E ⟨os, μ, G, Φ, m, r, q, fi⟩ => c.len vs H Q E ⟨os, μ, G, Φ, m, r, h _ _ _ q, fi⟩, fun A outer s H args us vs Q E r e b v ⟨os, μ, G, Φ, m, r', q, fi⟩ => c.run A outer s H args us vs Q E r e b v ⟨os, μ, G, Φ, m, r', h _ _ _ q, fi⟩⟩⟩⟩
theorem rel_start {b : Addr} {μ : Mu} {ws : List W} (n : Nat) (hb : ∃ p q t, μ b = some (bx p q t)) : Rel b μ (ws.map (fun w => some (ent w)) ++ List.replicate n none) ((ws.map (wo b)).map some ++ List.replicate n none) μ := by
  have key : ∀ (i : Nat) v, (ws.map (fun w => some (ent w)) ++ List.replicate n none)[i]? = some (some v) → ∃ u, ws[i]? = some u ∧ v = ent u ∧ ((ws.map (wo b)).map some ++ List.replicate n none)[i]? = some (some (wo b u)) := fun i v h => by
    by_cases hi : i < ws.length
    · rw [List.getElem?_append_left (by simpa using hi), List.getElem?_map, List.getElem?_eq_getElem hi] at h
      cases h
      refine ⟨_, List.getElem?_eq_getElem hi, rfl, ?_⟩
      rw [List.getElem?_append_left (by simpa using hi), List.getElem?_map, List.getElem?_map, List.getElem?_eq_getElem hi]
      rfl
    · rw [List.getElem?_append_right (by simpa using hi), List.getElem?_replicate] at h
      split at h <;> cases h
  refine ⟨by simp, hb, hb, Bs.refl b μ, fun i v h => ?_, fun i j ds es p h _ _ _ => ?_, fun i j w w' p h _ t _ _ _ => ?_⟩
  · obtain ⟨u, hu, rfl, h2⟩ := key i v h
    refine ⟨_, h2, ?_⟩
    cases u <;> rfl
  · obtain ⟨u, hu, e, h2⟩ := key i _ h
    cases u <;> cases e
  · obtain ⟨u, hu, e, h2⟩ := key i _ h
    subst e
    cases u <;> cases t
theorem fc_body0 {k : Nat} {f : Addr} {x : Str} {st : Stmt} {fd : FuncData} {N ps : List Str} {body : DenS} (F : Fun K x x st f fd) (hm : mg x = some (.ref f)) (S : FnScope N ps (defScope st))
    (hB : ∀ (b : Addr) (cdv : Value) A outer s H E, Rm k (A.deeper (envOfC x (defScope st) s.heap.objs.size f cdv)) → SSs b (cxOf CX0 P w K mg base N x (defScope st) f cdv A outer s H E).nox (defBody st) body) : Fc P w K mg base x st ps (k + 1) (cF (fnF ps.length N.length body)) := by
  refine fc_of F hm S (fun os μ Φ h => ?_) fun cdv A outer s H E os μ Φ hr h => ?_
  · obtain ⟨b, ws, rfl, _, h⟩ := h
    rw [List.length_map]
    exact (lenIs_all (all_bind.mp h)).1
  · obtain ⟨b, ws, rfl, hb, h⟩ := h
    obtain ⟨hl, h⟩ := lenIs_all (all_bind.mp h)
    rw [List.length_map, hl]
    refine (hB b cdv A outer s H E hr).run μ _ _ μ _ (rel_start _ hb) ((all_bind.mp h).imp fun o q => ?_)
    cases o with
    | nx E' => exact fun ρ' μ' R => q μ' R.ext
    | rt v => exact fun μ' s => q μ' s
    | bk E' => exact q.elim
    | ct E' => exact q.elim
theorem fc_body {k a n : Nat} {f : Addr} {x : Str} {st : Stmt} {fd : FuncData} {N ps : List Str} (body : DenS) {m : List W → Tree PyData} (hM : m = fnF a n body) (F : Fun K x x st f fd) (hm : mg x = some (.ref f)) (S : FnScope N ps (defScope st)) (ha : ps.length = a) (hn : N.length = n)
    (hB : ∀ (b : Addr) (cdv : Value) A outer s H E, Rm k (A.deeper (envOfC x (defScope st) s.heap.objs.size f cdv)) → SSs b (cxOf CX0 P w K mg base N x (defScope st) f cdv A outer s H E).nox (defBody st) body) : Fc P w K mg base x st ps (k + 1) (cF m) := by
  subst hM ha hn
  exact fc_body0 F hm S hB
end
section
variable {b : Addr} {X : Cx} {e x y z : Expr} {es : List Expr} {f fx fy fz : DenE} {fs : DenL} {pos p : Pos} {ga : Env → Tree W} {gs : Env → Tree (List W)}
theorem se_call {F : List W → Tree PyData} {nm : Str} {st : Stmt} {ps : List Str} {k : Nat} (FC : Fc X.prog X.w X.K X.mg X.base nm st ps k (cF F)) (hr : Rm k X.A) (hg : Gl X nm)
    (hb : ∀ (kV doc pm : Value) (an : Option Addr) (cdv ct : Value) (us : List Value), us.length = ps.length → bindArgs (PySem.W.fnOf nm nm (defArgs st) (defBody st) (defScope st) .none kV doc pm an cdv ct) ⟨us, []⟩ = pure (ps.zip us))
    (ha : SA b X (x :: es) gs) (hdb : (nm == ("__debug__" : Str)) = false := by decide) (he : starEach (x :: es) X.env = (false, eval x X.env) :: starEach es X.env := by rfl) (hpl : (backTo pos (starEach es X.env)).any (·.1) = false := by rfl) : SE b X (.Call (.Name nm p) (x :: es) [] pos) (dCall F gs) := .mk fun μ0 E ρ μ Φ R h =>
  de_call FC hr hg hb (ha.run μ0 E ρ μ _ R ((all_bind.mp h).imp fun ws q μ1 s1 => ⟨b, ws, rfl, (R.step s1).bxs, q.imp fun d q μ2 s2 => q μ2 (s1.trans s2)⟩)) hdb he hpl
def dCallK (m : Nat) (ix : List Nat) (F : List W → Tree PyData) (fs : Env → Tree (List W)) : DenE := fun E => (fs E).bind fun ws => (liftO (lenIs m ws)).bind fun _ => F (pick ix ws)
theorem pick_map {α β : Type} (g : α → β) (l : List α) (ix : List Nat) : pick ix (l.map g) = (pick ix l).map g := by
  unfold pick
  rw [List.map_filterMap]
  congr 1
  funext i
  rw [List.getElem?_map]
theorem se_callK {F : List W → Tree PyData} {nm : Str} {st : Stmt} {ps : List Str} {k : Nat} {kws : List Keyword} (ks : List Str) (ix : List Nat) (FC : Fc X.prog X.w X.K X.mg X.base nm st ps k (cF F)) (hr : Rm k X.A) (hg : Gl X nm)
    (hb : ∀ (kV doc pm : Value) (an : Option Addr) (cdv ct : Value) (us : List Value), us.length = ks.length → bindArgs (PySem.W.fnOf nm nm (defArgs st) (defBody st) (defScope st) .none kV doc pm an cdv ct) ⟨[], ks.zip us⟩ = pure (ps.zip (pick ix us)))
    (ha : SK b X kws gs) (hall : (backToKw pos (keywordEach kws X.env)).all (·.1.isSome) = true := by rfl) (hks : (backToKw pos (keywordEach kws X.env)).filterMap (·.1) = ks := by rfl)
    (hpl : ((backTo pos (starEach [] X.env)).any (·.1) || (backToKw pos (keywordEach kws X.env)).any (·.1.isNone)) = false := by rfl) (hdb : (nm == ("__debug__" : Str)) = false := by decide) : SE b X (.Call (.Name nm p) [] kws pos) (dCallK ks.length ix F gs) := .mk fun μ0 E ρ μ Φ R h =>
  de_callK ks ix FC hr hg hb (ha.run μ0 E ρ μ _ R ((all_bind.mp h).imp fun ws q μ1 s1 => by
    obtain ⟨hl, q⟩ := lenIs_all (all_bind.mp q)
    exact ⟨by rw [List.length_map]; exact hl, b, pick ix ws, pick_map _ _ _, (R.step s1).bxs, q.imp fun d q μ2 s2 => q μ2 (s1.trans s2)⟩)) hall hks hpl hdb
def items : PyData → Option (List PyData)
  | .list xs => some xs
  | .tuple xs => some xs
  | _ => none
theorem items_seq {d : PyData} {xs : List PyData} (h : items d = some xs) : Seq xs (.im d) := by
  cases d <;> cases h
  · exact .lst
  · exact .tup
def rg1 : PyData → Option (List PyData)
  | .int j => if -100000 ≤ j ∧ j ≤ 100000 then some (nums j.toNat) else none
  | _ => none
def numsF (i : Int) (n : Nat) : List PyData := (List.range n).map fun (k : Nat) => .int (i + (k : Int))
def rg2 : PyData → PyData → Option (List PyData)
  | .int i, .int j => if -100000 ≤ i ∧ i ≤ 100000 ∧ -100000 ≤ j ∧ j ≤ 100000 then some (numsF i (j - i).toNat) else none
  | _, _ => none
def iS (f : DenE) : DenL := fun E => (f E).bind fun x => liftO (items x)
def iR1 (f : DenE) : DenL := fun E => (f E).bind fun x => liftO (rg1 x)
def iR2 (f g : DenE) : DenL := fun E => (f E).bind fun x => (g E).bind fun y => liftO (rg2 x y)
def wEn (f : DenE) : DenL := fun E => (f E).bind fun x => (liftO (items x)).bind fun xs => .ret (prs (nums xs.length) xs)
def wZ2 (f g : DenE) : DenL := fun E => (f E).bind fun x => (g E).bind fun y => (liftO (items x)).bind fun xs => (liftO (items y)).bind fun ys => .ret (prs xs ys)
def wZ3 (f g h : DenE) : DenL := fun E => (f E).bind fun x => (g E).bind fun y => (h E).bind fun z => (liftO (items x)).bind fun xs => (liftO (items y)).bind fun ys => (liftO (items z)).bind fun zs => .ret (trs xs ys zs)
variable {tg : Expr}
theorem si_seq (hx : SE b X x fx) : SI b X tg x (iS fx) := .mk fun μ0 E ρ μ Ψ R h =>
  di_seq (hx.run μ0 E ρ μ _ R ((all_bind.mp h).imp fun d q μ1 s1 => let ⟨xs, hxs, q⟩ := lift_all q; ⟨xs, items_seq hxs, q μ1 s1⟩))
theorem si_r1 (B : Bt X.mg) (hg : Gl X "range") (hx : SE b X x fx) (he : starEach [x] X.env = (false, eval x X.env) :: starEach [] X.env := by rfl) : SI b X tg (.Call (.Name "range" p) [x] [] pos) (iR1 fx) := .mk fun μ0 E ρ μ Ψ R h =>
  di_range1 B hg (hx.run μ0 E ρ μ _ R ((all_bind.mp h).imp fun d q μ1 s1 => by
    obtain ⟨xs, hxs, q⟩ := lift_all q
    cases d with
    | int j =>
      simp only [rg1] at hxs
      split at hxs
      · rename_i hj
        cases hxs
        refine ⟨j, rfl, hj.1, hj.2, ?_⟩
        have := q μ1 s1
        unfold nums at this
        rw [List.map_map] at this
        exact this
      · cases hxs
    | _ => cases hxs)) he
theorem si_en {elts : List Expr} {kk : Nat} {tpos : Pos} (B : Bt X.mg) (hg : Gl X "enumerate") (hx : SE b X x fx) (he : starEach [x] X.env = (false, eval x X.env) :: starEach [] X.env := by rfl) (he2 : starEach [x] X.env = [(false, eval x X.env)] := by rfl) : SI b X (.Tuple elts kk tpos) (.Call (.Name "enumerate" p) [x] [] pos) (wEn fx) := .mk fun μ0 E ρ μ Ψ R h =>
  di_en B hg (hx.run μ0 E ρ μ _ R ((all_bind.mp h).imp fun d q μ1 s1 => let ⟨xs, hxs, q⟩ := lift_all (all_bind.mp q); ⟨xs, items_seq hxs, q μ1 s1⟩)) he he2
theorem si_z2 {elts : List Expr} {kk : Nat} {tpos : Pos} (B : Bt X.mg) (hg : Gl X "zip") (hx : SE b X x fx) (hy : SE b X y fy) (he : starEach [x, y] X.env = (false, eval x X.env) :: starEach [y] X.env := by rfl) (he2 : starEach [y] X.env = (false, eval y X.env) :: starEach [] X.env := by rfl) (hpl : (backTo pos (starEach [y] X.env)).any (·.1) = false := by rfl) : SI b X (.Tuple elts kk tpos) (.Call (.Name "zip" p) [x, y] [] pos) (wZ2 fx fy) := .mk fun μ0 E ρ μ Ψ R h =>
  di_zip2 B hg (hx.run μ0 E ρ μ _ R ((all_bind.mp h).imp fun d q μ1 s1 => hy.run μ0 E ρ μ1 _ (R.step s1) ((all_bind.mp q).imp fun d' q μ2 s2 => by
    obtain ⟨xs, hxs, q⟩ := lift_all (all_bind.mp q)
    obtain ⟨ys, hys, q⟩ := lift_all (all_bind.mp q)
    exact ⟨xs, ys, items_seq hxs, items_seq hys, q μ2 (s1.trans s2)⟩))) he he2 hpl
theorem si_z3 {elts : List Expr} {kk : Nat} {tpos : Pos} (B : Bt X.mg) (hg : Gl X "zip") (hx : SE b X x fx) (hy : SE b X y fy) (hz : SE b X z fz) (he : starEach [x, y, z] X.env = (false, eval x X.env) :: starEach [y, z] X.env := by rfl) (he2 : starEach [y, z] X.env = (false, eval y X.env) :: starEach [z] X.env := by rfl) (he3 : starEach [z] X.env = (false, eval z X.env) :: starEach [] X.env := by rfl) (hpl : (backTo pos (starEach [y, z] X.env)).any (·.1) = false := by rfl) : SI b X (.Tuple elts kk tpos) (.Call (.Name "zip" p) [x, y, z] [] pos) (wZ3 fx fy fz) := .mk fun μ0 E ρ μ Ψ R h =>
  di_zip3 B hg (hx.run μ0 E ρ μ _ R ((all_bind.mp h).imp fun d q μ1 s1 => hy.run μ0 E ρ μ1 _ (R.step s1) ((all_bind.mp q).imp fun d' q μ2 s2 => hz.run μ0 E ρ μ2 _ ((R.step s1).step s2) ((all_bind.mp q).imp fun d3 q μ3 s3 => by
    obtain ⟨xs, hxs, q⟩ := lift_all (all_bind.mp q)
    obtain ⟨ys, hys, q⟩ := lift_all (all_bind.mp q)
    obtain ⟨zs, hzs, q⟩ := lift_all (all_bind.mp q)
    exact ⟨xs, ys, zs, items_seq hxs, items_seq hys, items_seq hzs, q μ3 ((s1.trans s2).trans s3)⟩)))) he he2 he3 hpl
theorem Bs.del {μ μ' : Mu} {D : Addr} (h : Bs b μ μ') (hD : μ D = none) (hb : D ≠ b) : Bs b μ (μ'.del D) :=
  ⟨fun a l n e => (if_neg (ne_own e hD)).trans (h.old a l n e), fun p q t e => let ⟨p', q', t', e'⟩ := h.box p q t e; ⟨p', q', t', (if_neg fun z => hb z.symm).trans e'⟩, h.thg, h.cls⟩
variable {iter elt c : Expr} {scope : Scope} {fi : DenL} {fb : DenB}
theorem lc_sound {t : Tgt} {vs : List Nat} {E : Env} {ρ : Rho} {μ μ1 μ0 : Mu} {xs : List PyData} {done : List OV → Mu → Prop} (R : Rel b μ0 E ρ μ) (s1 : Bs b μ μ1) (he : ∀ s H C cl fp, SE b (Blk X scope s H C cl fp) elt fx) (hz : xs.length ≤ 50000)
    (q : (mapT (fun x => (liftO (putE t x (wipeE E vs))).bind fx) xs).All fun ys => ∀ μ', Bs b μ μ' → done (ys.map .im) μ') : LcD X scope [] elt t vs ρ ⟨xs.map .im, fun _ => True⟩ μ1 done := by
  refine ⟨fun i acc μ' => Bs b μ μ' ∧ ∃ ds : List PyData, acc = ds.map .im ∧ (mapT (fun x => (liftO (putE t x (wipeE E vs))).bind fx) (xs.drop i)).All fun ys => ∀ μ'', Bs b μ μ'' → done ((ds ++ ys).map .im) μ'', by simpa using hz, ⟨s1, [], rfl, q⟩, fun _ _ _ _ _ _ => trivial, fun acc μ' ⟨s, ds, ha, h⟩ => ?_, fun i acc μ' o ho ⟨s, ds, ha, h⟩ => ?_⟩
  · rw [List.drop_eq_nil_of_le (by simp)] at h
    have := h μ' s
    rw [List.append_nil] at this
    rw [ha]
    exact this
  · dsimp only at ho
    rw [List.getElem?_map] at ho
    cases hx : xs[i]? with
    | none =>
      rw [hx] at ho
      cases ho
    | some x =>
      rw [hx] at ho
      cases ho
      obtain ⟨hi, rfl⟩ := List.getElem?_eq_some_iff.mp hx
      rw [List.drop_eq_getElem_cons hi, mapT] at h
      obtain ⟨E', hE, h⟩ := lift_all (all_bind.mp (all_bind.mp h))
      obtain ⟨ρ', hp, _⟩ := ((R.step s).wipes vs).putT hE
      refine ⟨ρ', hp, fun Dl hD => ?_⟩
      dsimp only [DTb]
      rw [if_pos rfl]
      intro s' H C cl fp
      have s2 : Bs b μ (μ'.put Dl acc) := s.trans (Bs.put hD)
      obtain ⟨ρ2, hp2, R2⟩ := ((R.step s2).wipes vs).putT hE
      rw [hp] at hp2
      cases hp2
      have nb : Dl ≠ b := fun z => by
        obtain ⟨u, q, t, e⟩ := (R.step s).bxs
        rw [z, e] at hD
        cases hD
      refine (he s' H C cl fp).run μ0 E' ρ' _ _ R2 (h.imp fun y h μ3 s3 => ?_)
      obtain ⟨pb1, pb2⟩ := put_back (s3.old Dl acc nb put_same)
      refine ⟨μ3.del Dl, pb1, pb2, (s2.trans s3).del ?_ nb, ds ++ [y], by rw [ha, List.map_append]; rfl, (all_bind.mp h).imp fun ys h => ?_⟩
      · cases z : μ Dl with
        | none => rfl
        | some l =>
          rw [s.old Dl l nb z] at hD
          cases hD
      · rw [List.append_assoc]
        exact h
theorem se_lc {own : List (Str × Nat)} (t : Tgt) (hc : X.calm = true) (hN : X.N.Nodup) (ok : BlkOk X.N X.env.scope scope own) (hs : ∀ i ∈ t.slots, i ∈ own.map (·.2))
    (hg : ∀ s H C cl fp, PG (Blk X scope s H C cl fp) tg (TgtG X.K t)) (hi : SI b X tg iter fi) (he : ∀ s H C cl fp, SE b (Blk X scope s H C cl fp) elt fx) (hf : ∀ x, foldedSetIterable iter X.env x = pure x := by intro _; rfl) : SE b X (.ListComp elt [⟨tg, iter, [], 0⟩] scope pos) (dLc t (own.map (·.2)) fi fx) := .mk fun μ0 E ρ μ Φ R h =>
  de_lc t hc hN ok hs hg (hi.run μ0 E ρ μ _ R ((all_bind.mp h).imp fun xs q μ1 s1 => by
    obtain ⟨hz, q⟩ := few_le (all_bind.mp q)
    exact lc_sound R s1 he hz ((all_bind.mp q).imp fun ys q μ' s => ⟨ys, rfl, q μ' s⟩))) hf
theorem lf_sound {t : Tgt} {vs : List Nat} {E : Env} {ρ : Rho} {μ μ1 μ0 : Mu} {xs : List PyData} {done : List OV → Mu → Prop} (R : Rel b μ0 E ρ μ) (s1 : Bs b μ μ1) (hcn : ∀ s H C cl fp, ST b (Blk X scope s H C cl fp) c fb) (he : ∀ s H C cl fp, SE b (Blk X scope s H C cl fp) elt fx) (hz : xs.length ≤ 50000)
    (q : (pickT (fun x => (liftO (putE t x (wipeE E vs))).bind fun E' => (fb E').bind fun k => match k with | true => (fx E').bind fun y => .ret (some y) | false => .ret none) xs).All fun ys => ∀ μ', Bs b μ μ' → done (ys.map .im) μ') : LcD X scope [c] elt t vs ρ ⟨xs.map .im, fun _ => True⟩ μ1 done := by
  refine ⟨fun i acc μ' => Bs b μ μ' ∧ ∃ ds : List PyData, acc = ds.map .im ∧ (pickT (fun x => (liftO (putE t x (wipeE E vs))).bind fun E' => (fb E').bind fun k => match k with | true => (fx E').bind fun y => .ret (some y) | false => .ret none) (xs.drop i)).All fun ys => ∀ μ'', Bs b μ μ'' → done ((ds ++ ys).map .im) μ'', by simpa using hz, ⟨s1, [], rfl, q⟩, fun _ _ _ _ _ _ => trivial, fun acc μ' ⟨s, ds, ha, h⟩ => ?_, fun i acc μ' o ho ⟨s, ds, ha, h⟩ => ?_⟩
  · rw [List.drop_eq_nil_of_le (by simp)] at h
    have := h μ' s
    rw [List.append_nil] at this
    rw [ha]
    exact this
  · dsimp only at ho
    rw [List.getElem?_map] at ho
    cases hx : xs[i]? with
    | none =>
      rw [hx] at ho
      cases ho
    | some x =>
      rw [hx] at ho
      cases ho
      obtain ⟨hi, rfl⟩ := List.getElem?_eq_some_iff.mp hx
      rw [List.drop_eq_getElem_cons hi, pickT] at h
      obtain ⟨E', hE, h⟩ := lift_all (all_bind.mp (all_bind.mp h))
      obtain ⟨ρ', hp, _⟩ := ((R.step s).wipes vs).putT hE
      refine ⟨ρ', hp, fun Dl hD => ?_⟩
      have s2 : Bs b μ (μ'.put Dl acc) := s.trans (Bs.put hD)
      obtain ⟨ρ2, hp2, R2⟩ := ((R.step s2).wipes vs).putT hE
      rw [hp] at hp2
      cases hp2
      have nb : Dl ≠ b := fun z => by
        obtain ⟨u, q, t, e⟩ := (R.step s).bxs
        rw [z, e] at hD
        cases hD
      have nD : μ Dl = none := by
        cases z : μ Dl with
        | none => rfl
        | some l =>
          rw [s.old Dl l nb z] at hD
          cases hD
      show ∀ s' H C cl fp, DT _ _ _ _ _
      intro s' H C cl fp
      refine (hcn s' H C cl fp).run μ0 E' ρ' _ _ R2 ((all_bind.mp h).imp fun k h μ3 s3 => ?_)
      cases k with
      | true =>
        rw [if_pos rfl]
        intro s' H C cl fp
        refine (he s' H C cl fp).run μ0 E' ρ' _ _ (R2.step s3) ((all_bind.mp h).imp fun y h μ4 s4 => ?_)
        obtain ⟨pb1, pb2⟩ := put_back ((s3.trans s4).old Dl acc nb put_same)
        refine ⟨μ4.del Dl, pb1, pb2, (s2.trans (s3.trans s4)).del nD nb, ds ++ [y], by rw [ha, List.map_append]; rfl, (all_bind.mp h).imp fun ys h => ?_⟩
        rw [List.append_assoc]
        exact h
      | false =>
        rw [if_neg (by decide)]
        obtain ⟨pb1, pb2⟩ := put_back (s3.old Dl acc nb put_same)
        exact ⟨μ3.del Dl, pb1, pb2, (s2.trans s3).del nD nb, ds, ha, (all_bind.mp h).imp fun ys h => h⟩
theorem se_lf {own : List (Str × Nat)} (t : Tgt) (hc : X.calm = true) (hN : X.N.Nodup) (ok : BlkOk X.N X.env.scope scope own) (hs : ∀ i ∈ t.slots, i ∈ own.map (·.2))
    (hg : ∀ s H C cl fp, PG (Blk X scope s H C cl fp) tg (TgtG X.K t)) (hi : SI b X tg iter fi) (hcn : ∀ s H C cl fp, ST b (Blk X scope s H C cl fp) c fb) (he : ∀ s H C cl fp, SE b (Blk X scope s H C cl fp) elt fx) (hf : ∀ x, foldedSetIterable iter X.env x = pure x := by intro _; rfl) : SE b X (.ListComp elt [⟨tg, iter, [c], 0⟩] scope pos) (dLf t (own.map (·.2)) fi fb fx) := .mk fun μ0 E ρ μ Φ R h =>
  de_lc t hc hN ok hs hg (hi.run μ0 E ρ μ _ R ((all_bind.mp h).imp fun xs q μ1 s1 => by
    obtain ⟨hz, q⟩ := few_le (all_bind.mp q)
    exact lf_sound R s1 hcn he hz ((all_bind.mp q).imp fun ys q μ' s => ⟨ys, rfl, q μ' s⟩))) hf
end
end Nx
namespace Nx
open PySem PySem.Spec PyProof.Rows L2
open Tree
section
variable {b : Addr} {X : Cx} {e x y z tg iter elt c : Expr} {es : List Expr} {f fx fy fz : DenE} {fs fi : DenL} {fb : DenB} {pos p : Pos} {st : Stmt} {ss : List Stmt} {g h : DenS} {scope : Scope}
theorem ss_nil : SSs b X [] s0 := .mk fun μ0 E ρ μ D R q => dss_nil (q ρ μ R)
theorem ss_one (hs : SS b X st g) : SSs b X [st] g := .mk fun μ0 E ρ μ D R q => dss_one (hs.run μ0 E ρ μ D R q)
theorem ss_cons (hs : SS b X st g) (ht : SSs b X ss h) : SSs b X (st :: ss) (sC g h) := .mk fun μ0 E ρ μ D R q =>
  dss_cons (hs.run μ0 E ρ μ _ R ((all_bind.mp q).imp fun o q => by
    cases o with
    | nx E' => exact fun ρ' μ' R' => ht.run μ0 E' ρ' μ' D R' q
    | rt v => exact q
    | bk E' => exact q
    | ct E' => exact q))
theorem ss_frz (i : Nat) (ht : SSs b X ss h) : SSs b X ss (sFrz i h) := .mk fun μ0 E ρ μ D R q => by
  unfold sFrz frzE at q
  split at q
  · rename_i l hl
    obtain ⟨o, h1, p, rfl, _, _, hp⟩ := R.get i _ hl
    exact dss_frz h1 hp (ht.run μ0 _ _ _ D (R.frz hl h1) q)
  · exact ht.run μ0 E ρ μ D R q
theorem ss_ret (hx : SE b X x fx) : SS b X (.Return (some x) pos) (sRet fx) := .mk fun μ0 E ρ μ D R q =>
  ds_ret (hx.run μ0 E ρ μ _ R ((all_bind.mp q).imp fun d q μ1 s1 => q μ1 (R.ext.trans s1)))
theorem ss_if {s1 s2 : List Stmt} (hc : ST b X c fb) (h1 : SSs b X s1 g) (h2 : SSs b X s2 h) : SS b X (.If c s1 s2 pos) (sIf fb g h) := .mk fun μ0 E ρ μ D R q =>
  ds_if (hc.run μ0 E ρ μ _ R ((all_bind.mp q).imp fun k q μ1 s1 => by
    cases k with
    | true =>
      rw [if_pos rfl]
      exact h1.run μ0 E ρ μ1 D (R.step s1) q
    | false =>
      rw [if_neg (by decide)]
      exact h2.run μ0 E ρ μ1 D (R.step s1) q))
theorem ss_set (i : Nat) {n : Str} {p' : Pos} (hN : X.N.Nodup) (hi : X.N[i]? = some n) (hl : Loc X.env.scope n) (hx : SE b X x fx) (hs : swapsWith x (some (.Name n p')) pos.line X.env = pure false := by rfl)
    (hf : X.fn n = true ∨ X.env.scope.names.lookup n = some .local := by first | exact .inl rfl | exact .inr rfl | assumption) : SS b X (.Assign [.Name n p'] x pos) (sSet i fx) := .mk fun μ0 E ρ μ D R q =>
  ds_set i hN hi hl (hx.run μ0 E ρ μ _ R ((all_bind.mp q).imp fun d q μ1 s1 => q _ μ1 ((R.step s1).setD i d))) hs hf
theorem lC_all {fx : DenE} {fs : DenL} {E : Env} {Q : List PyData → Prop} (h : (lC fx fs E).All Q) : (fx E).All fun d => (fs E).All fun ds => Q (d :: ds) := (all_bind.mp h).imp fun d q => (all_bind.mp q).imp fun ds q => q
theorem lC_mk {fx : DenE} {fs : DenL} {E : Env} {Q : List PyData → Prop} (h : (fx E).All fun d => (fs E).All fun ds => Q (d :: ds)) : (lC fx fs E).All Q := all_bind.mpr (h.imp fun d q => all_bind.mpr (q.imp fun ds q => q))
theorem ss_par (i j : Nat) {n m : Str} {px py pt : Pos} {kt k2 pt2} (hc : X.calm = true) (hN : X.N.Nodup) (hi : X.N[i]? = some n) (hj : X.N[j]? = some m) (hij : i ≠ j)
    (hx : X.env.scope.names.lookup n = some .local) (hy : X.env.scope.names.lookup m = some .local) (hw : swappedStores [.Tuple [.Name n px, .Name m py] kt pt] (.Tuple [x, y] k2 pt2) X.env = pure (some [n, m]))
    (ha : SD b X [x, y] (lC fx (lC fy l0)))
    (hs : swapsWithSole [.Tuple [.Name n px, .Name m py] kt pt] (.Tuple [x, y] k2 pt2) pos.line X.env = pure false := by rfl) : SS b X (.Assign [.Tuple [.Name n px, .Name m py] kt pt] (.Tuple [x, y] k2 pt2) pos) (sPar [i, j] (lC fx (lC fy l0))) := .mk fun μ0 E ρ μ D R q =>
  ds_par i j hc hN hi hj hij hx hy hw (ha.run μ0 E ρ μ _ R (by
    have q := lC_all (all_bind.mp q)
    refine lC_mk (q.imp fun d q => lC_mk ((lC_all q).imp fun d' q => fun μ1 s1 => ?_))
    exact ⟨_, _, rfl, q _ μ1 (((R.step s1).setD i d).setD j d')⟩)) hs
theorem ss_for {body : List Stmt} (t : Tgt) (hp : PassesOwn (model X.prog X.w) X.A X.env X.xe) (hc : X.calm = true) (hg : PG X tg (TgtG X.K t)) (hi : SI b X tg iter fi) (hb : SSs b X body g)
    (hs : ∀ x, foldedSetIterable iter X.env x = pure x := by intro _; rfl) : SS b X (.For tg iter body [] pos) (sFor t fi g) := .mk fun μ0 E ρ μ D R q =>
  ds_for t hp hc hg (hi.run μ0 E ρ μ _ R ((all_bind.mp q).imp fun xs q μ1 s1 => by
    refine ⟨fun i ρ' μ' => ∃ E', Rel b μ0 E' ρ' μ' ∧ (forT t g (xs.drop i) E').All (OutOk b μ0 D), ⟨E, R.step s1, q⟩, fun _ _ _ _ => trivial, fun i z ρ' μ' hz hP => ?_, fun ρ' μ' hP => ?_⟩
    · obtain ⟨E', R', q⟩ := hP
      dsimp only at hz
      rw [List.getElem?_map] at hz
      cases hx : xs[i]? with
      | none =>
        rw [hx] at hz
        cases hz
      | some x =>
        rw [hx] at hz
        cases hz
        obtain ⟨hi, rfl⟩ := List.getElem?_eq_some_iff.mp hx
        rw [List.drop_eq_getElem_cons hi, forT] at q
        obtain ⟨E2, hE, q⟩ := lift_all (all_bind.mp q)
        obtain ⟨ρ2, hp2, R2⟩ := R'.putT hE
        refine ⟨ρ2, hp2, hb.run μ0 E2 ρ2 μ' _ R2 ((all_bind.mp q).imp fun o q => ?_)⟩
        cases o with
        | nx E3 => exact fun ρ3 μ3 R3 => ⟨E3, R3, q⟩
        | ct E3 => exact fun ρ3 μ3 R3 => ⟨E3, R3, q⟩
        | bk E3 => exact fun ρ3 μ3 R3 => q ρ3 μ3 R3
        | rt v => exact q
    · obtain ⟨E', R', q⟩ := hP
      dsimp only at q
      rw [List.length_map, List.drop_length] at q
      exact q ρ' μ' R')) hs
theorem ss_setLc {own : List (Str × Nat)} (t : Tgt) (i : Nat) {n : Str} {py spos : Pos} (hc : X.calm = true) (hN : X.N.Nodup) (hy : X.N[i]? = some n) (hyl : X.env.scope.names.lookup n = some .local)
    (hsw : swapsWith (.ListComp elt [⟨tg, iter, [], 0⟩] scope pos) (some (.Name n py)) spos.line X.env = pure true) (ok : BlkOk X.N X.env.scope scope own) (hs : ∀ i ∈ t.slots, i ∈ own.map (·.2))
    (hg : ∀ s H C cl fp, PG (Blk X scope s H C cl fp) tg (TgtG X.K t)) (hi : SI b X tg iter fi) (he : ∀ s H C cl fp, SE b (Blk X scope s H C cl fp) elt fx)
    (hf : ∀ x, foldedSetIterable iter X.env x = pure x := by intro _; rfl) : SS b X (.Assign [.Name n py] (.ListComp elt [⟨tg, iter, [], 0⟩] scope pos) spos) (sSet i (dLc t (own.map (·.2)) fi fx)) := .mk fun μ0 E ρ μ D R h =>
  ds_setLc t i hc hN hy hyl hsw ok hs hg (hi.run μ0 E ρ μ _ R ((all_bind.mp (all_bind.mp h)).imp fun xs q μ1 s1 => by
    obtain ⟨hz, q⟩ := few_le (all_bind.mp q)
    exact lc_sound R s1 he hz ((all_bind.mp q).imp fun ys q μ' s => ⟨ys, rfl, q _ μ' ((R.step s).setD i _)⟩))) hf
theorem ss_setLf {own : List (Str × Nat)} (t : Tgt) (i : Nat) {n : Str} {py spos : Pos} (hc : X.calm = true) (hN : X.N.Nodup) (hy : X.N[i]? = some n) (hyl : X.env.scope.names.lookup n = some .local)
    (hsw : swapsWith (.ListComp elt [⟨tg, iter, [c], 0⟩] scope pos) (some (.Name n py)) spos.line X.env = pure true) (ok : BlkOk X.N X.env.scope scope own) (hs : ∀ i ∈ t.slots, i ∈ own.map (·.2))
    (hg : ∀ s H C cl fp, PG (Blk X scope s H C cl fp) tg (TgtG X.K t)) (hi : SI b X tg iter fi) (hcn : ∀ s H C cl fp, ST b (Blk X scope s H C cl fp) c fb) (he : ∀ s H C cl fp, SE b (Blk X scope s H C cl fp) elt fx)
    (hf : ∀ x, foldedSetIterable iter X.env x = pure x := by intro _; rfl) : SS b X (.Assign [.Name n py] (.ListComp elt [⟨tg, iter, [c], 0⟩] scope pos) spos) (sSet i (dLf t (own.map (·.2)) fi fb fx)) := .mk fun μ0 E ρ μ D R h =>
  ds_setLc t i hc hN hy hyl hsw ok hs hg (hi.run μ0 E ρ μ _ R ((all_bind.mp (all_bind.mp h)).imp fun xs q μ1 s1 => by
    obtain ⟨hz, q⟩ := few_le (all_bind.mp q)
    exact lf_sound R s1 hcn he hz ((all_bind.mp q).imp fun ys q μ' s => ⟨ys, rfl, q _ μ' ((R.step s).setD i _)⟩))) hf
structure SO (b : Addr) (X : Cx) (e : Expr) (f : DenE) : Prop where
  run : ∀ μ0 E ρ μ Φ, Rel b μ0 E ρ μ → (f E).All (fun d => ∃ ds, d = .list ds ∧ ∀ μ' p, Bs b μ μ' → μ' p = none → Φ (.own p) (μ'.put p (ds.map .im))) → DE X e ρ μ Φ
theorem so_lst (h : SD b X es fs) : SO b X (.List es pos) (dL fs) := .mk fun μ0 E ρ μ Φ R q =>
  de_lstO (h.run μ0 E ρ μ _ R ((all_bind.mp q).imp fun ds q μ1 s1 => by
    obtain ⟨hz, xs, e, q⟩ := small_le (all_bind.mp q)
    cases e
    exact ⟨by rw [List.length_map]; exact hz, fun p hp => q μ1 p s1 hp⟩))
theorem ss_own (i : Nat) {n : Str} {p' : Pos} (hN : X.N.Nodup) (hi : X.N[i]? = some n) (hl : Loc X.env.scope n) (hx : SO b X x fx) (hs : swapsWith x (some (.Name n p')) pos.line X.env = pure false := by rfl)
    (hf : X.fn n = true ∨ X.env.scope.names.lookup n = some .local := by first | exact .inl rfl | exact .inr rfl | assumption) : SS b X (.Assign [.Name n p'] x pos) (sOwn i fx) := .mk fun μ0 E ρ μ D R q =>
  ds_set i hN hi hl (hx.run μ0 E ρ μ _ R ((all_bind.mp q).imp fun d q => by
    cases d with
    | list xs => exact ⟨xs, rfl, fun μ' p s hp => q _ _ ((R.step s).setO i hp)⟩
    | _ => exact q.elim)) hs hf
theorem ss_app (i : Nat) {n : Str} {np apos cpos : Pos} (hN : X.N[i]? = some n) (hv : Vis X.env.scope n) (hx : SE b X x fx) (hd : (n == ("__debug__" : Str)) = false := by decide) (hcd : (n == ("__classdict__" : Str)) = false := by decide)
    (hbase : attributeBase (.Name n np) "append" X.env (eval (.Name n np) X.env) = eval (.Name n np) X.env := by rfl)
    (hfew : ((backTo cpos (starEach [x] X.env)).all (fun x => !x.1) && (backToKw cpos (keywordEach [] X.env)).all (fun x => x.1.isSome) && decide ([x].length + ([] : List Keyword).length + (if ([] : List Keyword).isEmpty then 0 else 1) < 30)) = true := by rfl)
    (hline : (apos.endLine == cpos.line) = true := by rfl) (hst : starEach [x] X.env = (false, eval x X.env) :: starEach [] X.env := by rfl) (hplain : (backTo cpos (starEach [] X.env)).any (·.1) = false := by rfl)
    (hs : swapsWith (.Call (.Attribute (.Name n np) "append" apos) [x] [] cpos) none pos.line X.env = pure false := by rfl) : SS b X (.Expr (.Call (.Attribute (.Name n np) "append" apos) [x] [] cpos) pos) (sApp i fx) := .mk fun μ0 E ρ μ D R q => by
  unfold sApp at q
  split at q
  · rename_i l hl
    obtain ⟨o, h1, p, rfl, nb, h0, hp⟩ := R.get i _ hl
    refine ds_expr (de_append (de_var i hN hv h1 ⟨p, _, rfl, hp, hx.run μ0 E ρ μ _ R ((all_bind.mp q).imp fun y q μ2 s2 => ?_)⟩ hd hcd) hbase hfew hline hst hplain) hs
    obtain ⟨hz, q⟩ := small_le (all_bind.mp q)
    refine ⟨_, s2.old p _ nb hp, by rw [List.length_map]; omega, ?_⟩
    have := q ρ _ ((R.step s2).chg (es := l ++ [y]) hl h1)
    rw [List.map_append] at this
    exact this
  · exact q.elim
end
end Nx
namespace Nx
open PySem PySem.Spec PyProof.Rows L2
open Tree
instance {i j : Int} : Decidable (CMul i j) := by unfold CMul; infer_instance
instance {i j : Int} : Decidable (CDiv i j) := by unfold CDiv; infer_instance
instance {i j : Int} : Decidable (CPow i j) := by unfold CPow; infer_instance
def pAdd : PyData → PyData → Option PyData
  | .int i, .int j => some (.int (i + j))
  | .list xs, .list ys => if xs.length + ys.length ≤ 100000 then some (.list (xs ++ ys)) else none
  | .tuple xs, .tuple ys => if xs.length + ys.length ≤ 100000 then some (.tuple (xs ++ ys)) else none
  | .str x, .str y => if x.length + y.length ≤ 100000 then some (.str (x ++ y)) else none
  | _, _ => none
def pSub : PyData → PyData → Option PyData
  | .int i, .int j => some (.int (i - j))
  | _, _ => none
def pMod : PyData → PyData → Option PyData
  | .int i, .int j => if 0 < j then some (.int (i % j)) else none
  | _, _ => none
def pNeg : PyData → Option PyData
  | .int i => some (.int (-i))
  | _ => none
section
variable {b : Addr} {X : Cx} {e x y z : Expr} {es : List Expr} {f fx fy fz : DenE} {fs fi : DenL} {fb : DenB} {pos p : Pos}
theorem od_catT {xs ys : List PyData} {μ : Mu} {Φ : OV → Mu → Prop} (hz : xs.length + ys.length ≤ 100000) (h : Φ (.im (.tuple (xs ++ ys))) μ) : OpD (rCatA X.K) (.im (.tuple xs)) (.im (.tuple ys)) μ Φ := fun G H vx vy m rx ry Q f => by
  cases rx with
  | tup h1 w1 =>
    cases ry with
    | tup h2 w2 =>
      refine ⟨_, _, _, _, rfl, rfl, .inl (.inl (m.ex _ _ h1)), .inl (.inl (m.ex _ _ h2)), by rw [w1.length, w2.length]; exact Nat.le_trans hz (by decide), fun e => ?_, fun _ e => ?_, fun _ _ p hp => ?_⟩
      · subst e
        cases w1
        exact f _ _ _ _ _ h (Ex.refl G) m (Dv.tup h2 w2)
      · subst e
        cases w2
        rw [List.append_nil] at h
        exact f _ _ _ _ _ h (Ex.refl G) m (Dv.tup h1 w1)
      · have n := m.ex.free hp
        exact f _ _ _ _ _ h (Ex.new n) (m.lay hp) (Dv.tup upd_same ((w1.append w2).mono (Ex.new n)))
theorem se_add (hx : SE b X x fx) (hy : SE b X y fy) : SE b X (.BinOp x .Add y pos) (d2 pAdd fx fy) := by
  refine se_op (((op_add.or op_cat).or op_add_str).or op_catA) (fun d d' v μ Φ hg q => ?_) hx hy
  unfold pAdd at hg
  split at hg
  · cases hg
    exact .or (.inl (.or (.inl (.or (.inl (od_I0 q))))))
  · split at hg
    · rename_i hz
      cases hg
      exact .or (.inl (.or (.inl (.or (.inr (od_cat hz q))))))
    · cases hg
  · split at hg
    · rename_i hz
      cases hg
      exact .or (.inr (od_catT hz q))
    · cases hg
  · split at hg
    · rename_i hz
      cases hg
      refine .or (.inl (.or (.inr fun G H vx vy m rx ry Q f => ?_)))
      cases rx
      cases ry
      exact ⟨_, _, rfl, rfl, Nat.le_trans hz (by decide), f _ _ _ _ _ q (Ex.refl G) m (Dv.str _)⟩
    · cases hg
  · cases hg
theorem se_sub (hx : SE b X x fx) (hy : SE b X y fy) : SE b X (.BinOp x .Sub y pos) (d2 pSub fx fy) := by
  refine se_op op_sub (fun d d' v μ Φ hg q => ?_) hx hy
  unfold pSub at hg
  split at hg
  · cases hg
    exact od_I0 q
  · cases hg
theorem se_mod (hx : SE b X x fx) (hy : SE b X y fy) : SE b X (.BinOp x .Mod y pos) (d2 pMod fx fy) := by
  refine se_op op_mod (fun d d' v μ Φ hg q => ?_) hx hy
  unfold pMod at hg
  split at hg
  · split at hg
    · rename_i hj
      cases hg
      exact od_I hj q
    · cases hg
  · cases hg
theorem se_neg (hx : SE b X x fx) : SE b X (.UnaryOp .USub x pos) (d1 pNeg fx) := se_1 hx fun ρ μ Φ h => de_neg (h.imp fun u μ1 ⟨d, r, e1, hr, q⟩ => by
  subst e1
  cases d <;> cases hr
  exact ⟨_, rfl, q⟩)
def cI (g : Int → Int → Bool) : PyData → PyData → Option Bool
  | .int i, .int j => some (g i j)
  | _, _ => none
theorem okI {g : Int → Int → Bool} : OkCmp (rI0 fun i j => .bl (g i j)) (cI g) := fun d d' v μ Φ hg q => by
  unfold cI at hg
  split at hg
  · cases hg
    exact od_B0 q
  · cases hg
def pEq (d e : PyData) : Option Bool := match d, e with
  | .int i, .int j => some (decide (i = j))
  | .str i, .str j => some (decide (i = j))
  | d, e => if SeqAt.shaped d && SeqAt.shaped e then some (PyData.eqv d e) else none
def pNe (d e : PyData) : Option Bool := match pEq d e with
  | some k => some !k
  | none => none
theorem ok_eq : OkCmp (fun x y H Q => (rI0 (fun i j => .bl (decide (i = j))) x y H Q ∨ rEqD X.K x y H Q) ∨ rEq x y H Q) pEq := fun d d' v μ Φ hg q => by
  unfold pEq at hg
  split at hg
  · cases hg
    exact .or (.inl (.or (.inl (od_B0 q))))
  · cases hg
    exact .or (.inr (od_eqS q))
  · split at hg
    · rename_i hs
      cases hg
      obtain ⟨h1, h2⟩ := Bool.and_eq_true_iff.mp hs
      exact .or (.inl (.or (.inr (od_eq (.im _) (.im _) h1 h2 q))))
    · cases hg
theorem ok_ne : OkCmp (fun x y H Q => (rI0 (fun i j => .bl (!decide (i = j))) x y H Q ∨ rNeD X.K x y H Q) ∨ rNe x y H Q) pNe := fun d d' v μ Φ hg q => by
  unfold pNe at hg
  split at hg
  · rename_i k hk
    cases hg
    unfold pEq at hk
    split at hk
    · cases hk
      exact .or (.inl (.or (.inl (od_B0 q))))
    · cases hk
      exact .or (.inr (od_neS q))
    · split at hk
      · rename_i hs
        cases hk
        obtain ⟨h1, h2⟩ := Bool.and_eq_true_iff.mp hs
        exact .or (.inl (.or (.inr (od_ne (.im _) (.im _) h1 h2 q))))
      · cases hk
  · cases hg
def asI : List PyData → Option (List Int)
  | [] => some []
  | .int i :: ds => match asI ds with
    | some is => some (i :: is)
    | none => none
  | _ :: _ => none
theorem asI_some : ∀ {ds : List PyData} {is : List Int}, asI ds = some is → ds = iL is
  | [], _, h => by cases h; rfl
  | .int i :: ds, is, h => by
    rw [asI] at h
    split at h
    · rename_i js hj
      cases h
      rw [asI_some hj]
      rfl
    · cases h
  | .none :: _, _, h => by cases h
  | .bool _ :: _, _, h => by cases h
  | .str _ :: _, _, h => by cases h
  | .list _ :: _, _, h => by cases h
  | .tuple _ :: _, _, h => by cases h
  | .dict _ :: _, _, h => by cases h
theorem asI_iL : ∀ is : List Int, asI (iL is) = some is
  | [] => rfl
  | i :: is => by
    show (match asI (iL is) with | some is => some (i :: is) | none => none) = _
    rw [asI_iL is]
def memI (n : Int) : List Int → Bool
  | [] => false
  | m :: ms => decide (m = n) || memI n ms
theorem memI_eq (n : Int) : ∀ ms, memI n ms = decide (n ∈ ms)
  | [] => rfl
  | m :: ms => by
    rw [memI, memI_eq n ms]
    by_cases h : n = m
    · subst h
      simp
    · have h' : ¬ m = n := fun e => h e.symm
      simp [h, h']
def pIn : PyData → PyData → Option Bool
  | .int n, .list ds => match asI ds with | some ns => some (memI n ns) | none => none
  | .int n, .tuple ds => match asI ds with | some ns => some (memI n ns) | none => none
  | _, _ => none
def pNin (d e : PyData) : Option Bool := match pIn d e with
  | some k => some !k
  | none => none
theorem pIn_ok {d e : PyData} {k : Bool} (h : pIn d e = some k) : ∃ (n : Int) (ns : List Int), d = .int n ∧ (e = .list (iL ns) ∨ e = .tuple (iL ns)) ∧ k = decide (n ∈ ns) := by
  unfold pIn at h
  split at h
  · split at h
    · rename_i ns hs
      cases h
      exact ⟨_, ns, rfl, .inl (by rw [asI_some hs]), memI_eq _ _⟩
    · cases h
  · split at h
    · rename_i ns hs
      cases h
      exact ⟨_, ns, rfl, .inr (by rw [asI_some hs]), memI_eq _ _⟩
    · cases h
  · cases h
theorem ok_in : OkCmp (rIn X.K false) pIn := fun d d' v μ Φ hg q => by
  obtain ⟨n, ns, rfl, h, rfl⟩ := pIn_ok hg
  exact od_in (neg := false) ⟨n, ns, rfl, h.imp (fun e => by rw [e]; exact .im _) (fun e => by rw [e]; exact .im _), q⟩
theorem ok_nin : OkCmp (rIn X.K true) pNin := fun d d' v μ Φ hg q => by
  unfold pNin at hg
  split at hg
  · rename_i k hk
    cases hg
    obtain ⟨n, ns, rfl, h, rfl⟩ := pIn_ok hk
    exact od_in (neg := true) ⟨n, ns, rfl, h.imp (fun e => by rw [e]; exact .im _) (fun e => by rw [e]; exact .im _), q⟩
  · cases hg
def pIsN (d : PyData) : Option PyData := some (.bool (match d with | .none => true | _ => false))
def pNotN (d : PyData) : Option PyData := some (.bool (match d with | .none => false | _ => true))
def t1 (g : PyData → Option Bool) (f : DenE) : DenB := fun E => (f E).bind fun x => liftO (g x)
def qIsN (d : PyData) : Option Bool := some (match d with | .none => true | _ => false)
def qNotN (d : PyData) : Option Bool := some (match d with | .none => false | _ => true)
end
end Nx
namespace Nx
open PySem PySem.Spec PyProof.Rows L2
open Tree
def pLen (d : PyData) : Option PyData := match items d with | some xs => some (.int (xs.length : Nat)) | none => none
def pList (d : PyData) : Option PyData := match items d with | some xs => some (.list xs) | none => none
def pTup (d : PyData) : Option PyData := match items d with | some xs => some (.tuple xs) | none => none
def ins (i : Int) : List Int → List Int
  | [] => [i]
  | j :: js => if i ≤ j then i :: j :: js else j :: ins i js
def isrt : List Int → List Int
  | [] => []
  | i :: is => ins i (isrt is)
theorem ins_perm (i : Int) : ∀ js : List Int, (ins i js).Perm (i :: js)
  | [] => List.Perm.refl _
  | j :: js => by
    rw [ins]
    split
    · exact List.Perm.refl _
    · exact ((ins_perm i js).cons j).trans (List.Perm.swap i j js)
theorem ins_pw (i : Int) : ∀ {js : List Int}, js.Pairwise (· ≤ ·) → (ins i js).Pairwise (· ≤ ·)
  | [], _ => by simp [ins]
  | j :: js, h => by
    obtain ⟨h1, h2⟩ := List.pairwise_cons.mp h
    rw [ins]
    split
    · rename_i hij
      exact List.pairwise_cons.mpr ⟨fun x hx => by
        rcases List.mem_cons.mp hx with rfl | hx
        · exact hij
        · exact Int.le_trans hij (h1 x hx), h⟩
    · rename_i hij
      refine List.pairwise_cons.mpr ⟨fun x hx => ?_, ins_pw i h2⟩
      rcases List.mem_cons.mp ((ins_perm i js).mem_iff.mp hx) with rfl | hx
      · omega
      · exact h1 x hx
theorem isrt_perm : ∀ is : List Int, (isrt is).Perm is
  | [] => List.Perm.refl _
  | i :: is => (ins_perm i (isrt is)).trans ((isrt_perm is).cons i)
theorem isrt_pw : ∀ is : List Int, (isrt is).Pairwise (· ≤ ·)
  | [] => .nil
  | i :: is => ins_pw i (isrt_pw is)
theorem isrt_eq (is : List Int) : isrt is = srt is := srt_eq (isrt_perm is) (isrt_pw is)
def onI (g : List Int → Option PyData) : PyData → Option PyData
  | .list ds => match asI ds with | some ns => g ns | none => none
  | _ => none
theorem onI_some {g : List Int → Option PyData} {d r : PyData} (h : onI g d = some r) : ∃ ns, d = .list (iL ns) ∧ g ns = some r := by
  unfold onI at h
  split at h
  · split at h
    · rename_i ns hs
      exact ⟨ns, by rw [asI_some hs], h⟩
    · cases h
  · cases h
def pSrt : PyData → Option PyData := onI fun ns => some (.list (iL (isrt ns)))
def maxI : Int → List Int → Int
  | m, [] => m
  | m, i :: is => maxI (if m < i then i else m) is
theorem maxI_mem : ∀ (is : List Int) (m : Int), maxI m is ∈ m :: is
  | [], m => List.mem_singleton.mpr rfl
  | i :: is, m => by
    rw [maxI]
    have := maxI_mem is (if m < i then i else m)
    rcases List.mem_cons.mp this with h | h
    · rw [h]
      split <;> simp
    · exact List.mem_cons_of_mem _ (List.mem_cons_of_mem _ h)
theorem maxI_ge : ∀ (is : List Int) (m : Int), ∀ y ∈ m :: is, y ≤ maxI m is
  | [], m, y, h => by
    rw [List.mem_singleton.mp h]
    exact Int.le_refl _
  | i :: is, m, y, h => by
    rw [maxI]
    have hm := maxI_ge is (if m < i then i else m) _ (List.mem_cons_self ..)
    rcases List.mem_cons.mp h with rfl | h
    · split at hm <;> split <;> omega
    · rcases List.mem_cons.mp h with rfl | h
      · split at hm <;> split <;> omega
      · exact maxI_ge is _ y (List.mem_cons_of_mem _ h)
def pMax : PyData → Option PyData := onI fun ns => match ns with | [] => none | i :: is => some (.int (maxI i is))
def asBs : List PyData → Option (List Bool)
  | [] => some []
  | .bool i :: ds => match asBs ds with
    | some is => some (i :: is)
    | none => none
  | _ :: _ => none
theorem asBs_some : ∀ {ds : List PyData} {is : List Bool}, asBs ds = some is → ds = is.map .bool
  | [], _, h => by cases h; rfl
  | .bool i :: ds, is, h => by
    rw [asBs] at h
    split at h
    · rename_i js hj
      cases h
      rw [asBs_some hj]
      rfl
    · cases h
  | .none :: _, _, h => by cases h
  | .int _ :: _, _, h => by cases h
  | .str _ :: _, _, h => by cases h
  | .list _ :: _, _, h => by cases h
  | .tuple _ :: _, _, h => by cases h
  | .dict _ :: _, _, h => by cases h
theorem asBs_map : ∀ is : List Bool, asBs (is.map .bool) = some is
  | [] => rfl
  | i :: is => by
    show (match asBs (is.map .bool) with | some is => some (i :: is) | none => none) = _
    rw [asBs_map is]
def onB (g : List Bool → Bool) : PyData → Option PyData
  | .list ds => match asBs ds with | some ns => some (.bool (g ns)) | none => none
  | _ => none
theorem onB_some {g : List Bool → Bool} {d r : PyData} (h : onB g d = some r) : ∃ ns, d = .list (ns.map .bool) ∧ .bool (g ns) = r := by
  unfold onB at h
  split at h
  · split at h
    · rename_i ns hs
      cases h
      exact ⟨ns, by rw [asBs_some hs], rfl⟩
    · cases h
  · cases h
def pAll : PyData → Option PyData := onB fun bs => bs.all id
def pAny : PyData → Option PyData := onB fun bs => bs.any id
def pIx (d i : PyData) : Option PyData := match items d, i with | some xs, .int i => atI xs i | _, _ => none
section
variable {b : Addr} {X : Cx} {e x y z : Expr} {es : List Expr} {f fx fy fz : DenE} {fs fi : DenL} {fb : DenB} {pos p p2 pos2 : Pos}
theorem items_sq {μ : Mu} {d : PyData} {xs : List PyData} (h : items d = some xs) : SqD μ (.im d) (xs.map .im) := (items_seq h).sq
theorem se_len (B : Bt X.mg) (hg : Gl X "len") (hx : SE b X x fx) (he : starEach [x] X.env = (false, eval x X.env) :: starEach [] X.env := by rfl) (hpl : (backTo pos (starEach [] X.env)).any (·.1) = false := by rfl) : SE b X (.Call (.Name "len" p) [x] [] pos) (d1 pLen fx) := se_1 hx fun ρ μ Φ h => de_len B hg (h.imp fun u μ1 ⟨d, r, e1, hr, q⟩ => by
  subst e1
  unfold pLen at hr
  split at hr
  · rename_i xs hxs
    cases hr
    exact ⟨_, items_sq hxs, by rw [List.length_map]; exact q⟩
  · cases hr) he hpl
theorem se_list (B : Bt X.mg) (hg : Gl X "list") (hx : SE b X x fx) (he : starEach [x] X.env = (false, eval x X.env) :: starEach [] X.env := by rfl) (hpl : (backTo pos (starEach [] X.env)).any (·.1) = false := by rfl) : SE b X (.Call (.Name "list" p) [x] [] pos) (d1 pList fx) := se_1 hx fun ρ μ Φ h => de_list B hg (h.imp fun u μ1 ⟨d, r, e1, hr, q⟩ => by
  subst e1
  unfold pList at hr
  split at hr
  · rename_i xs hxs
    cases hr
    exact ⟨_, items_sq hxs, q⟩
  · cases hr) he hpl
theorem se_tuple (B : Bt X.mg) (hg : Gl X "tuple") (hx : SE b X x fx) (he : starEach [x] X.env = (false, eval x X.env) :: starEach [] X.env := by rfl) (hpl : (backTo pos (starEach [] X.env)).any (·.1) = false := by rfl) : SE b X (.Call (.Name "tuple" p) [x] [] pos) (d1 pTup fx) := se_1 hx fun ρ μ Φ h => de_tuple B hg (h.imp fun u μ1 ⟨d, r, e1, hr, q⟩ => by
  subst e1
  unfold pTup at hr
  split at hr
  · rename_i xs hxs
    cases hr
    exact ⟨_, items_sq hxs, q⟩
  · cases hr) he hpl
theorem se_sorted (B : Bt X.mg) (hg : Gl X "sorted") (hx : SE b X x fx) (he : starEach [x] X.env = (false, eval x X.env) :: starEach [] X.env := by rfl) (hpl : (backTo pos (starEach [] X.env)).any (·.1) = false := by rfl) : SE b X (.Call (.Name "sorted" p) [x] [] pos) (d1 pSrt fx) := se_1 hx fun ρ μ Φ h => de_sorted B hg (h.imp fun u μ1 ⟨d, r, e1, hr, q⟩ => by
  subst e1
  obtain ⟨ns, rfl, h2⟩ := onI_some hr
  cases h2
  refine ⟨ns, .im _, ?_⟩
  rw [← isrt_eq]
  exact q) he hpl
theorem se_max (B : Bt X.mg) (hc : X.calm = true) (hg : Gl X "max") (hx : SE b X x fx) (he : starEach [x] X.env = (false, eval x X.env) :: starEach [] X.env := by rfl) (hpl : (backTo pos (starEach [] X.env)).any (·.1) = false := by rfl) : SE b X (.Call (.Name "max" p) [x] [] pos) (d1 pMax fx) := se_1 hx fun ρ μ Φ h => de_max B hc hg (h.imp fun u μ1 ⟨d, r, e1, hr, q⟩ => by
  subst e1
  obtain ⟨ns, rfl, h2⟩ := onI_some hr
  cases ns with
  | nil => cases h2
  | cons i is =>
    cases h2
    refine ⟨i :: is, .im _, by simp, fun k hk hm => ?_⟩
    have e : k = maxI i is := Int.le_antisymm (maxI_ge is i k hk) (hm _ (maxI_mem is i))
    rw [e]
    exact q) he hpl
theorem se_all (B : Bt X.mg) (hc : X.calm = true) (hg : Gl X "all") (hx : SE b X x fx) (he : starEach [x] X.env = (false, eval x X.env) :: starEach [] X.env := by rfl) (hpl : (backTo pos (starEach [] X.env)).any (·.1) = false := by rfl) : SE b X (.Call (.Name "all" p) [x] [] pos) (d1 pAll fx) := se_1 hx fun ρ μ Φ h => de_all B hc hg (h.imp fun u μ1 ⟨d, r, e1, hr, q⟩ => by
  subst e1
  obtain ⟨ns, rfl, rfl⟩ := onB_some hr
  exact ⟨ns, .im _, q⟩) he hpl
theorem se_any (B : Bt X.mg) (hc : X.calm = true) (hg : Gl X "any") (hx : SE b X x fx) (he : starEach [x] X.env = (false, eval x X.env) :: starEach [] X.env := by rfl) (hpl : (backTo pos (starEach [] X.env)).any (·.1) = false := by rfl) : SE b X (.Call (.Name "any" p) [x] [] pos) (d1 pAny fx) := se_1 hx fun ρ μ Φ h => de_any B hc hg (h.imp fun u μ1 ⟨d, r, e1, hr, q⟩ => by
  subst e1
  obtain ⟨ns, rfl, rfl⟩ := onB_some hr
  exact ⟨ns, .im _, q⟩) he hpl
theorem se_ix (hs : PlainIx y) (hx : SE b X x fx) (hy : SE b X y fy) : SE b X (.Subscript x y pos) (d2 pIx fx fy) := se_2 hx hy fun ρ μ Φ h => de_ix hs (h.imp fun u μ1 h1 => h1.imp fun v μ2 ⟨d, d', r, e1, e2, hr, q⟩ => by
  subst e1 e2
  unfold pIx at hr
  cases hxs : items d with
  | none =>
    rw [hxs] at hr
    cases hr
  | some xs =>
    rw [hxs] at hr
    cases d' with
    | int i => exact ⟨_, i, _, items_sq hxs, rfl, atI_im hr, q⟩
    | _ => cases hr)
def oN : Env → Tree (Option Int) := fun _ => .ret none
def oS (f : DenE) : Env → Tree (Option Int) := fun E => (f E).bind fun x => match x with | .int i => .ret (some i) | _ => .fail
structure SOp (b : Addr) (X : Cx) (e : Option Expr) (f : Env → Tree (Option Int)) : Prop where
  run : ∀ μ0 E ρ μ Φ, Rel b μ0 E ρ μ → (f E).All (fun d => ∀ μ', Bs b μ μ' → Φ d μ') → DO X e ρ μ Φ
theorem so_n : SOp b X none oN := .mk fun μ0 E ρ μ Φ R h => h μ (Bs.refl b μ)
theorem so_s (hx : SE b X x fx) : SOp b X (some x) (oS fx) := .mk fun μ0 E ρ μ Φ R h => hx.run μ0 E ρ μ _ R ((all_bind.mp h).imp fun d q μ1 s1 => by
  split at q
  · exact ⟨_, rfl, q μ1 s1⟩
  · exact q.elim)
def pCut (d : PyData) (lo hi : Option Int) : Option PyData := match d with
  | .list xs => some (.list (cutD xs lo hi))
  | .tuple xs => some (.tuple (cutD xs lo hi))
  | _ => none
def dSl (f : DenE) (lo hi : Env → Tree (Option Int)) : DenE := fun E => (f E).bind fun x => (lo E).bind fun l => (hi E).bind fun u => liftO (pCut x l u)
variable {lo hi : Option Expr} {fl fu : Env → Tree (Option Int)}
theorem se_sl (hx : SE b X x fx) (hl : SOp b X lo fl) (hu : SOp b X hi fu) : SE b X (.Subscript x (.Slice lo hi none p2) pos) (dSl fx fl fu) := .mk fun μ0 E ρ μ Φ R h => by
  have hD : DE X x ρ μ fun u μ1 => DO X lo ρ μ1 fun l μ2 => DO X hi ρ μ2 fun v μ3 => ∃ d r, u = .im d ∧ pCut d l v = some r ∧ Φ (.im r) μ3 :=
    hx.run μ0 E ρ μ _ R ((all_bind.mp h).imp fun d q μ1 s1 => hl.run μ0 E ρ μ1 (fun l μ2 => DO X hi ρ μ2 fun v μ3 => ∃ d' r, OV.im d = .im d' ∧ pCut d' l v = some r ∧ Φ (.im r) μ3) (R.step s1) ((all_bind.mp q).imp fun l q μ2 s2 => hu.run μ0 E ρ μ2 (fun v μ3 => ∃ d' r, OV.im d = .im d' ∧ pCut d' l v = some r ∧ Φ (.im r) μ3) ((R.step s1).step s2) ((all_bind.mp q).imp fun u q μ3 s3 => by
      obtain ⟨r, hr, q⟩ := lift_all q
      exact ⟨d, r, rfl, hr, q μ3 ((s1.trans s2).trans s3)⟩)))
  intro G H σ m v Q f
  refine WE.of (pe_slice (SlR.or sl_list sl_tupA) pwe pwo pwo) (hD G H σ m v _ fun vx x μ1 G1 H1 q1 e1 m1 r1 => q1.run m1 (v.mono e1) fun l μ2 G2 H2 q2 e2 m2 => q2.run m2 (v.mono (e1.trans e2)) fun u μ3 G3 H3 q3 e3 m3 => ?_)
  obtain ⟨d, r, rfl, hr, q⟩ := q3
  have r3 : Dv G3 vx d := r1.mono (e2.trans e3)
  cases r3 with
  | @lst a xs ds h1 w =>
    cases hr
    refine .inl ⟨_, _, rfl, .inl (.inl (m3.ex _ _ h1)), fun p hp => ?_⟩
    have n := m3.ex.free hp
    have w2 := (ROs.of_ims w).cut l u
    rw [cutO_im] at w2
    exact f _ _ _ _ _ q (((e1.trans e2).trans e3).trans (Ex.new n)) (m3.lay hp) (Dv.lst upd_same (w2.ims.mono (Ex.new n)))
  | @tup a xs ds h1 w =>
    cases hr
    have wl := w.length
    refine .inr ⟨a, xs, rfl, .inl (.inl (m3.ex _ _ h1)), fun ⟨z1, z2⟩ => ?_, fun _ p hp => ?_⟩
    · have ec : cutD ds l u = ds := by
        unfold cutD
        rw [wl] at z1 z2
        rw [z1, z2, List.drop_zero, Nat.sub_zero, List.take_length]
      rw [ec] at q
      exact f _ _ _ _ _ q ((e1.trans e2).trans e3) m3 (Dv.tup h1 w)
    · have n := m3.ex.free hp
      have w2 := (ROs.of_ims w).cut l u
      rw [cutO_im] at w2
      exact f _ _ _ _ _ q (((e1.trans e2).trans e3).trans (Ex.new n)) (m3.lay hp) (Dv.tup upd_same (w2.ims.mono (Ex.new n)))
  | _ => cases hr
def pRev : PyData → Option PyData
  | .list xs => some (.list xs.reverse)
  | _ => none
theorem se_rev {k : Nat} {p1 p3 p4 : Pos} (hx : SE b X x fx) : SE b X (.Subscript x (.Slice none none (some (.UnaryOp .USub (.Constant (.int 1) k p1) p3)) p4) pos) (d1 pRev fx) := se_1 hx fun ρ μ Φ h => de_rev (h.imp fun u μ1 ⟨d, r, e1, hr, q⟩ => by
  subst e1
  cases d <;> cases hr
  exact ⟨_, rfl, q⟩)
end
end Nx
namespace Nx
open PySem PySem.Spec PyProof.Rows L2
open Tree
section
variable {b : Addr} {X : Cx} {e x y z tg iter elt c : Expr} {es : List Expr} {f fx fy fz : DenE} {fs fi : DenL} {fb : DenB} {pos p : Pos} {st : Stmt} {ss : List Stmt}
def sParO (i j : Nat) (fx fy : DenE) : DenS := fun E => (fx E).bind fun d => (fy E).bind fun d' => match d' with | .list xs => .ret (.nx ((E.set i (some (.d d))).set j (some (.own xs)))) | _ => .fail
theorem ss_parO (i j : Nat) {n m : Str} {px py pt : Pos} {kt k2 pt2} (hc : X.calm = true) (hN : X.N.Nodup) (hi : X.N[i]? = some n) (hj : X.N[j]? = some m) (hij : i ≠ j)
    (hx : X.env.scope.names.lookup n = some .local) (hy : X.env.scope.names.lookup m = some .local) (hw : swappedStores [.Tuple [.Name n px, .Name m py] kt pt] (.Tuple [x, y] k2 pt2) X.env = pure (some [n, m]))
    (h1 : SE b X x fx) (h2 : SO b X y fy) (e1 : starEach [x, y] X.env = (false, eval x X.env) :: starEach [y] X.env := by rfl) (e2 : starEach [y] X.env = (false, eval y X.env) :: starEach [] X.env := by rfl)
    (hs : swapsWithSole [.Tuple [.Name n px, .Name m py] kt pt] (.Tuple [x, y] k2 pt2) pos.line X.env = pure false := by rfl) : SS b X (.Assign [.Tuple [.Name n px, .Name m py] kt pt] (.Tuple [x, y] k2 pt2) pos) (sParO i j fx fy) := .mk fun μ0 E ρ μ D R q =>
  ds_par i j hc hN hi hj hij hx hy hw (da_cons (h1.run μ0 E ρ μ _ R ((all_bind.mp q).imp fun d q μ1 s1 => da_cons (h2.run μ0 E ρ μ1 _ (R.step s1) ((all_bind.mp q).imp fun d' q => by
    cases d' with
    | list xs => exact ⟨xs, rfl, fun μ2 p s2 hp => da_nil ⟨_, _, rfl, q _ _ ((((R.step s1).step s2).setD i d).setO j hp)⟩⟩
    | _ => exact q.elim)) e2)) e1) hs
end
theorem de_fdivW {X : Cx} {a b : Expr} {ρ : Rho} {μ : Mu} {Φ : OV → Mu → Prop} {pos : Pos} (h : DE X a ρ μ fun x μ1 => DE X b ρ μ1 fun y μ2 => ∃ i j, x = .im (.int i) ∧ y = .im (.int j) ∧ CDivW i j ∧ Φ (.im (.int (i / j))) μ2) : DE X (.BinOp a .FloorDiv b pos) ρ μ Φ := by
  refine de_op op_fdivW (h.imp fun x μ1 h1 => h1.imp fun y μ2 h2 => ?_)
  obtain ⟨i, j, rfl, rfl, hj, q⟩ := h2
  exact od_I hj q
def takeF : List W → Tree PyData
  | [.bx, .d (.int n)] => if 0 < n ∧ n < 4611686018427387904 then .draw n.toNat fun r => .ret (.int (r : Int)) else .fail
  | _ => .fail
def c_take : Ct := fun os μ Φ => ∃ b n p q t, os = [.own b, .im (.int n)] ∧ μ b = some (bx p q t) ∧ 0 < n ∧ n < 4611686018427387904 ∧ ∀ r p' t', 0 ≤ r → r < n → Φ (.im (.int r)) (μ.put b (bx p' q t'))
theorem take_ok : ∀ os μ Φ, cF takeF os μ Φ → c_take os μ Φ := fun os μ Φ h => by
  obtain ⟨b, ws, rfl, ⟨p, q, t, hb⟩, h⟩ := h
  unfold takeF at h
  split at h
  · rename_i n
    split at h
    · next hn =>
      refine ⟨b, n, p, q, t, rfl, hb, hn.1, hn.2, fun r p' t' r0 r1 => ?_⟩
      have := h r.toNat (by omega) _ (Bs.set (b := b) (μ := μ) (p := p') (q := q) (t := t'))
      rw [Int.toNat_of_nonneg r0] at this
      exact this
    · exact h.elim
  · exact h.elim
mutual
def okR : PyData → Bool
  | .none => true
  | .bool _ => true
  | .int i => decide (i.natAbs < 10 ^ 60)
  | .str x => PyData.strOk x && decide ((reprText x).length ≤ 61)
  | .list ds => okRs ds
  | .tuple ds => okRs ds
  | _ => false
def okRs : List PyData → Bool
  | [] => true
  | d :: ds => okR d && okRs ds
end
mutual
def wdR : PyData → Nat
  | .list ds => wdRs ds + 3
  | .tuple ds => wdRs ds + 3
  | _ => 61
def wdRs : List PyData → Nat
  | [] => 0
  | d :: ds => wdR d + 2 + wdRs ds
end
mutual
def dpR : PyData → Nat
  | .list ds => dpRs ds + 1
  | .tuple ds => dpRs ds + 1
  | _ => 0
def dpRs : List PyData → Nat
  | [] => 0
  | d :: ds => max (dpR d) (dpRs ds)
end
mutual
theorem okR_sd : ∀ {d : PyData}, okR d = true → Sd (dpR d) (wdR d) d
  | .none, _ => Sd.none.mono (Nat.le_refl _) (by simp [wdR])
  | .bool b, _ => (Sd.bool b).mono (Nat.le_refl _) (by simp [wdR])
  | .int i, h => (Sd.int (of_decide_eq_true (by simpa only [okR] using h))).mono (Nat.le_refl _) (by simp [wdR])
  | .list ds, h => (Sd.list (okRs_sd (ds := ds) (by simpa only [okR] using h))).mono (by simp [dpR]) (by simp [wdR])
  | .tuple ds, h => (Sd.tuple (okRs_sd (ds := ds) (by simpa only [okR] using h))).mono (by simp [dpR]) (by simp [wdR])
  | .str x, h => by
    have h : (PyData.strOk x && decide ((reprText x).length ≤ 61)) = true := by simpa only [okR] using h
    have h2 := of_decide_eq_true (Bool.and_eq_true_iff.mp h).2
    exact ⟨by simp [PyData.showable], by simp [PyData.hasDict], by simp [PyData.depth, dpR], by simp only [PyData.shown, wdR]; exact h2⟩
  | .dict _, h => by simp [okR] at h
theorem okRs_sd : ∀ {ds : List PyData}, okRs ds = true → SdA (dpRs ds) (wdRs ds) ds
  | [], _ => by simpa [dpRs, wdRs] using SdA.nil
  | d :: ds, h => by
    have h : (okR d && okRs ds) = true := by simpa only [okRs] using h
    obtain ⟨h1, h2⟩ := Bool.and_eq_true_iff.mp h
    simpa only [dpRs, wdRs] using SdA.cons (okR_sd h1) (okRs_sd h2)
end
def isLT : PyData → Bool
  | .dict _ => false
  | _ => true
def ShwA (d : PyData) : Prop := Shw d ∨ d = .none ∨ (∃ b, d = .bool b) ∨ (∃ i : Int, d = .int i ∧ i.natAbs.log2 < 1920) ∨ ∃ x, d = .str x ∧ (reprText x).length ≤ 61
section
variable {X : Cx} {e : Expr} {ρ : Rho} {μ : Mu} {Φ : OV → Mu → Prop} {pos p : Pos}
theorem call_reprA (hr : Room 0 X.A) (hgd : X.A.guards = some []) : CallR X (.builtin "repr") (fun xs H Q => ∃ v d, xs = [v] ∧ Dv H v d ∧ ShwA d ∧ Q (.str d.shown) H) := by
  intro pins s σ H xs us Q I r h
  obtain ⟨v, d, rfl, hd, hs, q⟩ := h
  rcases hs with hs | rfl | ⟨b, rfl⟩ | ⟨i, rfl, hi⟩ | ⟨x, rfl, hx⟩
  · exact call_reprD hr hgd pins s σ H [v] us Q I r ⟨v, d, rfl, hd.dp, hs, q⟩
  · cases hd
    obtain ⟨u, rfl, ru⟩ := vals1 r
    cases ru
    exact PySem.P.repr_of_none ⟨.str _, H, I.tok _, ⟨_, rfl⟩, by simpa only [PyData.shown] using q⟩
  · cases hd
    obtain ⟨u, rfl, ru⟩ := vals1 r
    cases ru
    exact PySem.P.repr_of_bool ⟨.str _, H, I.tok _, ⟨_, rfl⟩, by simpa only [PyData.shown] using q⟩
  · cases hd
    obtain ⟨u, rfl, t, rfl⟩ := vals1 r
    exact PySem.P.repr_of_int hi ⟨.str _, H, I.tok _, ⟨_, rfl⟩, by simpa only [PyData.shown] using q⟩
  · cases hd
    obtain ⟨u, rfl, t, rfl⟩ := vals1 r
    exact PySem.P.repr_of_str ⟨.str _, H, I.tok _, ⟨_, rfl⟩, by simpa only [PyData.shown] using q⟩ (Nat.le_trans hx (by rw [sizeLine_eq]; omega))
theorem de_reprA {k : Nat} (B : Bt X.mg) (hr : Rm k X.A) (hg : Gl X "repr") (h : DE X e ρ μ fun o μ1 => ∃ d, DR μ1 o d ∧ ShwA d ∧ Φ (.im (.str d.shown)) μ1) (he : starEach [e] X.env = (false, eval e X.env) :: starEach [] X.env := by rfl) (hpl : (backTo pos (starEach [] X.env)).any (·.1) = false := by rfl) : DE X (.Call (.Name "repr" p) [e] [] pos) ρ μ Φ :=
  de_callB (call_reprA (hr.room.mono (Nat.zero_le _)) hr.gds) hg B.repr PyProof.Rows.boot_repr (he := he) (hpl := hpl) (da_cons (hs := he) (h.imp fun o μ1 ⟨d, hd, hs, q⟩ => da_nil fun G H vs m r Q f => by
    obtain ⟨v, rfl, r1⟩ := ro1 r
    exact ⟨v, d, rfl, DR.at m hd r1, hs, f _ _ _ _ _ q (Ex.refl G) m (Dv.str _)⟩))
end
def shwB (d : PyData) : Bool := isLT d && okR d && decide (dpR d ≤ 60) && decide (wdR d ≤ 16777216)
theorem shwB_ok {d : PyData} (h : shwB d = true) : ShwA d := by
  unfold shwB at h
  obtain ⟨h, h4⟩ := Bool.and_eq_true_iff.mp h
  obtain ⟨h, h3⟩ := Bool.and_eq_true_iff.mp h
  obtain ⟨h1, h2⟩ := Bool.and_eq_true_iff.mp h
  cases d with
  | none => exact .inr (.inl rfl)
  | bool b => exact .inr (.inr (.inl ⟨b, rfl⟩))
  | int i => exact .inr (.inr (.inr (.inl ⟨i, rfl, log_small (of_decide_eq_true (by simpa only [okR] using h2))⟩)))
  | list ds => exact .inl ((okR_sd h2).shw rfl (of_decide_eq_true h3) (of_decide_eq_true h4))
  | tuple ds => exact .inl ((okR_sd h2).shw rfl (of_decide_eq_true h3) (of_decide_eq_true h4))
  | str x =>
    have h2 : (PyData.strOk x && decide ((reprText x).length ≤ 61)) = true := by simpa only [okR] using h2
    exact .inr (.inr (.inr (.inr ⟨x, rfl, of_decide_eq_true (Bool.and_eq_true_iff.mp h2).2⟩)))
  | dict _ => cases h1
end Nx
namespace Nx
open PySem PySem.Spec PyProof.Rows L2
open Tree
mutual
def eqP : PyData → PyData → Bool
  | .none, .none => true
  | .bool a, .bool b => a == b
  | .int a, .int b => decide (a = b)
  | .str a, .str b => decide (a = b)
  | .list as, .list bs => eqPs as bs
  | .tuple as, .tuple bs => eqPs as bs
  | _, _ => false
def eqPs : List PyData → List PyData → Bool
  | [], [] => true
  | a :: as, b :: bs => eqP a b && eqPs as bs
  | _, _ => false
end
mutual
theorem eqP_eq : ∀ {a b : PyData}, eqP a b = true → a = b
  | .none, .none, _ => rfl
  | .bool a, .bool b, h => congrArg PyData.bool (eq_of_beq (by simpa only [eqP] using h))
  | .int a, .int b, h => congrArg PyData.int (of_decide_eq_true (by simpa only [eqP] using h))
  | .str a, .str b, h => congrArg PyData.str (of_decide_eq_true (by simpa only [eqP] using h))
  | .list as, .list bs, h => congrArg PyData.list (eqPs_eq (by simpa only [eqP] using h))
  | .tuple as, .tuple bs, h => congrArg PyData.tuple (eqPs_eq (by simpa only [eqP] using h))
  | .none, .bool _, h => by simp [eqP] at h
  | .none, .int _, h => by simp [eqP] at h
  | .none, .str _, h => by simp [eqP] at h
  | .none, .list _, h => by simp [eqP] at h
  | .none, .tuple _, h => by simp [eqP] at h
  | .none, .dict _, h => by simp [eqP] at h
  | .bool _, .none, h => by simp [eqP] at h
  | .bool _, .int _, h => by simp [eqP] at h
  | .bool _, .str _, h => by simp [eqP] at h
  | .bool _, .list _, h => by simp [eqP] at h
  | .bool _, .tuple _, h => by simp [eqP] at h
  | .bool _, .dict _, h => by simp [eqP] at h
  | .int _, .none, h => by simp [eqP] at h
  | .int _, .bool _, h => by simp [eqP] at h
  | .int _, .str _, h => by simp [eqP] at h
  | .int _, .list _, h => by simp [eqP] at h
  | .int _, .tuple _, h => by simp [eqP] at h
  | .int _, .dict _, h => by simp [eqP] at h
  | .list _, .none, h => by simp [eqP] at h
  | .list _, .bool _, h => by simp [eqP] at h
  | .list _, .int _, h => by simp [eqP] at h
  | .list _, .str _, h => by simp [eqP] at h
  | .list _, .tuple _, h => by simp [eqP] at h
  | .list _, .dict _, h => by simp [eqP] at h
  | .tuple _, .none, h => by simp [eqP] at h
  | .tuple _, .bool _, h => by simp [eqP] at h
  | .tuple _, .int _, h => by simp [eqP] at h
  | .tuple _, .str _, h => by simp [eqP] at h
  | .tuple _, .list _, h => by simp [eqP] at h
  | .tuple _, .dict _, h => by simp [eqP] at h
  | .str _, .none, h => by simp [eqP] at h
  | .str _, .bool _, h => by simp [eqP] at h
  | .str _, .int _, h => by simp [eqP] at h
  | .str _, .list _, h => by simp [eqP] at h
  | .str _, .tuple _, h => by simp [eqP] at h
  | .str _, .dict _, h => by simp [eqP] at h
  | .dict _, _, h => by simp [eqP] at h
theorem eqPs_eq : ∀ {as bs : List PyData}, eqPs as bs = true → as = bs
  | [], [], _ => rfl
  | a :: as, b :: bs, h => by
    have h : (eqP a b && eqPs as bs) = true := by simpa only [eqPs] using h
    obtain ⟨h1, h2⟩ := Bool.and_eq_true_iff.mp h
    rw [eqP_eq h1, eqPs_eq h2]
  | [], _ :: _, h => by simp [eqPs] at h
  | _ :: _, [], h => by simp [eqPs] at h
end
mutual
theorem eqP_refl : ∀ {a : PyData}, okR a = true → eqP a a = true
  | .none, _ => by simp [eqP]
  | .bool _, _ => by simp [eqP]
  | .int _, _ => by simp [eqP]
  | .list as, h => by simpa only [eqP] using eqPs_refl (as := as) (by simpa only [okR] using h)
  | .tuple as, h => by simpa only [eqP] using eqPs_refl (as := as) (by simpa only [okR] using h)
  | .str _, _ => by simp [eqP]
  | .dict _, h => by simp [okR] at h
theorem eqPs_refl : ∀ {as : List PyData}, okRs as = true → eqPs as as = true
  | [], _ => by simp [eqPs]
  | a :: as, h => by
    have h : (okR a && okRs as) = true := by simpa only [okRs] using h
    obtain ⟨h1, h2⟩ := Bool.and_eq_true_iff.mp h
    simp [eqPs, eqP_refl h1, eqPs_refl h2]
end
def okS (d : PyData) : Option Unit := if shwB d then some () else none
def pSame (a b : PyData) : Option PyData := if eqP a b then some (.bool true) else none
def dSame (f g : DenE) : DenE := fun E => (f E).bind fun x => (liftO (okS x)).bind fun _ => (g E).bind fun y => liftO (pSame x y)
section
variable {b : Addr} {X : Cx} {e x y : Expr} {fx fy : DenE} {pos p p2 pos2 pos3 : Pos} {k : Nat}
theorem se_same (B : Bt X.mg) (hr : Rm k X.A) (hg : Gl X "repr") (hx : SE b X x fx) (hy : SE b X y fy) (he : starEach [x] X.env = (false, eval x X.env) :: starEach [] X.env := by rfl) (he2 : starEach [y] X.env = (false, eval y X.env) :: starEach [] X.env := by rfl) (hpl : (backTo pos (starEach [] X.env)).any (·.1) = false := by rfl) (hpl2 : (backTo pos2 (starEach [] X.env)).any (·.1) = false := by rfl) :
    SE b X (.Compare (.Call (.Name "repr" p) [x] [] pos) [.Eq] [.Call (.Name "repr" p2) [y] [] pos2] pos3) (dSame fx fy) := .mk fun μ0 E ρ μ Φ R h => by
  refine de_eq hr.room (de_reprA B hr hg (hx.run μ0 E ρ μ _ R ((all_bind.mp h).imp fun d q μ1 s1 => ?_)) he hpl)
  obtain ⟨u, hu, q⟩ := lift_all (all_bind.mp q)
  unfold okS at hu
  split at hu
  · next hs =>
    refine ⟨d, .im d, shwB_ok hs, de_reprA B hr hg (hy.run μ0 E ρ μ1 _ (R.step s1) ((all_bind.mp q).imp fun d' q μ2 s2 => ?_)) he2 hpl2⟩
    obtain ⟨r, hr', q2⟩ := lift_all q
    unfold pSame at hr'
    split at hr'
    · next hq =>
      cases hr'
      have := eqP_eq hq
      subst this
      exact ⟨d, .im d, shwB_ok hs, .inr (.inr ⟨_, _, rfl, rfl, by simpa using q2 μ2 (s1.trans s2)⟩)⟩
    · cases hr'
  · cases hu
end
end Nx
namespace Nx
open PySem PySem.Spec PyProof.Rows L2
open Tree
abbrev cLt := cI fun i j => decide (i < j)
def cR : Ct := fun os μ Φ => ∃ b p q t, os = [.own b] ∧ μ b = some (bx p q t) ∧ ∀ μ', Bs b μ μ' → Φ (.im (.bool true)) μ'
theorem cR_of {F : List W → Tree PyData} (h : (F [.bx]).All fun d => d = .bool true) : ∀ os μ Φ, cR os μ Φ → cF F os μ Φ := fun os μ Φ ⟨b, p, q, t, e, hb, k⟩ => ⟨b, [.bx], e, ⟨p, q, t, hb⟩, h.imp fun d e μ' s => by rw [e]; exact k μ' s⟩
end Nx
namespace Nx
open PySem PySem.Spec PyProof.Rows L2
open Tree
def WI (X : Cx) (tg iter : Expr) : TI := fun σ H R => ∃ wi, PI X tg iter wi ∧ wi σ H R
theorem pwi {X : Cx} {tg iter : Expr} : PI X tg iter (WI X tg iter) := ⟨fun pins s σ H R I ⟨wi, p, h⟩ => p.run pins s σ H R I h⟩
def WIb (X : Cx) (scope : Scope) (tg iter : Expr) : TI := fun σ H R => ∀ s H0 C cl fp, WI (Blk X scope s H0 C cl fp) tg iter σ H R
theorem pwib {X : Cx} {scope : Scope} {tg iter : Expr} (s : Shared) (H : Hp) (C : Addr) (cl : List (Str × Addr)) (fp : List Addr) : PI (Blk X scope s H C cl fp) tg iter (WIb X scope tg iter) := ⟨fun pins s' σ H' R I h => pwi.run pins s' σ H' R I (h s H C cl fp)⟩
theorem w_it {J : It} {n : Nat} {G : Hp → Prop} {Y : Nat → Hp → V → Hp → Prop} (w : Walk J n G Y) {body : V → Hp → (Hp → Prop) → Prop} {H0 : Hp} {Qd : Hp → Prop} (Pv : Nat → Hp → Prop) (h0 : Pv 0 H0) (hG : ∀ i H, i ≤ n → Pv i H → G H)
    (hs : ∀ i x H H', i < n → Pv i H → Y i H x H' → body x H' (Pv (i + 1))) (hd : ∀ H, Pv n H → Qd H) :
    ∃ W : Nat → Nat → Hp → Prop, (∃ m, W 0 m H0) ∧ ∀ i m H, W i m H → (J.stop i H ∧ Qd H) ∨ (J.go i H ∧ ∃ Nx : Hp → Prop, (∀ H', Nx H' → ∃ m', m' < m ∧ W (i + 1) m' H') ∧ ∀ x H', J.yld i H x H' → body x H' Nx) := by
  refine ⟨fun i m H => m = n - i ∧ i ≤ n ∧ Pv i H, ⟨n, by simp, Nat.zero_le _, h0⟩, ?_⟩
  rintro i m H ⟨rfl, hi, p⟩
  have q := hG i H hi p
  by_cases hlt : i < n
  · exact .inr ⟨w.goes i H hlt q, Pv (i + 1), fun H' p' => ⟨n - (i + 1), by omega, rfl, hlt, p'⟩, fun x H' y => hs i x H H' hlt p (w.yields i H x H' hlt q y)⟩
  · have e : i = n := by omega
    subst e
    exact .inl ⟨w.stops H q, hd H p⟩
def atMost (m n : Nat) : Option Unit := if n ≤ m then some () else none
theorem atMost_all {m n : Nat} {Q : Unit → Prop} (h : (liftO (atMost m n)).All Q) : n ≤ m ∧ Q () := by
  obtain ⟨a, h1, h2⟩ := lift_all h
  unfold atMost at h1
  split at h1
  · exact ⟨‹_›, h2⟩
  · cases h1
def in1 (t1 : Tgt) (vs1 : List Nat) (c : DenB) (elt : DenE) (E1 : Env) : PyData → Tree (Option PyData) := fun y => (liftO (putE t1 y (wipeE E1 vs1))).bind fun E2 => (c E2).bind fun k => match k with | true => (elt E2).bind fun z => .ret (some z) | false => .ret none
def in2 (t : Tgt) (vs : List Nat) (t1 : Tgt) (vs1 : List Nat) (it1 : DenL) (c : DenB) (elt : DenE) (E : Env) : PyData → Tree (List PyData) := fun x => (liftO (putE t x (wipeE E vs))).bind fun E1 => (it1 E1).bind fun ys => (liftO (atMost 50 ys.length)).bind fun _ => pickT (in1 t1 vs1 c elt E1) ys
def dLc2 (t : Tgt) (vs : List Nat) (it : DenL) (t1 : Tgt) (vs1 : List Nat) (it1 : DenL) (c : DenB) (elt : DenE) : DenE := fun E => (it E).bind fun xs => (liftO (atMost 1000 xs.length)).bind fun _ => (mapT (in2 t vs t1 vs1 it1 c elt E) xs).bind fun yss => .ret (.list yss.flatten)
section
variable {b : Addr} {X : Cx} {tg iter tg1 iter1 elt c : Expr} {scope : Scope} {fi fi1 : DenL} {fb : DenB} {fx : DenE} {pos : Pos}
theorem lc2_sound {own : List (Str × Nat)} {t t1 : Tgt} {E : Env} {ρ : Rho} {μ μ1 μ0 : Mu} {xs : List PyData} {done : List PyData → Mu → Prop} {G : Hp} {σ : L2.St} {J : It} {G1 H1 : Hp} {Qd : Hp → Prop} {Dl : Addr}
    (hs : ∀ i ∈ t.slots, i ∈ own.map (·.2)) (R : Rel b μ0 E ρ μ) (s1 : Bs b μ μ1) (v : RV G ρ σ) (e1 : Ex G G1) (m1 : RM G1 H1 μ1) (gv : Gives J ⟨xs.map .im, fun _ => True⟩ G1) (hD : H1 Dl = none)
    (hi1 : ∀ s H C cl fp, SI b (Blk X scope s H C cl fp) tg1 iter1 fi1) (hcn : ∀ s H C cl fp, ST b (Blk X scope s H C cl fp) c fb) (he : ∀ s H C cl fp, SE b (Blk X scope s H C cl fp) elt fx) (hz : xs.length ≤ 1000)
    (q : (mapT (in2 t (own.map (·.2)) t1 t1.slots fi1 fb fx E) xs).All fun yss => ∀ μ', Bs b μ μ' → done yss.flatten μ')
    (fin : ∀ ds μ' G' H', done ds μ' → μ' Dl = none → Ex G1 G' → RM G' H' (μ'.put Dl (ds.map .im)) → Qd H') :
    ∃ W : Nat → Nat → Hp → Prop, (∃ m, W 0 m (upd H1 Dl (.lst []))) ∧ ∀ i m H, W i m H → (J.stop i H ∧ Qd H) ∨ (J.go i H ∧ ∃ Nx : Hp → Prop, (∀ H', Nx H' → ∃ m', m' < m ∧ W (i + 1) m' H') ∧ ∀ x H', J.yld i H x H' → TgtG X.K t x (L2.wipe σ (own.map (·.2))) H' fun σ2 H2 => L2.wipe σ2 (own.map (·.2)) = L2.wipe σ (own.map (·.2)) ∧ WTb X scope [] σ2 H2 fun bb H3 =>
      if bb = true then WIb X scope tg1 iter1 σ2 H3 fun J1 H4 => ∃ W1 : Nat → Nat → Hp → Prop, (∃ m, W1 0 m H4) ∧ ∀ j k H, W1 j k H →
        (J1.stop j H ∧ Nx H) ∨ (J1.go j H ∧ ∃ Nx1 : Hp → Prop, (∀ H', Nx1 H' → ∃ k', k' < k ∧ W1 (j + 1) k' H') ∧ ∀ x H', J1.yld j H x H' → TgtG X.K t1 x (L2.wipe σ2 t1.slots) H' fun σ3 H5 => L2.wipe σ3 t1.slots = L2.wipe σ2 t1.slots ∧ WTb X scope [c] σ3 H5 fun bb H6 =>
          if bb = true then WEb X scope elt σ3 H6 fun y H7 => ∃ acc, H7 Dl = some (.lst acc) ∧ acc.length < sizeLine ∧ Nx1 (upd H7 Dl (.lst (acc ++ [y]))) else Nx1 H6)
      else Nx H3) := by
  obtain ⟨Gd, Y, wk, hG, hY⟩ := gv
  have hDn : ∀ {μ' : Mu}, Bs b μ μ' → μ' Dl = none → Dl ≠ b ∧ μ Dl = none := fun {μ'} s n => by
    have nb : Dl ≠ b := fun z => by
      obtain ⟨u, q, t, e⟩ := (R.step s).bxs
      rw [z, e] at n
      cases n
    refine ⟨nb, ?_⟩
    cases z : μ Dl with
    | none => rfl
    | some l =>
      rw [s.old Dl l nb z] at n
      cases n
  refine w_it wk (Pv := fun i H => ∃ (ds : List PyData) (μ' : Mu) (G' : Hp), ds.length ≤ 50 * i ∧ Bs b μ μ' ∧ μ' Dl = none ∧ Ex G1 G' ∧ RM G' H (μ'.put Dl (ds.map .im)) ∧ (mapT (in2 t (own.map (·.2)) t1 t1.slots fi1 fb fx E) (xs.drop i)).All fun yss => ∀ μ'', Bs b μ μ'' → done (ds ++ yss.flatten) μ'') ⟨[], μ1, G1, Nat.le_refl _, s1, m1.fresh hD, Ex.refl _, m1.new hD .nil, q⟩ ?_ ?_ ?_
  · rintro i H _ ⟨ds, μ', G', _, _, n, e, m, _⟩
    exact hG G' H _ e m trivial
  · rintro i x H H' hi ⟨ds, μ', G', hl, s, n, e, m, h⟩ y
    obtain ⟨nb, nD⟩ := hDn s n
    obtain ⟨G2, o, e2, m2, ho, r2⟩ := hY i H x H' G' _ e m trivial y hi
    dsimp only at ho hi
    rw [List.length_map] at hi
    rw [List.getElem?_map, List.getElem?_eq_getElem hi] at ho
    cases ho
    rw [List.drop_eq_getElem_cons hi, mapT] at h
    obtain ⟨E1, hE1, h⟩ := lift_all (all_bind.mp (all_bind.mp h))
    have s2 : Bs b μ (μ'.put Dl (ds.map .im)) := s.trans (Bs.put n)
    obtain ⟨ρ', hp, R2⟩ := ((R.step s2).wipes (own.map (·.2))).putT hE1
    have v2 : RV G2 (wipeR ρ (own.map (·.2))) (L2.wipe σ (own.map (·.2))) := (v.mono ((e1.trans e).trans e2)).wipeV _
    refine tgt_runW (own.map (·.2)) hs m2 r2 v2 hp fun σ' v3 hw => ⟨hw.trans (wipe_idem _ _), ?_⟩
    have key : ∀ (Q : Bool → Hp → Prop), Q true H' → WTb X scope [] σ' H' Q := fun Q h => h
    refine key _ ?_
    dsimp only
    rw [if_pos rfl]
    intro sB HB CB clB fpB
    have hDI : DI (Blk X scope sB HB CB clB fpB) tg1 iter1 ρ' (μ'.put Dl (ds.map .im)) fun D μ3 => ∃ ys : List PyData, D = ⟨ys.map .im, fun _ => True⟩ ∧ ys.length ≤ 50 ∧ Bs b (μ'.put Dl (ds.map .im)) μ3 ∧ (pickT (in1 t1 t1.slots fb fx E1) ys).All fun zs => (mapT (in2 t (own.map (·.2)) t1 t1.slots fi1 fb fx E) (xs.drop (i + 1))).All fun yss => ∀ μ'', Bs b μ μ'' → done (ds ++ (zs :: yss).flatten) μ'' :=
      (hi1 sB HB CB clB fpB).run μ0 E1 ρ' _ _ R2 ((all_bind.mp h).imp fun ys h μ3 s3 => by
        obtain ⟨hy, h⟩ := atMost_all (all_bind.mp h)
        exact ⟨ys, rfl, hy, s3, h.imp fun zs h => (all_bind.mp h).imp fun yss h => h⟩)
    obtain ⟨wi, pi, run⟩ := hDI
    refine ⟨wi, pi, run G2 H' σ' m2 v3 _ fun J1 D1 μ3 G3 H3 hq e3 m3 gv1 => ?_⟩
    obtain ⟨ys, rfl, hy50, s3, h⟩ := hq
    obtain ⟨Gd1, Y1, wk1, hG1, hY1⟩ := gv1
    obtain ⟨pb1, pb2⟩ := put_back (s3.old Dl _ nb put_same)
    have s4 : Bs b μ (μ3.del Dl) := (s2.trans s3).del nD nb
    rw [pb1] at m3
    refine w_it wk1 (Pv := fun j H => ∃ (es : List PyData) (μ4 : Mu) (G4 : Hp), es.length ≤ 50 * i + j ∧ Bs b μ μ4 ∧ μ4 Dl = none ∧ Ex G3 G4 ∧ RM G4 H (μ4.put Dl (es.map .im)) ∧ (pickT (in1 t1 t1.slots fb fx E1) (ys.drop j)).All fun zs => (mapT (in2 t (own.map (·.2)) t1 t1.slots fi1 fb fx E) (xs.drop (i + 1))).All fun yss => ∀ μ'', Bs b μ μ'' → done (es ++ zs ++ yss.flatten) μ'') ⟨ds, μ3.del Dl, G3, by omega, s4, pb2, Ex.refl _, m3, ?_⟩ ?_ ?_ ?_
    · refine h.imp fun zs h => h.imp fun yss h => ?_
      rw [List.flatten_cons, ← List.append_assoc] at h
      exact h
    · rintro j H _ ⟨es, μ4, G4, _, _, _, e4, m4, _⟩
      exact hG1 G4 H _ e4 m4 trivial
    · rintro j x H H5 hj ⟨es, μ4, G4, hl4, s5, n5, e5, m5, h5⟩ y5
      obtain ⟨G6, o6, e6, m6, ho6, r6⟩ := hY1 j H x H5 G4 _ e5 m5 trivial y5 hj
      dsimp only at ho6 hj
      rw [List.length_map] at hj
      rw [List.getElem?_map, List.getElem?_eq_getElem hj] at ho6
      cases ho6
      rw [List.drop_eq_getElem_cons hj, pickT] at h5
      obtain ⟨E2, hE2, h5⟩ := lift_all (all_bind.mp (all_bind.mp h5))
      have s6 : Bs b μ (μ4.put Dl (es.map .im)) := s5.trans (Bs.put n5)
      -- the frame of the inner turn
      have R3 : Rel b μ0 E1 ρ' (μ4.put Dl (es.map .im)) := by
        obtain ⟨ρ9, hp9, R9⟩ := ((R.step s6).wipes (own.map (·.2))).putT hE1
        rw [hp] at hp9
        cases hp9
        exact R9
      obtain ⟨ρ'', hp'', R4⟩ := (R3.wipes t1.slots).putT hE2
      have v6 : RV G6 (wipeR ρ' t1.slots) (L2.wipe σ' t1.slots) := (v3.mono ((e3.trans e5).trans e6)).wipeV _
      refine tgt_runW t1.slots (fun i hi => hi) m6 r6 v6 hp'' fun σ3 v7 hw3 => ⟨hw3.trans (wipe_idem _ _), ?_⟩
      refine DTb.run (ifs := [c]) (ρ := ρ'') (μ := μ4.put Dl (es.map .im)) (Ψ := fun k μ7 => Bs b (μ4.put Dl (es.map .im)) μ7 ∧ Tree.All (match k with | true => (fx E2).bind fun z => Tree.ret (some z) | false => Tree.ret none) (fun o => (pickT (in1 t1 t1.slots fb fx E1) (ys.drop (j + 1))).All fun zs => (mapT (in2 t (own.map (·.2)) t1 t1.slots fi1 fb fx E) (xs.drop (i + 1))).All fun yss => ∀ μ'', Bs b μ μ'' → done (es ++ (match o with | some y => y :: zs | none => zs) ++ yss.flatten) μ'')) ?_ m6 v7 fun k μ7 G7 H7 hq7 e7 m7 => ?_
      · intro s' HH C cl fp
        exact (hcn s' HH C cl fp).run μ0 E2 ρ'' _ _ R4 ((all_bind.mp h5).imp fun k h μ7 s7 => by
          refine ⟨s7, All.imp (fun o h => ?_) h⟩
          refine (all_bind.mp h).imp fun zs h => ?_
          cases o <;> exact h)
      · obtain ⟨s7, h7⟩ := hq7
        cases k with
        | true =>
          rw [if_pos rfl]
          intro s' HH C cl fp
          have hDE := (he s' HH C cl fp).run μ0 E2 ρ'' μ7 (fun o' μ8 => ∃ z, o' = .im z ∧ Bs b μ7 μ8 ∧ (pickT (in1 t1 t1.slots fb fx E1) (ys.drop (j + 1))).All fun zs => (mapT (in2 t (own.map (·.2)) t1 t1.slots fi1 fb fx E) (xs.drop (i + 1))).All fun yss => ∀ μ'', Bs b μ μ'' → done (es ++ (z :: zs) ++ yss.flatten) μ'') (R4.step s7) ((all_bind.mp h7).imp fun z h μ8 s8 => ⟨z, rfl, s8, h⟩)
          refine hDE G7 H7 σ3 m7 (v7.mono e7) _ fun vy o' μ8 G8 H8 hq8 e8 m8 r8 => ?_
          obtain ⟨z, rfl, s8, h8⟩ := hq8
          obtain ⟨pc1, pc2⟩ := put_back ((s7.trans s8).old Dl _ nb put_same)
          rw [pc1] at m8
          obtain ⟨g8, accv, h9, w9⟩ := m8.own Dl _ put_same
          have hle : es.length < 100000 := by omega
          refine ⟨accv, h9, by rw [w9.length, List.length_map]; exact Nat.lt_of_lt_of_le hle (by decide), es ++ [z], μ8.del Dl, G8, by rw [List.length_append]; simp; omega, ((s6.trans s7).trans s8).del nD nb, pc2, ((e5.trans e6).trans e7).trans e8, ?_, h8.imp fun zs h => h.imp fun yss h => ?_⟩
          · have m9 := m8.chg (p := Dl) put_same (w9.snoc r8)
            rw [put_put] at m9
            rw [List.map_append]
            exact m9
          · rw [List.append_assoc es [z] zs]
            exact h
        | false =>
          rw [if_neg (by decide)]
          obtain ⟨pc1, pc2⟩ := put_back (s7.old Dl _ nb put_same)
          rw [pc1] at m7
          exact ⟨es, μ7.del Dl, G7, by omega, (s6.trans s7).del nD nb, pc2, (e5.trans e6).trans e7, m7, h7⟩
    · rintro H ⟨es, μ4, G4, hl4, s5, n5, e5, m5, h5⟩
      dsimp only at hl4 h5
      rw [List.length_map] at hl4
      rw [List.length_map, List.drop_length] at h5
      refine ⟨es, μ4, G4, by omega, s5, n5, ((e.trans e2).trans e3).trans e5, m5, ?_⟩
      have h5 : (mapT (in2 t (own.map (·.2)) t1 t1.slots fi1 fb fx E) (xs.drop (i + 1))).All fun yss => ∀ μ'', Bs b μ μ'' → done (es ++ [] ++ yss.flatten) μ'' := h5
      rw [List.append_nil] at h5
      exact h5
  · rintro H ⟨ds, μ', G', hl, s, n, e, m, h⟩
    dsimp only at h
    rw [List.length_map, List.drop_length] at h
    have := h μ' s
    rw [List.flatten_nil, List.append_nil] at this
    exact fin ds μ' G' H this n e m
theorem ss_setLc2 {own : List (Str × Nat)} (t t1 : Tgt) (i : Nat) {n : Str} {py spos : Pos} (hc : X.calm = true) (hN : X.N.Nodup) (hy : X.N[i]? = some n) (hyl : X.env.scope.names.lookup n = some .local)
    (hsw : swapsWith (.ListComp elt [⟨tg, iter, [], 0⟩, ⟨tg1, iter1, [c], 0⟩] scope pos) (some (.Name n py)) spos.line X.env = pure true) (ok : BlkOk X.N X.env.scope scope own) (hs : ∀ i ∈ t.slots, i ∈ own.map (·.2)) (hv : ∀ i ∈ t1.slots, i ∈ own.map (·.2))
    (hg : ∀ s H C cl fp, PG (Blk X scope s H C cl fp) tg (TgtG X.K t)) (hg1 : ∀ s H C cl fp, PG (Blk X scope s H C cl fp) tg1 (TgtG X.K t1)) (hi : SI b X tg iter fi) (hi1 : ∀ s H C cl fp, SI b (Blk X scope s H C cl fp) tg1 iter1 fi1) (hcn : ∀ s H C cl fp, ST b (Blk X scope s H C cl fp) c fb) (he : ∀ s H C cl fp, SE b (Blk X scope s H C cl fp) elt fx)
    (hf : ∀ x, foldedSetIterable iter X.env x = pure x := by intro _; rfl) (hf1 : ∀ env x, foldedSetIterable iter1 env x = pure x := by intro _ _; rfl) : SS b X (.Assign [.Name n py] (.ListComp elt [⟨tg, iter, [], 0⟩, ⟨tg1, iter1, [c], 0⟩] scope pos) spos) (sSet i (dLc2 t (own.map (·.2)) fi t1 t1.slots fi1 fb fx)) := .mk fun μ0 E ρ μ D R h => by
  have hDI : DI X tg iter ρ μ fun It μ1 => ∃ xs : List PyData, It = ⟨xs.map .im, fun _ => True⟩ ∧ xs.length ≤ 1000 ∧ Bs b μ μ1 ∧ (mapT (in2 t (own.map (·.2)) t1 t1.slots fi1 fb fx E) xs).All fun yss => ∀ μ', Bs b μ μ' → D.nx (ρ.set i (some (.im (.list yss.flatten)))) μ' :=
    hi.run μ0 E ρ μ _ R ((all_bind.mp (all_bind.mp h)).imp fun xs h μ1 s1 => by
      obtain ⟨hz, h⟩ := atMost_all (all_bind.mp h)
      exact ⟨xs, rfl, hz, s1, (all_bind.mp h).imp fun yss h μ' s => h _ μ' ((R.step s).setD i _)⟩)
  obtain ⟨wi, pi, run⟩ := hDI
  intro G H σ m v En f
  refine WS.of (ps_setLc2 (own := own) (vs1 := t1.slots) hc hN hy hyl hsw pi ok hv hg (fun s H C cl fp => pwtb (ifs := []) s H C cl fp) (fun s H C cl fp => pwib s H C cl fp) hg1 (fun s H C cl fp => pwtb (ifs := [c]) s H C cl fp) (fun s H C cl fp => pweb s H C cl fp) hf hf1) (run G H σ m v _ fun J D μ1 G1 H1 hq e1 m1 gv Dl hD => ?_)
  obtain ⟨xs, rfl, hz, s1, hq⟩ := hq
  refine lc2_sound (Qd := fun H => En.nx (σ.set i (some (.ref Dl))) H) hs R s1 v e1 m1 gv hD hi1 hcn he hz (done := fun ds μ' => D.nx (ρ.set i (some (.im (.list ds)))) μ') hq fun ds μ' G' H' hd n e m' => ?_
  obtain ⟨vs, e0, g0, w, m2⟩ := m'.frz (p := Dl) put_same
  rw [del_put n] at m2
  exact f.nx _ _ _ _ _ hd ((e1.trans e).trans (Ex.new g0)) m2 ((v.mono ((e1.trans e).trans (Ex.new g0))).set (o := .im _) (Dv.lst upd_same (w.mono (Ex.new g0))))
end
end Nx
namespace Nx
open PySem PySem.Spec PyProof.Rows L2
open Tree
section
variable {b : Addr} {X : Cx} {x y o e tg : Expr} {fx fy : DenE} {pos p p2 pos2 apos cpos : Pos} {k : Nat}
def sAsgL (is : List Nat) (f : DenE) : DenS := fun E => (f E).bind fun d => match d with
  | .list ds => if ds.length = is.length then .ret (.nx (putsE E is ds)) else .fail
  | _ => .fail
def pIdx (d y : PyData) : Option PyData := match d with
  | .list ds => if SeqAt.shaped (.list ds) = true ∧ SeqAt.shaped y = true then (match ds.findIdx? fun z => PyData.eqv z y with | some j => some (.int (j : Nat)) | none => none) else none
  | _ => none
def dIdx (fx fy : DenE) : DenE := fun E => (fx E).bind fun d => match d with
  | .list ds => (fy E).bind fun y => liftO (pIdx (.list ds) y)
  | _ => .fail
end
end Nx
namespace Nx
open PySem PySem.Spec PyProof.Rows L2
open Tree
theorem inl_inj {a b : List Int} (h : a.map (Sum.inl : Int → Key) = b.map Sum.inl) : a = b := List.map_inj_right (f := (Sum.inl : Int → Key)) (fun x y e => by cases e; rfl) |>.mp h
theorem RV.hide {G : Hp} {ρ : Rho} {σ : L2.St} (v : RV G ρ σ) (i : Nat) (x : Option V) : RV G (ρ.set i none) (σ.set i x) := ⟨by rw [List.length_set, List.length_set, v.len], fun j o e => by
  by_cases h : i = j
  · subst h
    by_cases hl : i < ρ.length
    · rw [List.getElem?_set_self hl] at e
      cases e
    · rw [List.getElem?_eq_none (by rw [List.length_set]; omega)] at e
      cases e
  · rw [List.getElem?_set_ne h] at e ⊢
    exact v.get j o e⟩
theorem int_keys (ns : List Int) : ns.map V.int = (ns.map Sum.inl).map kV := by
  rw [List.map_map]
  rfl
end Nx
namespace Nx
open PySem PySem.Spec PyProof.Rows L2
open Tree
def asT : PyData → Option (List Int)
  | .tuple ds => asI ds
  | _ => none
def asTs : List PyData → Option (List (List Int))
  | [] => some []
  | d :: ds => match asT d, asTs ds with
    | some t, some ts => some (t :: ts)
    | _, _ => none
def tpl (t : List Int) : PyData := .tuple (iL t)
theorem asT_some {d : PyData} {t : List Int} (h : asT d = some t) : d = tpl t := by
  unfold asT at h
  split at h
  · rw [asI_some h]
    rfl
  · cases h
theorem asTs_some : ∀ {ds : List PyData} {ts : List (List Int)}, asTs ds = some ts → ds = ts.map tpl
  | [], ts, h => by
    cases h
    rfl
  | d :: ds, ts, h => by
    unfold asTs at h
    split at h
    · rename_i t us h1 h2
      cases h
      rw [asT_some h1, asTs_some h2]
      rfl
    · cases h
theorem asT_tpl (t : List Int) : asT (tpl t) = some t := asI_iL t
theorem asTs_map : ∀ ts : List (List Int), asTs (ts.map tpl) = some ts
  | [] => rfl
  | t :: ts => by
    show (match asT (tpl t), asTs (ts.map tpl) with | some t, some ts => some (t :: ts) | _, _ => none) = _
    rw [asT_tpl, asTs_map ts]
def kT (t : List Int) : Int := TS.code 1000 t
def insT (t : List Int) : List (List Int) → List (List Int)
  | [] => [t]
  | u :: us => if kT t ≤ kT u then t :: u :: us else u :: insT t us
def srtT : List (List Int) → List (List Int)
  | [] => []
  | t :: ts => insT t (srtT ts)
theorem insT_perm (t : List Int) : ∀ us : List (List Int), (insT t us).Perm (t :: us)
  | [] => List.Perm.refl _
  | u :: us => by
    unfold insT
    split
    · exact List.Perm.refl _
    · exact ((insT_perm t us).cons u).trans (List.Perm.swap t u us)
theorem srtT_perm : ∀ ts : List (List Int), (srtT ts).Perm ts
  | [] => List.Perm.refl _
  | t :: ts => (insT_perm t _).trans ((srtT_perm ts).cons t)
theorem insT_pw (t : List Int) : ∀ us : List (List Int), us.Pairwise (fun a b => kT a ≤ kT b) → (insT t us).Pairwise fun a b => kT a ≤ kT b
  | [], _ => List.pairwise_singleton _ _
  | u :: us, h => by
    unfold insT
    have h' := List.pairwise_cons.mp h
    split
    · rename_i c
      refine List.pairwise_cons.mpr ⟨fun x hx => ?_, h⟩
      rcases List.mem_cons.mp hx with rfl | hx
      · exact c
      · exact Int.le_trans c (h'.1 x hx)
    · rename_i c
      refine List.pairwise_cons.mpr ⟨fun x hx => ?_, insT_pw t us h'.2⟩
      rcases List.mem_cons.mp ((insT_perm t us).mem_iff.mp hx) with rfl | hx
      · omega
      · exact h'.1 x hx
theorem srtT_pw : ∀ ts : List (List Int), (srtT ts).Pairwise fun a b => kT a ≤ kT b
  | [] => List.Pairwise.nil
  | t :: ts => insT_pw t _ (srtT_pw ts)
theorem kT_inj : ∀ {a b : List Int}, a.length = b.length → TS.Bd 1000 a → TS.Bd 1000 b → kT a = kT b → a = b
  | [], [], _, _, _, _ => rfl
  | x :: a, y :: b, hl, ha, hb, h => by
    have hl' : a.length = b.length := by simpa using hl
    have ha' : TS.Bd 1000 a := fun m hm => ha m (List.mem_cons_of_mem _ hm)
    have hb' : TS.Bd 1000 b := fun m hm => hb m (List.mem_cons_of_mem _ hm)
    rcases Int.lt_trichotomy x y with c | c | c
    · have := TS.code_lt hl' ha' hb' c
      unfold kT at h
      omega
    · subst c
      have e : kT a = kT b := by
        unfold kT at h ⊢
        simp only [TS.code] at h
        rw [hl'] at h
        omega
      rw [kT_inj hl' ha' hb' e]
    · have := TS.code_lt hl'.symm hb' ha' c
      unfold kT at h
      omega
theorem srtT_eq {ts us : List (List Int)} {d : Nat} (hp : us.Perm ts) (hw : us.Pairwise fun a b => kT a ≤ kT b) (hb : ∀ t ∈ ts, t.length = d ∧ TS.Bd 1000 t) : us = srtT ts :=
  List.Perm.eq_of_pairwise (le := fun a b => kT a ≤ kT b) (fun a b ha hb' h1 h2 => by
    have ha := hb a (hp.mem_iff.mp ha)
    have hb'' := hb b ((srtT_perm ts).mem_iff.mp hb')
    exact kT_inj (by rw [ha.1, hb''.1]) ha.2 hb''.2 (by omega)) hw (srtT_pw ts) (hp.trans (srtT_perm ts).symm)
def bdT (d : Nat) (t : List Int) : Bool := decide (t.length = d) && t.all fun x => decide (0 ≤ x) && decide (x < 1000)
theorem bdT_ok {d : Nat} {t : List Int} (h : bdT d t = true) : t.length = d ∧ TS.Bd 1000 t := by
  unfold bdT at h
  rw [Bool.and_eq_true] at h
  refine ⟨of_decide_eq_true h.1, fun m hm => ?_⟩
  have := List.all_eq_true.mp h.2 m hm
  rw [Bool.and_eq_true] at this
  exact ⟨of_decide_eq_true this.1, of_decide_eq_true this.2⟩
def hdLen : List (List Int) → Nat
  | [] => 1
  | t :: _ => t.length
def pSrtT (x : PyData) : Option PyData := match x with
  | .list ds => match asTs ds with
    | some ts => if 1 ≤ hdLen ts ∧ ts.length < 64 ∧ ts.all (bdT (hdLen ts)) = true then some (.list ((srtT ts).map tpl)) else none
    | none => none
  | _ => none
theorem pSrtT_some {x r : PyData} (h : pSrtT x = some r) : ∃ ts : List (List Int), x = .list (ts.map tpl) ∧ r = .list ((srtT ts).map tpl) ∧ 1 ≤ hdLen ts ∧ ts.length < 64 ∧ ∀ t ∈ ts, t.length = hdLen ts ∧ TS.Bd 1000 t := by
  unfold pSrtT at h
  split at h
  · split at h
    · rename_i ts ht
      split at h
      · rename_i c
        cases h
        exact ⟨ts, by rw [asTs_some ht], rfl, c.1, c.2.1, fun t ht => bdT_ok (List.all_eq_true.mp c.2.2 t ht)⟩
      · cases h
    · cases h
  · cases h
theorem DvA.perm {G : Hp} {xs ys : List V} (hp : ys.Perm xs) : ∀ {ds : List PyData}, DvA G xs ds → ∃ es, es.Perm ds ∧ DvA G ys es := by
  induction hp with
  | nil =>
    intro ds h
    cases h
    exact ⟨[], List.Perm.refl _, .nil⟩
  | cons x _ ih =>
    intro ds h
    cases h with
    | cons h1 h2 =>
      obtain ⟨es, e1, e2⟩ := ih h2
      exact ⟨_ :: es, e1.cons _, .cons h1 e2⟩
  | swap x y l =>
    intro ds h
    cases h with
    | cons h1 h2 =>
      cases h2 with
      | cons h3 h4 => exact ⟨_, List.Perm.swap _ _ _, .cons h3 (.cons h1 h4)⟩
  | trans _ _ ih1 ih2 =>
    intro ds h
    obtain ⟨es, e1, e2⟩ := ih2 h
    obtain ⟨fs, e3, e4⟩ := ih1 e2
    exact ⟨fs, e3.trans e1, e4⟩
theorem tpl_perm {es : List PyData} {ts : List (List Int)} (h : es.Perm (ts.map tpl)) : ∃ us : List (List Int), es = us.map tpl ∧ us.Perm ts := by
  have hd : ∀ t : List Int, ((asT (tpl t)).getD []) = t := fun t => by rw [asT_tpl]; rfl
  refine ⟨es.map fun d => (asT d).getD [], ?_, ?_⟩
  · rw [List.map_map]
    refine (List.map_id _).symm.trans (List.map_congr_left fun d hx => ?_)
    obtain ⟨t, _, rfl⟩ := List.mem_map.mp (h.mem_iff.mp hx)
    show tpl t = tpl ((asT (tpl t)).getD [])
    rw [hd]
  · have := h.map fun d => (asT d).getD []
    rw [List.map_map] at this
    refine this.trans ?_
    rw [show ((fun d => (asT d).getD []) ∘ tpl) = id from funext hd, List.map_id]
theorem tup_of {K : PySem.W.Frag} {G H : Hp} {v : V} {t : List Int} (e : Ex G H) (h : Dv G v (tpl t)) : TupI K H v t := by
  unfold tpl at h
  cases h with
  | tup h1 w1 =>
    have := DvA.ints t w1
    subst this
    exact ⟨_, rfl, .inl (.inl (e _ _ h1))⟩
theorem DvA.pw {K : PySem.W.Frag} {G H : Hp} (e : Ex G H) : ∀ {ys : List V} {us : List (List Int)}, DvA G ys (us.map tpl) → ys.Pairwise (fun x y => ∀ n m, TupI K H x n → TupI K H y m → TS.code 1000 n ≤ TS.code 1000 m) → us.Pairwise fun a b => kT a ≤ kT b
  | _, [], _, _ => List.Pairwise.nil
  | _, u :: us, .cons h1 h2, hp => by
    have hp' := List.pairwise_cons.mp hp
    refine List.pairwise_cons.mpr ⟨fun x hx => ?_, DvA.pw e h2 hp'.2⟩
    obtain ⟨i, hi⟩ := List.getElem?_of_mem hx
    obtain ⟨v, hv, r⟩ := DvA.get h2 (show (us.map tpl)[i]? = some (tpl x) by rw [List.getElem?_map, hi]; rfl)
    exact hp'.1 v (List.mem_of_getElem? hv) _ _ (tup_of e h1) (tup_of e r)
section
variable {b : Addr} {X : Cx} {x : Expr} {fx : DenE} {pos p : Pos}
theorem se_sortedT (B : Bt X.mg) (hg : Gl X "sorted") (hx : SE b X x fx) (he : starEach [x] X.env = (false, eval x X.env) :: starEach [] X.env := by rfl) (hpl : (backTo pos (starEach [] X.env)).any (·.1) = false := by rfl) : SE b X (.Call (.Name "sorted" p) [x] [] pos) (d1 pSrtT fx) := se_1 hx fun ρ μ Φ h => by
  refine fun G H σ m v Q f => ?_
  refine WE.of (pe_callB (r := fun vs H Q => ∃ d : Nat, 1 ≤ d ∧ rSortU X.K d 1000 vs H Q) (fun pins s σ H vs us Q I r ⟨d, hd, h⟩ => cr_sortT hd pins s σ H vs us Q I r h) hg B.sorted PyProof.Rows.boot_sorted pwa (by decide) (by decide) he hpl) ?_
  refine (da_cons (Λ := fun os μ2 => ∃ d r, os = [.im d] ∧ pSrtT d = some r ∧ Φ (.im r) μ2) (h.imp fun w μ2 ⟨d, r, a1, a2, a3⟩ => da_nil ⟨d, r, by rw [a1], a2, a3⟩) he) G H σ m v _ fun vs os μ2 G2 H2 q2 e2 m2 r2 => ?_
  obtain ⟨d, r, rfl, hp, q⟩ := q2
  obtain ⟨ts, rfl, rfl, h1, h2, h3⟩ := pSrtT_some hp
  obtain ⟨u, rfl, ru⟩ := ro1 r2
  have ru : Dv G2 u (.list (ts.map tpl)) := ru
  cases ru with
  | lst ha wa =>
    refine ⟨hdLen ts, h1, _, _, rfl, .inl (.inl (m2.ex _ _ ha)), by rw [wa.length, List.length_map]; exact h2, fun y hy => ?_, fun ys p hperm hpw hn => ?_⟩
    · obtain ⟨i, hi⟩ := List.getElem?_of_mem hy
      obtain ⟨dd, hdd, rr⟩ := DvA.getV wa hi
      rw [List.getElem?_map] at hdd
      cases hq : ts[i]? with
      | none =>
        rw [hq] at hdd
        cases hdd
      | some t =>
        rw [hq] at hdd
        cases hdd
        have := h3 t (List.mem_of_getElem? hq)
        exact ⟨t, tup_of m2.ex rr, this.1, this.2⟩
    · obtain ⟨es, pe, we⟩ := DvA.perm hperm wa
      obtain ⟨us, rfl, pu⟩ := tpl_perm pe
      have := srtT_eq pu (DvA.pw m2.ex we hpw) h3
      subst this
      have n := m2.ex.free hn
      exact f _ _ _ _ _ q (e2.trans (Ex.new n)) (m2.lay hn) (Dv.lst upd_same (we.mono (Ex.new n)))
end
end Nx
namespace Nx
open PySem PySem.Spec PyProof.Rows L2
open Tree
end Nx
namespace Nx
open PySem PySem.Spec PyProof.Rows L2
open Tree
section
variable {b : Addr} {X : Cx} {x y tg : Expr} {fx fy : DenE} {pos q1 q2 q3 : Pos} {k3 : Nat}
def sPar4 (i1 i2 i3 i4 : Nat) (fx fy : DenE) : DenS := fun E => (fx E).bind fun u => (fy E).bind fun w => .ret (.nx ((((E.set i1 (some (.d u))).set i2 (some (.d w))).set i3 (some (.own []))).set i4 (some (.own []))))
end
end Nx
namespace Nx
open PySem PySem.Spec PyProof.Rows L2
open Tree
def pInD (d e : PyData) : Option Bool := match e with
  | .list ds => if SeqAt.shaped d = true ∧ SeqAt.shaped (.list ds) = true then some (ds.any fun z => PyData.eqv z d) else none
  | _ => none
theorem ok_inD {K : PySem.W.Frag} : OkCmp (rInD K) pInD := fun d d' v μ Φ h q G H vx vy m rx ry Q f => by
  unfold pInD at h
  split at h
  · rename_i ds
    split at h
    · rename_i c
      cases h
      have rx : Dv G vx d := rx
      have ry : Dv G vy (.list ds) := ry
      exact ⟨d, ds, (rx.mono m.ex).dp, (ry.mono m.ex).dp, c.1, c.2, f _ _ _ _ _ q (Ex.refl G) m (Dv.bl _)⟩
    · cases h
  · cases h
end Nx
namespace Nx
open PySem PySem.Spec PyProof.Rows L2
open Tree
theorem units65 {k : Nat} {A : Around} (r : Room k A) : A.units + 65 < cLine := by have := r.un; omega
end Nx
namespace Nx
open PySem PySem.Spec PyProof.Rows L2
open Tree
def dOIx (i : Nat) (fy : DenE) : DenE := fun E => match E[i]? with
  | some (some (.own l)) => (fy E).bind fun y => match y with | .int j => liftO (atI l j) | _ => .fail
  | _ => .fail
end Nx
namespace Nx
open PySem PySem.Spec PyProof.Rows L2
open Tree
section
variable {b : Addr} {X : Cx} {x y : Expr} {fx fy : DenE} {pos : Pos}
def sOPar (i j : Nat) (fx fy : DenE) : DenS := fun E => (fx E).bind fun d => match d with | .list xs => (fy E).bind fun e => .ret (.nx ((E.set i (some (.own xs))).set j (some (.d e)))) | _ => .fail
def sOOPar (i j : Nat) (fx fy : DenE) : DenS := fun E => (fx E).bind fun d => match d with | .list xs => (fy E).bind (fun e => match e with | .list ys => .ret (.nx ((E.set i (some (.own xs))).set j (some (.own ys)))) | _ => .fail) | _ => .fail
end
end Nx
namespace Nx
open PySem PySem.Spec PyProof.Rows L2
open Tree
end Nx
namespace Nx
open PySem PySem.Spec PyProof.Rows L2
open Tree
end Nx
namespace Nx
open PySem PySem.Spec PyProof.Rows L2
open Tree
section
variable {b : Addr} {X : Cx} {e x y tg : Expr} {fx fy : DenE} {pos : Pos}
def sNest (i j k : Nat) (fx fy : DenE) : DenS := fun E => (fx E).bind fun u => (fy E).bind fun w => match w with | .tuple [a, c] => .ret (.nx (((E.set i (some (.d u))).set j (some (.d a))).set k (some (.d c)))) | _ => .fail
end
end Nx
namespace Nx
open PySem PySem.Spec PyProof.Rows L2
open Tree
def dPr (i : Nat) (f : DenE) : DenE := fun E => match E[i]? with | some (some (.own ds)) => (f E).bind fun x => .ret (.tuple [.list ds, x]) | _ => .fail
def pC (g : DenS) (h : DenE) : DenE := fun E => (g E).bind fun o => match o with | .nx E' => h E' | _ => .fail
def pFrz (i : Nat) (h : DenE) : DenE := fun E => h (frzE i E)
def fnP (a n : Nat) (body : DenE) : List W → Tree PyData := fun ws => (liftO (lenIs a ws)).bind fun _ => body (ws.map (fun w => some (ent w)) ++ List.replicate (n - a) none)
section
variable {b : Addr} {X : Cx} {e x y : Expr} {es : List Expr} {fx : DenE} {g : DenS} {h : DenE} {st : Stmt} {ss : List Stmt} {pos : Pos} {ρ : Rho} {μ : Mu} {Φ : OV → Mu → Prop}
def sCallP (i j : Nat) (F : List W → Tree PyData) (fs : Env → Tree (List W)) : DenS := fun E => (fs E).bind fun ws => (F ws).bind fun d => match d with | .tuple [.list ds, x] => .ret (.nx ((E.set i (some (.own ds))).set j (some (.d x)))) | _ => .fail
def dOLen (i : Nat) : DenE := fun E => match E[i]? with | some (some (.own l)) => .ret (.int l.length) | _ => .fail
end
end Nx
namespace Nx
open PySem PySem.Spec PyProof.Rows L2
open Tree
end Nx
namespace Nx
open PySem PySem.Spec PyProof.Rows L2
open Tree
end Nx
namespace Nx
open PySem PySem.Spec PyProof.Rows L2
open Tree
end Nx
namespace Nx
open PySem PySem.Spec PyProof.Rows L2
open Tree
end Nx
namespace Nx
open PySem PySem.Spec PyProof.Rows L2
open Tree
section
variable {b : Addr} {X : Cx} {x y z : Expr} {fx fy fz : DenE} {pos : Pos}
def sIx (i : Nat) (fy fz : DenE) : DenS := fun E => (fz E).bind fun z => match E[i]? with
  | some (some (.own l)) => (fy E).bind fun y => match y with | .int j => (match ixN l.length j with | some m => .ret (.nx (E.set i (some (.own (l.set m z))))) | none => .fail) | _ => .fail
  | _ => .fail
end
end Nx
namespace Nx
open PySem PySem.Spec PyProof.Rows L2
open Tree
mutual
inductive Ld (b : Addr) (μ : Mu) : OV → PyData → Prop
  | im (d : PyData) : Ld b μ (.im d) d
  | own {q : Addr} {os : List OV} {ds : List PyData} : q ≠ b → μ q = some os → LdA b μ os ds → Ld b μ (.own q) (.list ds)
inductive LdA (b : Addr) (μ : Mu) : List OV → List PyData → Prop
  | nil : LdA b μ [] []
  | cons {o : OV} {os : List OV} {d : PyData} {ds : List PyData} : Ld b μ o d → LdA b μ os ds → LdA b μ (o :: os) (d :: ds)
end
def lendH (b : Addr) (μ : Mu) (who : Addr → Option Addr) (G H : Hp) : Hp := fun a => if a ≠ b ∧ (μ a).isSome = true ∨ (who a).isSome = true then H a else G a
section
variable {b : Addr} {μ : Mu} {G H : Hp} {who : Addr → Option Addr}
theorem lend_ex (m : RM G H μ) (t : Thg who G H μ) : Ex G (lendH b μ who G H) := fun a o e => by
  unfold lendH
  rw [if_neg]
  · exact e
  · rintro (⟨_, h⟩ | h)
    · obtain ⟨l, hl⟩ := Option.isSome_iff_exists.mp h
      rw [(m.own a l hl).1] at e
      cases e
    · obtain ⟨c, hc⟩ := Option.isSome_iff_exists.mp h
      rw [(t.of a c hc).1] at e
      cases e
theorem lend_at {a : Addr} {l : List OV} (h : a ≠ b) (hl : μ a = some l) : lendH b μ who G H a = H a := if_pos (.inl ⟨h, by rw [hl]; rfl⟩)
theorem lend_th {x a : Addr} (h : who x = some a) : lendH b μ who G H x = H x := if_pos (.inr (by rw [h]; rfl))
mutual
theorem Ld.dv (m : RM G H μ) (t : Thg who G H μ) : ∀ {o : OV} {d : PyData}, Ld b μ o d → ∀ {v : V}, RO G v o → Dv (lendH b μ who G H) v d
  | _, _, .im d, v, r => Dv.mono (lend_ex m t) r
  | _, _, .own hq hl ha, v, r => by
    have r : v = .ref _ := r
    subst r
    obtain ⟨_, vs, hv, w⟩ := m.own _ _ hl
    exact .lst ((lend_at hq hl).trans hv) (LdA.dv m t ha w)
theorem LdA.dv (m : RM G H μ) (t : Thg who G H μ) : ∀ {os : List OV} {ds : List PyData}, LdA b μ os ds → ∀ {vs : List V}, ROs G vs os → DvA (lendH b μ who G H) vs ds
  | _, _, .nil, _, .nil => .nil
  | _, _, .cons h hs, _, .cons r s => .cons (Ld.dv m t h r) (LdA.dv m t hs s)
end
theorem LdA.ims : ∀ ds : List PyData, LdA b μ (ds.map .im) ds
  | [] => .nil
  | d :: ds => .cons (.im d) (LdA.ims ds)
end
theorem LlAt.ld {b : Addr} {μ0 μ : Mu} {p : Addr} {ls : List (List PyData)} (h : LlAt b μ0 p ls) (s : Bs b μ0 μ) : Ld b μ (.own p) (.list (ls.map .list)) := by
  obtain ⟨ps, pb, hp, nd, hP⟩ := h
  refine .own pb (s.old _ _ pb hp) ?_
  clear hp nd
  induction hP with
  | nil => exact .nil
  | cons r _ ih => exact .cons (.own r.1 (s.old _ _ r.1 r.2) (LdA.ims _)) ih
def rhoOf (b : Addr) : Option W → Option OV
  | some (.d d) => some (.im d)
  | some .bx => some (.own b)
  | some w => perW w
  | none => none
theorem rhoOf_per {b : Addr} {w : W} {o : OV} (h : perW w = some o) : rhoOf b (some w) = some o := by
  cases w <;> cases h <;> rfl
section
variable {b : Addr} {X : Cx} {e x y : Expr} {es : List Expr} {f : DenB} {fx fy : DenE} {st : Stmt} {ss : List Stmt} {pos p apos cpos rp : Pos} {gs : Env → Tree (List W)}
theorem dt_lend {μ : Mu} {E : Env} {ρ : Rho} {Φ : Bool → Mu → Prop} (hbx : ∃ p q t, μ b = some (bx p q t)) (ht : ST b X e f) (hlen : ρ.length = E.length) (hd : ∀ (i : Nat) w, E[i]? = some (some w) → (w = .bx ∧ ρ[i]? = some (some (.own b))) ∨ (∃ o, perW w = some o ∧ ρ[i]? = some (some o)) ∨ ∃ d o, w = .d d ∧ ρ[i]? = some (some o) ∧ Ld b μ o d)
    (q : (f E).All fun k => ∀ μ', Bs b μ μ' → Φ k μ') : DT X e ρ μ Φ := fun G H σ m v Q fin => by
  obtain ⟨who, t⟩ := m.thg
  have hG0 : ∀ a l, μ a = some l → G a = none := fun a l h => (m.own a l h).1
  obtain ⟨bp, bq, bt, hb⟩ := hbx
  obtain ⟨M, hM⟩ : ∃ M : Mu, M = ⟨fun a => if a = b then μ b else none, fun _ => none, μ.C⟩ := ⟨_, rfl⟩
  have Mb : M b = some (bx bp bq bt) := by rw [hM]; simp [hb]
  have Mo : ∀ a, a ≠ b → M a = none := fun a ha => by rw [hM]; simp [ha]
  have Md : ∀ a, M.d a = none := fun a => by rw [hM]
  have MC : M.C = μ.C := by rw [hM]
  have bn : ∀ x a, who x = some a → x ≠ b := fun x a hx z => by
    have := (t.of x a hx).2.1
    rw [z, hb] at this
    cases this
  have m' : RM (lendH b μ who G H) H M := by
    refine ⟨fun a o ea => ?_, fun a l ea => ?_, fun _ => none, fun a t' h => ?_, fun x a h => nomatch h⟩
    · unfold lendH at ea
      split at ea
      · exact ea
      · exact m.ex a o ea
    · by_cases ha : a = b
      · subst ha
        have el : μ a = some l := by rw [hb, ← Mb]; exact ea
        obtain ⟨g, vs, hv, w⟩ := m.own a l el
        refine ⟨?_, vs, hv, w.mono (lend_ex m t)⟩
        unfold lendH
        rw [if_neg]
        · exact g
        · rintro (h | h)
          · exact h.1 rfl
          · obtain ⟨c, hc⟩ := Option.isSome_iff_exists.mp h
            exact bn _ _ hc rfl
      · rw [Mo a ha] at ea
        cases ea
    · rw [Md] at h
      cases h
  have gρ : ∀ (i : Nat) o, (E.map (rhoOf b))[i]? = some (some o) → ∃ w, E[i]? = some (some w) ∧ rhoOf b (some w) = some o := fun i o h => by
    rw [List.getElem?_map] at h
    cases hE : E[i]? with
    | none =>
      rw [hE] at h
      cases h
    | some w0 =>
      rw [hE] at h
      have h : rhoOf b w0 = some o := Option.some.inj h
      cases w0 with
      | none => cases h
      | some w => exact ⟨w, rfl, h⟩
  have v' : RV (lendH b μ who G H) (E.map (rhoOf b)) σ := by
    refine ⟨by rw [v.len, hlen, List.length_map], fun i o h => ?_⟩
    obtain ⟨w, hE, ho⟩ := gρ i o h
    rcases hd i w hE with ⟨rfl, hr⟩ | ⟨o', hp, hr⟩ | ⟨d, o', rfl, hr, hL⟩
    · cases ho
      obtain ⟨u, h1, h2⟩ := v.get i _ hr
      exact ⟨u, h1, h2⟩
    · rw [rhoOf_per hp] at ho
      cases ho
      obtain ⟨u, h1, h2⟩ := v.get i _ hr
      exact ⟨u, h1, h2.mono (lend_ex m t)⟩
    · cases ho
      obtain ⟨u, h1, h2⟩ := v.get i _ hr
      exact ⟨u, h1, Ld.dv m t hL h2⟩
  have R' : Rel b M E (E.map (rhoOf b)) M := by
    refine ⟨List.length_map .., ⟨_, _, _, Mb⟩, ⟨_, _, _, Mb⟩, Bs.refl b M, fun i w hE => ?_, fun i j ds es' a h1 h2 => ?_, fun i j w w' a h1 h2 t1 _ => ?_⟩
    · rcases hd i w hE with ⟨rfl, hr⟩ | ⟨o', hp, hr⟩ | ⟨d, o', rfl, hr, hL⟩
      · exact ⟨.own b, by rw [List.getElem?_map, hE]; rfl, rfl⟩
      · exact ⟨o', by rw [List.getElem?_map, hE]; exact congrArg some (rhoOf_per hp), (RW.per hp).mpr rfl⟩
      · exact ⟨.im d, by rw [List.getElem?_map, hE]; rfl, rfl⟩
    · rcases hd i _ h1 with ⟨h, _⟩ | ⟨_, h, _⟩ | ⟨d, o', h, _, _⟩ <;> cases h
    · rcases hd i _ h1 with ⟨h, _⟩ | ⟨_, h, _⟩ | ⟨d, o', h, _, _⟩
      · rw [h] at t1; cases t1
      · rw [perW_th h] at t1; cases t1
      · rw [h] at t1; cases t1
  refine (ht.run M E _ M (fun k μ1 => Bs b M μ1 ∧ ∀ μ', Bs b μ μ' → Φ k μ') R' (q.imp fun k q μ1 s1 => ⟨s1, q⟩)) (lendH b μ who G H) H σ m' v' Q fun k μ1 G1 H1 ⟨s1, q1⟩ e1 m1 => ?_
  obtain ⟨p', q', t', hb1⟩ := s1.box _ _ _ Mb
  obtain ⟨μ2, hμ2⟩ : ∃ M : Mu, M = ⟨fun a => if a = b then μ1 b else μ a, μ.d, μ.C⟩ := ⟨_, rfl⟩
  have z1 : μ2 b = some (bx p' q' t') := by rw [hμ2]; simp [hb1]
  have z2 : ∀ a, a ≠ b → μ2 a = μ a := fun a ha => by rw [hμ2]; simp [ha]
  have z3 : μ2.d = μ.d := by rw [hμ2]
  have z4 : μ2.C = μ.C := by rw [hμ2]
  refine fin k μ2 G H1 (q1 μ2 ⟨fun a l na ea => (z2 a na).trans ea, fun _ _ _ _ => ⟨p', q', t', z1⟩, fun a t' e => by rw [z3]; exact e, z4⟩) (Ex.refl G) ⟨((lend_ex m t).trans e1).trans m1.ex, fun a l ea => ?_, who, ?_⟩
  · by_cases ha : a = b
    · subst ha
      rw [z1] at ea
      cases ea
      obtain ⟨_, vs, hv, w⟩ := m1.own a _ hb1
      refine ⟨hG0 a _ hb, vs, hv, ?_⟩
      have ei : vs = [V.int p', V.int q', V.int t'] := DvA.ints [p', q', t'] (ROs.ims (ds := [.int p', .int q', .int t']) w)
      subst ei
      exact ROs.of_ims (ds := [.int p', .int q', .int t']) (.cons (.int _) (.cons (.int _) (.cons (.int _) .nil)))
    · rw [z2 a ha] at ea
      obtain ⟨g, vs, hv, w⟩ := m.own a l ea
      exact ⟨g, vs, m1.ex _ _ (e1 _ _ ((lend_at ha ea).trans hv)), w⟩
  · refine t.keep (Ex.refl G) z3 z4 fun x a hx => ?_
    obtain ⟨t1, t2, ⟨o, ho, _⟩, _⟩ := t.of x a hx
    refine ⟨?_, t1, (z2 x (bn x a hx)).trans t2⟩
    rw [ho]
    exact m1.ex _ _ (e1 _ _ ((lend_th hx).trans ho))
def cFO (F : List W → Tree PyData) : Ct := fun os μ Φ => ∃ b ws, os = ws.map (wo b) ∧ (∃ p q t, μ b = some (bx p q t)) ∧ (F ws).All (fun d => ∃ ds, d = .list ds ∧ ∀ μ' p, Bs b μ μ' → μ' p = none → Φ (.own p) (μ'.put p (ds.map .im)))
def OutO (b : Addr) (μ0 : Mu) (D : DEnds) : Out → Prop
  | .rt v => ∃ ds, v = .list ds ∧ ∀ μ p, Bs b μ0 μ → μ p = none → D.rt (.own p) (μ.put p (ds.map .im))
  | _ => False
structure SSo (b : Addr) (X : Cx) (ss : List Stmt) (f : DenS) : Prop where
  run : ∀ μ0 E ρ μ D, Rel b μ0 E ρ μ → (f E).All (OutO b μ0 D) → DSs X ss ρ μ D
theorem de_callO {μ0 μ : Mu} {E : Env} {ρ : Rho} {Φ : OV → Mu → Prop} {F : List W → Tree PyData} {nm : Str} {fst : Stmt} {ps : List Str} {k : Nat} (R : Rel b μ0 E ρ μ) (FC : Fc X.prog X.w X.K X.mg X.base nm fst ps k (cFO F)) (hr : Rm k X.A) (hgl : Gl X nm)
    (hb : ∀ (kV doc pm : Value) (an : Option Addr) (cdv ct : Value) (us : List Value), us.length = ps.length → bindArgs (PySem.W.fnOf nm nm (defArgs fst) (defBody fst) (defScope fst) .none kV doc pm an cdv ct) ⟨us, []⟩ = pure (ps.zip us))
    (ha : SA b X (x :: es) gs) (q : (dCall F gs E).All fun d => ∃ ds, d = .list ds ∧ ∀ μ' p, Bs b μ μ' → μ' p = none → Φ (.own p) (μ'.put p (ds.map .im))) (hdb : (nm == ("__debug__" : Str)) = false) (he : starEach (x :: es) X.env = (false, eval x X.env) :: starEach es X.env) (hpl : (backTo cpos (starEach es X.env)).any (·.1) = false) : DE X (.Call (.Name nm p) (x :: es) [] cpos) ρ μ Φ :=
  de_call FC hr hgl hb (ha.run μ0 E ρ μ _ R ((all_bind.mp q).imp fun ws q μ1 s1 => ⟨b, ws, rfl, (R.step s1).bxs, q.imp fun d ⟨ds, ed, q⟩ => ⟨ds, ed, fun μ' p s2 hp => q μ' p (s1.trans s2) hp⟩⟩)) hdb he hpl
theorem Rel.hide {μ0 μ : Mu} {E : Env} {ρ : Rho} (R : Rel b μ0 E ρ μ) (h : Nat) (o : Option OV) : Rel b μ0 (E.set h none) (ρ.set h o) μ := R.wipeO h o
theorem Rel.putX {μ0 μ : Mu} {E : Env} {ρ : Rho} (R : Rel b μ0 E ρ μ) {a : Addr} {l : List OV} (ha : a ≠ b) (h0 : μ0 a = none) (no : ∀ (j : Nat) ds c, E[j]? = some (some (.own ds)) → ρ[j]? = some (some (.own c)) → c ≠ a) : Rel b μ0 E ρ (μ.put a l) := by
  obtain ⟨u, q, t, hb⟩ := R.bxs
  refine ⟨R.len, ⟨u, q, t, (put_ne fun z => ha z.symm).trans hb⟩, R.bx0, ⟨fun c m n ec => ?_, fun u q t ec => ?_, R.ext.thg, R.ext.cls⟩, fun j w ej => ?_, R.inj, R.injT⟩
  · rw [put_ne (fun z => by rw [z, h0] at ec; cases ec)]
    exact R.ext.old c m n ec
  · obtain ⟨u', q', t', e'⟩ := R.ext.box u q t ec
    exact ⟨u', q', t', (put_ne fun z => ha z.symm).trans e'⟩
  · obtain ⟨o, a1, a2⟩ := R.get j w ej
    refine ⟨o, a1, a2.upto (fun xs c hw c1 _ _ c4 => ?_) fun _ _ _ _ _ h => h⟩
    subst hw
    exact (put_ne (no j xs c ej (by rw [a1, c1]))).trans c4
structure Nst (b : Addr) (μ0 : Mu) (E : Env) (ρ : Rho) (μ : Mu) (h i : Nat) (q p : Addr) (l es : List PyData) : Prop where
  rel : Rel b μ0 E ρ μ
  rh : ρ[h]? = some (some (.own q))
  mq : μ q = some ((l.map .im).set i (.own p))
  li : l[i]? = some (.list es)
  mp : μ p = some (es.map .im)
  pb : p ≠ b
  qb : q ≠ b
  pq : p ≠ q
  p0 : μ0 p = none
  q0 : μ0 q = none
  np : ∀ (j : Nat) ds c, E[j]? = some (some (.own ds)) → ρ[j]? = some (some (.own c)) → c ≠ p
  nq : ∀ (j : Nat) ds c, E[j]? = some (some (.own ds)) → ρ[j]? = some (some (.own c)) → c ≠ q
theorem Nst.step {μ0 μ μ' : Mu} {E : Env} {ρ : Rho} {h i : Nat} {q p : Addr} {l es : List PyData} (N : Nst b μ0 E ρ μ h i q p l es) (s : Bs b μ μ') : Nst b μ0 E ρ μ' h i q p l es :=
  ⟨N.rel.step s, N.rh, s.old _ _ N.qb N.mq, N.li, s.old _ _ N.pb N.mp, N.pb, N.qb, N.pq, N.p0, N.q0, N.np, N.nq⟩
structure SN (b : Addr) (X : Cx) (h i : Nat) (ss : List Stmt) (f : List PyData → DenS) : Prop where
  run : ∀ μ0 E ρ μ D q p l es, Nst b μ0 E ρ μ h i q p l es → (f l E).All (OutOk b μ0 D) → DSs X ss ρ μ D
def nApp (fx : DenE) (f : List PyData → DenS) : List PyData → DenS := fun l E => (fx E).bind fun y => (liftO (small (l.length + 1))).bind fun _ => f (l ++ [y]) E
def frzW : Option W → Option W
  | some (.own l) => some (.d (.list l))
  | some (.odc _) => none
  | some (.cir _) => none
  | some (.lc _) => none
  | some (.ll ls) => some (.d (.list (ls.map .list)))
  | w => w
def lendE (h : Nat) (l : List PyData) (E : Env) : Env := (E.set h (some (.d (.list l)))).map frzW
def nIf (h : Nat) (ft : DenB) (f : List PyData → DenS) : List PyData → DenS := fun l E => (ft (lendE h l E)).bind fun k => match k with | true => .ret (.rt (.bool false)) | false => f l E
def nEnd (i : Nat) (fx : DenE) (g : DenS) : List PyData → DenS := fun l E => match l[i]? with | some (.list es) => (liftO (small (es.length + 1))).bind fun _ => (fx E).bind fun _ => g E | _ => .fail
theorem sn_if {h i : Nat} {f : List PyData → DenS} {ft : DenB} {c : Expr} {j : Nat} {p1 p2 : Pos} (hc : ST b X c ft) (ht : SN b X h i ss f) : SN b X h i (.If c [.Return (some (.Constant (.bool false) j p1)) p2] [] pos :: ss) (nIf h ft f) := .mk fun μ0 E ρ μ D q p l es N qa => by
  refine dss_cons (ds_if (dt_lend N.rel.bxs hc (E := lendE h l E) (by unfold lendE; rw [List.length_map, List.length_set, N.rel.len]) (fun j w hj => ?_) ((all_bind.mp qa).imp fun k qa μ1 s1 => ?_)))
  · unfold lendE at hj
    rw [List.getElem?_map] at hj
    by_cases ej : h = j
    · subst ej
      by_cases hl : h < E.length
      · rw [List.getElem?_set_self hl] at hj
        cases hj
        refine .inr (.inr ⟨_, _, rfl, N.rh, .own N.qb N.mq ?_⟩)
        have key : ∀ (m : Nat) (k : List PyData), k[m]? = some (.list es) → LdA b μ ((k.map .im).set m (.own p)) k := by
          intro m k
          induction k generalizing m with
          | nil => intro hk; cases hk
          | cons d k ih =>
            intro hk
            cases m with
            | zero =>
              cases hk
              exact .cons (.own N.pb N.mp (LdA.ims es)) (LdA.ims k)
            | succ m => exact .cons (.im d) (ih m hk)
        exact key i l N.li
      · rw [List.getElem?_eq_none (by rw [List.length_set]; omega)] at hj
        cases hj
    · rw [List.getElem?_set_ne ej] at hj
      cases hE : E[j]? with
      | none =>
        rw [hE] at hj
        cases hj
      | some w0 =>
        rw [hE] at hj
        have hj : frzW w0 = some w := Option.some.inj hj
        cases w0 with
        | none => cases hj
        | some w1 =>
          obtain ⟨o, a1, a2⟩ := N.rel.get j w1 hE
          cases w1 with
          | d d =>
            cases hj
            cases a2
            exact .inr (.inr ⟨d, _, rfl, a1, .im d⟩)
          | dic kvs =>
            cases hj
            cases a2
            exact .inr (.inl ⟨_, rfl, a1⟩)
          | dtt kvs =>
            cases hj
            cases a2
            exact .inr (.inl ⟨_, rfl, a1⟩)
          | exn C f d =>
            cases hj
            cases a2
            exact .inr (.inl ⟨_, rfl, a1⟩)
          | exs l =>
            cases hj
            cases a2
            exact .inr (.inl ⟨_, rfl, a1⟩)
          | ll ls =>
            cases hj
            obtain ⟨c, rfl, hc⟩ := a2
            exact .inr (.inr ⟨_, _, rfl, a1, hc.ld N.rel.ext⟩)
          | odc kvs => cases hj
          | cir c => cases hj
          | lc c => cases hj
          | bx =>
            cases hj
            cases a2
            exact .inl ⟨rfl, a1⟩
          | own ds =>
            cases hj
            obtain ⟨c, rfl, c2, c3, c4⟩ := a2
            exact .inr (.inr ⟨_, _, rfl, a1, .own c2 c4 (LdA.ims ds)⟩)
  · cases k with
    | true =>
      rw [if_pos rfl]
      exact dss_one (ds_ret (de_bl (qa μ1 (N.rel.ext.trans s1))))
    | false =>
      rw [if_neg (by decide)]
      exact dss_nil (ht.run μ0 E ρ μ1 D q p l es (N.step s1) qa)
theorem at_set {l : List OV} {i : Nat} {o : OV} (h : i < l.length) : atI (l.set i o) (i : Int) = some o := by
  unfold atI ixN
  rw [if_pos (by omega), if_pos (by rw [List.length_set]; omega)]
  show (l.set i o)[(i : Int).toNat]? = some o
  rw [Int.toNat_natCast, List.getElem?_set_self h]
theorem sn_end {h i : Nat} {n : Str} {np p3 p4 : Pos} {j : Nat} {g : DenS} (hN : X.N[h]? = some n) (hv : Vis X.env.scope n) (hx : SE b X x fx) (ht : SSs b X ss g) (hd : (n == ("__debug__" : Str)) = false := by decide) (hcd : (n == ("__classdict__" : Str)) = false := by decide)
    (hbase : attributeBase (.Subscript (.Name n np) (.Constant (.int (i : Int)) j p3) p4) "append" X.env (eval (.Subscript (.Name n np) (.Constant (.int (i : Int)) j p3) p4) X.env) = eval (.Subscript (.Name n np) (.Constant (.int (i : Int)) j p3) p4) X.env := by rfl)
    (hfew : ((backTo cpos (starEach [x] X.env)).all (fun x => !x.1) && (backToKw cpos (keywordEach [] X.env)).all (fun x => x.1.isSome) && decide ([x].length + ([] : List Keyword).length + (if ([] : List Keyword).isEmpty then 0 else 1) < 30)) = true := by rfl)
    (hline : (apos.endLine == cpos.line) = true := by rfl) (hst : starEach [x] X.env = (false, eval x X.env) :: starEach [] X.env := by rfl) (hplain : (backTo cpos (starEach [] X.env)).any (·.1) = false := by rfl)
    (hs : swapsWith (.Call (.Attribute (.Subscript (.Name n np) (.Constant (.int (i : Int)) j p3) p4) "append" apos) [x] [] cpos) none pos.line X.env = pure false := by rfl) : SN b X h i (.Expr (.Call (.Attribute (.Subscript (.Name n np) (.Constant (.int (i : Int)) j p3) p4) "append" apos) [x] [] cpos) pos :: ss) (nEnd i fx g) := .mk fun μ0 E ρ μ D q p l es N qa => by
  have hil := (List.getElem?_eq_some_iff.mp N.li).1
  unfold nEnd at qa
  rw [N.li] at qa
  dsimp only at qa
  obtain ⟨hz, qa⟩ := small_le (all_bind.mp qa)
  refine dss_cons (ds_expr (de_append (de_ix (fun _ _ => rfl) (de_var h hN hv N.rh (de_int ⟨_, (i : Int), .own p, .own N.mq, rfl, at_set (by rw [List.length_map]; exact hil), p, _, rfl, N.mp, hx.run μ0 E ρ μ _ N.rel ((all_bind.mp qa).imp fun y qa μ2 s2 => ?_)⟩) hd hcd)) hbase hfew hline hst hplain) hs)
  have N2 := N.step s2
  refine ⟨_, N2.mp, by rw [List.length_map]; omega, ?_⟩
  exact ht.run μ0 E ρ _ D (N2.rel.putX N.pb N.p0 N.np) qa
def sN0 (h : Nat) (F : DenE) (fy : DenE) (f : List PyData → DenS) : DenS := fun E => (liftO (if h < E.length then some () else none)).bind fun _ => (F E).bind fun d => match d with | .list es => (fy E).bind fun y => f [.list es, y] (E.set h none) | _ => .fail
def sN1 (h : Nat) (fx : DenE) (F : DenE) (f : List PyData → DenS) : DenS := fun E => (liftO (if h < E.length then some () else none)).bind fun _ => (fx E).bind fun x => (F E).bind fun d => match d with | .list es => f [x, .list es] (E.set h none) | _ => .fail
theorem lt_all {n m : Nat} {Q : Unit → Prop} (h : (liftO (if n < m then some () else none)).All Q) : n < m ∧ Q () := by
  by_cases c : n < m
  · rw [if_pos c] at h
    exact ⟨c, h⟩
  · rw [if_neg c] at h
    exact h.elim
theorem Rel.own_ne {μ0 μ : Mu} {E : Env} {ρ : Rho} (R : Rel b μ0 E ρ μ) {a : Addr} (h : μ a = none) : ∀ (j : Nat) ds c, E[j]? = some (some (.own ds)) → ρ[j]? = some (some (.own c)) → c ≠ a := fun j ds c h1 h2 z => by
  subst z
  obtain ⟨o, a1, c', a2, _, _, a3⟩ := R.get j _ h1
  rw [h2] at a1
  cases a1
  cases a2
  rw [h] at a3
  cases a3
theorem hide_own {E : Env} {ρ : Rho} {h : Nat} {o : Option OV} {Q : Nat → List PyData → Addr → Prop} (k : ∀ (j : Nat) ds c, E[j]? = some (some (.own ds)) → ρ[j]? = some (some (.own c)) → Q j ds c) : ∀ (j : Nat) ds c, (E.set h none)[j]? = some (some (.own ds)) → (ρ.set h o)[j]? = some (some (.own c)) → Q j ds c := fun j ds c e1 e2 => by
  by_cases hj : h = j
  · subst hj
    by_cases hl : h < E.length
    · rw [List.getElem?_set_self hl] at e1
      cases e1
    · rw [List.getElem?_eq_none (by rw [List.length_set]; omega)] at e1
      cases e1
  · rw [List.getElem?_set_ne hj] at e1 e2
    exact k j ds c e1 e2
theorem ssn_0 (h : Nat) {n : Str} {p' lp : Pos} {F : List W → Tree PyData} {nm : Str} {fst : Stmt} {ps : List Str} {k : Nat} {f : List PyData → DenS} (hN : X.N.Nodup) (hi : X.N[h]? = some n) (hl : Loc X.env.scope n) (FC : Fc X.prog X.w X.K X.mg X.base nm fst ps k (cFO F)) (hr : Rm k X.A) (hgl : Gl X nm)
    (hb : ∀ (kV doc pm : Value) (an : Option Addr) (cdv ct : Value) (us : List Value), us.length = ps.length → bindArgs (PySem.W.fnOf nm nm (defArgs fst) (defBody fst) (defScope fst) .none kV doc pm an cdv ct) ⟨us, []⟩ = pure (ps.zip us))
    (ha : SA b X (x :: es) gs) (hy : SE b X y fy) (ht : SN b X h 0 ss f) (hdb : (nm == ("__debug__" : Str)) = false := by decide) (he : starEach (x :: es) X.env = (false, eval x X.env) :: starEach es X.env := by rfl) (hpl : (backTo cpos (starEach es X.env)).any (·.1) = false := by rfl)
    (e1 : starEach [.Call (.Name nm p) (x :: es) [] cpos, y] X.env = (false, eval (.Call (.Name nm p) (x :: es) [] cpos) X.env) :: starEach [y] X.env := by rfl) (e2 : starEach [y] X.env = (false, eval y X.env) :: starEach [] X.env := by rfl)
    (hs : swapsWith (.List [.Call (.Name nm p) (x :: es) [] cpos, y] lp) (some (.Name n p')) pos.line X.env = pure false := by rfl) (hf : X.fn n = true ∨ X.env.scope.names.lookup n = some .local := by first | exact .inl rfl | exact .inr rfl | assumption) : SSs b X (.Assign [.Name n p'] (.List [.Call (.Name nm p) (x :: es) [] cpos, y] lp) pos :: ss) (sN0 h (dCall F gs) fy f) := .mk fun μ0 E ρ μ D R qa => by
  obtain ⟨hhl, qa⟩ := lt_all (all_bind.mp qa)
  refine dss_cons (ds_set h hN hi hl (de_lstO (da_cons (de_callO R FC hr hgl hb ha ((all_bind.mp qa).imp fun d qa => ?_) hdb he hpl) e1)) hs hf)
  cases d with
  | list ds =>
    refine ⟨ds, rfl, fun μ1 p1 s1 hp1 => ?_⟩
    have sB : Bs b μ (μ1.put p1 (ds.map .im)) := s1.trans (Bs.put hp1)
    have R1 := R.step sB
    have p1b : p1 ≠ b := fun z => by
      obtain ⟨u, q, t, hbx⟩ := (R.step s1).bxs
      rw [z, hbx] at hp1
      cases hp1
    refine da_cons (hy.run μ0 E ρ _ _ R1 ((all_bind.mp qa).imp fun yv qa μ2 s2 => da_nil ⟨by show 2 ≤ 100000; decide, fun q hq => ?_⟩)) e2
    have R2 := R1.step s2
    have hp2 : μ2 p1 = some (ds.map .im) := s2.old p1 _ p1b put_same
    have qb : q ≠ b := fun z => by
      obtain ⟨u, q', t, hbx⟩ := R2.bxs
      rw [z, hbx] at hq
      cases hq
    have pq : p1 ≠ q := fun z => by
      rw [z, hq] at hp2
      cases hp2
    have z0 : ∀ {a : Addr} {m : Mu}, Rel b μ0 E ρ m → m a = none → a ≠ b → μ0 a = none := fun {a m} Rm hm nb => by
      cases hz : μ0 a with
      | none => rfl
      | some l =>
        rw [Rm.ext.old a l nb hz] at hm
        cases hm
    have p0 : μ0 p1 = none := z0 (R.step s1) hp1 p1b
    have q0 : μ0 q = none := z0 R2 hq qb
    refine ht.run μ0 (E.set h none) (ρ.set h (some (.own q))) _ D q p1 [.list ds, yv] ds ?_ qa
    refine ⟨(R2.step (Bs.put hq)).hide h _, List.getElem?_set_self (by rw [R.len]; exact hhl), put_same, rfl, (put_ne pq).trans hp2, p1b, qb, pq, p0, q0, hide_own ((R.step s1).own_ne hp1), hide_own (R2.own_ne hq)⟩
  | _ => exact qa.elim
end
section
variable {P : Program} {w : World} {K : PySem.W.Frag} {mg : Str → Option Value} {base : Heap}
theorem fc_bodyO {k a n : Nat} {f : Addr} {x : Str} {st : Stmt} {fd : FuncData} {N ps : List Str} (body : DenS) {m : List W → Tree PyData} (hM : m = fnF a n body) (F : Fun K x x st f fd) (hm : mg x = some (.ref f)) (S : FnScope N ps (defScope st)) (ha : ps.length = a) (hn : N.length = n)
    (hB : ∀ (b : Addr) (cdv : Value) A outer s H E, Rm k (A.deeper (envOfC x (defScope st) s.heap.objs.size f cdv)) → SSo b (cxOf CX0 P w K mg base N x (defScope st) f cdv A outer s H E).nox (defBody st) body) : Fc P w K mg base x st ps (k + 1) (cFO m) := by
  subst hM ha hn
  refine fc_of F hm S (fun os μ Φ h => ?_) fun cdv A outer s H E os μ Φ hr h => ?_
  · obtain ⟨b, ws, rfl, _, h⟩ := h
    rw [List.length_map]
    exact (lenIs_all (all_bind.mp h)).1
  · obtain ⟨b, ws, rfl, hb, h⟩ := h
    obtain ⟨hl, h⟩ := lenIs_all (all_bind.mp h)
    rw [List.length_map, hl]
    refine (hB b cdv A outer s H E hr).run μ _ _ μ _ (rel_start _ hb) ((all_bind.mp h).imp fun o q => ?_)
    cases o with
    | rt v => exact q
    | nx E' =>
      obtain ⟨ns, ed, _⟩ := q
      cases ed
    | bk E' => exact q.elim
    | ct E' => exact q.elim
end
end Nx
namespace Nx
open PySem PySem.Spec PyProof.Rows L2
open Tree
def NoRt (f : DenS) : Prop := ∀ E (Q : Out → Prop), (f E).All Q → (f E).All fun o => Q o ∧ ∀ v, o ≠ .rt v
theorem nort_set {i : Nat} {f : DenE} : NoRt (sSet i f) := fun E Q h => all_bind.mpr ((all_bind.mp h).imp fun d q => ⟨q, fun v e => nomatch e⟩)
section
variable {b : Addr} {X : Cx} {e x y z tg iter elt c : Expr} {es : List Expr} {f fx fy fz : DenE} {fs fi : DenL} {ft : DenB} {pos p cpos : Pos} {st : Stmt} {ss : List Stmt} {g h : DenS} {scope : Scope} {gs : Env → Tree (List W)}
theorem sso_cons (hn : NoRt g) (hs : SS b X st g) (ht : SSo b X ss h) : SSo b X (st :: ss) (sC g h) := .mk fun μ0 E ρ μ D R q =>
  dss_cons (hs.run μ0 E ρ μ _ R ((hn E _ (all_bind.mp q)).imp fun o q => by
    obtain ⟨q, nr⟩ := q
    cases o with
    | nx E' => exact fun ρ' μ' R' => ht.run μ0 E' ρ' μ' D R' q
    | rt v => exact absurd rfl (nr v)
    | bk E' => exact q.elim
    | ct E' => exact q.elim))
theorem so_call {F : List W → Tree PyData} {nm : Str} {fst : Stmt} {ps : List Str} {k : Nat} (FC : Fc X.prog X.w X.K X.mg X.base nm fst ps k (cFO F)) (hr : Rm k X.A) (hgl : Gl X nm)
    (hb : ∀ (kV doc pm : Value) (an : Option Addr) (cdv ct : Value) (us : List Value), us.length = ps.length → bindArgs (PySem.W.fnOf nm nm (defArgs fst) (defBody fst) (defScope fst) .none kV doc pm an cdv ct) ⟨us, []⟩ = pure (ps.zip us))
    (ha : SA b X (x :: es) gs) (hdb : (nm == ("__debug__" : Str)) = false := by decide) (he : starEach (x :: es) X.env = (false, eval x X.env) :: starEach es X.env := by rfl) (hpl : (backTo cpos (starEach es X.env)).any (·.1) = false := by rfl) : SO b X (.Call (.Name nm p) (x :: es) [] cpos) (dCall F gs) := .mk fun μ0 E ρ μ Φ R q =>
  de_callO R FC hr hgl hb ha q hdb he hpl
end
end Nx
namespace Nxz
open PySem
open PySem.Sem (wp)
end Nxz
namespace Nx
open PySem PySem.Spec PyProof.Rows L2
open Tree
def zipDic : PyData → PyData → Option (List (PyData × PyData))
  | .tuple ks, .list ds => match asI ks with
    | some is => if is.Nodup ∧ is.length = ds.length ∧ is.length ≤ 1000 then some ((iL is).zip ds) else none
    | none => none
  | _, _ => none
def asP : List PyData → Option (List (Int × PyData))
  | [] => some []
  | .tuple [.int k, d] :: r => match asP r with
    | some ps => some ((k, d) :: ps)
    | none => none
  | _ => none
def pairDic : PyData → Option (List (PyData × PyData))
  | .list ps => match asP ps with
    | some qs => if (qs.map (·.1)).Nodup ∧ qs.length ≤ 1000 then some (qs.map fun q => (.int q.1, q.2)) else none
    | none => none
  | _ => none
inductive DK' where
  | i (n : Int) | t (ns : List Int)
  deriving DecidableEq
def keyD : PyData → Option DK'
  | .int n => some (.i n)
  | .tuple ds => match asI ds with | some ns => some (.t ns) | none => none
  | _ => none
def lookD : List (PyData × PyData) → DK' → Option PyData
  | [], _ => none
  | (k, v) :: r, x => if keyD k = some x then some v else lookD r x
def dZipD (f g : DenE) : Env → Tree (List (PyData × PyData)) := fun E => (f E).bind fun x => (g E).bind fun y => liftO (zipDic x y)
def dPairD (f : DenE) : Env → Tree (List (PyData × PyData)) := fun E => (f E).bind fun x => liftO (pairDic x)
section
variable {b : Addr} {X : Cx} {e x y : Expr} {fx fy : DenE} {pos pos2 p p2 : Pos} {st : Stmt}
def sSetK (i : Nat) (f : Env → Tree (List (PyData × PyData))) : DenS := fun E => (f E).bind fun kvs => .ret (.nx (E.set i (some (.dic kvs))))
def dGet (i : Nat) (f : DenE) : DenE := fun E => match E[i]? with
  | some (some (.dic kvs)) => (f E).bind fun k => (liftO (keyD k)).bind fun k => liftO (lookD kvs k)
  | _ => .fail
end
end Nx
namespace Nx
open PySem PySem.Spec PyProof.Rows L2
open Tree
section
variable {b : Addr} {X : Cx} {e x y : Expr} {fx fy : DenE} {pos pos2 p p2 : Pos}
def pMax2 : PyData → PyData → Option PyData
  | .int i, .int j => some (.int (max i j))
  | _, _ => none
end
end Nx
namespace Nx
open PySem PySem.Spec PyProof.Rows L2
open Tree
section
variable {X : Cx} {E : Value → Shared → Prop}
theorem setTO_get {pins : List (Addr × Obj)} {σ : L2.St} {H : Hp} {s : Shared} {D : Addr} {L : List (Addr × List Int)} (I : Inv X pins σ H s) (hD : H D = some (SetTO X.prog X.w D L)) (hL : ∀ p ∈ L, SqT X.K H p.1 (p.2.map V.int)) : ∃ es ep t, SetTR X.prog X.w s.heap D L es ep t :=
  SetT0.full ((I.hok D _ hD).1) fun p hp => I.isT (hL p hp)
theorem addT_ok {pins : List (Addr × Obj)} {σ : L2.St} {H : Hp} {s : Shared} {D x : Addr} {k : List Int} {L : List (Addr × List Int)} {Q : Value → Shared → Prop} (I : Inv X pins σ H s) (hD : H D = some (SetTO X.prog X.w D L)) (hL : ∀ p ∈ L, SqT X.K H p.1 (p.2.map V.int))
    (hx : SqT X.K H x (k.map V.int)) (hu : X.A.units + 1 < cLine) (few : L.length + 1 < 64)
    (h : ∀ L' s', (k ∈ L.map (·.2) → L' = L) → (k ∉ L.map (·.2) → L'.Perm ((x, k) :: L)) → Inv X pins σ (upd H D (SetTO X.prog X.w D L')) s' → Q .none s') :
    wpAny (model X.prog X.w) X.A (call (.builtin "set.add") [.ref D, .ref x]) Q E s := by
  obtain ⟨es, ep, t, R⟩ := setTO_get I hD hL
  have hxt := I.isT hx
  obtain ⟨o, ho, hex, hd⟩ := R.ob
  have hT : s.TypeIs (.ref D) "set" := ⟨o, ho, hex.1⟩
  refine wpAny_call_entry F.slot_set_add hT F.entry_set_add ?_ (F.args_set_add_2 _ _)
  unfold Builtin.«set.add» Builtin.Frozenset.oneOther
  simp only [List.isEmpty_nil, bind_assoc]
  unfold Builtin.Frozenset.addrOf setAdd
  refine wpAny_bind (wpAny_pure ?_)
  try dsimp only
  refine wpAny_bind ?_
  refine wpAny_holding ?_
  refine wpAny_bind (wpAny_pyHash_tuple hu hxt ?_)
  refine add_at (s := { s with toks := s.toks + (k.length + 1) }) R hxt hu few fun b h' L' es' ep' t' sb R' c1 c2 => ?_
  show wpAny _ _ (ret Value.none) _ _ _
  refine wpAny_pure ⟨_, rfl, h L' _ c1 c2 ?_⟩
  have he : ∃ u, h'.get? D = some u := by
    obtain ⟨o, ho, _⟩ := R'.ob
    exact ⟨o, ho⟩
  exact I.write (e := D) (t' := s.toks + (k.length + 1)) (by rw [hD]; trivial) (.inl rfl) (fun b u hb hu => (sb.2 b hb).trans hu) he (setTO_new R'.t0)
end
section
variable {X : Cx}
def tScT (K : PySem.W.Frag) (P : Program) (w : World) (wi : TI) (g : TG) (te : TE) (vs : List Nat) : TE := fun σ H Q => wi σ H fun J H1 => ∀ D, H1 D = none → ∃ W : Nat → Nat → Hp → Prop, (∃ m, W 0 m (upd H1 D (SetTO P w D []))) ∧ ∀ i m H, W i m H →
  (J.stop i H ∧ Q (.ref D) H) ∨ (J.go i H ∧ ∃ Nx : Hp → Prop, (∀ H', Nx H' → ∃ m', m' < m ∧ W (i + 1) m' H') ∧ ∀ x H', J.yld i H x H' → g x (wipe σ vs) H' fun σ2 H2 => wipe σ2 vs = wipe σ vs ∧
    te σ2 H2 fun y H4 => ∃ (a : Addr) (k : List Int) (L : List (Addr × List Int)), y = .ref a ∧ SqT K H4 a (k.map V.int) ∧ H4 D = some (SetTO P w D L) ∧ (∀ p ∈ L, SqT K H4 p.1 (p.2.map V.int)) ∧ L.length + 1 < 64 ∧
      ∀ L', (k ∈ L.map (·.2) → L' = L) → (k ∉ L.map (·.2) → L'.Perm ((a, k) :: L)) → Nx (upd H4 D (SetTO P w D L')))
theorem pe_scT {elt tg iter : Expr} {scope : Scope} {own : List (PySem.Str × Nat)} {pos : Pos} {wi : TI} {g : TG} {te : TE} (hc : X.calm = true) (hN : X.N.Nodup) (hu : X.A.units + 1 < cLine) (hi : PI X tg iter wi) (ok : BlkOk X.N X.env.scope scope own)
    (hg : ∀ (s : Shared) (H : Hp) (C : Addr) (cl : List (PySem.Str × Addr)) (fp : List Addr), PG (X.blk s H scope (compEnvC scope cl C X.env) fp) tg g)
    (he : ∀ (s : Shared) (H : Hp) (C : Addr) (cl : List (PySem.Str × Addr)) (fp : List Addr), PE (X.blk s H scope (compEnvC scope cl C X.env) fp) elt te) (hs : ∀ x, foldedSetIterable iter X.env x = pure x := by intro _; rfl) :
    PE X (.SetComp elt [⟨tg, iter, [], 0⟩] scope pos) (tScT X.K X.prog X.w wi g te (own.map (·.2))) := by
  refine ⟨fun pins s σ H Q I h => ?_⟩
  rw [PpSet.eval_SetComp]
  have hfree : ∀ y ∈ scope.names, y.2 = .free → ∃ c, X.env.cells.lookup y.1 = some c := fun y hy e => by
    rcases ok.free y hy e with k | k
    · exact I.ok.has _ (.inl k)
    · exact I.ok.has _ (.inr k)
  refine wpAny_comprehension_free (use := none) rfl hs (closure_ok hfree) ok.kind (fun y hy e => by rw [ok.uniq y hy, e])
    (thn (hi.run pins s σ H _ I h) fun xv s1 hx => thn hx fun itv s2 h2 => ?_)
  obtain ⟨it, fp, tn, J, H2, e, I2, T, st2, f2, q⟩ := h2
  subst e
  refine PpSet.newSet_ok (newEnv_comp ?_)
  generalize hD : s2.heap.objs.size = D
  have hDn : H2 D = none := I2.hok.fresh (Nat.le_of_eq hD)
  obtain ⟨W, ⟨m0, w0⟩, turn⟩ := q D hDn
  generalize hs3 : ({ s2 with heap := s2.heap.push { cls := .type "set", dict := none, data := .set #[] 0 (.fresh 0 0 (!X.w.params.followText "set-order")) } } : Shared) = s3
  have I3 : Inv X pins σ (upd H2 D (SetTO X.prog X.w D [])) s3 := by
    rw [← hs3]
    refine I2.laid (t' := s2.toks) (fun b o e => Heap.get?_push_of_some _ e) (Nat.le_of_eq hD) ?_
    rw [← hD]
    exact setTO_new (setTR_fresh (Heap.get?_push_size _ rfl)).t0
  have h3 : s3.heap = s2.heap.push { cls := .type "set", dict := none, data := .set #[] 0 (.fresh 0 0 (!X.w.params.followText "set-order")) } := by rw [← hs3]
  have sz : ∀ b ∈ fp, b < s2.heap.objs.size := fun b hb => by
    obtain ⟨o, e, _⟩ := T.obj _ _ st2 b hb
    exact Heap.lt_size e
  have f3 : ∀ b ∈ fp, FpOk X pins (upd H2 D (SetTO X.prog X.w D [])) b ∧ b < s3.heap.objs.size := fun b hb => by
    have hlt := sz b hb
    refine ⟨⟨?_, (f2 b hb).2⟩, by rw [h3, Heap.size_push]; exact Nat.lt_succ_of_lt hlt⟩
    rw [upd_ne (by rw [← hD]; exact Nat.ne_of_lt hlt)]
    exact (f2 b hb).1
  have st3 : tn 0 s3.heap := T.keep _ _ _ st2 fun b _ o e => by rw [h3]; exact Heap.get?_push_of_some _ e
  have I4 := block_start I3 ok hN f3
  have pg := hg s3 (upd H2 D (SetTO X.prog X.w D [])) s3.heap.objs.size (cellsFrom (s3.heap.objs.size + 1) scope.names (cloFrom X.env.cells scope.names [])) fp
  have pe := he s3 (upd H2 D (SetTO X.prog X.w D [])) s3.heap.objs.size (cellsFrom (s3.heap.objs.size + 1) scope.names (cloFrom X.env.cells scope.names [])) fp
  show codeAny _ _ (.compStart (.SetComp elt [⟨tg, iter, [], 0⟩] scope pos) 0 (.ref it) (.ref D) (compEnvC scope (cellsFrom (s3.heap.objs.size + 1) scope.names (cloFrom X.env.cells scope.names [])) s3.heap.objs.size X.env)) (compPost (model X.prog X.w) X.A X.xe none _ (.ref D) s3.heap.objs.size) { s3 with heap := pushCells (s3.heap.push { cls := .type "dict", data := .dict #[] }) scope.names }
  have nfp : ∀ b ∈ fp, (upd H2 D (SetTO X.prog X.w D [])) b = none := fun b hb => (f3 b hb).1.1
  generalize hce : compEnvC scope (cellsFrom (s3.heap.objs.size + 1) scope.names (cloFrom X.env.cells scope.names [])) s3.heap.objs.size X.env = ce at I4 pg pe ⊢
  have cL : ce.locals = s3.heap.objs.size := by subst hce; rfl
  generalize hH3 : upd H2 D (SetTO X.prog X.w D []) = H3 at I3 I4 pg pe w0 nfp f3
  generalize hs4 : ({ s3 with heap := pushCells (s3.heap.push { cls := .type "dict", data := .dict #[] }) scope.names } : Shared) = s4 at I4 ⊢
  have st4 : tn 0 s4.heap := T.keep _ _ _ st3 fun b _ o e => by rw [← hs4]; exact pushCells_keeps _ _ _ _ (Heap.get?_push_of_some _ e)
  have stat : ∀ {σ' : L2.St} {H' : Hp} {s' : Shared}, Inv (X.blk s3 H3 scope ce fp) [] σ' H' s' → (∀ b ∈ fp, H' b = none) → ∀ b ∈ fp, FpOk (X.blk s3 H3 scope ce fp) [] H' b := fun {σ' H' s'} I' hn b hb =>
    ⟨hn b hb, (I'.ok.exf b hb).1, I'.ok.exfs b hb, .inl hb, fun x c e => (I'.ok.exf b hb).2 x c e, fun p hp => absurd (show p ∈ ([] : List (Addr × Obj)) ++ [] from hp) (by simp)⟩
  have loop : codeAny (model X.prog X.w) X.A (.compLoop (.SetComp elt [⟨tg, iter, [], 0⟩] scope pos) 0 (.ref it) (.ref D) ce) (compPost (model X.prog X.w) X.A X.xe none (EP X pins σ Q) (.ref D) s3.heap.objs.size) s4 := by
    refine PpSet.compLoopS_any (fun n s' => ∃ i H', Inv (X.blk s3 H3 scope ce fp) [] (wipe σ (own.map (·.2))) H' s' ∧ tn i s'.heap ∧ (∀ b ∈ fp, H' b = none) ∧ W i n H') ?_ m0 ⟨0, H3, I4, st4, nfp, w0⟩
    rintro n s5 ⟨i, H5, I5, st5, n5, w5⟩
    rcases turn i n H5 w5 with ⟨stop, qq⟩ | ⟨go, Nx, hNx, step⟩
    · have td := T.done (X.blk s3 H3 scope ce fp) rfl rfl rfl hc i [] s5 _ H5 (fun _ _ => False) I5 (stat I5 n5) st5 stop
      refine thnF td fun r s6 ⟨hr, I6⟩ => ?_
      subst hr
      have I7 : Inv X pins σ H5 s6 := I3.call' (ch := fp) I6.os I6.base I6.hok I6.bare fun b hb => ⟨(f3 b hb).1.2.2.2.1, (f3 b hb).1.2.1, (f3 b hb).1.2.2.2.2.1, (f3 b hb).1.2.2.2.2.2⟩
      have nC : H5 s3.heap.objs.size = none := by
        have z : H5 ce.locals = none := I6.free
        rw [cL] at z
        exact z
      obtain ⟨m, hn, _⟩ := I6.loc
      have hn : s6.heap.Ns ce.locals m := hn
      rw [cL] at hn
      obtain ⟨f0, f1, f2, f3, f4, f5⟩ := I3.fpOk (Nat.le_refl _) nC
      exact ⟨m, hn, fun h'' sb => ⟨.ref D, H5, I7.turned (t' := s6.toks) (fun b o hb e => (sb.2 b hb).trans e) f0 f1 f3 f4 f5, rfl, qq⟩⟩
    · have ti := T.item (X.blk s3 H3 scope ce fp) rfl rfl rfl hc i [] s5 _ H5 (fun _ _ => False) I5 (stat I5 n5) st5 go
      refine thnF ti fun r s6 ⟨u, hr, h6⟩ => ?_
      subst hr
      refine thnF h6 fun _ s7 ⟨x, H7, I7, r7, y7, st7, n7⟩ => ?_
      have I7' := I7.pinned (stat I7 n7) (T.obj _ _ st7)
      refine thnF (pg.run _ s7 _ H7 x u _ I7' r7 (step x H7 y7)) fun _ s8 ⟨σ8, H8, I8, hw8, q8⟩ => ?_
      have fin : ∀ {s' : Shared} {H' : Hp}, Inv (X.blk s3 H3 scope ce fp) ([] ++ pinsAt fp s7.heap) σ8 H' s' → Nx H' → ∃ m, m < n ∧ ∃ i H', Inv (X.blk s3 H3 scope ce fp) [] (wipe σ (own.map (·.2))) H' s' ∧ tn i s'.heap ∧ (∀ b ∈ fp, H' b = none) ∧ W i m H' := fun {s' H'} I' nx => by
        obtain ⟨m', hm, w'⟩ := hNx H' nx
        have pin' : ∀ b ∈ fp, ∀ o, s7.heap.get? b = some o → s'.heap.get? b = some o ∧ H' b = none := fun b hb o e =>
          let z := I'.pin (b, o) (List.mem_append_right _ (List.mem_append_right _ (mem_pinsAt hb e)))
          ⟨z.1, z.2.1⟩
        have hl : (wipe σ (own.map (·.2))).length = σ8.length := by rw [← hw8, wipe_length]
        refine ⟨m', hm, i + 1, H', (I'.unpinned (pins := [])).weak hl (fun j v e => ?_), T.keep _ _ _ st7 fun b hb o e => (pin' b hb o e).1, fun b hb => ?_, w'⟩
        · rw [← hw8] at e
          exact (wipe_some e).1
        · obtain ⟨o, e, _⟩ := T.obj _ _ st7 b hb
          exact (pin' b hb o e).2
      refine wpAny_pure ?_
      simp only [if_true]
      refine thnF (pe.run _ s8 σ8 H8 _ I8 q8) fun z s10 ⟨yv, H10, I10, r10, a, k, L, ey, hk, hD10, hL, few, nx⟩ => ?_
      subst ey
      cases (show z = Value.ref a from r10)
      exact addT_ok (X := X.blk s3 H3 scope ce fp) I10 hD10 hL hk hu few fun L' s11 c1 c2 I11 => fin I11 (nx L' c1 c2)
  exact PpSet.codeAny_compStart_set loop (T.self X.A 0 _ _ _ st4 loop)
end
end Nx
namespace Nx
open PySem PySem.Spec PyProof.Rows L2
open Tree
section
variable {G G' : Hp}
theorem RO.ez (e : Ez G G') {v : V} : ∀ {o : OV}, RO G v o → RO G' v o
  | .im _, h => Dv.ez e h
  | .own _, h => h
  | .scr _ _, ⟨a, h1, h2⟩ => ⟨a, h1, by
    rcases h2 with (h | ⟨o, h⟩) | h
    · exact .inl (.inl (e _ _ h fun _ z => nomatch z))
    · exact .inl (.inr ⟨o, e _ _ h fun _ z => nomatch z⟩)
    · exact .inr h⟩
  | .pr _ _, ⟨t, v2, h1, h2, h3⟩ => ⟨t, v2, h1, e _ _ h2 (fun _ z => nomatch z), Dv.ez e h3⟩
  | .dic _, ⟨a, xs, h1, h2, h3⟩ => ⟨a, xs, h1, by
    rcases h2 with ⟨is, h2, h4⟩ | ⟨iss, o, h2, h4⟩
    · exact .inl ⟨is, h2, e _ _ h4 (fun _ z => nomatch z)⟩
    · exact .inr ⟨iss, o, h2, e _ _ h4 (fun _ z => nomatch z)⟩, DvA.ez e h3⟩
  | .ob P, h => P.mono e h
theorem ROs.ez (e : Ez G G') : ∀ {vs : List V} {os : List OV}, ROs G vs os → ROs G' vs os
  | _, _, .nil => .nil
  | _, _, .cons h t => .cons (RO.ez e h) (ROs.ez e t)
theorem ThOk.ez {C : Addr} {who : Addr → Option Addr} {H : Hp} {a : Addr} (e : Ez G G') : ∀ {t : Th}, ThOk C who G H a t → ThOk C who G' H a t
  | .dT kvs, ⟨xs, h1, h2⟩ => ⟨xs, h1, h2.ez e⟩
  | .cir c, ⟨dx, q, r, vb, xs, ys, h1, h2, h3, h4, h5, h6, h7, h8, h9, h10, h11⟩ => ⟨dx, q, r, vb, xs, ys, h1, h2, h3, h4, h5, h6, h7, h8, h9.ez e, h10.ez e, h11.ez e⟩
theorem ez_upd {p : Addr} {f g : Heap → Prop} (h : G p = some (.ext f)) : Ez G (upd G p (.ext g)) := fun a o e n => by
  rw [upd_ne (fun z => by rw [z, h] at e; cases e; exact n f rfl)]
  exact e
theorem RM.ext {H : Hp} {μ : Mu} (r : RM G H μ) {p : Addr} {f g : Heap → Prop} (h : G p = some (.ext f)) : RM (upd G p (.ext g)) (upd H p (.ext g)) μ := by
  refine ⟨fun a u e => ?_, fun a l q => ?_, ?_⟩
  · by_cases ha : a = p
    · subst ha
      rw [upd_same] at e ⊢
      exact e
    · rw [upd_ne ha] at e ⊢
      exact r.ex a u e
  · obtain ⟨g0, vs, e, w⟩ := r.own a l q
    have ha : a ≠ p := fun z => by rw [z, h] at g0; cases g0
    exact ⟨by rw [upd_ne ha]; exact g0, vs, by rw [upd_ne ha]; exact e, w.ez (ez_upd h)⟩
  · obtain ⟨who, t⟩ := r.thg
    have ne : ∀ x a, who x = some a → x ≠ p := fun x a hx z => by
      have := (t.of x a hx).1
      rw [z, h] at this
      cases this
    refine ⟨who, fun a th q => ?_, fun x a hx => ?_⟩
    · obtain ⟨h1, h2⟩ := t.ok a th q
      exact ⟨h1, (h2.ez (ez_upd h)).keep h1 fun x hx => upd_ne (ne x a hx)⟩
    · obtain ⟨h1, h2, h3, h4⟩ := t.of x a hx
      exact ⟨by rw [upd_ne (ne x a hx)]; exact h1, h2, by rw [upd_ne (ne x a hx)]; exact h3, h4⟩
end
def tSrtT (K : PySem.W.Frag) (P : Program) (w : World) (te : TE) : TE := fun σ H Q => te σ H fun u H1 => ∃ (a : Addr) (L : List (Addr × List Int)) (d : Nat), u = .ref a ∧ H1 a = some (SetTO P w a L) ∧ (∀ p ∈ L, SqT K H1 p.1 (p.2.map V.int)) ∧ 1 ≤ d ∧ (∀ p ∈ L, p.2.length = d ∧ TS.Bd 1000 p.2) ∧
  ∀ (L' : List (Addr × List Int)) (p : Addr), L'.Perm L → (L'.map (·.2)).Nodup → L'.Pairwise (fun q r => TS.code 1000 q.2 ≤ TS.code 1000 r.2) → H1 p = none → Q (.ref p) (upd H1 p (.lst (L'.map fun q => V.ref q.1)))
section
variable {b : Addr} {X : Cx} {e x : Expr} {fx : DenE} {pos p : Pos}
theorem pe_srtOf {te : TE} (hc : X.calm = true) (hg : Gl X "sorted") (hm : X.mg "sorted" = none) (he : PE X e te) (na : starEach [e] X.env = (false, eval e X.env) :: starEach [] X.env := by rfl) : PE X (.Call (.Name "sorted" p) [e] [] pos) (tSrtT X.K X.prog X.w te) := by
  refine ⟨fun pins s σ H Q I h => ?_⟩
  refine Call_ (ld_blt I hg hm boot_sorted ?_)
  refine PyProof.Rows.callWith_builtin1 (PyProof.Rows.args_cons (thn (he.run pins s σ H _ I h) fun v s1 ⟨u, H1, I1, r1, q1⟩ => PyProof.Rows.args_nil ?_) na) na rfl
  obtain ⟨a, L, d, rfl, h1, h2, h3, h4, q1⟩ := q1
  exact cr_sortedT hc pins _ σ _ [V.ref a] _ Q I1 (.cons r1 .nil) ⟨a, L, d, 1000, rfl, h1, h2, h3, h4, fun L' p h5 h6 _ h8 h9 => q1 L' p h5 h6 h8 h9⟩
def dedT : List (List Int) → List (List Int)
  | [] => []
  | t :: ts => if t ∈ ts then dedT ts else t :: dedT ts
theorem dedT_mem {t : List Int} : ∀ {ts : List (List Int)}, t ∈ dedT ts ↔ t ∈ ts
  | [] => Iff.rfl
  | u :: ts => by
    unfold dedT
    by_cases h : u ∈ ts
    · rw [if_pos h, dedT_mem, List.mem_cons]
      exact ⟨.inr, fun z => z.elim (fun e => e ▸ h) id⟩
    · rw [if_neg h, List.mem_cons, List.mem_cons, dedT_mem]
theorem dedT_nodup : ∀ ts : List (List Int), (dedT ts).Nodup
  | [] => List.nodup_nil
  | u :: ts => by
    unfold dedT
    by_cases h : u ∈ ts
    · rw [if_pos h]
      exact dedT_nodup ts
    · rw [if_neg h]
      exact List.nodup_cons.mpr ⟨fun z => h (dedT_mem.mp z), dedT_nodup ts⟩
def pSrtSetT (x : PyData) : Option PyData := match x with
  | .list ds => match asTs ds with
    | some ts => if 1 ≤ hdLen ts ∧ ts.length < 63 ∧ ts.all (bdT (hdLen ts)) = true then some (.list ((srtT (dedT ts)).map tpl)) else none
    | none => none
  | _ => none
theorem pSrtSetT_some {x r : PyData} (h : pSrtSetT x = some r) : ∃ ts : List (List Int), x = .list (ts.map tpl) ∧ r = .list ((srtT (dedT ts)).map tpl) ∧ 1 ≤ hdLen ts ∧ ts.length < 63 ∧ ∀ t ∈ ts, t.length = hdLen ts ∧ TS.Bd 1000 t := by
  unfold pSrtSetT at h
  split at h
  · split at h
    · rename_i ts ht
      split at h
      · rename_i c
        cases h
        exact ⟨ts, by rw [asTs_some ht], rfl, c.1, c.2.1, fun t ht => bdT_ok (List.all_eq_true.mp c.2.2 t ht)⟩
      · cases h
    · cases h
  · cases h
theorem srt_end {K : PySem.W.Frag} {P : Program} {w : World} {G H : Hp} {μ : Mu} {Dl : Addr} {L : List (Addr × List Int)} {ts : List (List Int)} {Q : VK} (m : RM G H μ) (hD : G Dl = some (SetTO P w Dl L)) (hL : ∀ p ∈ L, G p.1 = some (.tup (p.2.map V.int)))
    (hm : ∀ k, k ∈ L.map (·.2) ↔ k ∈ ts) (h1 : 1 ≤ hdLen ts) (hb : ∀ t ∈ ts, t.length = hdLen ts ∧ TS.Bd 1000 t)
    (f : ∀ v G' H', Dv G' v (.list ((srtT (dedT ts)).map tpl)) → Ex G G' → RM G' H' μ → Q v H') :
    ∃ (a : Addr) (L : List (Addr × List Int)) (d : Nat), V.ref Dl = .ref a ∧ H a = some (SetTO P w a L) ∧ (∀ p ∈ L, SqT K H p.1 (p.2.map V.int)) ∧ 1 ≤ d ∧ (∀ p ∈ L, p.2.length = d ∧ TS.Bd 1000 p.2) ∧
      ∀ (L' : List (Addr × List Int)) (p : Addr), L'.Perm L → (L'.map (·.2)).Nodup → L'.Pairwise (fun q r => TS.code 1000 q.2 ≤ TS.code 1000 r.2) → H p = none → Q (.ref p) (upd H p (.lst (L'.map fun q => V.ref q.1))) := by
  refine ⟨Dl, L, hdLen ts, rfl, m.ex _ _ hD, fun p hp => .inl (.inl (m.ex _ _ (hL p hp))), h1, fun p hp => hb _ ((hm _).mp (List.mem_map_of_mem hp)), fun L' p pm nd pw hn => ?_⟩
  have e : L'.map (·.2) = srtT (dedT ts) := by
    refine srtT_eq (d := hdLen ts) ((List.perm_ext_iff_of_nodup nd (dedT_nodup ts)).mpr fun k => ?_) ?_ fun t ht => hb t (dedT_mem.mp ht)
    · rw [dedT_mem, ← hm, (pm.map (·.2)).mem_iff]
    · exact List.pairwise_map.mpr pw
  have gn := m.ex.free hn
  refine f _ _ _ (.lst upd_same ?_) (Ex.new gn) (m.lay hn)
  rw [← e]
  have go : ∀ l : List (Addr × List Int), (∀ q ∈ l, q ∈ L) → DvA (upd G p (.lst (L'.map fun q => V.ref q.1))) (l.map fun q => V.ref q.1) ((l.map (·.2)).map tpl) := fun l => by
    induction l with
    | nil => exact fun _ => .nil
    | cons q l ih =>
      exact fun h => .cons (.tup (Ex.new gn _ _ (hL q (h q (List.mem_cons_self ..)))) (DvA.of_ints _)) (ih fun r hr => h r (List.mem_cons_of_mem _ hr))
  exact go L' fun q hq => pm.mem_iff.mp hq
end
theorem sc_it {K : PySem.W.Frag} {P : Program} {w : World} {J : It} {n : Nat} {G : Hp → Prop} {Y : Nat → Hp → V → Hp → Prop} (wk : Walk J n G Y) {g : TG} {te : TE} {vs : List Nat} {σ : L2.St} {H1 : Hp} {D : Addr} {Qd : Hp → Prop} (Pv : Nat → Hp → Prop) (h0 : Pv 0 (upd H1 D (SetTO P w D []))) (hG : ∀ i H, i ≤ n → Pv i H → G H)
    (hs : ∀ i x H H', i < n → Pv i H → Y i H x H' → g x (wipe σ vs) H' fun σ2 H2 => wipe σ2 vs = wipe σ vs ∧ te σ2 H2 fun y H4 => ∃ (a : Addr) (k : List Int) (L : List (Addr × List Int)), y = .ref a ∧ SqT K H4 a (k.map V.int) ∧ H4 D = some (SetTO P w D L) ∧ (∀ p ∈ L, SqT K H4 p.1 (p.2.map V.int)) ∧ L.length + 1 < 64 ∧
      ∀ L', (k ∈ L.map (·.2) → L' = L) → (k ∉ L.map (·.2) → L'.Perm ((a, k) :: L)) → Pv (i + 1) (upd H4 D (SetTO P w D L'))) (hd : ∀ H, Pv n H → Qd H) :
    ∃ W : Nat → Nat → Hp → Prop, (∃ m, W 0 m (upd H1 D (SetTO P w D []))) ∧ ∀ i m H, W i m H →
      (J.stop i H ∧ Qd H) ∨ (J.go i H ∧ ∃ Nx : Hp → Prop, (∀ H', Nx H' → ∃ m', m' < m ∧ W (i + 1) m' H') ∧ ∀ x H', J.yld i H x H' → g x (wipe σ vs) H' fun σ2 H2 => wipe σ2 vs = wipe σ vs ∧
        te σ2 H2 fun y H4 => ∃ (a : Addr) (k : List Int) (L : List (Addr × List Int)), y = .ref a ∧ SqT K H4 a (k.map V.int) ∧ H4 D = some (SetTO P w D L) ∧ (∀ p ∈ L, SqT K H4 p.1 (p.2.map V.int)) ∧ L.length + 1 < 64 ∧
          ∀ L', (k ∈ L.map (·.2) → L' = L) → (k ∉ L.map (·.2) → L'.Perm ((a, k) :: L)) → Nx (upd H4 D (SetTO P w D L'))) := by
  refine ⟨fun i m H => m = n - i ∧ i ≤ n ∧ Pv i H, ⟨n, by simp, Nat.zero_le _, h0⟩, ?_⟩
  rintro i m H ⟨rfl, hi, p⟩
  have q := hG i H hi p
  by_cases hlt : i < n
  · exact .inr ⟨wk.goes i H hlt q, Pv (i + 1), fun H' p' => ⟨n - (i + 1), by omega, rfl, hlt, p'⟩, fun x H' y => hs i x H H' hlt p (wk.yields i H x H' hlt q y)⟩
  · have e : i = n := by omega
    subst e
    exact .inl ⟨wk.stops H q, hd H p⟩
theorem tpl_inj {ts us : List (List Int)} (h : ts.map tpl = us.map tpl) : ts = us := by
  have go : ∀ l : List (List Int), (l.map tpl).map (fun d => (asT d).getD []) = l := fun l => by
    rw [List.map_map]
    refine (List.map_congr_left fun t _ => ?_).trans (List.map_id l)
    show (asT (tpl t)).getD [] = t
    rw [asT_tpl]
    rfl
  rw [← go ts, h, go]
def few62 (n : Nat) : Option Unit := if n ≤ 62 then some () else none
def isTup (d : PyData) : Option PyData := match asT d with
  | some t => some (tpl t)
  | none => none
theorem isTup_some {d r : PyData} (h : isTup d = some r) : ∃ t, d = tpl t ∧ r = tpl t := by
  unfold isTup at h
  split at h
  · rename_i t ht
    cases h
    exact ⟨t, asT_some ht, rfl⟩
  · cases h
def dSrtSc (t : Tgt) (vs : List Nat) (it : DenL) (elt : DenE) : DenE := fun E => (it E).bind fun xs => (liftO (few62 xs.length)).bind fun _ =>
  (mapT (fun x => (liftO (putE t x (wipeE E vs))).bind fun E' => (elt E').bind fun y => liftO (isTup y)) xs).bind fun ys => liftO (pSrtSetT (.list ys))
section
variable {b : Addr} {X : Cx} {e x tg iter elt : Expr} {fx : DenE} {fi : DenL} {pos p : Pos} {scope : Scope}
theorem se_srtSc {k : Nat} {own : List (Str × Nat)} (t : Tgt) (B : Bt X.mg) (hr : Rm k X.A) (hc : X.calm = true) (hN : X.N.Nodup) (ok : BlkOk X.N X.env.scope scope own) (hs : ∀ i ∈ t.slots, i ∈ own.map (·.2)) (hgs : Gl X "sorted")
    (hg : ∀ s H C cl fp, PG (Blk X scope s H C cl fp) tg (TgtG X.K t)) (hi : SI b X tg iter fi) (he : ∀ s H C cl fp, SE b (Blk X scope s H C cl fp) elt fx) (hf : ∀ x, foldedSetIterable iter X.env x = pure x := by intro _; rfl)
    (na : starEach [.SetComp elt [⟨tg, iter, [], 0⟩] scope pos] X.env = (false, eval (.SetComp elt [⟨tg, iter, [], 0⟩] scope pos) X.env) :: starEach [] X.env := by rfl) :
    SE b X (.Call (.Name "sorted" p) [.SetComp elt [⟨tg, iter, [], 0⟩] scope pos] [] pos2) (dSrtSc t (own.map (·.2)) fi fx) := .mk fun μ0 E ρ μ Φ R h => by
  obtain ⟨wi, pi, run⟩ := hi.run μ0 E ρ μ (fun D μ1 => ∃ xs : List PyData, D = ⟨xs.map .im, fun _ => True⟩ ∧ Bs b μ μ1 ∧ xs.length ≤ 62 ∧ (mapT (fun x => (liftO (putE t x (wipeE E (own.map (·.2))))).bind fun E' => (fx E').bind fun y => liftO (isTup y)) xs).All fun ys => ∃ r, pSrtSetT (.list ys) = some r ∧ ∀ μ', Bs b μ μ' → Φ (.im r) μ') R ((all_bind.mp h).imp fun xs q μ1 s1 => by
    obtain ⟨u, hu, q⟩ := lift_all (all_bind.mp q)
    refine ⟨xs, rfl, s1, ?_, (all_bind.mp q).imp fun ys q => ?_⟩
    · unfold few62 at hu
      split at hu
      · assumption
      · cases hu
    · obtain ⟨r, hr, q⟩ := lift_all q
      exact ⟨r, hr, q⟩)
  intro G H σ m v Q f
  have hun := hr.room.un
  refine WE.of (pe_srtOf hc hgs B.sorted (pe_scT (own := own) hc hN (by omega) pi ok hg (fun s H C cl fp => pweb s H C cl fp) hf) na) ?_
  refine run G H σ m v _ fun J D μ1 G1 H1 ⟨xs, hD, s1, hz, q⟩ e1 m1 gv Dl hDl => ?_
  subst hD
  obtain ⟨Gd, Y, wk, hG, hY⟩ := gv
  have hGl := m1.ex.free hDl
  have hlen : (xs.map OV.im).length = xs.length := List.length_map ..
  refine sc_it wk (fun i H => ∃ (ts : List (List Int)) (μ' : Mu) (G' : Hp) (L : List (Addr × List Int)), Bs b μ μ' ∧ Ex G1 G' ∧ RM G' H μ' ∧ G' Dl = some (SetTO X.prog X.w Dl L) ∧ (∀ p ∈ L, G' p.1 = some (.tup (p.2.map V.int))) ∧ (∀ k, k ∈ L.map (·.2) ↔ k ∈ ts) ∧ L.length ≤ i ∧
      (mapT (fun x => (liftO (putE t x (wipeE E (own.map (·.2))))).bind fun E' => (fx E').bind fun y => liftO (isTup y)) (xs.drop i)).All fun ys => ∃ r, pSrtSetT (.list (ts.map tpl ++ ys)) = some r ∧ ∀ μ', Bs b μ μ' → Φ (.im r) μ')
    ⟨[], μ1, upd G1 Dl (SetTO X.prog X.w Dl []), [], s1, Ex.new hGl, m1.lay hDl, upd_same, (fun p hp => nomatch hp), fun k => Iff.rfl, Nat.le_refl _, q⟩ ?_ ?_ ?_
  · rintro i H2 _ ⟨ts, μ', G', L, s, e2, m2, _⟩
    exact hG G' H2 μ' e2 m2 trivial
  · rintro i x H2 H3 hi ⟨ts, μ', G', L, s, e2, m2, hL, hT, hk, hl, q⟩ y
    obtain ⟨G2, o, e3, m3, ho, r3⟩ := hY i H2 x H3 G' μ' e2 m2 trivial y hi
    have hi : i < xs.length := by simpa using hi
    have ho : (xs.map OV.im)[i]? = some o := ho
    rw [List.getElem?_map, List.getElem?_eq_getElem hi] at ho
    cases ho
    rw [List.drop_eq_getElem_cons hi, mapT] at q
    obtain ⟨E', hE, q⟩ := lift_all (all_bind.mp (all_bind.mp q))
    obtain ⟨ρ', hp, R2⟩ := ((R.step s).wipes (own.map (·.2))).putT hE
    have v2 : RV G2 (wipeR ρ (own.map (·.2))) (L2.wipe σ (own.map (·.2))) := (v.mono ((e1.trans e2).trans e3)).wipeV _
    refine tgt_runW (own.map (·.2)) hs m3 r3 v2 hp fun σ' v3 hw => ⟨hw.trans (wipe_idem _ _), fun s' H0 C cl fp => ?_⟩
    refine (he s' H0 C cl fp).run μ0 E' ρ' μ' (fun o' μ3 => ∃ t', o' = .im (tpl t') ∧ Bs b μ' μ3 ∧ (mapT (fun x => (liftO (putE t x (wipeE E (own.map (·.2))))).bind fun E' => (fx E').bind fun y => liftO (isTup y)) (xs.drop (i + 1))).All fun ys => ∃ r, pSrtSetT (.list (ts.map tpl ++ (tpl t' :: ys))) = some r ∧ ∀ μ', Bs b μ μ' → Φ (.im r) μ') R2
      ((all_bind.mp q).imp fun d q μ3 s3 => ?_) G2 H3 σ' m3 v3 _ fun vy o' μ3 G3 H4 ⟨t', ho', s3, q3⟩ e4 m4 r4 => ?_
    · obtain ⟨d', hd, q⟩ := lift_all q
      obtain ⟨t', rfl, rfl⟩ := isTup_some hd
      exact ⟨t', rfl, s3, (all_bind.mp q).imp fun ys q => q⟩
    · subst ho'
      have r4 : Dv G3 vy (tpl t') := r4
      unfold tpl at r4
      cases r4 with
      | @tup a us ds ha w =>
        have eu := DvA.ints t' w
        subst eu
        have e5 := e3.trans e4
        have hL3 := e5 _ _ hL
        have hT3 : ∀ p ∈ L, G3 p.1 = some (.tup (p.2.map V.int)) := fun p hp => e5 _ _ (hT p hp)
        refine ⟨a, t', L, rfl, .inl (.inl (m4.ex _ _ ha)), m4.ex _ _ hL3, fun p hp => .inl (.inl (m4.ex _ _ (hT3 p hp))), by omega, fun L' c1 c2 => ?_⟩
        have sub : ∀ p ∈ L', p = (a, t') ∨ p ∈ L := fun p hp => by
          by_cases c : t' ∈ L.map (·.2)
          · rw [c1 c] at hp
            exact .inr hp
          · exact List.mem_cons.mp ((c2 c).mem_iff.mp hp)
        have nD : ∀ (c : Addr) us, G3 c = some (.tup us) → c ≠ Dl := fun c us h z => by
          rw [z, hL3] at h
          cases h
        refine ⟨ts ++ [t'], μ3, upd G3 Dl (SetTO X.prog X.w Dl L'), L', s.trans s3, fun c o h => ?_, m4.ext hL3, upd_same, fun p hp => ?_, fun k => ?_, ?_, q3.imp fun ys ⟨r, hr, q⟩ => ⟨r, ?_, q⟩⟩
        · rw [upd_ne (fun z => by rw [z, hGl] at h; cases h)]
          exact e5 _ _ (e2 _ _ h)
        · have : G3 p.1 = some (.tup (p.2.map V.int)) := by
            rcases sub p hp with rfl | hp
            · exact ha
            · exact hT3 p hp
          rw [upd_ne (nD _ _ this)]
          exact this
        · rw [List.mem_append, List.mem_singleton, ← hk]
          by_cases c : t' ∈ L.map (·.2)
          · rw [c1 c]
            exact ⟨.inl, fun z => z.elim id fun e => e ▸ c⟩
          · rw [((c2 c).map (·.2)).mem_iff, List.map_cons, List.mem_cons]
            exact Or.comm
        · by_cases c : t' ∈ L.map (·.2)
          · rw [c1 c]
            omega
          · rw [(c2 c).length_eq, List.length_cons]
            omega
        · rw [List.map_append, List.append_assoc]
          exact hr
  · rintro H2 ⟨ts, μ', G', L, s, e2, m2, hL, hT, hk, hl, q⟩
    rw [List.drop_eq_nil_of_le (by simp)] at q
    obtain ⟨r, hr, q⟩ := q
    rw [List.append_nil] at hr
    obtain ⟨ts', ets, rfl, h1, h2, h3⟩ := pSrtSetT_some hr
    have ets : ts = ts' := tpl_inj (by injection ets)
    subst ets
    exact srt_end m2 hL hT hk h1 h3 fun v' G'' H'' r'' e'' m'' => f _ _ _ _ _ (q μ' s) ((e1.trans e2).trans e'') m'' r''
end
end Nx
namespace Nx
open PySem PySem.Spec PyProof.Rows L2
open Tree
def lookT : TD → List Int → Option PyData
  | [], _ => none
  | (k, v) :: r, t => if k = t then some v else lookT r t
def putT : TD → List Int → PyData → TD
  | [], t, d => [(t, d)]
  | (k, v) :: r, t, d => if k = t then (k, d) :: r else (k, v) :: putT r t d
theorem imD_snd (kvs : TD) : (imD kvs).map (·.2) = (kvs.map (·.2)).map OV.im := by
  unfold imD
  rw [List.map_map, List.map_map]
  rfl
theorem keyT_inj {a b : List Int} (h : keyT a = keyT b) : a = b := inl_inj h
theorem look_none {G : Hp} {t : List Int} : ∀ {kvs : TD} {xs : List V}, lookT kvs t = none → valV (kvV (imD kvs) xs) (keyT t) = none
  | [], _, _ => rfl
  | (k, v) :: r, [], _ => rfl
  | (k, v) :: r, x :: xs, h => by
    unfold lookT at h
    split at h
    · cases h
    · rename_i n
      show valV ((keyT k, x) :: kvV (imD r) xs) (keyT t) = none
      rw [valV_neg fun e => n (keyT_inj e)]
      exact look_none (G := G) h
theorem look_some {G : Hp} {t : List Int} {d : PyData} : ∀ {kvs : TD} {xs : List V}, DvA G xs (kvs.map (·.2)) → lookT kvs t = some d → ∃ v, valV (kvV (imD kvs) xs) (keyT t) = some v ∧ Dv G v d
  | [], _, _, h => nomatch h
  | (k, v) :: r, x :: xs, .cons h1 h2, h => by
    unfold lookT at h
    split at h
    · rename_i e
      cases h
      exact ⟨x, valV_pos (p := (keyT k, x)) (by rw [e]), h1⟩
    · rename_i n
      obtain ⟨u, hu, r2⟩ := look_some h2 h
      refine ⟨u, ?_, r2⟩
      show valV ((keyT k, x) :: kvV (imD r) xs) (keyT t) = _
      rw [valV_neg fun e => n (keyT_inj e)]
      exact hu
theorem putK_cons {κ : Type} [DecidableEq κ] {p : κ × V} {r : List (κ × V)} {k : κ} {v : V} (n : ¬ p.1 = k) : putK (p :: r) k v = p :: putK r k v := by
  unfold putK
  rw [List.any_cons]
  simp only [n, decide_false, Bool.false_or, List.map_cons, if_false]
  split <;> rfl
def ndK (kvs : TD) : Prop := (kvs.map (·.1)).Nodup
theorem map_id_of {κ : Type} [DecidableEq κ] {k : κ} {v : V} : ∀ {r : List (κ × V)}, valV r k = none → r.map (fun kv => if kv.1 = k then (kv.1, v) else kv) = r
  | [], _ => rfl
  | p :: r, h => by
    by_cases e : p.1 = k
    · rw [valV_pos e] at h
      cases h
    · rw [valV_neg e] at h
      rw [List.map_cons, if_neg e, map_id_of h]
theorem lookT_mem {t : List Int} : ∀ {kvs : TD}, t ∉ kvs.map (·.1) → lookT kvs t = none
  | [], _ => rfl
  | (k, v) :: r, h => by
    unfold lookT
    rw [if_neg fun e => h (by rw [e]; exact List.mem_cons_self ..)]
    exact lookT_mem fun m => h (List.mem_cons_of_mem _ m)
theorem put_run {G : Hp} {t : List Int} {d : PyData} {v : V} (hv : Dv G v d) : ∀ {kvs : TD} {xs : List V}, ndK kvs → DvA G xs (kvs.map (·.2)) → ∃ ys, putK (kvV (imD kvs) xs) (keyT t) v = kvV (imD (putT kvs t d)) ys ∧ DvA G ys ((putT kvs t d).map (·.2))
  | [], _, _, .nil => ⟨[v], rfl, .cons hv .nil⟩
  | (k, d') :: r, x :: xs, nd, .cons h1 h2 => by
    have nd : ((k :: r.map (·.1))).Nodup := nd
    obtain ⟨n1, n2⟩ := List.nodup_cons.mp nd
    by_cases e : k = t
    · subst e
      refine ⟨v :: xs, ?_, ?_⟩
      · unfold putT
        rw [if_pos rfl]
        show putK ((keyT k, x) :: kvV (imD r) xs) (keyT k) v = (keyT k, v) :: kvV (imD r) xs
        unfold putK
        rw [List.any_cons, List.map_cons]
        simp only [decide_true, Bool.true_or, if_true]
        rw [map_id_of (look_none (G := G) (lookT_mem n1))]
      · unfold putT
        rw [if_pos rfl]
        exact .cons hv h2
    · obtain ⟨ys, a1, a2⟩ := put_run hv (t := t) (d := d) n2 h2
      refine ⟨x :: ys, ?_, ?_⟩
      · unfold putT
        rw [if_neg e]
        show putK ((keyT k, x) :: kvV (imD r) xs) (keyT t) v = (keyT k, x) :: kvV (imD (putT r t d)) ys
        rw [putK_cons fun z => e (keyT_inj z), a1]
      · unfold putT
        rw [if_neg e]
        exact .cons h1 a2
theorem putT_keys {t : List Int} {d : PyData} : ∀ {kvs : TD}, (putT kvs t d).map (·.1) = if t ∈ kvs.map (·.1) then kvs.map (·.1) else kvs.map (·.1) ++ [t]
  | [] => by
    rw [if_neg (fun m => nomatch m)]
    rfl
  | (k, v) :: r => by
    unfold putT
    by_cases e : k = t
    · rw [if_pos e, if_pos (by rw [e]; exact List.mem_cons_self ..)]
      rfl
    · rw [if_neg e, List.map_cons, putT_keys, List.map_cons]
      have : t ∈ k :: r.map (·.1) ↔ t ∈ r.map (·.1) := by
        rw [List.mem_cons]
        exact ⟨fun h => h.resolve_left fun z => e z.symm, .inr⟩
      by_cases m : t ∈ r.map (·.1)
      · rw [if_pos m, if_pos (this.mpr m)]
      · rw [if_neg m, if_neg (fun z => m (this.mp z))]
        rfl
theorem putT_nd {t : List Int} {d : PyData} {kvs : TD} (nd : ndK kvs) : ndK (putT kvs t d) := by
  unfold ndK
  rw [putT_keys]
  split
  · exact nd
  · rename_i h
    exact List.nodup_append.mpr ⟨nd, List.nodup_cons.mpr ⟨(fun m => nomatch m), List.nodup_nil⟩, fun a ha b hb z => by
      have hb' : b = t := List.mem_singleton.mp hb
      rw [z, hb'] at ha
      exact h ha⟩
theorem putT_len {t : List Int} {d : PyData} {kvs : TD} : (putT kvs t d).length ≤ kvs.length + 1 := by
  have := congrArg List.length (putT_keys (t := t) (d := d) (kvs := kvs))
  rw [List.length_map] at this
  rw [this]
  split
  · rw [List.length_map]
    omega
  · rw [List.length_append, List.length_map]
    exact Nat.le_refl _
theorem kvV_len {G : Hp} {kvs : TD} {xs : List V} (h : DvA G xs (kvs.map (·.2))) : (kvV (imD kvs) xs).length = kvs.length := by
  have := h.length
  rw [List.length_map] at this
  unfold kvV imD
  rw [List.length_zip, List.length_map, List.length_map, this, Nat.min_self]
def odcE (E : Env) (i : Nat) : Option TD := match E[i]? with | some (some (.odc kvs)) => some kvs | _ => none
theorem odcE_some {E : Env} {i : Nat} {kvs : TD} (h : odcE E i = some kvs) : E[i]? = some (some (.odc kvs)) := by
  unfold odcE at h
  split at h
  · rename_i e
    cases h
    exact e
  · cases h
def tdE (E : Env) (i : Nat) : Option TD := match E[i]? with | some (some (.odc kvs)) => some kvs | some (some (.dtt kvs)) => some kvs | _ => none
def TdO (kvs : TD) (μ : Mu) (o : OV) : Prop := (∃ p, o = .own p ∧ μ.d p = some (.dT (imD kvs))) ∨ o = .ob (dttP kvs)
theorem TdO.step {b : Addr} {kvs : TD} {μ μ' : Mu} {o : OV} (s : Bs b μ μ') (h : TdO kvs μ o) : TdO kvs μ' o := h.imp (fun ⟨p, e, h⟩ => ⟨p, e, s.thg _ _ h⟩) id
theorem TdO.at {G H : Hp} {μ : Mu} {kvs : TD} {o : OV} {v : V} (m : RM G H μ) (h : TdO kvs μ o) (r : RO G v o) : ∃ a xs, v = .ref a ∧ Rd H a (.dT (kvV (imD kvs) xs)) ∧ DvA G xs (kvs.map (·.2)) := by
  rcases h with ⟨p, rfl, h⟩ | rfl
  · have r : v = .ref p := r
    obtain ⟨_, _, xs, h1, h2⟩ := m.atD h
    rw [imD_snd] at h2
    exact ⟨p, xs, r, .inl h1, ROs.ims h2⟩
  · obtain ⟨a, o, xs, h1, h2, h3⟩ := r
    exact ⟨a, xs, h1, .inr ⟨o, m.ex _ _ h2⟩, h3⟩
theorem dget_td {H : Hp} {a q : Addr} {kvs : List (List Key × V)} {k : List Key} (h : Rd H a (.dT kvs)) (hq : H q = some (.tup (k.map kV))) : DGet H a (.ref q) (valV kvs k) := .inr ⟨kvs, k, q, h, rfl, hq, rfl⟩
def isNd (kvs : TD) : Option Unit := if (kvs.map (·.1)).Nodup then some () else none
theorem isNd_ok {kvs : TD} {Q : Unit → Prop} (h : (liftO (isNd kvs)).All Q) : ndK kvs ∧ Q () := by
  unfold isNd at h
  by_cases c : (kvs.map (·.1)).Nodup
  · rw [if_pos c] at h
    exact ⟨c, h⟩
  · rw [if_neg c] at h
    exact h.elim
theorem smallE_ok {n : Nat} {Q : Unit → Prop} (h : (liftO (small n)).All Q) : n ≤ 100000 ∧ Q () := small_le h
theorem tpl_at {G H : Hp} {v : V} {t : List Int} (e : Ex G H) (h : Dv G v (tpl t)) : ∃ a, v = .ref a ∧ H a = some (.tup ((keyT t).map kV)) := by
  unfold tpl at h
  cases h with
  | tup ha wa =>
    have := DvA.ints t wa
    subst this
    refine ⟨_, rfl, ?_⟩
    rw [e _ _ ha, int_keys]
    rfl
def tDen (f : DenE) : Env → Tree (List Int) := fun E => (f E).bind fun x => liftO (asT x)
theorem tDen_all {f : DenE} {E : Env} {Q : List Int → Prop} (h : (tDen f E).All Q) : (f E).All fun d => ∃ t, d = tpl t ∧ Q t := (all_bind.mp h).imp fun d q => let ⟨t, ht, q⟩ := lift_all q; ⟨t, asT_some ht, q⟩
section
variable {b : Addr} {X : Cx} {e x y z : Expr} {fx fy fz : DenE} {pos p apos cpos : Pos} {st : Stmt} {k : Nat}
theorem Rel.odc {μ0 μ : Mu} {E : Env} {ρ : Rho} {i : Nat} {kvs : TD} (R : Rel b μ0 E ρ μ) (h : odcE E i = some kvs) : ∃ p, ρ[i]? = some (some (.own p)) ∧ μ0.d p = none ∧ μ.d p = some (.dT (imD kvs)) := by
  obtain ⟨o, h1, p, rfl, h2, h3⟩ := R.get i _ (odcE_some h)
  exact ⟨p, h1, h2, h3⟩
theorem Rel.td {μ0 μ : Mu} {E : Env} {ρ : Rho} {i : Nat} {kvs : TD} (R : Rel b μ0 E ρ μ) (h : tdE E i = some kvs) : ∃ o, ρ[i]? = some (some o) ∧ TdO kvs μ o := by
  unfold tdE at h
  split at h
  · rename_i e
    cases h
    obtain ⟨o, h1, p, rfl, h2, h3⟩ := R.get i _ e
    exact ⟨_, h1, .inl ⟨p, rfl, h3⟩⟩
  · rename_i e
    cases h
    obtain ⟨o, h1, h2⟩ := R.get i _ e
    exact ⟨_, h1, .inr h2⟩
  · cases h
theorem RM.atT {G H : Hp} {μ : Mu} {p : Addr} {kvs : TD} (m : RM G H μ) (h : μ.d p = some (.dT (imD kvs))) : ∃ xs, H p = some (.dT (kvV (imD kvs) xs)) ∧ DvA G xs (kvs.map (·.2)) := by
  obtain ⟨_, _, xs, h1, h2⟩ := m.atD h
  rw [imD_snd] at h2
  exact ⟨xs, h1, ROs.ims h2⟩
def sNewD (i : Nat) : DenS := fun E => .ret (.nx (E.set i (some (.odc []))))
theorem de_newD {ρ : Rho} {μ : Mu} {Φ : OV → Mu → Prop} (h : ∀ p, μ.d p = none → Φ (.own p) (μ.putD p (.dT []))) : DE X (.Dict [] [] pos) ρ μ Φ := fun G H σ m v Q f =>
  WE.of pe_dnewT fun p hp => f _ _ _ _ _ (h p (m.freshD hp)) (Ex.refl G) (m.newD (kvs := []) (xs := []) hp .nil) rfl
theorem ss_newD (i : Nat) {n : Str} {p' : Pos} (hN : X.N.Nodup) (hi : X.N[i]? = some n) (hl : Loc X.env.scope n) (hs : swapsWith (.Dict [] [] p) (some (.Name n p')) pos.line X.env = pure false := by rfl)
    (hf : X.fn n = true ∨ X.env.scope.names.lookup n = some .local := by first | exact .inl rfl | exact .inr rfl | assumption) : SS b X (.Assign [.Name n p'] (.Dict [] [] p) pos) (sNewD i) := .mk fun μ0 E ρ μ D R q =>
  ds_set i hN hi hl (de_newD fun p hp => q _ _ (R.setT i (w := .odc []) rfl hp)) hs hf
def dGetO (i : Nat) (fk fz : DenE) : DenE := fun E => match tdE E i with
  | some kvs => (tDen fk E).bind fun t => (fz E).bind fun z => .ret ((lookT kvs t).getD z)
  | none => .fail
theorem se_getO (i : Nat) {n : Str} {np : Pos} (hr : Rm k X.A) (hN : X.N[i]? = some n) (hv : Vis X.env.scope n) (hx : SE b X x fx) (hz : SE b X z fz) (hd : (n == ("__debug__" : Str)) = false := by decide) (hcd : (n == ("__classdict__" : Str)) = false := by decide)
    (m2 : M2 X (.Name n np) "get" apos x z cpos := by exact ⟨rfl, rfl, rfl, rfl⟩) : SE b X (.Call (.Attribute (.Name n np) "get" apos) [x, z] [] cpos) (dGetO i fx fz) := .mk fun μ0 E ρ μ Φ R q G H σ m v Q f => by
  have hu : X.A.units + 1 < cLine := by have := hr.room.un; omega
  unfold dGetO at q
  split at q
  · rename_i kvs hE
    obtain ⟨o, h1, h2⟩ := R.td hE
    obtain ⟨vd, hvd, rd⟩ := v.get i _ h1
    obtain ⟨p, xs, rfl, hp, w⟩ := h2.at m rd
    refine WE.of (pe_dget2 hu (pe_var hN hv hd hcd) pwe pwe m2) ⟨_, hvd, p, rfl, .inr ⟨_, hp⟩, ?_⟩
    refine hx.run μ0 E ρ μ (fun o μ' => ∃ t, o = .im (tpl t) ∧ Bs b μ μ' ∧ (fz E).All fun z => ∀ μ2, Bs b μ' μ2 → Φ (.im ((lookT kvs t).getD z)) μ2) R ((tDen_all (all_bind.mp q)).imp fun d ⟨t, ed, q⟩ μ1 s1 => ⟨t, by rw [ed], s1, (all_bind.mp q).imp fun z q μ2 s2 => q μ2 (s1.trans s2)⟩) G H σ m v _ fun vk u μ1 G1 H1 q1 e1 m1 r1 => ?_
    obtain ⟨t, rfl, s1, q⟩ := q1
    refine hz.run μ0 E ρ μ1 (fun o μ2 => ∃ z, o = .im z ∧ Bs b μ1 μ2 ∧ Φ (.im ((lookT kvs t).getD z)) μ2) (R.step s1) (q.imp fun z q μ2 s2 => ⟨z, rfl, s2, q μ2 s2⟩) G1 H1 σ m1 (v.mono e1) _ fun vz u μ2 G2 H2 q2 e2 m2' r2 => ?_
    obtain ⟨z, rfl, s2, q⟩ := q2
    obtain ⟨p', ys, ep, hp2, w2⟩ := ((h2.step s1).step s2).at m2' (rd.mono (e1.trans e2))
    cases ep
    obtain ⟨a, rfl, ha⟩ := tpl_at (m2'.ex) (r1.mono e2)
    refine ⟨_, dget_td hp2 ha, ?_⟩
    cases hl : lookT kvs t with
    | none =>
      rw [hl] at q
      rw [look_none (G := G2) hl]
      exact f _ _ _ _ _ q (e1.trans e2) m2' r2
    | some d =>
      rw [hl] at q
      obtain ⟨u, hu', ru⟩ := look_some w2 hl
      rw [hu']
      exact f _ _ _ _ _ q (e1.trans e2) m2' ru
  · exact q.elim
def dIdxO (i : Nat) (fk : DenE) : DenE := fun E => match tdE E i with
  | some kvs => (tDen fk E).bind fun t => liftO (lookT kvs t)
  | none => .fail
theorem se_idxO (i : Nat) {n : Str} {np : Pos} (hr : Rm k X.A) (hN : X.N[i]? = some n) (hv : Vis X.env.scope n) (hx : SE b X x fx) (hs : NoSl x := by exact fun _ _ => rfl) (hd : (n == ("__debug__" : Str)) = false := by decide) (hcd : (n == ("__classdict__" : Str)) = false := by decide) : SE b X (.Subscript (.Name n np) x pos) (dIdxO i fx) := .mk fun μ0 E ρ μ Φ R q G H σ m v Q f => by
  have hu : X.A.units + 1 < cLine := by have := hr.room.un; omega
  unfold dIdxO at q
  split at q
  · rename_i kvs hE
    obtain ⟨o, h1, h2⟩ := R.td hE
    obtain ⟨vd, hvd, rd⟩ := v.get i _ h1
    refine WE.of (pe_dget hu (pe_var hN hv hd hcd) pwe hs) ⟨_, hvd, ?_⟩
    refine hx.run μ0 E ρ μ (fun o μ' => ∃ t d, o = .im (tpl t) ∧ Bs b μ μ' ∧ lookT kvs t = some d ∧ Φ (.im d) μ') R ((tDen_all (all_bind.mp q)).imp fun d ⟨t, ed, q⟩ μ1 s1 => let ⟨r, hr, q⟩ := lift_all q; ⟨t, r, by rw [ed], s1, hr, q μ1 s1⟩) G H σ m v _ fun vk u μ1 G1 H1 q1 e1 m1 r1 => ?_
    obtain ⟨t, d, rfl, s1, hl, q⟩ := q1
    obtain ⟨p, ys, rfl, hp2, w2⟩ := (h2.step s1).at m1 (rd.mono e1)
    obtain ⟨a, rfl, ha⟩ := tpl_at m1.ex r1
    obtain ⟨u, hu', ru⟩ := look_some w2 hl
    exact ⟨p, u, rfl, by rw [← hu']; exact dget_td hp2 ha, f _ _ _ _ _ q e1 m1 ru⟩
  · exact q.elim
def tNinD (i : Nat) (fk : DenE) : DenB := fun E => match tdE E i with
  | some kvs => (tDen fk E).bind fun t => .ret (lookT kvs t).isNone
  | none => .fail
def sPutO (i : Nat) (fk fv : DenE) : DenS := fun E => match odcE E i with
  | some kvs => (liftO (isNd kvs)).bind fun _ => (liftO (small kvs.length)).bind fun _ => (fv E).bind fun d => (tDen fk E).bind fun t => .ret (.nx (E.set i (some (.odc (putT kvs t d)))))
  | none => .fail
theorem ss_putO (i : Nat) {n : Str} {np p' : Pos} (hr : Rm k X.A) (hN : X.N[i]? = some n) (hv : Vis X.env.scope n) (hx : SE b X x fx) (hy : SE b X y fy) (hs : swapsWith y (some (.Subscript (.Name n np) x p')) pos.line X.env = pure false := by rfl) (hd : (n == ("__debug__" : Str)) = false := by decide) (hcd : (n == ("__classdict__" : Str)) = false := by decide) :
    SS b X (.Assign [.Subscript (.Name n np) x p'] y pos) (sPutO i fx fy) := .mk fun μ0 E ρ μ D R q G H σ m v Ed f => by
  have hu : X.A.units + 1 < cLine := by have := hr.room.un; omega
  unfold sPutO at q
  split at q
  · rename_i kvs hE
    obtain ⟨p, h1, h0, h2⟩ := R.odc hE
    obtain ⟨nd, q⟩ := isNd_ok (all_bind.mp q)
    obtain ⟨hz, q⟩ := smallE_ok (all_bind.mp q)
    refine WS.of (ps_dput hu (pe_var hN hv hd hcd) pwe pwe hs) ?_
    refine hy.run μ0 E ρ μ (fun o μ' => ∃ d, o = .im d ∧ Bs b μ μ' ∧ (tDen fx E).All fun t => OutOk b μ0 D (.nx (E.set i (some (.odc (putT kvs t d)))))) R ((all_bind.mp q).imp fun d q μ1 s1 => ⟨d, rfl, s1, all_bind.mp q⟩) G H σ m v _ fun vv u μ1 G1 H1 q1 e1 m1 r1 => ?_
    obtain ⟨d, rfl, s1, q⟩ := q1
    obtain ⟨vd, hvd, rd⟩ := v.get i _ h1
    have rd : vd = .ref p := rd
    subst rd
    refine ⟨_, hvd, ?_⟩
    refine hx.run μ0 E ρ μ1 (fun o μ' => ∃ t, o = .im (tpl t) ∧ Bs b μ1 μ' ∧ OutOk b μ0 D (.nx (E.set i (some (.odc (putT kvs t d)))))) (R.step s1) ((tDen_all q).imp fun d ⟨t, ed, q⟩ μ2 s2 => ⟨t, by rw [ed], s2, q⟩) G1 H1 σ m1 (v.mono e1) _ fun vk u μ2 G2 H2 q2 e2 m2 r2 => ?_
    obtain ⟨t, rfl, s2, q⟩ := q2
    have hμ2 := s2.thg _ _ (s1.thg _ _ h2)
    obtain ⟨ys, hp2, w2⟩ := m2.atT hμ2
    obtain ⟨a, rfl, ha⟩ := tpl_at m2.ex r2
    obtain ⟨zs, z1, z2⟩ := put_run (t := t) (r1.mono e2) nd w2
    refine ⟨p, _, rfl, DPut.t hp2 ha (by rw [kvV_len w2, sizeLine_eq]; omega), ?_⟩
    rw [z1]
    have R2 := ((R.step s1).step s2).chgT (i := i) (w := .odc (putT kvs t d)) (odcE_some hE) h1 rfl rfl
    exact f.nx _ _ _ _ _ (q _ _ R2) (e1.trans e2) (m2.chgD (kvs := imD (putT kvs t d)) hμ2 (by rw [imD_snd]; exact ROs.of_ims z2)) (v.mono (e1.trans e2))
  · exact q.elim
end
end Nx
namespace Nx
open PySem PySem.Spec PyProof.Rows L2
open Tree
theorem reads_ints {h : Heap} : ∀ {ns : List Int} {us : List Value}, Vals (ns.map V.int) us → ReadsAll h us (ns.map .int) []
  | [], _, .nil => .nil
  | n :: ns, _, .cons r t => by
    obtain ⟨tk, rfl⟩ := r
    exact .cons (as := []) (bs := []) (.int n tk) (reads_ints t)
theorem inv_readsT {X : Cx} {pins : List (Addr × Obj)} {σ : L2.St} {H : Hp} {s : Shared} {b : Addr} {k : List Int} (I : Inv X pins σ H s) (h : SqT X.K H b (k.map V.int)) : Reads s.heap (.ref b) (.tuple (k.map .int)) [] := by
  obtain ⟨its, rv, ⟨o, ho, hc, n, hd⟩, _⟩ := I.tuple h
  exact .tuple ho hc hd (by simpa using reads_ints rv)
theorem code_mono : ∀ {a b : List Int}, a.length = b.length → TS.Bd 1000 a → TS.Bd 1000 b → ¬ b < a → TS.code 1000 a ≤ TS.code 1000 b
  | [], [], _, _, _, _ => Int.le_refl _
  | x :: a, y :: b, hl, ha, hb, h => by
    have hl' : a.length = b.length := by simpa using hl
    have ha' : TS.Bd 1000 a := fun m hm => ha m (List.mem_cons_of_mem _ hm)
    have hb' : TS.Bd 1000 b := fun m hm => hb m (List.mem_cons_of_mem _ hm)
    rcases Int.lt_trichotomy x y with c | c | c
    · exact Int.le_of_lt (TS.code_lt hl' ha' hb' c)
    · subst c
      have := code_mono hl' ha' hb' fun z => h (List.cons_lt_cons_iff.mpr (.inr ⟨rfl, z⟩))
      simp only [TS.code]
      rw [hl']
      omega
    · exact absurd (List.cons_lt_cons_iff.mpr (.inl c)) h
def encT (q : Addr × List Int) : PyData := .tuple (q.2.map .int)
theorem le_encT : PySem.W.dataLe false encT = fun p q => decide (¬ q.2 < p.2) := by
  funext p q
  rw [PySem.W.dataLe_eq]
  show (!PySem.W.dataLt (.tuple (q.2.map .int)) (.tuple (p.2.map .int))) = _
  rw [PySem.W.dataLt_tuple]
  show (!PySem.W.rowLt (q.2.map .int) (p.2.map .int)) = _
  rw [PySem.W.dataLt_ints]
  by_cases h : q.2 < p.2 <;> simp [h]
theorem srt_encT (L : List (Addr × List Int)) : (L.mergeSort (PySem.W.dataLe false encT)).Pairwise fun p q => ¬ q.2 < p.2 := by
  rw [le_encT]
  have h := List.pairwise_mergeSort (le := fun p q : Addr × List Int => decide (¬ q.2 < p.2)) (fun a b c h1 h2 => by
    simp only [decide_eq_true_eq] at *
    exact fun z => List.not_lt.mpr (List.le_trans (List.not_lt.mp h1) (List.not_lt.mp h2)) z) (fun a b => by
    simp only [Bool.or_eq_true, decide_eq_true_eq]
    rcases List.le_total a.2 b.2 with h | h
    · exact .inl (List.not_lt.mpr h)
    · exact .inr (List.not_lt.mpr h)) L
  exact h.imp fun {a b} h => by simpa using h
section
variable {prog : Program} {w : World} {A : Around} {E : Value → Shared → Prop} {s : Shared}
theorem list_sort_tpl {a : Addr} {n d : Nat} {L0 : List (Addr × List Int)} {Q : Value → Shared → Prop} (ho : s.heap.get? a = some (seqObj "list" (L0.map fun q => Value.ref q.1).toArray n)) (ht : ∀ q ∈ L0, Reads s.heap (.ref q.1) (encT q) []) (hd : 1 ≤ d)
    (hb : ∀ q ∈ L0, q.2.length = d ∧ TS.Bd 1000 q.2) (hL : L0.length ≤ 1000) (hu : A.units + 2 < cLine)
    (h : ∀ L1 : List (Addr × List Int), L1.Perm L0 → L1.Pairwise (fun p q => TS.code 1000 p.2 ≤ TS.code 1000 q.2) → Q .none { s with heap := sortedHeap s.heap a (L0.map fun q => Value.ref q.1) (L1.map fun q => Value.ref q.1).toArray }) :
    wpAny (model prog w) A (call (.builtin "list.sort") [.ref a]) Q E s := by
  have each : ∀ L : List (Addr × List Int), (∀ q ∈ L, q ∈ L0) → PySem.W.EachIs (fun v b => v = Value.ref b.1) (L.map fun q => Value.ref q.1) L := fun L => by
    induction L with
    | nil => exact fun _ => .nil
    | cons q L ih => exact fun hs => .cons rfl (ih fun r hr => hs r (List.mem_cons_of_mem _ hr))
  have eachR : ∀ L : List (Addr × List Int), (∀ q ∈ L, q ∈ L0) → PySem.W.EachIs (fun v b => ∃ as, Reads s.heap v (encT b) as ∧ a ∉ as) (L.map fun q => Value.ref q.1) L := fun L => by
    induction L with
    | nil => exact fun _ => .nil
    | cons q L ih => exact fun hs => .cons ⟨[], ht q (hs q (List.mem_cons_self ..)), fun z => nomatch z⟩ (ih fun r hr => hs r (List.mem_cons_of_mem _ hr))
  refine PySem.W.list_sort_data (bs := L0) (enc := encT) ho (each L0 fun _ h => h) (eachR L0 fun _ h => h) (PySem.W.AllAlike.of fun b b' => ?_) (.inl fun x hx => ?_) (Nat.le_trans hL (by decide)) (fun b _ => ?_) fun out hlen eo => ?_
  · show PySem.W.alike (.tuple (b.2.map .int)) (.tuple (b'.2.map .int)) = true
    simp only [PySem.W.alike]
    exact PySem.W.alike_ints _ _
  · obtain ⟨q, hq, rfl⟩ := List.mem_map.mp hx
    have := (hb q hq).1
    unfold encT
    cases e : q.2 with
    | nil =>
      rw [e] at this
      rw [← this] at hd
      exact absurd hd (by decide)
    | cons y ys => exact ⟨.int y, ys.map .int, rfl⟩
  · have : (encT b).depth = 1 := by
      unfold encT
      simp [PyData.depth, PySem.W.depth_ints]
    rw [this]
    omega
  · have e1 : out = (L0.mergeSort (PySem.W.dataLe false encT)).map fun q => Value.ref q.1 := by
      clear hlen
      generalize L0.mergeSort (PySem.W.dataLe false encT) = M at eo
      induction eo with
      | nil => rfl
      | cons h _ ih => rw [h, ih]; rfl
    have hp := List.mergeSort_perm L0 (PySem.W.dataLe false encT)
    rw [e1]
    refine h _ hp (List.Pairwise.imp_of_mem (fun {p q} mp mq z => ?_) (srt_encT L0))
    have b1 := hb p (hp.mem_iff.mp mp)
    have b2 := hb q (hp.mem_iff.mp mq)
    exact code_mono (b1.1.trans b2.1.symm) b1.2 b2.2 z
end
section
variable {X : Cx}
def rSortDT (K : PySem.W.Frag) : List V → Hp → VK → Prop := fun vs H Q => ∃ (a : Addr) (kvs : List (List Key × V)) (iss : List (List Int)) (d : Nat), vs = [V.ref a] ∧ Rd H a (.dT kvs) ∧ kvs.map (·.1) = iss.map keyT ∧ 1 ≤ d ∧ (∀ t ∈ iss, t.length = d ∧ TS.Bd 1000 t) ∧ iss.length ≤ 1000 ∧
  ∀ (L : List (Addr × List Int)) (p : Addr), (L.map (·.2)).Perm iss → L.Pairwise (fun q r => TS.code 1000 q.2 ≤ TS.code 1000 r.2) → (∀ q ∈ L, H q.1 = some (.tup (q.2.map V.int))) → H p = none → Q (.ref p) (upd H p (.lst (L.map fun q => V.ref q.1)))
theorem call_sortedDT (hc : X.calm = true) (hu : X.A.units + 64 < cLine) : CallR X (.builtin "sorted") (rSortDT X.K) := by
  intro pins s σ H vs us Q I r h
  obtain ⟨a, kvs, iss, d, rfl, hd, hk, h1, hb, hz, q⟩ := h
  obtain ⟨u, rfl, rx⟩ := r.one
  cases rx
  obtain ⟨z, hs, ks, pr, o, es, ep, ho, hx, hdt, he, hn⟩ := (show ObjOk X.prog X.w H s.heap a (.dT kvs) from hd.ok I.hok)
  have l1 : es.size = ks.length := size_of_entries he
  have l2 : kvs.length = ks.length := Paired.length pr
  have l3 : kvs.length = iss.length := by
    have e := congrArg List.length hk
    rw [List.length_map, List.length_map] at e
    exact e
  refine Calls.call_function_entry kind_sorted plain_sorted entry_sorted (args_sorted1 _) ?_
  unfold Builtin.«sorted»
  refine wpAny_bind (m := checkCount "sorted" 1 1 _) (wpAny_pure ?_)
  refine wpAny_bind (PySem.W.kdu_collect (A := X.A.in1) (kdl_raw hs hx hdt) (I.ok.hd hc) ho (by omega) fun h' tk acc kp it => ?_)
  have ea : acc.toList = ks.map fun x => Value.ref x.2.1 := by
    have hl : acc.toList.length = ks.length := by rw [Array.length_toList, it.1]; exact l1
    apply List.ext_getElem?
    intro j
    rw [List.getElem?_map]
    cases hj : acc.toList[j]? with
    | none =>
      have h1 := List.getElem?_eq_none_iff.mp hj
      rw [List.getElem?_eq_none (by omega)]
      rfl
    | some v =>
      obtain ⟨en, hen, hv⟩ := it.2 j v (by rw [← Array.getElem?_toList]; exact hj)
      have qe := entry_at he j
      rw [hen] at qe
      cases hb : ks[j]? with
      | none =>
        rw [hb] at qe
        exact nomatch (show some en = none from qe)
      | some b =>
        rw [hb] at qe
        have e2 : en = entryOfKey (tupleKind (mixKind X.prog X.w)) b := Option.some.inj qe
        rw [hv, e2]
        rfl
  -- the keys' tuples
  have key : ∀ (kvs : List (List Key × V)) (ks : List (List Key × Addr × Value)) (iss : List (List Int)), Paired (fun (p : List Key × V) (q : List Key × Addr × Value) => p.1 = q.1 ∧ H q.2.1 = some (.tup (p.1.map kV)) ∧ RelV p.2 q.2.2) kvs ks → kvs.map (·.1) = iss.map keyT →
      ∃ L : List (Addr × List Int), (ks.map fun x => Value.ref x.2.1) = L.map (fun q => Value.ref q.1) ∧ L.map (·.2) = iss ∧ ∀ q ∈ L, H q.1 = some (.tup (q.2.map V.int)) := by
    intro kvs ks iss pr
    induction pr generalizing iss with
    | nil =>
      intro e
      cases iss with
      | nil => exact ⟨[], rfl, rfl, fun _ z => nomatch z⟩
      | cons t iss => cases e
    | cons hp _ ih =>
      intro e
      cases iss with
      | nil => cases e
      | cons t iss =>
        rw [List.map_cons, List.map_cons] at e
        injection e with e1 e2
        obtain ⟨L, a1, a2, a3⟩ := ih iss e2
        obtain ⟨p1, p2, _⟩ := hp
        refine ⟨(_, t) :: L, by rw [List.map_cons, List.map_cons, a1], by rw [List.map_cons, a2], fun q hq => ?_⟩
        rcases List.mem_cons.mp hq with rfl | hq
        · rw [e1] at p2
          rw [p2, int_keys]
          rfl
        · exact a3 q hq
  obtain ⟨L0, b1, b2, b3⟩ := key kvs ks iss pr hk
  rw [b1] at ea
  have lL : L0.length = iss.length := by
    have := congrArg List.length b2
    rw [List.length_map] at this
    exact this
  have I1 : Inv X pins σ H { s with heap := h', toks := tk } := I.kept kp
  rw [ea]
  refine wpAny_bind (wpAny_newList ?_ (by rw [List.length_map, sizeLine_eq]; omega))
  have hoL : (h'.push (seqObj "list" (L0.map fun q => Value.ref q.1).toArray 0)).get? h'.objs.size = some (seqObj "list" (L0.map fun q => Value.ref q.1).toArray 0) := Heap.get?_push_size _ rfl
  show wpAny _ _ _ _ _ { s with heap := h'.push (seqObj "list" (L0.map fun q => Value.ref q.1).toArray 0), toks := tk }
  refine wpAny_bind (wpAny_holding (list_sort_tpl (s := { s with heap := h'.push (seqObj "list" (L0.map fun q => Value.ref q.1).toArray 0), toks := tk }) (d := d) hoL (fun q hq => ?_) h1 (fun q hq => hb _ (by rw [← b2]; exact List.mem_map_of_mem hq)) (by omega) (by show X.A.units + 1 + 2 < cLine; omega) fun L1 pm pw => ?_))
  · exact PyProof.Rows.Reads.keeps (fun b o e => Heap.get?_push_of_some _ e) (inv_readsT I1 (.inl (.inl (b3 q hq))))
  · obtain ⟨c, hcL⟩ := sortedHeap_at (vs := L0.map fun q => Value.ref q.1) (out := (L1.map fun q => Value.ref q.1).toArray) hoL
    have hlen : (L1.map fun q => V.ref q.1).length ≤ sizeLine := by
      rw [List.length_map, pm.length_eq, sizeLine_eq]
      omega
    have hv : Vals (L1.map fun q => V.ref q.1) (L1.map fun q => Value.ref q.1) := vals_of_refs L1
    refine wpAny_pure ⟨_, rfl, .ref h'.objs.size, upd H h'.objs.size (.lst (L1.map fun q => V.ref q.1)), I1.laid (t' := tk) (fun b u e => ?_) (Nat.le_refl _) (show ObjOk X.prog X.w _ _ _ (.lst (L1.map fun q => V.ref q.1)) from ⟨hlen, _, c, hv, hcL⟩), rfl, q L1 _ (by rw [← b2]; exact pm.map (·.2)) pw (fun q hq => b3 q (pm.mem_iff.mp hq)) (I1.hok.fresh (Nat.le_refl _))⟩
    have hb' : b < h'.objs.size := Heap.lt_size e
    rw [sortedHeap_old (Nat.ne_of_lt hb') (by rw [size_push']; exact Nat.lt_succ_of_lt hb')]
    exact Heap.get?_push_of_some _ e
end
end Nx
namespace Nx
open PySem PySem.Spec PyProof.Rows L2
open Tree
theorem RV.set_same {G : Hp} {ρ : Rho} {σ : L2.St} (v : RV G ρ σ) {i : Nat} {u : V} {o : OV} (h : σ[i]? = some (some u)) (r : RO G u o) : RV G (ρ.set i (some o)) σ := by
  have v2 := v.set (i := i) r
  have e1 : σ.set i (some u) = σ := by
    apply List.ext_getElem?
    intro j
    by_cases hj : i = j
    · subst hj
      rw [List.getElem?_set_self (List.getElem?_eq_some_iff.mp h).1, h]
    · rw [List.getElem?_set_ne hj]
  rw [e1] at v2
  exact v2
def lockE (i : Nat) (E : Env) : Env := match odcE E i with | some kvs => E.set i (some (.dtt kvs)) | none => E
def sLock (i : Nat) (g : DenS) : DenS := fun E => g (lockE i E)
def dttE (E : Env) (i : Nat) : Option TD := match E[i]? with | some (some (.dtt kvs)) => some kvs | _ => none
theorem dttE_some {E : Env} {i : Nat} {kvs : TD} (h : dttE E i = some kvs) : E[i]? = some (some (.dtt kvs)) := by
  unfold dttE at h
  split at h
  · rename_i e
    cases h
    exact e
  · cases h
def keysT (kvs : TD) : List (List Int) := kvs.map (·.1)
theorem imD_keys (kvs : TD) (xs : List V) (h : xs.length = kvs.length) : (kvV (imD kvs) xs).map (·.1) = (keysT kvs).map keyT := by
  unfold kvV imD keysT
  rw [List.map_fst_zip (by rw [List.length_map, List.length_map]; omega), List.map_map, List.map_map]
  rfl
section
variable {b : Addr} {X : Cx} {e x y z tg : Expr} {es : List Expr} {fx fy fz : DenE} {pos p apos cpos : Pos} {st : Stmt} {ss : List Stmt} {k : Nat} {g : DenS} {gs : Env → Tree (List W)}
theorem dss_lock {μ0 μ : Mu} {E : Env} {ρ : Rho} {D : DEnds} {i : Nat} {kvs : TD} (R : Rel b μ0 E ρ μ) (h : odcE E i = some kvs) (go : ∀ ρ' μ', Rel b μ0 (E.set i (some (.dtt kvs))) ρ' μ' → DSs X ss ρ' μ' D) : DSs X ss ρ μ D := by
  obtain ⟨p, h1, h0, h2⟩ := R.odc h
  intro G H σ m v Ed f
  obtain ⟨xs, hp, w⟩ := m.atT h2
  refine WSs.lock hp trivial fun od => ?_
  obtain ⟨xs', hp', g0, w', m'⟩ := m.frzD h2 od
  have e1 : kvV (imD kvs) xs = kvV (imD kvs) xs' := by
    rw [hp] at hp'
    injection hp' with hp'
    injection hp'
  rw [← e1] at m'
  have R' := R.delT (w := .dtt kvs) (o := .ob (dttP kvs)) (odcE_some h) h1 rfl rfl (fun _ z => nomatch z) rfl
  obtain ⟨u, hu, ru⟩ := v.get i _ h1
  have ru : u = .ref p := ru
  subst ru
  have ro : RO (upd G p (.frz od (.dT (kvV (imD kvs) xs)))) (.ref p) (.ob (dttP kvs)) := ⟨p, od, xs, rfl, upd_same, w.mono (Ex.new g0)⟩
  exact go _ _ R' _ _ σ m' ((v.mono (Ex.new g0)).set_same hu ro) Ed (f.later (Ex.new g0))
def pSrtD (kvs : TD) : Option PyData := if 1 ≤ hdLen (keysT kvs) ∧ kvs.length ≤ 1000 ∧ (keysT kvs).all (bdT (hdLen (keysT kvs))) = true then some (.list ((srtT (keysT kvs)).map tpl)) else none
def dSrtD (i : Nat) : DenE := fun E => match tdE E i with | some kvs => liftO (pSrtD kvs) | none => .fail
theorem refs_dv {G : Hp} : ∀ {L : List (Addr × List Int)}, (∀ q ∈ L, G q.1 = some (.tup (q.2.map V.int))) → DvA G (L.map fun q => V.ref q.1) ((L.map (·.2)).map tpl)
  | [], _ => .nil
  | q :: L, h => .cons (.tup (h q (List.mem_cons_self ..)) (DvA.of_ints _)) (refs_dv fun r hr => h r (List.mem_cons_of_mem _ hr))
theorem RM.sees {H : Hp} {μ : Mu} : ∀ (L : List (Addr × List Int)) {G : Hp}, RM G H μ → (∀ q ∈ L, H q.1 = some (.tup (q.2.map V.int))) → ∃ G', Ex G G' ∧ RM G' H μ ∧ ∀ q ∈ L, G' q.1 = some (.tup (q.2.map V.int))
  | [], G, m, _ => ⟨G, Ex.refl G, m, fun _ z => nomatch z⟩
  | q :: L, G, m, h => by
    obtain ⟨e1, m1⟩ := m.see (h q (List.mem_cons_self ..))
    obtain ⟨G2, e2, m2, h2⟩ := RM.sees L m1 fun r hr => h r (List.mem_cons_of_mem _ hr)
    refine ⟨G2, e1.trans e2, m2, fun r hr => ?_⟩
    rcases List.mem_cons.mp hr with rfl | hr
    · exact e2 _ _ upd_same
    · exact h2 r hr
theorem se_sortedD (i : Nat) {n : Str} {np : Pos} (B : Bt X.mg) (hr : Rm k X.A) (hc : X.calm = true) (hg : Gl X "sorted") (hN : X.N[i]? = some n) (hv : Vis X.env.scope n) (hd : (n == ("__debug__" : Str)) = false := by decide) (hcd : (n == ("__classdict__" : Str)) = false := by decide)
    (he : starEach [.Name n np] X.env = (false, eval (.Name n np) X.env) :: starEach [] X.env := by rfl) (hpl : (backTo pos (starEach [] X.env)).any (·.1) = false := by rfl) : SE b X (.Call (.Name "sorted" p) [.Name n np] [] pos) (dSrtD i) := .mk fun μ0 E ρ μ Φ R q G H σ m v Q f => by
  unfold dSrtD at q
  split at q
  · rename_i kvs hE
    obtain ⟨r, hr', q⟩ := lift_all q
    unfold pSrtD at hr'
    split at hr'
    · rename_i c
      cases hr'
      obtain ⟨c1, c2, c3⟩ := c
      obtain ⟨o, h1, h2⟩ := R.td hE
      obtain ⟨vd, hvd, rd⟩ := v.get i _ h1
      obtain ⟨a, xs, rfl, ha, w⟩ := h2.at m rd
      have hl : xs.length = kvs.length := by
        have := w.length
        rw [List.length_map] at this
        exact this
      refine WE.of (pe_callB (call_sortedDT hc (by have := hr.room.un; have := units65 hr.room; omega)) hg B.sorted PyProof.Rows.boot_sorted (pa_cons (pe_var hN hv hd hcd) pa_nil he) (by decide) (by decide) he hpl) ?_
      have hbd : ∀ t ∈ keysT kvs, t.length = hdLen (keysT kvs) ∧ TS.Bd 1000 t := fun t ht => bdT_ok (List.all_eq_true.mp c3 t ht)
      refine ⟨_, hvd, a, _, keysT kvs, hdLen (keysT kvs), rfl, ha, imD_keys kvs xs hl, c1, hbd, by unfold keysT; rw [List.length_map]; exact c2, fun L p pm pw hL hp => ?_⟩
      obtain ⟨G1, e1, m1, hG⟩ := RM.sees L m hL
      have n1 := m1.ex.free hp
      have es : L.map (·.2) = srtT (keysT kvs) := srtT_eq pm (List.pairwise_map.mpr pw) hbd
      have dv := refs_dv hG
      rw [es] at dv
      exact f _ _ _ _ _ (q μ (Bs.refl b μ)) (e1.trans (Ex.new n1)) (m1.lay hp) (Dv.lst upd_same (dv.mono (Ex.new n1)))
    · cases hr'
  · exact q.elim
def iDtt (i : Nat) : DenL := fun E => match dttE E i with | some kvs => .ret ((keysT kvs).map tpl) | none => .fail
theorem gives_keys {a : Addr} {od : Obj} {kvs : TD} {xs : List V} {G : Hp} (h : G a = some (.frz od (.dT (kvV (imD kvs) xs)))) (hl : xs.length = kvs.length) : Gives (Itkt a od (kvV (imD kvs) xs)) ⟨((keysT kvs).map tpl).map .im, fun _ => True⟩ G := by
  have hlen : (kvV (imD kvs) xs).length = kvs.length := by
    unfold kvV imD
    rw [List.length_zip, List.length_map, List.length_map]
    omega
  have hl2 : (((keysT kvs).map tpl).map OV.im).length = kvs.length := by
    unfold keysT
    rw [List.length_map, List.length_map, List.length_map]
  refine ⟨fun H => H a = some (.frz od (.dT (kvV (imD kvs) xs))), fun i H x H' => H' = H ∧ ∃ (k : List Key) (v : V) (q : Addr), (kvV (imD kvs) xs)[i]? = some (k, v) ∧ x = .ref q ∧ H q = some (.tup (k.map kV)), ?_, fun G' H' μ' e m _ => m.ex _ _ (e _ _ h), fun i H' x H2 G' μ' e m _ y hi => ?_⟩
  · show Walk _ (((keysT kvs).map tpl).map OV.im).length _ _
    rw [hl2, ← hlen]
    exact walk_keysT
  · obtain ⟨rfl, kk, v, q, y1, rfl, y2⟩ := y
    have hi : i < kvs.length := by rw [← hl2]; exact hi
    have ek : ((kvV (imD kvs) xs).map (·.1))[i]? = some kk := by rw [List.getElem?_map, y1]; rfl
    rw [imD_keys kvs xs hl] at ek
    obtain ⟨t, ht⟩ : ∃ t, (keysT kvs)[i]? = some t := ⟨_, List.getElem?_eq_getElem (by unfold keysT; rw [List.length_map]; exact hi)⟩
    rw [List.getElem?_map, ht] at ek
    have ek : keyT t = kk := Option.some.inj ek
    subst ek
    have y2' : H2 q = some (.tup (t.map V.int)) := by
      rw [y2, int_keys]
      rfl
    obtain ⟨e1, m1⟩ := m.see y2'
    exact ⟨_, .im (tpl t), e1, m1, by rw [List.getElem?_map, List.getElem?_map, ht]; rfl, Dv.tup upd_same (DvA.of_ints _)⟩
theorem si_dtt (i : Nat) {n : Str} {np : Pos} (hN : X.N[i]? = some n) (hv : Vis X.env.scope n) (hd : (n == ("__debug__" : Str)) = false := by decide) (hcd : (n == ("__classdict__" : Str)) = false := by decide) : SI b X tg (.Name n np) (iDtt i) := .mk fun μ0 E ρ μ Ψ R q => by
  refine ⟨_, pi_keys (pe_var hN hv hd hcd), fun G H σ m v RR f => ?_⟩
  unfold iDtt at q
  split at q
  · rename_i kvs hE
    obtain ⟨o, h1, h2⟩ := R.get i _ (dttE_some hE)
    have h2 : o = .ob (dttP kvs) := h2
    subst h2
    obtain ⟨u, hu, ru⟩ := v.get i _ h1
    obtain ⟨a, od, xs, rfl, ha, w⟩ := ru
    have hl : xs.length = kvs.length := by
      have := w.length
      rw [List.length_map] at this
      exact this
    exact ⟨_, hu, a, od, rfl, .inr ⟨_, m.ex _ _ ha, f _ _ _ _ _ (q μ (Bs.refl b μ)) (Ex.refl G) m (gives_keys ha hl)⟩⟩
  · exact q.elim
def cFD (F : List W → Tree TD) : Ct := fun os μ Φ => ∃ b ws, os = ws.map (wo b) ∧ (∃ p q t, μ b = some (bx p q t)) ∧ (F ws).All fun kvs => ∀ μ', Bs b μ μ' → Φ (.ob (dttP kvs)) μ'
structure SSd (b : Addr) (X : Cx) (ss : List Stmt) (f : Env → Tree TD) : Prop where
  run : ∀ μ0 E ρ μ D, Rel b μ0 E ρ μ → (f E).All (fun kvs => ∀ μ', Bs b μ0 μ' → D.rt (.ob (dttP kvs)) μ') → DSs X ss ρ μ D
def tC (g : DenS) (h : Env → Tree TD) : Env → Tree TD := fun E => (g E).bind fun o => match o with | .nx E' => h E' | _ => .fail
theorem ssd_cons {h : Env → Tree TD} (hs : SS b X st g) (ht : SSd b X ss h) : SSd b X (st :: ss) (tC g h) := .mk fun μ0 E ρ μ D R q =>
  dss_cons (hs.run μ0 E ρ μ _ R ((all_bind.mp q).imp fun o q => by
    cases o with
    | nx E' => exact fun ρ' μ' R' => ht.run μ0 E' ρ' μ' D R' q
    | rt v => exact q.elim
    | bk E' => exact q.elim
    | ct E' => exact q.elim))
def tRet (i : Nat) : Env → Tree TD := fun E => match odcE E i with | some kvs => .ret kvs | none => .fail
theorem ssd_ret (i : Nat) {n : Str} {np : Pos} (hN : X.N[i]? = some n) (hv : Vis X.env.scope n) (hd : (n == ("__debug__" : Str)) = false := by decide) (hcd : (n == ("__classdict__" : Str)) = false := by decide) : SSd b X [.Return (some (.Name n np)) pos] (tRet i) := .mk fun μ0 E ρ μ D R q => by
  unfold tRet at q
  split at q
  · rename_i kvs hE
    refine dss_lock R hE fun ρ' μ' R' => ?_
    obtain ⟨o, h1, h2⟩ := R'.get i (.dtt kvs) (List.getElem?_set_self (List.getElem?_eq_some_iff.mp (odcE_some hE)).1)
    have h2 : o = .ob (dttP kvs) := h2
    subst h2
    exact dss_one (ds_ret (de_var i hN hv h1 (q μ' R'.ext) hd hcd))
  · exact q.elim
structure SDt (b : Addr) (X : Cx) (e : Expr) (f : Env → Tree TD) : Prop where
  run : ∀ μ0 E ρ μ Φ, Rel b μ0 E ρ μ → (f E).All (fun kvs => ∀ μ', Bs b μ μ' → Φ (.ob (dttP kvs)) μ') → DE X e ρ μ Φ
def tCall2 (F : List W → Tree TD) (gs : Env → Tree (List W)) : Env → Tree TD := fun E => (gs E).bind F
theorem sdt_call {F : List W → Tree TD} {nm : Str} {fst : Stmt} {ps : List Str} (FC : Fc X.prog X.w X.K X.mg X.base nm fst ps k (cFD F)) (hr : Rm k X.A) (hg : Gl X nm)
    (hb : ∀ (kV doc pm : Value) (an : Option Addr) (cdv ct : Value) (us : List Value), us.length = ps.length → bindArgs (PySem.W.fnOf nm nm (defArgs fst) (defBody fst) (defScope fst) .none kV doc pm an cdv ct) ⟨us, []⟩ = pure (ps.zip us))
    (ha : SA b X (x :: es) gs) (hdb : (nm == ("__debug__" : Str)) = false := by decide) (he : starEach (x :: es) X.env = (false, eval x X.env) :: starEach es X.env := by rfl) (hpl : (backTo pos (starEach es X.env)).any (·.1) = false := by rfl) : SDt b X (.Call (.Name nm p) (x :: es) [] pos) (tCall2 F gs) := .mk fun μ0 E ρ μ Φ R h =>
  de_call FC hr hg hb (ha.run μ0 E ρ μ _ R ((all_bind.mp h).imp fun ws q μ1 s1 => ⟨b, ws, rfl, (R.step s1).bxs, q.imp fun d q μ2 s2 => q μ2 (s1.trans s2)⟩)) hdb he hpl
theorem Rel.setDtt {μ0 μ : Mu} {E : Env} {ρ : Rho} (R : Rel b μ0 E ρ μ) (i : Nat) (kvs : TD) : Rel b μ0 (E.set i (some (.dtt kvs))) (ρ.set i (some (.ob (dttP kvs)))) μ := R.setP i rfl (fun _ h => nomatch h) rfl
def sParDt (i j : Nat) (ft : Env → Tree TD) (fy : DenE) : DenS := fun E => (ft E).bind fun kvs => (fy E).bind fun d => .ret (.nx ((E.set i (some (.dtt kvs))).set j (some (.d d))))
theorem ss_parDt (i j : Nat) {ft : Env → Tree TD} {n m : Str} {px py pt : Pos} {kt k2 pt2} (hc : X.calm = true) (hN : X.N.Nodup) (hi : X.N[i]? = some n) (hj : X.N[j]? = some m) (hij : i ≠ j)
    (hx : X.env.scope.names.lookup n = some .local) (hy : X.env.scope.names.lookup m = some .local) (hw : swappedStores [.Tuple [.Name n px, .Name m py] kt pt] (.Tuple [x, y] k2 pt2) X.env = pure (some [n, m]))
    (h1 : SDt b X x ft) (h2 : SE b X y fy) (z1 : starEach [x, y] X.env = (false, eval x X.env) :: starEach [y] X.env := by rfl) (z2 : starEach [y] X.env = (false, eval y X.env) :: starEach [] X.env := by rfl)
    (hs : swapsWithSole [.Tuple [.Name n px, .Name m py] kt pt] (.Tuple [x, y] k2 pt2) pos.line X.env = pure false := by rfl) : SS b X (.Assign [.Tuple [.Name n px, .Name m py] kt pt] (.Tuple [x, y] k2 pt2) pos) (sParDt i j ft fy) := .mk fun μ0 E ρ μ D R q =>
  ds_par i j hc hN hi hj hij hx hy hw (da_cons (h1.run μ0 E ρ μ _ R ((all_bind.mp q).imp fun kvs q μ1 s1 => da_cons (h2.run μ0 E ρ μ1 _ (R.step s1) ((all_bind.mp q).imp fun d q μ2 s2 => da_nil ⟨_, _, rfl, q _ μ2 (((((R.step s1).step s2).setDtt i kvs)).setD j d)⟩)) z2)) z1) hs
end
section
variable {P : Program} {w : World} {K : PySem.W.Frag} {mg : Str → Option Value} {base : Heap}
def fnT (a n : Nat) (body : Env → Tree TD) : List W → Tree TD := fun ws => (liftO (lenIs a ws)).bind fun _ => body (ws.map (fun w => some (ent w)) ++ List.replicate (n - a) none)
theorem fc_bodyD {k a n : Nat} {f : Addr} {x : Str} {st : Stmt} {fd : FuncData} {N ps : List Str} (body : Env → Tree TD) {m : List W → Tree TD} (hM : m = fnT a n body) (F : Fun K x x st f fd) (hm : mg x = some (.ref f)) (S : FnScope N ps (defScope st)) (ha : ps.length = a) (hn : N.length = n)
    (hB : ∀ (b : Addr) (cdv : Value) A outer s H E, Rm k (A.deeper (envOfC x (defScope st) s.heap.objs.size f cdv)) → SSd b (cxOf CX0 P w K mg base N x (defScope st) f cdv A outer s H E).nox (defBody st) body) : Fc P w K mg base x st ps (k + 1) (cFD m) := by
  subst hM ha hn
  refine fc_of F hm S (fun os μ Φ h => ?_) fun cdv A outer s H E os μ Φ hr h => ?_
  · obtain ⟨b, ws, rfl, _, h⟩ := h
    rw [List.length_map]
    exact (lenIs_all (all_bind.mp h)).1
  · obtain ⟨b, ws, rfl, hb, h⟩ := h
    obtain ⟨hl, h⟩ := lenIs_all (all_bind.mp h)
    rw [List.length_map, hl]
    exact (hB b cdv A outer s H E hr).run μ _ _ μ _ (rel_start _ hb) h
end
end Nx
namespace Nx
open PySem PySem.Spec PyProof.Rows L2
open Tree
end Nx
namespace Nx
open PySem PySem.Spec PyProof.Rows L2
open Tree
def putAll (kvs : TD) (qs : TD) : TD := qs.foldl (fun acc p => putT acc p.1 p.2) kvs
def asTP : List PyData → Option TD
  | [] => some []
  | .tuple [k, d] :: r => match asT k, asTP r with
    | some t, some ps => some ((t, d) :: ps)
    | _, _ => none
  | _ => none
def lTP (x : PyData) : Option TD := match x with | .list ds => asTP ds | _ => none
def sUpd (i : Nat) (fx : DenE) : DenS := fun E => match odcE E i with
  | some kvs => (liftO (isNd kvs)).bind fun _ => (liftO (if kvs.isEmpty then none else some ())).bind fun _ => (fx E).bind fun x => (liftO (lTP x)).bind fun qs => (liftO (isNd qs)).bind fun _ => (liftO (small (kvs.length + qs.length))).bind fun _ => .ret (.nx (E.set i (some (.odc (putAll kvs qs)))))
  | none => .fail
end Nx
namespace Nx
open PySem PySem.Spec PyProof.Rows L2
open Tree
section
variable {b : Addr} {X : Cx} {x y z e tg kx vx : Expr} {es : List Expr} {fx fy fz fk fv : DenE} {pos p q1 : Pos} {k kt : Nat} {st : Stmt} {ρ : Rho} {μ μ0 : Mu} {E : Env}
theorem NoTh.setT {d p : Addr} (h : NoTh E ρ d) {i : Nat} {w : W} (hd : p ≠ d) (hl : ρ.length = E.length) : NoTh (E.set i (some w)) (ρ.set i (some (.own p))) d := fun j u e t => by
  rcases get_set e with ⟨rfl, rfl, hl'⟩ | ⟨n, e⟩
  · rw [List.getElem?_set_self (by rw [hl]; exact hl')]
    intro z
    cases z
    exact hd rfl
  · rw [List.getElem?_set_ne n]
    exact h j u e t
def sDD (i j l : Nat) (fk fx fk2 fy fz : DenE) : DenS := fun E => (tDen fk E).bind fun t => (fx E).bind fun d => (tDen fk2 E).bind fun t' => (fy E).bind fun d' => (fz E).bind fun c => .ret (.nx (((E.set i (some (.odc [(t, d)]))).set j (some (.odc [(t', d')]))).set l (some (.d c))))
def sND (i j : Nat) (fy : DenE) : DenS := fun E => (fy E).bind fun c => .ret (.nx ((E.set i (some (.odc []))).set j (some (.d c))))
def tNeN (i : Nat) : DenB := fun E => match tdE E i with | some kvs => .ret (!kvs.isEmpty) | none => .fail
def sCpT (i j : Nat) : DenS := fun E => match dttE E j with | some kvs => .ret (.nx (E.set i (some (.dtt kvs)))) | none => .fail
def sParDt3 (i j l : Nat) (ft : Env → Tree TD) (fy fz : DenE) : DenS := fun E => (ft E).bind fun kvs => (fy E).bind fun d => (fz E).bind fun d' => .ret (.nx (((E.set i (some (.dtt kvs))).set j (some (.d d))).set l (some (.d d'))))
end
section
variable {b : Addr} {X : Cx} {ss : List Stmt}
def tLock (i : Nat) (h : Env → Tree TD) : Env → Tree TD := fun E => h (lockE i E)
end
end Nx
set_option maxHeartbeats 4000000
namespace PySem
namespace HandSPX
open PySem.W PySem.Calls PyProof.Rows
open Builtin Builtin.ObjectAttr
end HandSPX
end PySem
namespace Nx
open PySem PySem.Spec PyProof.Rows L2
end Nx
set_option maxHeartbeats 4000000
namespace Nx
open PySem PySem.Spec PyProof.Rows L2
structure Thr where
  C : Addr
  f : Str
  d : PyData
def Wsh (P : Rho → Prop) (W : WX) (b : Addr) (x : Thr) (G : Hp) (μ : Mu) : Prop := ∀ ρ' μ' G' H' σ' dx y, P ρ' → Bs b μ μ' → Ex G G' → RM G' H' μ' → RV G' ρ' σ' → G' dx = some (.xd [(x.f, y)]) → Dv G' y x.d → W (.ref x.C) (some dx) σ' H'
theorem Wsh.later {P : Rho → Prop} {W : WX} {b : Addr} {x : Thr} {G G1 : Hp} {μ μ1 : Mu} (h : Wsh P W b x G μ) (e : Ex G G1) (s : Bs b μ μ1) : Wsh P W b x G1 μ1 := fun ρ' μ' G' H' σ' dx y p s' e' => h ρ' μ' G' H' σ' dx y p (s.trans s') (e.trans e')
section
variable {P : Rho → Prop} {X : Cx} {b : Addr} {st : Stmt} {ss s1 s2 : List Stmt} {e c : Expr} {es : List Expr} {ρ : Rho} {μ0 μ : Mu} {x : Thr} {pos p p2 : Pos} {n : Str}
abbrev Cz := List OV → Mu → Addr → Thr → Prop
def spZ (C : Cz) : Sp := fun vs H _ E => ∃ os μ G b x, RM G H μ ∧ ROs G vs os ∧ C os μ b x ∧ ∀ μ' G' H' dx y, Bs b μ μ' → Ex G G' → RM G' H' μ' → G' dx = some (.xd [(x.f, y)]) → Dv G' y x.d → E (.ref x.C) (some dx) H'
structure FcZ (P : Program) (w : World) (K : PySem.W.Frag) (mg : Str → Option Value) (base : Heap) (n : Str) (st : Stmt) (ps : List Str) (k : Nat) (C : Cz) : Prop where
  ex : ∃ f fd, Fun K n n st f fd ∧ mg n = some (.ref f) ∧ FnG P w K mg base (L2.CX P w) k f fd ps (spZ C)
theorem FcZ.mono {P : Program} {w : World} {K : PySem.W.Frag} {mg : Str → Option Value} {base : Heap} {j k : Nat} {n : Str} {st : Stmt} {ps : List Str} {C : Cz} (F : FcZ P w K mg base n st ps j C) (h : j ≤ k) : FcZ P w K mg base n st ps k C := by
  obtain ⟨f, fd, a, b, c⟩ := F.ex
  exact ⟨⟨f, fd, a, b, c.mono h⟩⟩
end
end Nx
set_option maxHeartbeats 8000000
namespace PySem.W
open PySem PySem.Spec PySem.Calls PyProof.Rows
end PySem.W
set_option maxHeartbeats 4000000
namespace Nx
open PySem PySem.Spec PyProof.Rows L2
inductive Nms (X : Cx) : List Expr → List Value → Prop
  | nil : Nms X [] []
  | cons {x : Str} {p : Pos} {c : Value} {es : List Expr} {cs : List Value} (hg : Gl X x) (hd : (x == ("__debug__" : Str)) = false) (hm : X.mg x = some c) (he : starEach (.Name x p :: es) X.env = (false, eval (.Name x p) X.env) :: starEach es X.env) (r : Nms X es cs) : Nms X (.Name x p :: es) (c :: cs)
section
variable {X : Cx} {pins : List (Addr × Obj)} {σ : L2.St} {H : Hp} {s : Shared}
theorem Nms.len : ∀ {es : List Expr} {cs : List Value}, Nms X es cs → es.length = cs.length
  | _, _, .nil => rfl
  | _, _, .cons _ _ _ _ r => congrArg (· + 1) r.len
end
end Nx
set_option maxHeartbeats 4000000
namespace Nx
open PySem PySem.Spec PyProof.Rows L2
section
variable {X : Cx} {e : Expr} {es : List Expr} {ρ : Rho} {μ : Mu} {Φ : OV → Mu → Prop} {pos p p2 tpos : Pos} {n f : Str} {C : Addr} {d : PyData} {kt : Nat}
def ClN (X : Cx) (n : Str) (c : V) (u : Value) : Prop := ClsV c u ∧ (∀ p, PE X (.Name n p) (L2.tC c))
inductive ClNs (X : Cx) : List Expr → List V → List Value → Prop
  | nil : ClNs X [] [] []
  | cons {n : Str} {p : Pos} {c : V} {u : Value} {es : List Expr} {cs : List V} {us : List Value} (h : ClN X n c u) (he : starEach (.Name n p :: es) X.env = (false, eval (.Name n p) X.env) :: starEach es X.env) (r : ClNs X es cs us) : ClNs X (.Name n p :: es) (c :: cs) (u :: us)
theorem ClNs.cls : ∀ {es : List Expr} {cs : List V} {us : List Value}, ClNs X es cs us → Paired ClsV cs us
  | _, _, _, .nil => .nil
  | _, _, _, .cons h _ r => .cons h.1 r.cls
end
end Nx
set_option maxHeartbeats 4000000
namespace Nx
open PySem PySem.Spec PyProof.Rows L2
end Nx
set_option maxHeartbeats 4000000
namespace Nx
open PySem PySem.Spec PyProof.Rows L2
open Tree
abbrev DenZ := Env → Tree Thr
abbrev PT : Rho → Prop := fun _ => True
end Nx
set_option maxHeartbeats 4000000
namespace Nx
open PySem PySem.Spec PyProof.Rows L2
open Tree
end Nx
set_option maxHeartbeats 4000000
namespace Nx
open PySem PySem.Spec PyProof.Rows L2
open Tree
inductive FnN (X : Cx) : List Expr → List Str → List V → Prop
  | nil : FnN X [] [] []
  | cons {n : Str} {p : Pos} {fa : Addr} {es : List Expr} {ns : List Str} {vs : List V} (hg : Gl X n) (hm : X.mg n = some (.ref fa)) (hd : (n == ("__debug__" : Str)) = false) (he : starEach (.Name n p :: es) X.env = (false, eval (.Name n p) X.env) :: starEach es X.env) (r : FnN X es ns vs) : FnN X (.Name n p :: es) (n :: ns) (.ref fa :: vs)
theorem FnN.get {X : Cx} : ∀ {es : List Expr} {ns : List Str} {vs : List V}, FnN X es ns vs → ∀ {k : Nat} {n : Str}, ns[k]? = some n → ∃ fa, vs[k]? = some (.ref fa) ∧ X.mg n = some (.ref fa)
  | _, _, _, .nil, k, n, h => by simp at h
  | _, _, _, .cons (fa := fa) hg hm hd he r, 0, n, h => by
    cases h
    exact ⟨fa, rfl, hm⟩
  | _, _, _, .cons hg hm hd he r, k + 1, n, h => r.get h
end Nx
set_option maxHeartbeats 4000000
namespace Nx
open PySem PySem.Spec PyProof.Rows L2
open Tree
end Nx
set_option maxHeartbeats 4000000
namespace Nx
open PySem PySem.Spec PyProof.Rows L2
open Tree
def exE (E : Env) (i : Nat) : Option (Addr × Str × PyData) := match E[i]? with | some (some (.exn C f d)) => some (C, f, d) | _ => none
theorem exE_some {E : Env} {i : Nat} {C : Addr} {f : Str} {d : PyData} (h : exE E i = some (C, f, d)) : E[i]? = some (some (.exn C f d)) := by
  unfold exE at h
  split at h
  · rename_i e
    cases h
    exact e
  · cases h
theorem Rel.base {b : Addr} {μ0 μ : Mu} {E : Env} {ρ : Rho} (R : Rel b μ0 E ρ μ) (h : E.all (fun o => match o with | some w => noOwn w | none => true) = true) : Rel b μ E ρ μ := by
  refine ⟨R.len, R.bxs, R.bxs, Bs.refl b μ, fun i w e => ?_, R.inj, R.injT⟩
  obtain ⟨o, h1, h2⟩ := R.get i w e
  have hw : noOwn w = true := List.all_eq_true.mp h (some w) (List.mem_of_getElem? e)
  refine ⟨o, h1, ?_⟩
  cases w <;> first | exact h2 | cases hw
section
variable {b : Addr} {X : Cx} {pos p p2 np tpos : Pos} {n m : Str} {es : List Expr} {kt : Nat}
theorem Rel.exn {μ0 μ : Mu} {E : Env} {ρ : Rho} {i : Nat} {C : Addr} {f : Str} {d : PyData} (R : Rel b μ0 E ρ μ) (h : exE E i = some (C, f, d)) : ρ[i]? = some (some (.ob (exnP C f d))) := by
  obtain ⟨o, h1, h2⟩ := R.get i _ (exE_some h)
  have h2 : o = .ob (exnP C f d) := h2
  rw [h2] at h1
  exact h1
end
end Nx
set_option maxHeartbeats 4000000
namespace Nx
open PySem PySem.Spec PyProof.Rows L2
open Tree
end Nx
set_option maxHeartbeats 4000000
namespace Nx
open PySem PySem.Spec PyProof.Rows L2
end Nx
set_option maxHeartbeats 4000000
namespace PySem
namespace HandSPX
open PySem.W PySem.Calls PyProof.Rows
open Builtin Builtin.ObjectAttr
end HandSPX
end PySem
namespace Nx
open PySem PySem.Spec PyProof.Rows L2
end Nx
set_option maxHeartbeats 4000000
namespace Nx
open PySem PySem.Spec PyProof.Rows L2
open Tree
theorem pr_getV {α β : Type} {F : α → β → Prop} : ∀ {l : List α} {m : List β}, Paired F l m → ∀ {i : Nat} {a : α}, l[i]? = some a → ∃ b, m[i]? = some b ∧ F a b
  | _, _, .nil, i, a, h => by simp at h
  | _, _, .cons r t, 0, a, h => by
    cases h
    exact ⟨_, rfl, r⟩
  | _, _, .cons r t, i + 1, a, h => pr_getV t (i := i) h
def exsE (E : Env) (i : Nat) : Option Exs := match E[i]? with | some (some (.exs l)) => some l | _ => none
theorem exsE_some {E : Env} {i : Nat} {l : Exs} (h : exsE E i = some l) : E[i]? = some (some (.exs l)) := by
  unfold exsE at h
  split at h
  · rename_i e
    cases h
    exact e
  · cases h
section
variable {b : Addr} {X : Cx} {pos pos2 p p2 np apos : Pos} {n m x f : Str} {es : List Expr} {e : Expr} {C : Addr} {g : DenE} {gs : Env → Tree Exs} {body : List Stmt} {gb : DenS} {fa : Env → Tree (List W)} {kws : List Keyword}
theorem Rel.exs {μ0 μ : Mu} {E : Env} {ρ : Rho} {i : Nat} {l : Exs} (R : Rel b μ0 E ρ μ) (h : exsE E i = some l) : ρ[i]? = some (some (.ob (exsP l))) := by
  obtain ⟨o, h1, h2⟩ := R.get i _ (exsE_some h)
  have h2 : o = .ob (exsP l) := h2
  rw [h2] at h1
  exact h1
end
end Nx
set_option maxHeartbeats 4000000
namespace Nx
open PySem PySem.Spec PyProof.Rows L2
open Tree
section
variable {b : Addr} {X : Cx} {e x y tg iter elt c : Expr} {es : List Expr} {f fx fy : DenE} {fi : DenL} {fb : DenB} {pos p rp pos2 : Pos} {ss : List Stmt} {scope : Scope} {gs : Env → Tree (List W)}
theorem so_lf {own : List (Str × Nat)} (t : Tgt) (hc : X.calm = true) (hN : X.N.Nodup) (ok : BlkOk X.N X.env.scope scope own) (hs : ∀ i ∈ t.slots, i ∈ own.map (·.2))
    (hg : ∀ s H C cl fp, PG (Blk X scope s H C cl fp) tg (TgtG X.K t)) (hi : SI b X tg iter fi) (hcn : ∀ s H C cl fp, ST b (Blk X scope s H C cl fp) c fb) (he : ∀ s H C cl fp, SE b (Blk X scope s H C cl fp) elt fx) (hf : ∀ x, foldedSetIterable iter X.env x = pure x := by intro _; rfl) : SO b X (.ListComp elt [⟨tg, iter, [c], 0⟩] scope pos) (dLf t (own.map (·.2)) fi fb fx) := .mk fun μ0 E ρ μ Φ R h =>
  de_lcO t hc hN ok hs hg (hi.run μ0 E ρ μ _ R ((all_bind.mp h).imp fun xs q μ1 s1 => by
    obtain ⟨hz, q⟩ := few_le (all_bind.mp q)
    exact lf_sound R s1 hcn he hz ((all_bind.mp q).imp fun ys q μ' s p hp => by
      obtain ⟨ds, ed, q⟩ := q
      cases ed
      exact q μ' p s hp))) hf
theorem sso_ret (h : SO b X e f) : SSo b X [.Return (some e) rp] (sRet f) := .mk fun μ0 E ρ μ D R q =>
  dss_one (ds_ret (h.run μ0 E ρ μ _ R ((all_bind.mp q).imp fun d q => by
    obtain ⟨ds, ed, q⟩ : OutO b μ0 D (.rt d) := q
    exact ⟨ds, ed, fun μ' p s1 hp => q μ' p (R.ext.trans s1) hp⟩)))
theorem srt_endO {K : PySem.W.Frag} {P : Program} {w : World} {G H : Hp} {μ : Mu} {Dl : Addr} {L : List (Addr × List Int)} {ts : List (List Int)} {Q : VK} (m : RM G H μ) (hD : G Dl = some (SetTO P w Dl L)) (hL : ∀ p ∈ L, G p.1 = some (.tup (p.2.map V.int)))
    (hm : ∀ k, k ∈ L.map (·.2) ↔ k ∈ ts) (h1 : 1 ≤ hdLen ts) (hb : ∀ t ∈ ts, t.length = hdLen ts ∧ TS.Bd 1000 t)
    (f : ∀ p H', μ p = none → RM G H' (μ.put p (((srtT (dedT ts)).map tpl).map .im)) → Q (.ref p) H') :
    ∃ (a : Addr) (L : List (Addr × List Int)) (d : Nat), V.ref Dl = .ref a ∧ H a = some (SetTO P w a L) ∧ (∀ p ∈ L, SqT K H p.1 (p.2.map V.int)) ∧ 1 ≤ d ∧ (∀ p ∈ L, p.2.length = d ∧ TS.Bd 1000 p.2) ∧
      ∀ (L' : List (Addr × List Int)) (p : Addr), L'.Perm L → (L'.map (·.2)).Nodup → L'.Pairwise (fun q r => TS.code 1000 q.2 ≤ TS.code 1000 r.2) → H p = none → Q (.ref p) (upd H p (.lst (L'.map fun q => V.ref q.1))) := by
  refine ⟨Dl, L, hdLen ts, rfl, m.ex _ _ hD, fun p hp => .inl (.inl (m.ex _ _ (hL p hp))), h1, fun p hp => hb _ ((hm _).mp (List.mem_map_of_mem hp)), fun L' p pm nd pw hn => ?_⟩
  have e : L'.map (·.2) = srtT (dedT ts) := by
    refine srtT_eq (d := hdLen ts) ((List.perm_ext_iff_of_nodup nd (dedT_nodup ts)).mpr fun k => ?_) ?_ fun t ht => hb t (dedT_mem.mp ht)
    · rw [dedT_mem, ← hm, (pm.map (·.2)).mem_iff]
    · exact List.pairwise_map.mpr pw
  refine f p _ (m.fresh hn) (m.new hn ?_)
  rw [← e]
  have go : ∀ l : List (Addr × List Int), (∀ q ∈ l, q ∈ L) → DvA G (l.map fun q => V.ref q.1) ((l.map (·.2)).map tpl) := fun l => by
    induction l with
    | nil => exact fun _ => .nil
    | cons q l ih =>
      exact fun h => .cons (.tup (hL q (h q (List.mem_cons_self ..))) (DvA.of_ints _)) (ih fun r hr => h r (List.mem_cons_of_mem _ hr))
  exact ROs.of_ims (go L' fun q hq => pm.mem_iff.mp hq)
theorem so_srtSc {k : Nat} {own : List (Str × Nat)} (t : Tgt) (B : Bt X.mg) (hr : Rm k X.A) (hc : X.calm = true) (hN : X.N.Nodup) (ok : BlkOk X.N X.env.scope scope own) (hs : ∀ i ∈ t.slots, i ∈ own.map (·.2)) (hgs : Gl X "sorted")
    (hg : ∀ s H C cl fp, PG (Blk X scope s H C cl fp) tg (TgtG X.K t)) (hi : SI b X tg iter fi) (he : ∀ s H C cl fp, SE b (Blk X scope s H C cl fp) elt fx) (hf : ∀ x, foldedSetIterable iter X.env x = pure x := by intro _; rfl)
    (na : starEach [.SetComp elt [⟨tg, iter, [], 0⟩] scope pos] X.env = (false, eval (.SetComp elt [⟨tg, iter, [], 0⟩] scope pos) X.env) :: starEach [] X.env := by rfl) :
    SO b X (.Call (.Name "sorted" p) [.SetComp elt [⟨tg, iter, [], 0⟩] scope pos] [] pos2) (dSrtSc t (own.map (·.2)) fi fx) := .mk fun μ0 E ρ μ Φ R h => by
  have hQ : ∃ Ψ : PyData → Prop, Ψ = fun r => ∃ ds, r = .list ds ∧ ∀ μ' p, Bs b μ μ' → μ' p = none → Φ (.own p) (μ'.put p (ds.map .im)) := ⟨_, rfl⟩
  obtain ⟨Ψ, hΨ⟩ := hQ
  rw [← hΨ] at h
  obtain ⟨wi, pi, run⟩ := hi.run μ0 E ρ μ (fun D μ1 => ∃ xs : List PyData, D = ⟨xs.map .im, fun _ => True⟩ ∧ Bs b μ μ1 ∧ xs.length ≤ 62 ∧ (mapT (fun x => (liftO (putE t x (wipeE E (own.map (·.2))))).bind fun E' => (fx E').bind fun y => liftO (isTup y)) xs).All fun ys => ∃ r, pSrtSetT (.list ys) = some r ∧ Ψ r) R ((all_bind.mp h).imp fun xs q μ1 s1 => by
    obtain ⟨u, hu, q⟩ := lift_all (all_bind.mp q)
    refine ⟨xs, rfl, s1, ?_, (all_bind.mp q).imp fun ys q => ?_⟩
    · unfold few62 at hu
      split at hu
      · assumption
      · cases hu
    · obtain ⟨r, hr, q⟩ := lift_all q
      exact ⟨r, hr, q⟩)
  intro G H σ m v Q f
  have hun := hr.room.un
  refine WE.of (pe_srtOf hc hgs B.sorted (pe_scT (own := own) hc hN (by omega) pi ok hg (fun s H C cl fp => pweb s H C cl fp) hf) na) ?_
  refine run G H σ m v _ fun J D μ1 G1 H1 ⟨xs, hD, s1, hz, q⟩ e1 m1 gv Dl hDl => ?_
  subst hD
  obtain ⟨Gd, Y, wk, hG, hY⟩ := gv
  have hGl := m1.ex.free hDl
  have hlen : (xs.map OV.im).length = xs.length := List.length_map ..
  refine sc_it wk (fun i H => ∃ (ts : List (List Int)) (μ' : Mu) (G' : Hp) (L : List (Addr × List Int)), Bs b μ μ' ∧ Ex G1 G' ∧ RM G' H μ' ∧ G' Dl = some (SetTO X.prog X.w Dl L) ∧ (∀ p ∈ L, G' p.1 = some (.tup (p.2.map V.int))) ∧ (∀ k, k ∈ L.map (·.2) ↔ k ∈ ts) ∧ L.length ≤ i ∧
      (mapT (fun x => (liftO (putE t x (wipeE E (own.map (·.2))))).bind fun E' => (fx E').bind fun y => liftO (isTup y)) (xs.drop i)).All fun ys => ∃ r, pSrtSetT (.list (ts.map tpl ++ ys)) = some r ∧ Ψ r)
    ⟨[], μ1, upd G1 Dl (SetTO X.prog X.w Dl []), [], s1, Ex.new hGl, m1.lay hDl, upd_same, (fun p hp => nomatch hp), fun k => Iff.rfl, Nat.le_refl _, q⟩ ?_ ?_ ?_
  · rintro i H2 _ ⟨ts, μ', G', L, s, e2, m2, _⟩
    exact hG G' H2 μ' e2 m2 trivial
  · rintro i x H2 H3 hi ⟨ts, μ', G', L, s, e2, m2, hL, hT, hk, hl, q⟩ y
    obtain ⟨G2, o, e3, m3, ho, r3⟩ := hY i H2 x H3 G' μ' e2 m2 trivial y hi
    have hi : i < xs.length := by simpa using hi
    have ho : (xs.map OV.im)[i]? = some o := ho
    rw [List.getElem?_map, List.getElem?_eq_getElem hi] at ho
    cases ho
    rw [List.drop_eq_getElem_cons hi, mapT] at q
    obtain ⟨E', hE, q⟩ := lift_all (all_bind.mp (all_bind.mp q))
    obtain ⟨ρ', hp, R2⟩ := ((R.step s).wipes (own.map (·.2))).putT hE
    have v2 : RV G2 (wipeR ρ (own.map (·.2))) (L2.wipe σ (own.map (·.2))) := (v.mono ((e1.trans e2).trans e3)).wipeV _
    refine tgt_runW (own.map (·.2)) hs m3 r3 v2 hp fun σ' v3 hw => ⟨hw.trans (wipe_idem _ _), fun s' H0 C cl fp => ?_⟩
    refine (he s' H0 C cl fp).run μ0 E' ρ' μ' (fun o' μ3 => ∃ t', o' = .im (tpl t') ∧ Bs b μ' μ3 ∧ (mapT (fun x => (liftO (putE t x (wipeE E (own.map (·.2))))).bind fun E' => (fx E').bind fun y => liftO (isTup y)) (xs.drop (i + 1))).All fun ys => ∃ r, pSrtSetT (.list (ts.map tpl ++ (tpl t' :: ys))) = some r ∧ Ψ r) R2
      ((all_bind.mp q).imp fun d q μ3 s3 => ?_) G2 H3 σ' m3 v3 _ fun vy o' μ3 G3 H4 ⟨t', ho', s3, q3⟩ e4 m4 r4 => ?_
    · obtain ⟨d', hd, q⟩ := lift_all q
      obtain ⟨t', rfl, rfl⟩ := isTup_some hd
      exact ⟨t', rfl, s3, (all_bind.mp q).imp fun ys q => q⟩
    · subst ho'
      have r4 : Dv G3 vy (tpl t') := r4
      unfold tpl at r4
      cases r4 with
      | @tup a us ds ha w =>
        have eu := DvA.ints t' w
        subst eu
        have e5 := e3.trans e4
        have hL3 := e5 _ _ hL
        have hT3 : ∀ p ∈ L, G3 p.1 = some (.tup (p.2.map V.int)) := fun p hp => e5 _ _ (hT p hp)
        refine ⟨a, t', L, rfl, .inl (.inl (m4.ex _ _ ha)), m4.ex _ _ hL3, fun p hp => .inl (.inl (m4.ex _ _ (hT3 p hp))), by omega, fun L' c1 c2 => ?_⟩
        have sub : ∀ p ∈ L', p = (a, t') ∨ p ∈ L := fun p hp => by
          by_cases c : t' ∈ L.map (·.2)
          · rw [c1 c] at hp
            exact .inr hp
          · exact List.mem_cons.mp ((c2 c).mem_iff.mp hp)
        have nD : ∀ (c : Addr) us, G3 c = some (.tup us) → c ≠ Dl := fun c us h z => by
          rw [z, hL3] at h
          cases h
        refine ⟨ts ++ [t'], μ3, upd G3 Dl (SetTO X.prog X.w Dl L'), L', s.trans s3, fun c o h => ?_, m4.ext hL3, upd_same, fun p hp => ?_, fun k => ?_, ?_, q3.imp fun ys ⟨r, hr, q⟩ => ⟨r, ?_, q⟩⟩
        · rw [upd_ne (fun z => by rw [z, hGl] at h; cases h)]
          exact e5 _ _ (e2 _ _ h)
        · have : G3 p.1 = some (.tup (p.2.map V.int)) := by
            rcases sub p hp with rfl | hp
            · exact ha
            · exact hT3 p hp
          rw [upd_ne (nD _ _ this)]
          exact this
        · rw [List.mem_append, List.mem_singleton, ← hk]
          by_cases c : t' ∈ L.map (·.2)
          · rw [c1 c]
            exact ⟨.inl, fun z => z.elim id fun e => e ▸ c⟩
          · rw [((c2 c).map (·.2)).mem_iff, List.map_cons, List.mem_cons]
            exact Or.comm
        · by_cases c : t' ∈ L.map (·.2)
          · rw [c1 c]
            omega
          · rw [(c2 c).length_eq, List.length_cons]
            omega
        · rw [List.map_append, List.append_assoc]
          exact hr
  · rintro H2 ⟨ts, μ', G', L, s, e2, m2, hL, hT, hk, hl, q⟩
    rw [List.drop_eq_nil_of_le (by simp)] at q
    obtain ⟨r, hr, q⟩ := q
    rw [List.append_nil] at hr
    obtain ⟨ts', ets, rfl, h1, h2, h3⟩ := pSrtSetT_some hr
    have ets : ts = ts' := tpl_inj (by injection ets)
    subst ets
    rw [hΨ] at q
    obtain ⟨ds, ed, q⟩ := q
    cases ed
    exact srt_endO m2 hL hT hk h1 h3 fun p H'' hp m'' => f _ _ _ _ _ (q μ' p s hp) (e1.trans e2) m'' rfl
end
end Nx
set_option maxHeartbeats 4000000
namespace Nx
open PySem PySem.Spec PyProof.Rows L2
open Tree
abbrev OwnAt (b : Addr) (μ μ2 : Mu) : List Addr → List (List PyData) → Prop := Paired fun q ds => q ≠ b ∧ μ q = none ∧ μ2 q = some (ds.map .im)
def LlNew (b : Addr) (μ μ2 : Mu) (p : Addr) (ls : List (List PyData)) : Prop := Bs b μ μ2 ∧ ∃ ps : List Addr, p ≠ b ∧ μ p = none ∧ μ2 p = some (ps.map .own) ∧ (p :: ps).Nodup ∧ OwnAt b μ μ2 ps ls
theorem OwnAt.step {b : Addr} {μ μ2 μ3 : Mu} (s : Bs b μ2 μ3) : ∀ {ps : List Addr} {ls : List (List PyData)}, OwnAt b μ μ2 ps ls → OwnAt b μ μ3 ps ls
  | _, _, .nil => .nil
  | _, _, .cons h t => .cons ⟨h.1, h.2.1, s.old _ _ h.1 h.2.2⟩ (OwnAt.step s t)
theorem OwnAt.back {b : Addr} {μ μ1 μ2 : Mu} (k : ∀ q, q ≠ b → μ1 q = none → μ q = none) : ∀ {ps : List Addr} {ls : List (List PyData)}, OwnAt b μ1 μ2 ps ls → OwnAt b μ μ2 ps ls
  | _, _, .nil => .nil
  | _, _, .cons h t => .cons ⟨h.1, k _ h.1 h.2.1, h.2.2⟩ (OwnAt.back k t)
theorem OwnAt.none {b : Addr} {μ μ2 : Mu} : ∀ {ps : List Addr} {ls : List (List PyData)}, OwnAt b μ μ2 ps ls → ∀ q ∈ ps, q ≠ b ∧ μ q = none ∧ (μ2 q).isSome = true
  | _, _, .nil, q, hq => nomatch hq
  | _, _, .cons h t, q, hq => by
    rcases List.mem_cons.mp hq with rfl | hq
    · exact ⟨h.1, h.2.1, by rw [h.2.2]; rfl⟩
    · exact OwnAt.none t q hq
theorem OwnAt.app {b : Addr} {μ μ2 : Mu} : ∀ {ps qs : List Addr} {ls ms : List (List PyData)}, OwnAt b μ μ2 ps ls → OwnAt b μ μ2 qs ms → OwnAt b μ μ2 (ps ++ qs) (ls ++ ms)
  | _, _, _, _, .nil, k => k
  | _, _, _, _, .cons h t, k => .cons h (OwnAt.app t k)
theorem Bs.fresh {b : Addr} {μ μ' : Mu} (s : Bs b μ μ') {p : Addr} (pb : p ≠ b) (h : μ' p = none) : μ p = none := by
  cases z : μ p with
  | none => rfl
  | some l =>
    rw [s.old p l pb z] at h
    cases h
structure SOL (b : Addr) (X : Cx) (es : List Expr) (f : Env → Tree (List (List PyData))) : Prop where
  run : ∀ μ0 E ρ μ Λ, Rel b μ0 E ρ μ → (f E).All (fun ls => ∀ μ2 ps, Bs b μ μ2 → ps.Nodup → OwnAt b μ μ2 ps ls → Λ (ps.map .own) μ2) → DA X es ρ μ Λ
def ol0 : Env → Tree (List (List PyData)) := fun _ => .ret []
def olC (f : DenE) (fs : Env → Tree (List (List PyData))) : Env → Tree (List (List PyData)) := fun E => (f E).bind fun d => match d with | .list ds => (fs E).bind fun ls => .ret (ds :: ls) | _ => .fail
section
variable {b : Addr} {X : Cx} {e x y tg iter elt c : Expr} {es es1 es2 : List Expr} {f fx fy : DenE} {fi : DenL} {fb : DenB} {pos p rp pos2 cpos : Pos} {ss : List Stmt} {st : Stmt} {scope : Scope} {gs : Env → Tree (List W)} {fl fl1 fl2 : Env → Tree (List (List PyData))} {g : DenS}
theorem sol_nil : SOL b X [] ol0 := .mk fun μ0 E ρ μ Λ R h => da_nil (h μ [] (Bs.refl b μ) List.nodup_nil .nil)
theorem sol_cons (hx : SO b X x fx) (ht : SOL b X es fl) (hs : starEach (x :: es) X.env = (false, eval x X.env) :: starEach es X.env := by rfl) : SOL b X (x :: es) (olC fx fl) := .mk fun μ0 E ρ μ Λ R h =>
  da_cons (hx.run μ0 E ρ μ _ R ((all_bind.mp h).imp fun d q => by
    cases d with
    | list ds =>
      refine ⟨ds, rfl, fun μ1 q1 s1 hq1 => ?_⟩
      have R1 := R.step s1
      have qb : q1 ≠ b := fun z => by
        obtain ⟨u, v, t, hb⟩ := R1.bxs
        rw [z, hb] at hq1
        cases hq1
      have sp := Bs.put (b := b) (l := ds.map .im) hq1
      refine ht.run μ0 E ρ _ _ (R1.step sp) ((all_bind.mp q).imp fun ls q μ2 ps s2 nd ho => ?_)
      have s02 := (s1.trans sp).trans s2
      have hn : q1 ∉ ps := fun hm => by
        have := (OwnAt.none ho q1 hm).2.1
        rw [put_same] at this
        cases this
      refine q μ2 (q1 :: ps) s02 (List.nodup_cons.mpr ⟨hn, nd⟩) (.cons ⟨qb, s1.fresh qb hq1, s2.old _ _ qb put_same⟩ (ho.back fun r rb hr => (s1.trans sp).fresh rb hr))
    | _ => exact q.elim)) hs
def cFOL (F : List W → Tree (List (List PyData))) : Ct := fun os μ Φ => ∃ b ws, os = ws.map (wo b) ∧ (∃ p q t, μ b = some (bx p q t)) ∧ (F ws).All fun ls => ∀ μ2 p, LlNew b μ μ2 p ls → Φ (.own p) μ2
def fnLL (a n : Nat) (body : Env → Tree (List (List PyData))) : List W → Tree (List (List PyData)) := fun ws => (liftO (lenIs a ws)).bind fun _ => body (ws.map (fun w => some (ent w)) ++ List.replicate (n - a) none)
structure SSol (b : Addr) (X : Cx) (ss : List Stmt) (f : Env → Tree (List (List PyData))) : Prop where
  run : ∀ μ0 E ρ μ D, Rel b μ0 E ρ μ → (f E).All (fun ls => ∀ μ2 p, LlNew b μ μ2 p ls → D.rt (.own p) μ2) → DSs X ss ρ μ D
def fLl2 (i : Nat) (f1 f2 : Env → Tree (List (List PyData))) : Env → Tree (List (List PyData)) := fun E => (liftO (if i < E.length then some () else none)).bind fun _ => (f1 E).bind fun l1 => (liftO (small l1.length)).bind fun _ => (f2 (E.set i none)).bind fun l2 => (liftO (small (l1.length + l2.length))).bind fun _ => .ret (l1 ++ l2)
theorem od_catO {μ : Mu} {Φ : OV → Mu → Prop} {p1 p2 : Addr} {l1 l2 : List OV} (h1 : μ p1 = some l1) (h2 : μ p2 = some l2) (hz : l1.length + l2.length ≤ 100000) (h : ∀ p, μ p = none → Φ (.own p) (μ.put p (l1 ++ l2))) : OpD rCat (.own p1) (.own p2) μ Φ := fun G H vx vy m rx ry Q f => by
  have rx : vx = .ref p1 := rx
  have ry : vy = .ref p2 := ry
  subst rx ry
  obtain ⟨_, vs, hv, w1⟩ := m.own _ _ h1
  obtain ⟨_, us, hu, w2⟩ := m.own _ _ h2
  refine ⟨_, _, _, _, rfl, rfl, hv, hu, by rw [w1.length, w2.length]; exact Nat.le_trans hz (by decide), fun p hp => f _ _ _ _ _ (h p (m.fresh hp)) (Ex.refl G) (m.new hp (w1.append w2)) rfl⟩
theorem ssol_two (i : Nat) {n : Str} {p' lp lp2 np : Pos} (hN : X.N.Nodup) (hi : X.N[i]? = some n) (hl : Loc X.env.scope n) (hv : Vis X.env.scope n) (h1 : SOL b X es1 fl1) (h2 : SOL b X es2 fl2) (hd : (n == ("__debug__" : Str)) = false := by decide) (hcd : (n == ("__classdict__" : Str)) = false := by decide)
    (hs : swapsWith (.List es1 lp) (some (.Name n p')) pos.line X.env = pure false := by rfl) (hf : X.fn n = true ∨ X.env.scope.names.lookup n = some .local := by first | exact .inl rfl | exact .inr rfl | assumption) :
    SSol b X [.Assign [.Name n p'] (.List es1 lp) pos, .Return (some (.BinOp (.Name n np) .Add (.List es2 lp2) pos2)) rp] (fLl2 i fl1 fl2) := .mk fun μ0 E ρ μ D R q => by
  have hlen : ∀ {μ μ2 : Mu} {ps : List Addr} {ls : List (List PyData)}, OwnAt b μ μ2 ps ls → (ps.map OV.own).length = ls.length := fun h => by rw [List.length_map, Paired.length h]
  obtain ⟨hil0, q⟩ := lt_all (all_bind.mp q)
  refine dss_cons (ds_set i hN hi hl (de_lstO (h1.run μ0 E ρ μ (fun os μ1 => os.length ≤ 100000 ∧ ∀ p0, μ1 p0 = none → DSs X _ (ρ.set i (some (.own p0))) (μ1.put p0 os) D) R ((all_bind.mp q).imp fun l1 q μ1 ps1 s1 nd1 ho1 => ?_))) hs hf)
  obtain ⟨hz, q⟩ := small_le (all_bind.mp q)
  refine ⟨by rw [hlen ho1]; exact hz, fun p0 hp0 => ?_⟩
  have R1 := R.step s1
  have p0b : p0 ≠ b := fun z => by
    obtain ⟨u, v, t, hb⟩ := R1.bxs
    rw [z, hb] at hp0
    cases hp0
  have sp := Bs.put (b := b) (l := ps1.map .own) hp0
  have hil : i < ρ.length := by rw [R.len]; exact hil0
  refine dss_one (ds_ret (de_op op_cat (de_var i hi hv (List.getElem?_set_self hil) (de_lstO (h2.run μ0 (E.set i none) _ _ _ ((R1.step sp).wipeO i (some (.own p0))) ((all_bind.mp q).imp fun l2 q μ2 ps2 s2 nd2 ho2 => ?_))) hd hcd)))
  obtain ⟨hz2, q⟩ := small_le (all_bind.mp q)
  refine ⟨by rw [hlen ho2]; omega, fun p1 hp1 => ?_⟩
  have h0 : μ2 p0 = some (ps1.map .own) := s2.old _ _ p0b put_same
  have h01 : p0 ≠ p1 := fun z => by rw [z, hp1] at h0; cases h0
  refine od_catO ((put_ne h01).trans h0) put_same (by rw [hlen ho1, hlen ho2]; omega) fun pr hpr => ?_
  have sq := Bs.put (b := b) (l := ps2.map .own) hp1
  have sr := Bs.put (b := b) (l := ps1.map .own ++ ps2.map .own) hpr
  have prb : pr ≠ b := fun z => by
    obtain ⟨u, v, t, hb⟩ := (((R1.step sp).step s2).step sq).bxs
    rw [z, hb] at hpr
    cases hpr
  have s02 := (s1.trans sp).trans s2
  have sall := (s02.trans sq).trans sr
  refine q _ pr ⟨sall, ps1 ++ ps2, prb, (s02.trans sq).fresh prb hpr, by rw [put_same, List.map_append], ?_, (ho1.step (((sp.trans s2).trans sq).trans sr)).app ((ho2.back fun r rb hr => (s1.trans sp).fresh rb hr).step (sq.trans sr))⟩
  have a1 := (ho1.step ((sp.trans s2).trans sq)).none
  have a2 := (ho2.step sq).none
  refine List.nodup_cons.mpr ⟨fun hm => ?_, List.nodup_append.mpr ⟨nd1, nd2, fun r hr r' hr' z => ?_⟩⟩
  · rcases List.mem_append.mp hm with hm | hm
    · have := (a1 pr hm).2.2
      rw [hpr] at this
      cases this
    · have := (a2 pr hm).2.2
      rw [hpr] at this
      cases this
  · subst z
    have e1 := (ho1.step sp).none r hr
    have e2 := ho2.none r hr'
    rw [e2.2.1] at e1
    cases e1.2.2
theorem fc_bodyLL {Pr : Program} {w : World} {K : PySem.W.Frag} {mg : Str → Option Value} {base : Heap} {k a n : Nat} {f : Addr} {x : Str} {st : Stmt} {fd : FuncData} {N ps : List Str} (body : Env → Tree (List (List PyData))) {m : List W → Tree (List (List PyData))} (hM : m = fnLL a n body) (F : Fun K x x st f fd) (hm : mg x = some (.ref f)) (S : FnScope N ps (defScope st)) (ha : ps.length = a) (hn : N.length = n)
    (hB : ∀ (b : Addr) (cdv : Value) A outer s H E, Rm k (A.deeper (envOfC x (defScope st) s.heap.objs.size f cdv)) → SSol b (cxOf CX0 Pr w K mg base N x (defScope st) f cdv A outer s H E).nox (defBody st) body) : Fc Pr w K mg base x st ps (k + 1) (cFOL m) := by
  subst hM ha hn
  refine fc_of F hm S (fun os μ Φ h => ?_) fun cdv A outer s H E os μ Φ hr h => ?_
  · obtain ⟨b, ws, rfl, _, h⟩ := h
    rw [List.length_map]
    exact (lenIs_all (all_bind.mp h)).1
  · obtain ⟨b, ws, rfl, hb, h⟩ := h
    obtain ⟨hl, h⟩ := lenIs_all (all_bind.mp h)
    rw [List.length_map, hl]
    exact (hB b cdv A outer s H E hr).run μ _ _ μ _ (rel_start _ hb) h
theorem de_callL {μ0 μ : Mu} {E : Env} {ρ : Rho} {Φ : OV → Mu → Prop} {F : List W → Tree (List (List PyData))} {nm : Str} {fst : Stmt} {ps : List Str} {k : Nat} (R : Rel b μ0 E ρ μ) (FC : Fc X.prog X.w X.K X.mg X.base nm fst ps k (cFOL F)) (hr : Rm k X.A) (hgl : Gl X nm)
    (hb : ∀ (kV doc pm : Value) (an : Option Addr) (cdv ct : Value) (us : List Value), us.length = ps.length → bindArgs (PySem.W.fnOf nm nm (defArgs fst) (defBody fst) (defScope fst) .none kV doc pm an cdv ct) ⟨us, []⟩ = pure (ps.zip us))
    (ha : SA b X (x :: es) gs) (q : ((gs E).bind F).All fun ls => ∀ μ2 p, LlNew b μ μ2 p ls → Φ (.own p) μ2) (hdb : (nm == ("__debug__" : Str)) = false) (he : starEach (x :: es) X.env = (false, eval x X.env) :: starEach es X.env) (hpl : (backTo cpos (starEach es X.env)).any (·.1) = false) : DE X (.Call (.Name nm p) (x :: es) [] cpos) ρ μ Φ :=
  de_call FC hr hgl hb (ha.run μ0 E ρ μ _ R ((all_bind.mp q).imp fun ws q μ1 s1 => ⟨b, ws, rfl, (R.step s1).bxs, q.imp fun ls q μ2 p ⟨s2, ps, pb, pn, pm, nd, ow⟩ => q μ2 p ⟨s1.trans s2, ps, pb, s1.fresh pb pn, pm, nd, ow.back fun r rb hr => s1.fresh rb hr⟩⟩)) hdb he hpl
structure NsA (b : Addr) (μ0 : Mu) (E : Env) (ρ : Rho) (μ : Mu) (h : Nat) (q : Addr) (ps : List Addr) (ls : List (List PyData)) : Prop where
  rel : Rel b μ0 E ρ μ
  rh : ρ[h]? = some (some (.own q))
  qb : q ≠ b
  q0 : μ0 q = none
  mq : μ q = some (ps.map .own)
  nd : (q :: ps).Nodup
  ow : OwnAt b μ0 μ ps ls
  np : ∀ (j : Nat) ds c, E[j]? = some (some (.own ds)) → ρ[j]? = some (some (.own c)) → c ∉ q :: ps
theorem NsA.step {μ0 μ μ' : Mu} {E : Env} {ρ : Rho} {h : Nat} {q : Addr} {ps : List Addr} {ls : List (List PyData)} (N : NsA b μ0 E ρ μ h q ps ls) (s : Bs b μ μ') : NsA b μ0 E ρ μ' h q ps ls :=
  ⟨N.rel.step s, N.rh, N.qb, N.q0, s.old _ _ N.qb N.mq, N.nd, N.ow.step s, N.np⟩
theorem NsA.some {μ0 μ : Mu} {E : Env} {ρ : Rho} {h : Nat} {q : Addr} {ps : List Addr} {ls : List (List PyData)} (N : NsA b μ0 E ρ μ h q ps ls) {r : Addr} (hr : r ∈ q :: ps) : r ≠ b ∧ μ0 r = none ∧ (μ r).isSome = true := by
  rcases List.mem_cons.mp hr with rfl | hr
  · exact ⟨N.qb, N.q0, by rw [N.mq]; rfl⟩
  · exact N.ow.none r hr
structure SNA (b : Addr) (X : Cx) (h : Nat) (ss : List Stmt) (f : List (List PyData) → DenS) : Prop where
  run : ∀ μ0 E ρ μ D q ps ls, NsA b μ0 E ρ μ h q ps ls → (f ls E).All (OutOk b μ0 D) → DSs X ss ρ μ D
def aOwn (j : Nat) (fx : DenE) (f : List (List PyData) → DenS) : List (List PyData) → DenS := fun ls E => (fx E).bind fun d => match d with | .list xs => f ls (E.set j (some (.own xs))) | _ => .fail
def aApp (j : Nat) (fx : DenE) (f : List (List PyData) → DenS) : List (List PyData) → DenS := fun ls E => match E[j]? with | some (some (.own l)) => (fx E).bind fun y => (liftO (small (l.length + 1))).bind fun _ => f ls (E.set j (some (.own (l ++ [y])))) | _ => .fail
def aIf (h : Nat) (ft : DenB) (f : List (List PyData) → DenS) : List (List PyData) → DenS := fun ls E => (ft (lendE h (ls.map .list) E)).bind fun k => match k with | true => .ret (.rt (.bool false)) | false => f ls E
def aEnd (s : Nat) (g : DenS) : List (List PyData) → DenS := fun ls E => (liftO (if s < E.length then some () else none)).bind fun _ => (liftO (if ls.all (fun l => decide (l.length + 1 ≤ 100000)) = true then some () else none)).bind fun _ => g (E.set s none)
theorem NsA.ne_new {μ0 μ : Mu} {E : Env} {ρ : Rho} {h : Nat} {q : Addr} {ps : List Addr} {ls : List (List PyData)} (N : NsA b μ0 E ρ μ h q ps ls) {p : Addr} (hp : μ p = none) : p ∉ q :: ps := fun hm => by
  have := (N.some hm).2.2
  rw [hp] at this
  cases this
theorem sna_own {h j : Nat} {n : Str} {p' : Pos} {fl' : List (List PyData) → DenS} (hhj : j ≠ h) (hN : X.N.Nodup) (hj : X.N[j]? = some n) (hl : Loc X.env.scope n) (hx : SO b X x fx) (ht : SNA b X h ss fl')
    (hs : swapsWith x (some (.Name n p')) pos.line X.env = pure false := by rfl) (hf : X.fn n = true ∨ X.env.scope.names.lookup n = some .local := by first | exact .inl rfl | exact .inr rfl | assumption) : SNA b X h (.Assign [.Name n p'] x pos :: ss) (aOwn j fx fl') := .mk fun μ0 E ρ μ D q ps ls N qa => by
  refine dss_cons (ds_set j hN hj hl (hx.run μ0 E ρ μ _ N.rel ((all_bind.mp qa).imp fun d qa => ?_)) hs hf)
  cases d with
  | list xs =>
    refine ⟨xs, rfl, fun μ' p s hp => ?_⟩
    have N1 := N.step s
    have N2 := N1.step (Bs.put (b := b) (l := xs.map .im) hp)
    refine ht.run μ0 _ _ _ D q ps ls ⟨N1.rel.setO j hp, by rw [List.getElem?_set_ne hhj]; exact N.rh, N.qb, N.q0, N2.mq, N.nd, N2.ow, fun k ds c e1 e2 => ?_⟩ qa
    rcases get_set e1 with ⟨rfl, _, hl'⟩ | ⟨n1, e1⟩
    · rw [List.getElem?_set_self (by rw [N.rel.len]; exact hl')] at e2
      cases e2
      exact N1.ne_new hp
    · rw [List.getElem?_set_ne n1] at e2
      exact N.np k ds c e1 e2
  | _ => exact qa.elim
theorem sna_app {h j : Nat} {n : Str} {np apos : Pos} {fl' : List (List PyData) → DenS} (hhj : j ≠ h) (hN : X.N[j]? = some n) (hv : Vis X.env.scope n) (hx : SE b X x fx) (ht : SNA b X h ss fl') (hd : (n == ("__debug__" : Str)) = false := by decide) (hcd : (n == ("__classdict__" : Str)) = false := by decide)
    (hbase : attributeBase (.Name n np) "append" X.env (eval (.Name n np) X.env) = eval (.Name n np) X.env := by rfl)
    (hfew : ((backTo cpos (starEach [x] X.env)).all (fun x => !x.1) && (backToKw cpos (keywordEach [] X.env)).all (fun x => x.1.isSome) && decide ([x].length + ([] : List Keyword).length + (if ([] : List Keyword).isEmpty then 0 else 1) < 30)) = true := by rfl)
    (hline : (apos.endLine == cpos.line) = true := by rfl) (hst : starEach [x] X.env = (false, eval x X.env) :: starEach [] X.env := by rfl) (hplain : (backTo cpos (starEach [] X.env)).any (·.1) = false := by rfl)
    (hs : swapsWith (.Call (.Attribute (.Name n np) "append" apos) [x] [] cpos) none pos.line X.env = pure false := by rfl) : SNA b X h (.Expr (.Call (.Attribute (.Name n np) "append" apos) [x] [] cpos) pos :: ss) (aApp j fx fl') := .mk fun μ0 E ρ μ D q ps ls N qa => by
  unfold aApp at qa
  split at qa
  case h_2 => exact qa.elim
  rename_i l hl
  obtain ⟨o, h1, p, rfl, pb, p0, hp⟩ := N.rel.get j _ hl
  refine dss_cons (ds_expr (de_append (de_var j hN hv h1 ⟨p, _, rfl, hp, hx.run μ0 E ρ μ _ N.rel ((all_bind.mp qa).imp fun y qa μ2 s2 => ?_)⟩ hd hcd) hbase hfew hline hst hplain) hs)
  obtain ⟨hz, qa⟩ := small_le (all_bind.mp qa)
  have N2 := N.step s2
  refine ⟨_, s2.old p _ pb hp, by rw [List.length_map]; omega, ?_⟩
  have pn : p ∉ q :: ps := N.np j l p hl h1
  have R3 := N2.rel.chg (es := l ++ [y]) hl h1
  rw [List.map_append] at R3
  have keep : ∀ r, r ∈ q :: ps → (μ2.put p (l.map OV.im ++ [y].map OV.im)) r = μ2 r := fun r hr => put_ne fun z => pn (z ▸ hr)
  have ow' : ∀ {qs : List Addr} {ms : List (List PyData)}, (∀ r ∈ qs, r ∈ q :: ps) → OwnAt b μ0 μ2 qs ms → OwnAt b μ0 (μ2.put p (l.map OV.im ++ [y].map OV.im)) qs ms := fun {qs ms} hq o => by
    induction o with
    | nil => exact .nil
    | cons r _ ih => exact .cons ⟨r.1, r.2.1, (keep _ (hq _ (List.mem_cons_self ..))).trans r.2.2⟩ (ih fun r hr => hq r (List.mem_cons_of_mem _ hr))
  refine ht.run μ0 _ ρ _ D q ps ls ⟨R3, N.rh, N.qb, N.q0, (keep _ (List.mem_cons_self ..)).trans N2.mq, N.nd, ow' (fun r hr => List.mem_cons_of_mem _ hr) N2.ow, fun k ds c e1 e2 => ?_⟩ qa
  rcases get_set e1 with ⟨rfl, _, _⟩ | ⟨n1, e1⟩
  · rw [h1] at e2
    cases e2
    exact pn
  · exact N.np k ds c e1 e2
theorem sna_if {h : Nat} {fl' : List (List PyData) → DenS} {ft : DenB} {c : Expr} {j : Nat} {p1 p2 : Pos} (hc : ST b X c ft) (ht : SNA b X h ss fl') : SNA b X h (.If c [.Return (some (.Constant (.bool false) j p1)) p2] [] pos :: ss) (aIf h ft fl') := .mk fun μ0 E ρ μ D q ps ls N qa => by
  refine dss_cons (ds_if (dt_lend N.rel.bxs hc (E := lendE h (ls.map .list) E) (by unfold lendE; rw [List.length_map, List.length_set, N.rel.len]) (fun j w hj => ?_) ((all_bind.mp qa).imp fun k qa μ1 s1 => ?_)))
  · unfold lendE at hj
    rw [List.getElem?_map] at hj
    by_cases ej : h = j
    · subst ej
      by_cases hl : h < E.length
      · rw [List.getElem?_set_self hl] at hj
        cases hj
        refine .inr (.inr ⟨_, _, rfl, N.rh, .own N.qb N.mq ?_⟩)
        have key : ∀ {qs : List Addr} {ms : List (List PyData)}, OwnAt b μ0 μ qs ms → LdA b μ (qs.map .own) (ms.map .list) := fun {qs ms} o => by
          induction o with
          | nil => exact .nil
          | cons r _ ih => exact .cons (.own r.1 r.2.2 (LdA.ims _)) ih
        exact key N.ow
      · rw [List.getElem?_eq_none (by rw [List.length_set]; omega)] at hj
        cases hj
    · rw [List.getElem?_set_ne ej] at hj
      cases hE : E[j]? with
      | none =>
        rw [hE] at hj
        cases hj
      | some w0 =>
        rw [hE] at hj
        have hj : frzW w0 = some w := Option.some.inj hj
        cases w0 with
        | none => cases hj
        | some w1 =>
          obtain ⟨o, a1, a2⟩ := N.rel.get j w1 hE
          cases w1 with
          | d d =>
            cases hj
            cases a2
            exact .inr (.inr ⟨d, _, rfl, a1, .im d⟩)
          | dic kvs =>
            cases hj
            cases a2
            exact .inr (.inl ⟨_, rfl, a1⟩)
          | dtt kvs =>
            cases hj
            cases a2
            exact .inr (.inl ⟨_, rfl, a1⟩)
          | exn C f d =>
            cases hj
            cases a2
            exact .inr (.inl ⟨_, rfl, a1⟩)
          | exs l =>
            cases hj
            cases a2
            exact .inr (.inl ⟨_, rfl, a1⟩)
          | ll ls =>
            cases hj
            obtain ⟨c, rfl, hc⟩ := a2
            exact .inr (.inr ⟨_, _, rfl, a1, hc.ld N.rel.ext⟩)
          | odc kvs => cases hj
          | cir c => cases hj
          | lc c => cases hj
          | bx =>
            cases hj
            cases a2
            exact .inl ⟨rfl, a1⟩
          | own ds =>
            cases hj
            obtain ⟨c, rfl, c2, c3, c4⟩ := a2
            exact .inr (.inr ⟨_, _, rfl, a1, .own c2 c4 (LdA.ims ds)⟩)
  · cases k with
    | true =>
      rw [if_pos rfl]
      exact dss_one (ds_ret (de_bl (qa μ1 (N.rel.ext.trans s1))))
    | false =>
      rw [if_neg (by decide)]
      exact dss_nil (ht.run μ0 E ρ μ1 D q ps ls (N.step s1) qa)
theorem Rel.agree {μ0 μ μ' : Mu} {E : Env} {ρ : Rho} {ps : List Addr} (R : Rel b μ0 E ρ μ) (hd : μ'.d = μ.d) (hC : μ'.C = μ.C) (k : ∀ a, a ∉ ps → μ' a = μ a) (hp : ∀ r ∈ ps, r ≠ b ∧ μ0 r = none) (np : ∀ (j : Nat) ds c, E[j]? = some (some (.own ds)) → ρ[j]? = some (some (.own c)) → c ∉ ps) : Rel b μ0 E ρ μ' := by
  obtain ⟨u, q, t, hb⟩ := R.bxs
  have kb : μ' b = μ b := k b fun hm => (hp b hm).1 rfl
  refine ⟨R.len, ⟨u, q, t, kb.trans hb⟩, R.bx0, ⟨fun a l n e => ?_, fun u q t e => ?_, fun a t e => by rw [hd]; exact R.ext.thg a t e, hC.trans R.ext.cls⟩, fun i w e => ?_, R.inj, R.injT⟩
  · rw [k a fun hm => by rw [(hp a hm).2] at e; cases e]
    exact R.ext.old a l n e
  · obtain ⟨u', q', t', e'⟩ := R.ext.box u q t e
    exact ⟨u', q', t', kb.trans e'⟩
  · obtain ⟨o, a1, a2⟩ := R.get i w e
    refine ⟨o, a1, a2.upto (fun xs c hw c1 c2 c3 c4 => ?_) fun _ _ _ _ _ h => by rw [hd]; exact h⟩
    subst hw
    rw [k c (np i xs c e (by rw [a1, c1]))]
    exact c4
theorem sna_end {h s : Nat} {n m txt : Str} {np mp apos p3 p4 : Pos} {j : Nat} {g : DenS} (hsh : s ≠ h) (hp : PassesOwn (model X.prog X.w) X.A X.env X.xe) (hc : X.calm = true) (hg : PG X (.Name m mp) (TgtG X.K (.nm s))) (hN : X.N[h]? = some n) (hv : Vis X.env.scope n) (hNs : X.N[s]? = some m) (hvs : Vis X.env.scope m) (ht : SSs b X ss g)
    (hd : (n == ("__debug__" : Str)) = false := by decide) (hcd : (n == ("__classdict__" : Str)) = false := by decide) (hd2 : (m == ("__debug__" : Str)) = false := by decide) (hcd2 : (m == ("__classdict__" : Str)) = false := by decide)
    (hbase : attributeBase (.Name m p4) "append" X.env (eval (.Name m p4) X.env) = eval (.Name m p4) X.env := by rfl)
    (hfew : ((backTo cpos (starEach [.Constant (.str txt) j p3] X.env)).all (fun x => !x.1) && (backToKw cpos (keywordEach [] X.env)).all (fun x => x.1.isSome) && decide ([Expr.Constant (.str txt) j p3].length + ([] : List Keyword).length + (if ([] : List Keyword).isEmpty then 0 else 1) < 30)) = true := by rfl)
    (hline : (apos.endLine == cpos.line) = true := by rfl) (hst : starEach [.Constant (.str txt) j p3] X.env = (false, eval (.Constant (.str txt) j p3) X.env) :: starEach [] X.env := by rfl) (hplain : (backTo cpos (starEach [] X.env)).any (·.1) = false := by rfl)
    (hsw : swapsWith (.Call (.Attribute (.Name m p4) "append" apos) [.Constant (.str txt) j p3] [] cpos) none pos2.line X.env = pure false := by rfl) (hs : ∀ x, foldedSetIterable (.Name n np) X.env x = pure x := by intro _; rfl) :
    SNA b X h (.For (.Name m mp) (.Name n np) [.Expr (.Call (.Attribute (.Name m p4) "append" apos) [.Constant (.str txt) j p3] [] cpos) pos2] [] pos :: ss) (aEnd s g) := .mk fun μ0 E ρ μ D q ps ls N qa => by
  obtain ⟨hsl0, qa⟩ := lt_all (all_bind.mp qa)
  obtain ⟨u, hu, qa⟩ := lift_all (all_bind.mp qa)
  have hlen : ∀ l ∈ ls, l.length + 1 ≤ 100000 := by
    split at hu
    · rename_i ha
      exact fun l hl => of_decide_eq_true (List.all_eq_true.mp ha l hl)
    · cases hu
  refine dss_cons (ds_for (.nm s) hp hc hg (di_own (de_var h hN hv N.rh ⟨q, ps.map .own, rfl, N.mq, ?_⟩ hd hcd)) hs)
  have qn : q ∉ ps := (List.nodup_cons.mp N.nd).1
  have nd := (List.nodup_cons.mp N.nd).2
  refine ⟨fun i ρ' μ' => (∃ o, ρ' = ρ.set s o) ∧ μ'.d = μ.d ∧ μ'.C = μ.C ∧ (∀ a, a ∉ ps → μ' a = μ a) ∧ ∀ (k : Nat) r, ps[k]? = some r → i ≤ k → μ' r = μ r, ⟨?_, rfl, rfl, fun _ _ => rfl, fun _ _ _ _ => rfl⟩, fun i ρ' μ' hP => ?_, fun i z ρ' μ' hz hP => ?_, fun ρ' μ' hP => ?_⟩
  · by_cases hs' : s < ρ.length
    · exact ⟨ρ[s], (List.set_getElem_self hs').symm⟩
    · exact ⟨none, (List.set_eq_of_length_le (by omega)).symm⟩
  · exact (hP.2.2.2.1 q qn).trans N.mq
  · obtain ⟨⟨o, rfl⟩, hd', hC', hk, hi⟩ := hP
    dsimp only at hz
    rw [List.getElem?_map] at hz
    cases hr : ps[i]? with
    | none =>
      rw [hr] at hz
      cases hz
    | some r =>
      rw [hr] at hz
      cases hz
      obtain ⟨ds, hds, rb, r0, hμ⟩ := pr_getV N.ow hr
      have hsl : ∀ o', (ρ.set s o).set s o' = ρ.set s o' := fun o' => List.set_set ..
      refine ⟨_, rfl, ?_⟩
      rw [hsl]
      have hμ' : μ' r = some (ds.map .im) := (hi i r hr (Nat.le_refl _)).trans hμ
      have hs' : s < ρ.length := by rw [N.rel.len]; exact hsl0
      refine dss_one (ds_expr (de_append (de_var s hNs hvs (List.getElem?_set_self hs') ⟨r, _, rfl, hμ', de_str ⟨_, hμ', by rw [List.length_map]; have := hlen ds (List.mem_of_getElem? hds); omega, ?_⟩⟩ hd2 hcd2) hbase hfew hline hst hplain) hsw)
      refine ⟨⟨_, rfl⟩, hd', hC', fun a ha => ?_, fun k r' hr' hk' => ?_⟩
      · rw [put_ne (fun z => ha (by rw [z]; exact List.mem_of_getElem? hr))]
        exact hk a ha
      · rw [put_ne (fun z => ?_)]
        · exact hi k r' hr' (by omega)
        · subst z
          have := (List.getElem?_inj (List.getElem?_eq_some_iff.mp hr).1 nd).mp (hr.trans hr'.symm)
          omega
  · obtain ⟨⟨o, rfl⟩, hd', hC', hk, _⟩ := hP
    refine ht.run μ0 _ _ _ D ((N.rel.wipeO s o).agree hd' hC' hk (fun r hr => ⟨(N.some (List.mem_cons_of_mem _ hr)).1, (N.some (List.mem_cons_of_mem _ hr)).2.1⟩) fun j' ds c e1 e2 hm => ?_) qa
    obtain ⟨n1, e1⟩ := get_setN e1
    rw [List.getElem?_set_ne n1] at e2
    exact N.np j' ds c e1 e2 (List.mem_cons_of_mem _ hm)
def sLl (h : Nat) (F : List W → Tree (List (List PyData))) (gs : Env → Tree (List W)) (f : List (List PyData) → DenS) : DenS := fun E => (liftO (if h < E.length then some () else none)).bind fun _ => ((gs E).bind F).bind fun ls => f ls (E.set h none)
theorem ssn_ll (h : Nat) {n : Str} {p' : Pos} {F : List W → Tree (List (List PyData))} {nm : Str} {fst : Stmt} {ps : List Str} {k : Nat} {f' : List (List PyData) → DenS} (hN : X.N.Nodup) (hi : X.N[h]? = some n) (hl : Loc X.env.scope n) (FC : Fc X.prog X.w X.K X.mg X.base nm fst ps k (cFOL F)) (hr : Rm k X.A) (hgl : Gl X nm)
    (hb : ∀ (kV doc pm : Value) (an : Option Addr) (cdv ct : Value) (us : List Value), us.length = ps.length → bindArgs (PySem.W.fnOf nm nm (defArgs fst) (defBody fst) (defScope fst) .none kV doc pm an cdv ct) ⟨us, []⟩ = pure (ps.zip us))
    (ha : SA b X (x :: es) gs) (ht : SNA b X h ss f') (hdb : (nm == ("__debug__" : Str)) = false := by decide) (he : starEach (x :: es) X.env = (false, eval x X.env) :: starEach es X.env := by rfl) (hpl : (backTo cpos (starEach es X.env)).any (·.1) = false := by rfl)
    (hs : swapsWith (.Call (.Name nm p) (x :: es) [] cpos) (some (.Name n p')) pos.line X.env = pure false := by rfl) (hf : X.fn n = true ∨ X.env.scope.names.lookup n = some .local := by first | exact .inl rfl | exact .inr rfl | assumption) : SSs b X (.Assign [.Name n p'] (.Call (.Name nm p) (x :: es) [] cpos) pos :: ss) (sLl h F gs f') := .mk fun μ0 E ρ μ D R qa => by
  obtain ⟨hhl, qa⟩ := lt_all (all_bind.mp qa)
  refine dss_cons (ds_set h hN hi hl (de_callL R FC hr hgl hb ha ((all_bind.mp qa).imp fun ls qa μ2 q hLl => ?_) hdb he hpl) hs hf)
  obtain ⟨s, ps', qb, qn, mq, nd, ow⟩ := hLl
  have R2 := R.step s
  have none0 : ∀ r, r ≠ b → μ r = none → μ0 r = none := fun r rb hr => R.ext.fresh rb hr
  refine ht.run μ0 _ _ _ D q ps' ls ⟨R2.wipeO h (some (.own q)), List.getElem?_set_self (by rw [R.len]; exact hhl), qb, none0 q qb qn, mq, nd, ow.back none0, fun j ds c e1 e2 hm => ?_⟩ qa
  obtain ⟨n1, e1⟩ := get_setN e1
  rw [List.getElem?_set_ne n1] at e2
  obtain ⟨o, a1, c', a2, cb, c0, c1⟩ := R.get j _ e1
  rw [e2] at a1
  cases a1
  cases a2
  have hcn : μ c = none := by
    rcases List.mem_cons.mp hm with rfl | hm
    · exact qn
    · exact (ow.none c hm).2.1
  rw [hcn] at c1
  cases c1
end
end Nx
namespace Nx
open PySem PySem.Spec PyProof.Rows L2
open Tree
structure Tbl (n : Nat) (ns : List Int) : Prop where
  asc : ns.Pairwise (· < ·)
  mem : ∀ x ∈ ns, 0 ≤ x ∧ x < n
theorem srt_len (ns : List Int) : (srt ns).length = ns.length := (srt_perm ns).length_eq
theorem srt_mem {ns : List Int} {x : Int} : x ∈ srt ns ↔ x ∈ ns := (srt_perm ns).mem_iff
theorem nodup_asc {l : List Int} (h : l.Pairwise (· < ·)) : l.Nodup := h.imp fun {a b} h e => by omega
theorem Tbl.srt {n : Nat} {ns : List Int} (h : Tbl n ns) : srt ns = ns := (srt_eq (List.Perm.refl ns) (h.asc.imp fun {a b} h => by omega)).symm
theorem srt_congr {a b : List Int} (h : a.Perm b) : srt a = srt b := srt_eq ((srt_perm a).trans h) (srt_pw a)
theorem nums_eq (n : Nat) : nums n = iL ((List.range n).map fun (k : Nat) => (k : Int)) := by
  unfold nums iL
  rw [List.map_map]
  rfl
theorem nodup_map_of {α β : Type} {f : α → β} : ∀ {l : List α}, l.Nodup → (∀ a ∈ l, ∀ b ∈ l, f a = f b → a = b) → (l.map f).Nodup
  | [], _, _ => .nil
  | a :: l, d, h => by
    obtain ⟨d1, d2⟩ := List.nodup_cons.mp d
    rw [List.map_cons]
    refine List.nodup_cons.mpr ⟨fun hm => ?_, nodup_map_of d2 fun a ha b hb => h a (List.mem_cons_of_mem _ ha) b (List.mem_cons_of_mem _ hb)⟩
    obtain ⟨b, hb, e⟩ := List.mem_map.mp hm
    have := h b (List.mem_cons_of_mem _ hb) a (List.mem_cons_self ..) e
    subst this
    exact d1 hb
theorem mod_inj {n a b : Int} (hn : 0 < n) (h : a % n = b % n) (h1 : a - b < n) (h2 : b - a < n) : a = b := by
  have e1 := Int.mul_ediv_add_emod a n
  have e2 := Int.mul_ediv_add_emod b n
  have e : a - b = n * (a / n - b / n) := by rw [Int.mul_sub]; omega
  generalize a / n - b / n = z at e
  have hz : z = 0 := by
    rcases Int.lt_trichotomy z 0 with h | h | h
    · have : n * z ≤ n * (-1) := Int.mul_le_mul_of_nonneg_left (by omega) (by omega)
      omega
    · exact h
    · have : n * 1 ≤ n * z := Int.mul_le_mul_of_nonneg_left (by omega) (by omega)
      omega
  subst hz
  omega
def pushGo (n : Int) (ss : List Int) (c : Int) : Nat → Nat → List Int
  | 0, _ => ss
  | f + 1, far => match ss.findIdx? (fun s => decide ((c + (far : Int) - s) % n = 0)) with
    | some k => ss.set k (ss.getD k 0 - (far : Int))
    | none => pushGo n ss c f (far + 1)
def pushL (n : Nat) (ss : List Int) (c : Int) : List Int := pushGo n ss c n 0
theorem find_at {ss : List Int} {p : Int → Bool} {k : Nat} {s : Int} (h : ss[k]? = some s) (hp : p s = true) (hn : ∀ (j : Nat) (s' : Int), j < k → ss[j]? = some s' → p s' = false) : ss.findIdx? p = some k := by
  obtain ⟨hk, e⟩ := List.getElem?_eq_some_iff.mp h
  rw [List.findIdx?_eq_some_iff_getElem]
  refine ⟨hk, by rw [e]; exact hp, fun j hj => ?_⟩
  have := hn j ss[j] hj (List.getElem?_eq_getElem (by omega))
  simp [this]
theorem find_no {ss : List Int} {p : Int → Bool} (hn : ∀ (j : Nat) (s' : Int), ss[j]? = some s' → p s' = false) : ss.findIdx? p = none := by
  rw [List.findIdx?_eq_none_iff]
  intro x hx
  obtain ⟨j, hj⟩ := List.getElem?_of_mem hx
  exact hn j x hj
theorem set_cut {ss : List Int} {k : Nat} {v : Int} (h : k < ss.length) : ss.take k ++ [v] ++ ss.drop (k + 1) = ss.set k v := by
  rw [List.set_eq_take_append_cons_drop, if_pos h, List.append_assoc]
  rfl
def dst (n c s : Int) : Int := (s - c) % n
structure Near (n c : Int) (ss : List Int) (k : Nat) (s : Int) : Prop where
  at_ : ss[k]? = some s
  le : ∀ (j : Nat) s', ss[j]? = some s' → dst n c s ≤ dst n c s'
  lt : ∀ (j : Nat) s', j < k → ss[j]? = some s' → dst n c s < dst n c s'
theorem Near.uniq {n c : Int} {ss : List Int} {k k' : Nat} {s s' : Int} (a : Near n c ss k s) (b : Near n c ss k' s') : k = k' ∧ s = s' := by
  have e : k = k' := by
    rcases Nat.lt_trichotomy k k' with h | h | h
    · have h1 := b.lt k s h a.at_
      have h2 := a.le k' s' b.at_
      omega
    · exact h
    · have h1 := a.lt k' s' h b.at_
      have h2 := b.le k s a.at_
      omega
  subst e
  have := a.at_.symm.trans b.at_
  exact ⟨rfl, Option.some.inj this⟩
def nearIx (n c : Int) : List Int → Nat
  | [] => 0
  | s :: r => if r = [] then 0 else if dst n c (r.getD (nearIx n c r) 0) < dst n c s then nearIx n c r + 1 else 0
theorem near_ix {n c : Int} : ∀ {ss : List Int}, ss ≠ [] → Near n c ss (nearIx n c ss) (ss.getD (nearIx n c ss) 0)
  | [], h => absurd rfl h
  | s :: r, _ => by
    by_cases hr : r = []
    · subst hr
      unfold nearIx
      rw [if_pos rfl]
      refine ⟨rfl, fun j s' hj => ?_, fun j s' hj => absurd hj (Nat.not_lt_zero _)⟩
      cases j with
      | zero =>
        cases hj
        exact Int.le_refl _
      | succ j => simp at hj
    · have ih := near_ix (n := n) (c := c) hr
      unfold nearIx
      rw [if_neg hr]
      by_cases hd : dst n c (r.getD (nearIx n c r) 0) < dst n c s
      · rw [if_pos hd]
        refine ⟨ih.at_, fun j s' hj => ?_, fun j s' hjk hj => ?_⟩
        · cases j with
          | zero =>
            cases hj
            show dst n c (r.getD (nearIx n c r) 0) ≤ _
            omega
          | succ j => exact ih.le j s' hj
        · cases j with
          | zero =>
            cases hj
            exact hd
          | succ j => exact ih.lt j s' (by omega) hj
      · rw [if_neg hd]
        refine ⟨rfl, fun j s' hj => ?_, fun j s' hj => absurd hj (Nat.not_lt_zero _)⟩
        cases j with
        | zero =>
          cases hj
          exact Int.le_refl _
        | succ j =>
          have := ih.le j s' hj
          show dst n c s ≤ _
          omega
def moverL (n c : Int) (ss : List Int) : Option Nat := if dst n c (ss.getD (nearIx n c ss) 0) = 0 then none else some (nearIx n c ss)
def callL (n c : Int) (ss : List Int) : List Int := match moverL n c ss with
  | none => ss
  | some k => ss.set k c
def optI : Option Nat → PyData
  | none => .none
  | some k => .int (k : Int)
theorem Near.mover {n c : Int} {ss : List Int} {k : Nat} {s : Int} (a : Near n c ss k s) : moverL n c ss = if dst n c s = 0 then none else some k := by
  have hne : ss ≠ [] := fun e => by
    have := a.at_
    rw [e] at this
    simp at this
  obtain ⟨h1, h2⟩ := (near_ix (n := n) (c := c) hne).uniq a
  unfold moverL
  rw [h2, h1]
theorem dst_lt {n c s : Int} (h : 0 < n) : 0 ≤ dst n c s ∧ dst n c s < n := ⟨Int.emod_nonneg _ (by omega), Int.emod_lt_of_pos _ h⟩
theorem hit_iff {n c s : Int} {far : Nat} (hn : (far : Int) < n) : (c + (far : Int) - s) % n = 0 ↔ dst n c s = (far : Int) := by
  unfold dst
  constructor
  · intro h
    have h1 : (s - c) % n = (far : Int) % n := by
      have e : s - c = (far : Int) - (c + (far : Int) - s) := by omega
      rw [e, Int.sub_emod, h]
      simp
    rw [h1]
    exact Int.emod_eq_of_lt (by omega) hn
  · intro h
    have e : c + (far : Int) - s = (far : Int) - (s - c) := by omega
    rw [e, Int.sub_emod, h, Int.emod_eq_of_lt (by omega) hn, Int.sub_self]
    simp
theorem push_near {n : Nat} {c : Int} {ss : List Int} {k : Nat} {s : Int} (n0 : 0 < n) (h : Near n c ss k s) : pushL n ss c = ss.set k (s - dst n c s) := by
  obtain ⟨d0, d1⟩ := dst_lt (n := (n : Int)) (c := c) (s := s) (by omega)
  obtain ⟨f, hf⟩ : ∃ f : Nat, dst n c s = (f : Int) := ⟨(dst n c s).toNat, by omega⟩
  have hfn : f < n := by omega
  have go : ∀ (i : Nat), i ≤ f → pushGo n ss c (n - (f - i)) (f - i) = ss.set k (s - (f : Int)) := by
    intro i
    induction i with
    | zero =>
      intro _
      rw [Nat.sub_zero, show n - f = (n - f - 1) + 1 by omega]
      unfold pushGo
      rw [find_at (p := fun s => decide ((c + (f : Int) - s) % (n : Int) = 0)) (k := k) (s := s) h.at_ (decide_eq_true ((hit_iff (by omega)).mpr hf)) fun j s' hj hs' => decide_eq_false fun e => ?_]
      · show ss.set k (ss.getD k 0 - (f : Int)) = _
        rw [List.getD_eq_getElem?_getD, h.at_]
        rfl
      · have h1 := (hit_iff (n := (n : Int)) (far := f) (by omega)).mp e
        have h2 := h.lt j s' hj hs'
        omega
    | succ i ih =>
      intro hi
      rw [show n - (f - (i + 1)) = (n - (f - i)) + 1 by omega]
      unfold pushGo
      rw [find_no (p := fun s => decide ((c + ((f - (i + 1) : Nat) : Int) - s) % (n : Int) = 0)) fun j s' hs' => decide_eq_false fun e => ?_]
      · show pushGo n ss c (n - (f - i)) (f - (i + 1) + 1) = _
        rw [show f - (i + 1) + 1 = f - i by omega]
        exact ih (by omega)
      · have h1 := (hit_iff (n := (n : Int)) (far := f - (i + 1)) (by omega)).mp e
        have h2 := h.le j s' hs'
        omega
  have := go f (Nat.le_refl _)
  rw [Nat.sub_self, Nat.sub_zero] at this
  rw [hf]
  exact this
theorem mod_self_of {n : Nat} {ss : List Int} (h : ∀ x ∈ ss, 0 ≤ x ∧ x < n) : ss.map (· % (n : Int)) = ss := by
  have : ss.map (· % (n : Int)) = ss.map id := List.map_congr_left fun x hx => Int.emod_eq_of_lt (h x hx).1 (h x hx).2
  rw [this, List.map_id]
theorem set_same {ss : List Int} {k : Nat} {s : Int} (h : ss[k]? = some s) : ss.set k s = ss := by
  obtain ⟨hk, rfl⟩ := List.getElem?_eq_some_iff.mp h
  exact List.set_getElem_self hk
theorem dst_sub {n c s : Int} (h : 0 ≤ c ∧ c < n) : (s - dst n c s) % n = c := by
  unfold dst
  rw [Int.sub_emod, Int.emod_emod_of_dvd _ (Int.dvd_refl n), ← Int.sub_emod, show s - (s - c) = c by omega]
  exact Int.emod_eq_of_lt h.1 h.2
theorem near_ex {n c : Int} {ss : List Int} (hne : ss ≠ []) : ∃ k s, Near n c ss k s := ⟨_, _, near_ix hne⟩
theorem callL_get {n c : Int} {ss : List Int} {i : Nat} {s : Int} (h : ss[i]? = some s) : (callL n c ss)[i]? = some (if moverL n c ss = some i then c else s) := by
  unfold callL
  cases e : moverL n c ss with
  | none => simpa using h
  | some k =>
    by_cases hk : k = i
    · subst hk
      simp only [if_true]
      exact List.getElem?_set_self (List.getElem?_eq_some_iff.mp h).1
    · simp only [Option.some.injEq, hk, if_false]
      rw [List.getElem?_set_ne hk, h]
theorem callL_len {n c : Int} {ss : List Int} : (callL n c ss).length = ss.length := by
  unfold callL
  split
  · rfl
  · exact List.length_set
def runS (n : Int) (ss cs : List Int) : List Int := cs.foldl (fun s c => callL n c s) ss
def AL (n : Int) (ss cs : List Int) : List (List Int) := (List.range (cs.length + 1)).map fun j => runS n ss (cs.take j)
theorem runS_len (n : Int) : ∀ (cs ss : List Int), (runS n ss cs).length = ss.length
  | [], _ => rfl
  | c :: cs, ss => by
    show (runS n (callL n c ss) cs).length = _
    rw [runS_len n cs, callL_len]
def dLs (ls : List (List Int)) : List PyData := ls.map fun s => .list (iL s)
def zipStep (n : Int) (t a b : List Int) : List Int := (t.zip (a.zip b)).map fun q => q.1 + (q.2.1 - q.2.2) % n
def stepsL (n : Int) (ss cs : List Int) : List Int := (List.range cs.length).foldl (fun t j => zipStep n t (runS n ss (cs.take j)) (runS n ss (cs.take (j + 1)))) (ss.map fun _ => 0)
theorem zipStep_get {n : Int} {t a b : List Int} {i : Nat} {x y z : Int} (h1 : t[i]? = some x) (h2 : a[i]? = some y) (h3 : b[i]? = some z) : (zipStep n t a b)[i]? = some (x + (y - z) % n) := by
  unfold zipStep
  rw [List.getElem?_map, List.getElem?_zip_eq_some (z := (x, (y, z))) |>.mpr ⟨h1, List.getElem?_zip_eq_some (z := (y, z)) |>.mpr ⟨h2, h3⟩⟩]
  rfl
theorem zipStep_len {n : Int} {t a b : List Int} (h1 : t.length = a.length) (h2 : a.length = b.length) : (zipStep n t a b).length = t.length := by
  simp [zipStep]
  omega
def stT (n : Int) (ss cs : List Int) (i : Nat) : List Int := (List.range i).foldl (fun t j => zipStep n t (runS n ss (cs.take j)) (runS n ss (cs.take (j + 1)))) (ss.map fun _ => 0)
theorem stT_succ (n : Int) (ss cs : List Int) (i : Nat) : stT n ss cs (i + 1) = zipStep n (stT n ss cs i) (runS n ss (cs.take i)) (runS n ss (cs.take (i + 1))) := by
  unfold stT
  rw [List.range_succ, List.foldl_append]
  rfl
theorem stT_len (n : Int) (ss cs : List Int) : ∀ i, (stT n ss cs i).length = ss.length
  | 0 => by simp [stT]
  | i + 1 => by
    rw [stT_succ, zipStep_len (by rw [stT_len, runS_len]) (by rw [runS_len, runS_len]), stT_len]
def InR (n : Nat) (cs : List Int) : Prop := ∀ x ∈ cs, 0 ≤ x ∧ x < (n : Int)
def pkS (n : Int) (k : Nat) (c : Int) : List Int := (List.range k).map fun (b : Nat) => (c - (b : Int)) % n
theorem pkS_len {n : Int} {k : Nat} {c : Int} : (pkS n k c).length = k := by simp [pkS]
def mvL (n k : Nat) (cs : List Int) : List (List Int) := (List.range n).map fun (c : Nat) => stepsL n (pkS n k c) cs
def rowsT (M : List (List Int)) : List PyData := M.map fun r => .tuple (iL r)
def mx : List Int → Int
  | [] => 0
  | [a] => a
  | a :: b :: r => max a (mx (b :: r))
theorem mx_ge : ∀ {l : List Int} {x : Int}, x ∈ l → x ≤ mx l
  | [a], x, h => by
    rw [List.mem_singleton.mp h]
    exact Int.le_refl _
  | a :: b :: r, x, h => by
    show x ≤ max a (mx (b :: r))
    rcases List.mem_cons.mp h with rfl | h
    · omega
    · have := mx_ge (l := b :: r) h
      omega
theorem mx_mem : ∀ {l : List Int}, l ≠ [] → mx l ∈ l
  | [a], _ => List.mem_singleton.mpr rfl
  | a :: b :: r, _ => by
    show max a (mx (b :: r)) ∈ _
    rcases Int.le_total a (mx (b :: r)) with h | h
    · rw [Int.max_eq_right h]
      exact List.mem_cons_of_mem _ (mx_mem (List.cons_ne_nil _ _))
    · rw [Int.max_eq_left h]
      exact List.mem_cons_self ..
theorem mx_eq {l : List Int} {k : Int} (h : k ∈ l) (u : ∀ y ∈ l, y ≤ k) : k = mx l := by
  have h1 := mx_ge h
  have h2 := u _ (mx_mem (List.ne_nil_of_mem h))
  omega
def dsS (n : Int) (ss : List Int) (seat : Int) : List Int := srt (ss.map fun s => (s - seat) % n)
def cell (M : List (List Int)) (c : Int) (j : Nat) : Int := (M.getD c.toNat []).getD j 0
def trmS (n : Int) (M : List (List Int)) (ss : List Int) (seat : Int) : List Int := (List.range ss.length).map fun j => cell M ((seat + (dsS n ss seat).getD j 0) % n) j - ((dsS n ss seat).getD j 0 - (j : Int))
theorem dsS_len {n : Int} {ss : List Int} {seat : Int} : (dsS n ss seat).length = ss.length := by simp [dsS, srt_len]
def stepsBy (n : Int) (M : List (List Int)) (ss : List Int) : List Int := ss.map fun seat => mx (trmS n M ss seat)
theorem dst_mod {n c s : Int} : dst n c (s % n) = dst n c s := by
  unfold dst
  rw [Int.sub_emod, Int.emod_emod_of_dvd _ (Int.dvd_refl n), ← Int.sub_emod]
theorem Near.mod {n c : Int} {us : List Int} {k : Nat} {s : Int} (h : Near n c us k s) : Near n c (us.map (· % n)) k (s % n) := by
  refine ⟨?_, fun j s' hj => ?_, fun j s' hjk hj => ?_⟩
  · rw [List.getElem?_map, h.at_]
    rfl
  · rw [List.getElem?_map] at hj
    obtain ⟨u, hu, rfl⟩ := Option.map_eq_some_iff.mp hj
    rw [dst_mod, dst_mod]
    exact h.le j u hu
  · rw [List.getElem?_map] at hj
    obtain ⟨u, hu, rfl⟩ := Option.map_eq_some_iff.mp hj
    rw [dst_mod, dst_mod]
    exact h.lt j u hjk hu
theorem push_mod {n : Nat} {c : Int} {us : List Int} (hne : us ≠ []) (n0 : 0 < n) (hc : 0 ≤ c ∧ c < n) : (pushL n us c).map (· % (n : Int)) = callL n c (us.map (· % (n : Int))) := by
  obtain ⟨k, t, nr⟩ := near_ex (n := (n : Int)) (c := c) hne
  rw [push_near n0 nr, List.map_set, dst_sub hc]
  unfold callL
  rw [nr.mod.mover, dst_mod]
  by_cases h0 : dst n c t = 0
  · rw [if_pos h0]
    have h1 := dst_sub (n := (n : Int)) (s := t) hc
    rw [h0, Int.sub_zero] at h1
    show (us.map (· % (n : Int))).set k c = us.map (· % (n : Int))
    conv => lhs; rw [← h1]
    exact set_same nr.mod.at_
  · rw [if_neg h0]
def pushS (n : Nat) (us cs : List Int) : List Int := cs.foldl (fun s c => pushL n s c) us
theorem pushL_len {n : Nat} {c : Int} {us : List Int} (hne : us ≠ []) (n0 : 0 < n) : (pushL n us c).length = us.length := by
  obtain ⟨k, t, nr⟩ := near_ex (n := (n : Int)) (c := c) hne
  rw [push_near n0 nr, List.length_set]
theorem ne_of_len {a b : List Int} (h : a.length = b.length) (hb : b ≠ []) : a ≠ [] := fun e => by
  rw [e] at h
  exact hb (List.length_eq_zero_iff.mp h.symm)
theorem pushS_succ {n : Nat} {us cs : List Int} {j : Nat} {c : Int} (h : cs[j]? = some c) : pushS n us (cs.take (j + 1)) = pushL n (pushS n us (cs.take j)) c := by
  unfold pushS
  rw [List.take_add_one, h, List.foldl_append]
  rfl
theorem pushS_len {n : Nat} (n0 : 0 < n) : ∀ (cs : List Int) {us : List Int}, us ≠ [] → (pushS n us cs).length = us.length
  | [], _, _ => rfl
  | c :: cs, us, h => by
    have e := pushL_len (c := c) h n0
    show (pushS n (pushL n us c) cs).length = _
    rw [pushS_len n0 cs (ne_of_len e h), e]
theorem pushS_mod {n : Nat} (n0 : 0 < n) : ∀ (cs : List Int) {us : List Int}, us ≠ [] → (∀ c ∈ cs, 0 ≤ c ∧ c < (n : Int)) → (pushS n us cs).map (· % (n : Int)) = runS n (us.map (· % (n : Int))) cs
  | [], _, _, _ => rfl
  | c :: cs, us, h, hc => by
    have e := pushL_len (c := c) h n0
    show (pushS n (pushL n us c) cs).map _ = runS n (callL n c (us.map (· % (n : Int)))) cs
    rw [pushS_mod n0 cs (ne_of_len e h) fun x hx => hc x (List.mem_cons_of_mem _ hx), push_mod h n0 (hc c (List.mem_cons_self ..))]
theorem push_step {n : Nat} {c : Int} {us : List Int} {i : Nat} {x : Int} (hne : us ≠ []) (n0 : 0 < n) (h : us[i]? = some x) : ∃ y, (pushL n us c)[i]? = some y ∧ 0 ≤ x - y ∧ x - y < n := by
  obtain ⟨k, t, nr⟩ := near_ex (n := (n : Int)) (c := c) hne
  rw [push_near n0 nr]
  have hd := dst_lt (n := (n : Int)) (c := c) (s := t) (by omega)
  by_cases hk : k = i
  · subst hk
    have e := nr.at_.symm.trans h
    cases e
    exact ⟨_, List.getElem?_set_self (List.getElem?_eq_some_iff.mp h).1, by omega, by omega⟩
  · exact ⟨x, by rw [List.getElem?_set_ne hk, h], by omega, by omega⟩
theorem mod_dif {n x y : Int} (h : 0 ≤ x - y ∧ x - y < n) : (x % n - y % n) % n = x - y := by
  rw [← Int.sub_emod]
  exact Int.emod_eq_of_lt h.1 h.2
def difL (a b : List Int) : List Int := (a.zip b).map fun q => q.1 - q.2
theorem difL_get {a b : List Int} {i : Nat} {x y : Int} (h1 : a[i]? = some x) (h2 : b[i]? = some y) : (difL a b)[i]? = some (x - y) := by
  unfold difL
  rw [List.getElem?_map, List.getElem?_zip_eq_some (z := (x, y)) |>.mpr ⟨h1, h2⟩]
  rfl
theorem difL_len {a b : List Int} (h : a.length = b.length) : (difL a b).length = a.length := by
  simp [difL]
  omega
structure Sqn (n k : Int) (x : Int → Int) : Prop where
  up : ∀ i, x (i - 1) < x i
  per : ∀ i, x (i + k) = x i + n
def cal (n c y : Int) : Int := y - (y - c) % n
def fCall (n c : Int) (x : Int → Int) : Int → Int := fun i => if x (i - 1) < cal n c (x i) then cal n c (x i) else x i
theorem cal_le {n c y : Int} (n0 : 0 < n) : cal n c y ≤ y ∧ y - n < cal n c y := by
  have h1 := Int.emod_nonneg (y - c) (show n ≠ 0 by omega)
  have h2 := Int.emod_lt_of_pos (y - c) n0
  unfold cal
  omega
theorem cal_mod {n c y : Int} : ∃ m, cal n c y = c + n * m := ⟨(y - c) / n, by
  have := Int.mul_ediv_add_emod (y - c) n
  unfold cal
  omega⟩
theorem cal_one {n c a b : Int} {y z : Int} (n0 : 0 < n) (ha : a = cal n c y) (hb : b = cal n c z) (h1 : a - b < n) (h2 : b - a < n) : a = b := by
  obtain ⟨m, hm⟩ := cal_mod (n := n) (c := c) (y := y)
  obtain ⟨l, hl⟩ := cal_mod (n := n) (c := c) (y := z)
  rw [← ha] at hm
  rw [← hb] at hl
  have e : a - b = n * (m - l) := by rw [Int.mul_sub]; omega
  have hz : m - l = 0 := by
    rcases Int.lt_trichotomy (m - l) 0 with h | h | h
    · have : n * (m - l) ≤ n * (-1) := Int.mul_le_mul_of_nonneg_left (by omega) (by omega)
      omega
    · exact h
    · have : n * 1 ≤ n * (m - l) := Int.mul_le_mul_of_nonneg_left (by omega) (by omega)
      omega
  rw [hz] at e
  omega
theorem cal_eq {n c y z : Int} (n0 : 0 < n) (h : cal n c z ≤ y) (hyz : y ≤ z) : cal n c y = cal n c z := by
  have a := cal_le (n := n) (c := c) (y := y) n0
  have b := cal_le (n := n) (c := c) (y := z) n0
  exact cal_one n0 rfl rfl (by omega) (by omega)
theorem cal_mono {n c y z : Int} (n0 : 0 < n) (hyz : y ≤ z) : cal n c y ≤ cal n c z := by
  by_cases h : cal n c z ≤ y
  · rw [cal_eq n0 h hyz]
    exact Int.le_refl _
  · have a := cal_le (n := n) (c := c) (y := y) n0
    omega
theorem cal_add {n c y : Int} : cal n c (y + n) = cal n c y + n := by
  unfold cal
  rw [show y + n - c = (y - c) + n by omega, Int.add_emod_right]
  omega
theorem f_le {n c : Int} {x : Int → Int} (n0 : 0 < n) (i : Int) : fCall n c x i ≤ x i := by
  have := cal_le (n := n) (c := c) (y := x i) n0
  unfold fCall
  split <;> omega
theorem f_gt {n c : Int} {x : Int → Int} (h : ∀ i, x (i - 1) < x i) (i : Int) : x (i - 1) < fCall n c x i := by
  have := h i
  unfold fCall
  split <;> omega
theorem Sqn.call {n k : Int} {x : Int → Int} (h : Sqn n k x) (n0 : 0 < n) (c : Int) : Sqn n k (fCall n c x) := by
  refine ⟨fun i => ?_, fun i => ?_⟩
  · have h1 := f_le (c := c) (x := x) n0 (i - 1)
    have h2 := f_gt (n := n) (c := c) h.up i
    omega
  · unfold fCall
    rw [h.per i, cal_add, show i + k - 1 = (i - 1) + k by omega, h.per (i - 1)]
    by_cases hc : x (i - 1) < cal n c (x i)
    · rw [if_pos hc, if_pos (by omega)]
    · rw [if_neg hc, if_neg (by omega)]
theorem Sqn.lt {n k : Int} {x : Int → Int} (h : Sqn n k x) (i : Int) : ∀ d : Nat, 0 < d → x i < x (i + (d : Int))
  | 0, h0 => absurd h0 (Nat.lt_irrefl _)
  | 1, _ => by
    have := h.up (i + 1)
    rw [show i + 1 - 1 = i by omega] at this
    exact this
  | d + 2, _ => by
    have h1 := h.lt i (d + 1) (by omega)
    have h2 := h.up (i + ((d + 2 : Nat) : Int))
    rw [show i + ((d + 2 : Nat) : Int) - 1 = i + ((d + 1 : Nat) : Int) by omega] at h2
    omega
theorem Sqn.ltI {n k : Int} {x : Int → Int} (h : Sqn n k x) {i j : Int} (hij : i < j) : x i < x j := by
  have := h.lt i (j - i).toNat (by omega)
  rw [show i + ((j - i).toNat : Int) = j by omega] at this
  exact this
theorem Sqn.far {n k : Int} {x : Int → Int} (h : Sqn n k x) (i : Int) : ∀ d : Nat, x i + (d : Int) ≤ x (i + (d : Int))
  | 0 => by simp
  | d + 1 => by
    have h1 := h.far i d
    have h2 := h.up (i + ((d + 1 : Nat) : Int))
    rw [show i + ((d + 1 : Nat) : Int) - 1 = i + (d : Int) by omega] at h2
    omega
theorem Sqn.gap {n k : Int} {x : Int → Int} (h : Sqn n k x) (k0 : 1 ≤ k) (i : Int) : x i ≤ x (i - 1) + n := by
  have h1 := h.per (i - k)
  rw [show i - k + k = i by omega] at h1
  have h2 : x (i - k) ≤ x (i - 1) := by
    by_cases e : k = 1
    · subst e
      exact Int.le_refl _
    · have := h.ltI (i := i - k) (j := i - 1) (by omega)
      omega
  omega
def minS (x y : Int → Int) : Int → Int := fun i => min (x i) (y i)
theorem Sqn.min {n k : Int} {x y : Int → Int} (h : Sqn n k x) (g : Sqn n k y) : Sqn n k (minS x y) := by
  refine ⟨fun i => ?_, fun i => ?_⟩
  · have h1 := h.up i
    have h2 := g.up i
    unfold minS
    omega
  · unfold minS
    rw [h.per, g.per]
    omega
theorem call_min_le {n k c : Int} {x y : Int → Int} (h : Sqn n k x) (g : Sqn n k y) (n0 : 0 < n) (k0 : 1 ≤ k) (i : Int) (hxy : x i ≤ y i) : fCall n c (minS x y) i = Min.min (fCall n c x i) (fCall n c y i) := by
  have hx := cal_le (n := n) (c := c) (y := x i) n0
  have hy := cal_le (n := n) (c := c) (y := y i) n0
  have hm := cal_mono (c := c) n0 hxy
  have gx := h.gap k0 i
  have gy := g.gap k0 i
  have e : minS x y i = x i := by unfold minS; omega
  have e1 : minS x y (i - 1) = Min.min (x (i - 1)) (y (i - 1)) := rfl
  by_cases hq : cal n c (y i) ≤ x i
  · have eq := cal_eq (c := c) n0 hq hxy
    unfold fCall
    rw [e, e1, eq]
    split <;> split <;> split <;> omega
  · have hd : cal n c (x i) + n ≤ cal n c (y i) := by
      by_cases hh : cal n c (x i) + n ≤ cal n c (y i)
      · exact hh
      · have := cal_one (a := cal n c (x i)) (b := cal n c (y i)) n0 rfl rfl (by omega) (by omega)
        omega
    unfold fCall
    rw [e, e1]
    split <;> split <;> split <;> omega
theorem minS_comm (x y : Int → Int) : minS x y = minS y x := by
  funext i
  unfold minS
  omega
theorem call_min {n k c : Int} {x y : Int → Int} (h : Sqn n k x) (g : Sqn n k y) (n0 : 0 < n) (k0 : 1 ≤ k) : fCall n c (minS x y) = minS (fCall n c x) (fCall n c y) := by
  funext i
  by_cases hxy : x i ≤ y i
  · exact call_min_le h g n0 k0 i hxy
  · rw [minS_comm x y, minS_comm (fCall n c x)]
    exact call_min_le g h n0 k0 i (by omega)
def fCalls (n : Int) (cs : List Int) (x : Int → Int) : Int → Int := cs.foldl (fun x c => fCall n c x) x
theorem Sqn.calls {n k : Int} (n0 : 0 < n) : ∀ (cs : List Int) {x : Int → Int}, Sqn n k x → Sqn n k (fCalls n cs x)
  | [], _, h => h
  | c :: cs, _, h => Sqn.calls n0 cs (h.call n0 c)
theorem calls_min {n k : Int} (n0 : 0 < n) (k0 : 1 ≤ k) : ∀ (cs : List Int) {x y : Int → Int}, Sqn n k x → Sqn n k y → fCalls n cs (minS x y) = minS (fCalls n cs x) (fCalls n cs y)
  | [], _, _, _, _ => rfl
  | c :: cs, x, y, h, g => by
    show fCalls n cs (fCall n c (minS x y)) = minS (fCalls n cs (fCall n c x)) (fCalls n cs (fCall n c y))
    rw [call_min h g n0 k0, calls_min n0 k0 cs (h.call n0 c) (g.call n0 c)]
theorem calls_mono {n k : Int} (n0 : 0 < n) (k0 : 1 ≤ k) {cs : List Int} {x y : Int → Int} (h : Sqn n k x) (g : Sqn n k y) (hxy : ∀ i, x i ≤ y i) (i : Int) : fCalls n cs x i ≤ fCalls n cs y i := by
  have e : minS x y = x := by
    funext i
    have := hxy i
    unfold minS
    omega
  have := calls_min n0 k0 cs h g
  rw [e] at this
  have := congrFun this i
  unfold minS at this
  omega
theorem call_shift {n c : Int} {x : Int → Int} (a m : Int) : fCall n c (fun i => x (i + a) + n * m) = fun i => fCall n c x (i + a) + n * m := by
  funext i
  unfold fCall
  have e : cal n c (x (i + a) + n * m) = cal n c (x (i + a)) + n * m := by
    unfold cal
    rw [show x (i + a) + n * m - c = (x (i + a) - c) + n * m by omega, Int.add_mul_emod_self_left]
    omega
  show (if x (i - 1 + a) + n * m < cal n c (x (i + a) + n * m) then cal n c (x (i + a) + n * m) else x (i + a) + n * m) = _
  rw [e, show i - 1 + a = i + a - 1 by omega]
  split <;> split <;> omega
theorem calls_shift {n : Int} (a m : Int) : ∀ (cs : List Int) (x : Int → Int), fCalls n cs (fun i => x (i + a) + n * m) = fun i => fCalls n cs x (i + a) + n * m
  | [], _ => rfl
  | c :: cs, x => by
    show fCalls n cs (fCall n c _) = _
    rw [call_shift, calls_shift a m cs]
    rfl
theorem Sqn.shift {n k : Int} {x : Int → Int} (h : Sqn n k x) (a m : Int) : Sqn n k fun i => x (i + a) + n * m := by
  refine ⟨fun i => ?_, fun i => ?_⟩
  · have := h.up (i + a)
    rw [show i - 1 + a = i + a - 1 by omega]
    omega
  · have := h.per (i + a)
    rw [show i + k + a = i + a + k by omega, this]
    omega
theorem Sqn.pm {n k : Int} {x : Int → Int} (h : Sqn n k x) (i : Int) : ∀ m : Int, x (i + k * m) = x i + n * m := by
  have hn : ∀ (m : Nat) (i : Int), x (i + k * (m : Int)) = x i + n * (m : Int) := by
    intro m
    induction m with
    | zero => intro i; simp
    | succ m ih =>
      intro i
      have e1 : i + k * ((m + 1 : Nat) : Int) = (i + k * (m : Int)) + k := by
        rw [show ((m + 1 : Nat) : Int) = (m : Int) + 1 by omega, Int.mul_add]
        omega
      have e2 : n * ((m + 1 : Nat) : Int) = n * (m : Int) + n := by
        rw [show ((m + 1 : Nat) : Int) = (m : Int) + 1 by omega, Int.mul_add]
        omega
      rw [e1, h.per, ih, e2]
      omega
  intro m
  rcases Int.le_total 0 m with hm | hm
  · obtain ⟨j, rfl⟩ : ∃ j : Nat, m = (j : Int) := ⟨m.toNat, by omega⟩
    exact hn j i
  · obtain ⟨j, rfl⟩ : ∃ j : Nat, m = -(j : Int) := ⟨(-m).toNat, by omega⟩
    have := hn j (i + k * -(j : Int))
    rw [show i + k * -(j : Int) + k * (j : Int) = i by rw [Int.mul_neg]; omega] at this
    rw [Int.mul_neg n]
    omega
structure Nbr (k : Nat) (σ : Nat → Int) : Prop where
  inj : ∀ a b, a < k → b < k → ∀ m : Int, σ a = σ b + (k : Int) * m → a = b
  sur : ∀ i : Int, ∃ a, a < k ∧ ∃ m : Int, i = σ a + (k : Int) * m
def rowOf (x : Int → Int) (σ : Nat → Int) (k : Nat) : List Int := (List.range k).map fun a => x (σ a)
theorem rowOf_get {x : Int → Int} {σ : Nat → Int} {k a : Nat} (h : a < k) : (rowOf x σ k)[a]? = some (x (σ a)) := by
  unfold rowOf
  rw [List.getElem?_map, List.getElem?_range h]
  rfl
theorem rowOf_len {x : Int → Int} {σ : Nat → Int} {k : Nat} : (rowOf x σ k).length = k := by simp [rowOf]
theorem rowOf_inv {x : Int → Int} {σ : Nat → Int} {k a : Nat} {s : Int} (h : (rowOf x σ k)[a]? = some s) : a < k ∧ s = x (σ a) := by
  have hl := (List.getElem?_eq_some_iff.mp h).1
  rw [rowOf_len] at hl
  rw [rowOf_get hl] at h
  exact ⟨hl, (Option.some.inj h).symm⟩
theorem push_row {n k : Nat} {c : Int} {x : Int → Int} {σ : Nat → Int} (n0 : 0 < n) (k0 : 1 ≤ k) (h : Sqn n k x) (ν : Nbr k σ) : pushL n (rowOf x σ k) c = rowOf (fCall n c x) σ k := by
  have nI : (0 : Int) < n := by omega
  have hne : rowOf x σ k ≠ [] := fun e => by
    have := congrArg List.length e
    rw [rowOf_len] at this
    simp at this
    omega
  obtain ⟨a, s, nr⟩ := near_ex (n := (n : Int)) (c := c) hne
  obtain ⟨ha, rfl⟩ := rowOf_inv nr.at_
  have ec : x (σ a) - dst n c (x (σ a)) = cal n c (x (σ a)) := rfl
  have hit : x (σ a - 1) < cal n c (x (σ a)) := by
    refine Int.not_le.mp fun hc => ?_
    have hup := h.up (σ a)
    have e := cal_eq (c := c) nI hc (by omega)
    obtain ⟨b, hb, m, hm⟩ := ν.sur (σ a - 1)
    have e2 := h.pm (σ b) m
    rw [← hm] at e2
    have hle := nr.le b _ (rowOf_get hb)
    have e3 : dst n c (x (σ b)) = dst n c (x (σ a - 1)) := by
      unfold dst
      rw [e2, show x (σ b) + (n : Int) * m - c = (x (σ b) - c) + (n : Int) * m by omega, Int.add_mul_emod_self_left]
    rw [e3] at hle
    unfold cal at e
    unfold dst at hle
    omega
  rw [push_near n0 nr, ec]
  refine List.ext_getElem? fun b => ?_
  by_cases hb : b < k
  · rw [rowOf_get hb]
    by_cases e : a = b
    · subst e
      rw [List.getElem?_set_self (by rw [rowOf_len]; exact ha)]
      unfold fCall
      rw [if_pos hit]
    · rw [List.getElem?_set_ne e, rowOf_get hb]
      unfold fCall
      rw [if_neg]
      intro hc
      apply e
      obtain ⟨ma, hma⟩ := cal_mod (n := (n : Int)) (c := c) (y := x (σ a))
      obtain ⟨mb, hmb⟩ := cal_mod (n := (n : Int)) (c := c) (y := x (σ b))
      have p0 := h.pm (σ b) (ma - mb)
      have p1 := h.pm (σ b - 1) (ma - mb)
      have em : (n : Int) * (ma - mb) = (n : Int) * ma - (n : Int) * mb := Int.mul_sub ..
      have la := cal_le (n := (n : Int)) (c := c) (y := x (σ a)) nI
      have lb := cal_le (n := (n : Int)) (c := c) (y := x (σ b)) nI
      have hij : σ a = σ b + (k : Int) * (ma - mb) := by
        rcases Int.lt_trichotomy (σ a) (σ b + (k : Int) * (ma - mb)) with hlt | he | hgt
        · have : x (σ a) ≤ x (σ b + (k : Int) * (ma - mb) - 1) := by
            by_cases e2 : σ a = σ b + (k : Int) * (ma - mb) - 1
            · rw [e2]
              exact Int.le_refl _
            · have := h.ltI (i := σ a) (j := σ b + (k : Int) * (ma - mb) - 1) (by omega)
              omega
          rw [show σ b + (k : Int) * (ma - mb) - 1 = σ b - 1 + (k : Int) * (ma - mb) by omega] at this
          omega
        · exact he
        · have : x (σ b + (k : Int) * (ma - mb)) ≤ x (σ a - 1) := by
            by_cases e2 : σ b + (k : Int) * (ma - mb) = σ a - 1
            · rw [e2]
              exact Int.le_refl _
            · have := h.ltI (i := σ b + (k : Int) * (ma - mb)) (j := σ a - 1) (by omega)
              omega
          omega
      exact ν.inj a b ha hb _ hij
  · rw [List.getElem?_eq_none (by rw [List.length_set, rowOf_len]; omega), List.getElem?_eq_none (by rw [rowOf_len]; omega)]
theorem pushS_row {n k : Nat} {σ : Nat → Int} (n0 : 0 < n) (k0 : 1 ≤ k) (ν : Nbr k σ) : ∀ (cs : List Int) {x : Int → Int}, Sqn n k x → pushS n (rowOf x σ k) cs = rowOf (fCalls n cs x) σ k
  | [], _, _ => rfl
  | c :: cs, x, h => by
    show pushS n (pushL n (rowOf x σ k) c) cs = _
    rw [push_row n0 k0 h ν, pushS_row n0 k0 ν cs (h.call (by omega) c)]
    rfl
def xOf (n : Nat) (ss : List Int) : Int → Int := fun i => ss.getD (i % (ss.length : Int)).toNat 0 + (n : Int) * (i / (ss.length : Int))
def pk (n k : Int) (c : Int) : Int → Int := fun i => c + ((i + k - 1) % k - (k - 1)) + n * ((i + k - 1) / k)
theorem div_step {k i : Int} (k0 : 1 ≤ k) : (i % k = 0 ∧ (i - 1) % k = k - 1 ∧ (i - 1) / k = i / k - 1) ∨ (0 < i % k ∧ (i - 1) % k = i % k - 1 ∧ (i - 1) / k = i / k) := by
  have h1 := Int.emod_nonneg i (show k ≠ 0 by omega)
  have h2 := Int.emod_lt_of_pos i (show 0 < k by omega)
  have h3 := Int.mul_ediv_add_emod i k
  have h4 := Int.emod_nonneg (i - 1) (show k ≠ 0 by omega)
  have h5 := Int.emod_lt_of_pos (i - 1) (show 0 < k by omega)
  have h6 := Int.mul_ediv_add_emod (i - 1) k
  generalize hq : i / k = q at *
  generalize hp : (i - 1) / k = p at *
  generalize i % k = r at *
  generalize (i - 1) % k = t at *
  have e : k * (q - p) = t - r + 1 := by rw [Int.mul_sub]; omega
  generalize hd : q - p = d at e
  have hd2 : d = 0 ∨ d = 1 := by
    rcases Int.lt_or_le d 0 with h | h
    · have : k * d ≤ k * (-1) := Int.mul_le_mul_of_nonneg_left (by omega) (by omega)
      omega
    · rcases Int.lt_or_le 1 d with h' | h'
      · have : k * 2 ≤ k * d := Int.mul_le_mul_of_nonneg_left (by omega) (by omega)
        omega
      · omega
  rcases hd2 with rfl | rfl
  · right
    omega
  · left
    omega
theorem mul_pred (n q : Int) : n * (q - 1) = n * q - n := by
  rw [Int.mul_sub]
  omega
theorem sqn_xOf {n : Nat} {ss : List Int} (tb : Tbl n ss) (hne : ss ≠ []) : Sqn n ss.length (xOf n ss) := by
  have k0 : 1 ≤ (ss.length : Int) := by
    have := List.length_pos_iff.mpr hne
    omega
  have hin : ∀ r : Int, 0 ≤ r → r < (ss.length : Int) → ∃ v, ss[r.toNat]? = some v ∧ ss.getD r.toNat 0 = v ∧ 0 ≤ v ∧ v < (n : Int) := fun r r0 r1 => by
    have hl : r.toNat < ss.length := by omega
    refine ⟨ss[r.toNat], List.getElem?_eq_getElem hl, ?_, tb.mem _ (List.getElem_mem hl)⟩
    rw [List.getD_eq_getElem?_getD, List.getElem?_eq_getElem hl]
    rfl
  refine ⟨fun i => ?_, fun i => ?_⟩
  · unfold xOf
    have h1 := Int.emod_nonneg i (show (ss.length : Int) ≠ 0 by omega)
    have h2 := Int.emod_lt_of_pos i (show 0 < (ss.length : Int) by omega)
    rcases div_step (i := i) k0 with ⟨e1, e2, e3⟩ | ⟨e1, e2, e3⟩
    · rw [e2, e3, mul_pred]
      obtain ⟨v, _, hv, hv2⟩ := hin (i % (ss.length : Int)) h1 h2
      obtain ⟨u, _, hu, hu2⟩ := hin ((ss.length : Int) - 1) (by omega) (by omega)
      rw [hu, hv]
      omega
    · rw [e2, e3]
      obtain ⟨v, hv1, hv, hv2⟩ := hin (i % (ss.length : Int)) h1 h2
      obtain ⟨u, hu1, hu, hu2⟩ := hin (i % (ss.length : Int) - 1) (by omega) (by omega)
      rw [hu, hv]
      obtain ⟨l1, g1⟩ := List.getElem?_eq_some_iff.mp hv1
      obtain ⟨l2, g2⟩ := List.getElem?_eq_some_iff.mp hu1
      have := List.pairwise_iff_getElem.mp tb.asc _ _ l2 l1 (by omega)
      rw [g1, g2] at this
      omega
  · unfold xOf
    rw [Int.add_emod_right, Int.add_ediv_of_dvd_right (Int.dvd_refl _), Int.ediv_self (by omega), Int.mul_add]
    omega
theorem sqn_pk {n k c : Int} (k0 : 1 ≤ k) (kn : k ≤ n) : Sqn n k (pk n k c) := by
  refine ⟨fun i => ?_, fun i => ?_⟩
  · unfold pk
    rw [show i - 1 + k - 1 = (i + k - 1) - 1 by omega]
    have h1 := Int.emod_nonneg (i + k - 1) (show k ≠ 0 by omega)
    have h2 := Int.emod_lt_of_pos (i + k - 1) (show 0 < k by omega)
    rcases div_step (i := i + k - 1) k0 with ⟨e1, e2, e3⟩ | ⟨e1, e2, e3⟩
    · rw [e2, e3, mul_pred]
      omega
    · rw [e2, e3]
      omega
  · unfold pk
    rw [show i + k + k - 1 = (i + k - 1) + k by omega, Int.add_emod_right, Int.add_ediv_of_dvd_right (Int.dvd_refl _), Int.ediv_self (by omega), Int.mul_add]
    omega
theorem nbr_up {k : Nat} (k0 : 1 ≤ k) : Nbr k fun a => (a : Int) := by
  refine ⟨fun a b ha hb m e => ?_, fun i => ?_⟩
  · have h := mod_inj (n := (k : Int)) (a := (a : Int)) (b := (b : Int)) (by omega) (by rw [e, Int.add_mul_emod_self_left]) (by omega) (by omega)
    omega
  · have h1 := Int.emod_nonneg i (show (k : Int) ≠ 0 by omega)
    have h2 := Int.emod_lt_of_pos i (show 0 < (k : Int) by omega)
    have h3 := Int.mul_ediv_add_emod i k
    exact ⟨(i % (k : Int)).toNat, by omega, i / (k : Int), by omega⟩
theorem nbr_down {k : Nat} (k0 : 1 ≤ k) : Nbr k fun a => -(a : Int) := by
  refine ⟨fun a b ha hb m e => ?_, fun i => ?_⟩
  · have e : -(a : Int) = -(b : Int) + (k : Int) * m := e
    have h := mod_inj (n := (k : Int)) (a := -(a : Int)) (b := -(b : Int)) (by omega) (by rw [e, Int.add_mul_emod_self_left]) (by omega) (by omega)
    omega
  · have h1 := Int.emod_nonneg (-i) (show (k : Int) ≠ 0 by omega)
    have h2 := Int.emod_lt_of_pos (-i) (show 0 < (k : Int) by omega)
    have h3 := Int.mul_ediv_add_emod (-i) k
    refine ⟨((-i) % (k : Int)).toNat, by omega, -((-i) / (k : Int)), ?_⟩
    rw [Int.mul_neg]
    omega
theorem row_xOf {n : Nat} {ss : List Int} (hne : ss ≠ []) : rowOf (xOf n ss) (fun a => (a : Int)) ss.length = ss := by
  have k0 := List.length_pos_iff.mpr hne
  refine List.ext_getElem? fun a => ?_
  by_cases ha : a < ss.length
  · rw [rowOf_get ha, List.getElem?_eq_getElem ha]
    unfold xOf
    rw [Int.emod_eq_of_lt (by omega) (by omega), Int.ediv_eq_zero_of_lt (by omega) (by omega), Int.mul_zero, Int.add_zero, Int.toNat_natCast, List.getD_eq_getElem?_getD, List.getElem?_eq_getElem ha]
    rfl
  · rw [List.getElem?_eq_none (by rw [rowOf_len]; omega), List.getElem?_eq_none (by omega)]
theorem pk_at {n k c : Int} {a : Int} (a0 : 0 ≤ a) (a1 : a < k) : pk n k c (-a) = c - a := by
  unfold pk
  rw [Int.emod_eq_of_lt (by omega) (by omega), Int.ediv_eq_zero_of_lt (by omega) (by omega), Int.mul_zero]
  omega
theorem pk_turn {n k c m : Int} : pk n k (c + n * m) = fun i => pk n k c (i + 0) + n * m := by
  funext i
  unfold pk
  rw [Int.add_zero]
  omega
def mvS (n k : Int) (cs : List Int) (c j : Int) : Int := c - j - fCalls n cs (pk n k c) (-j)
theorem mvS_turn {n k : Int} {cs : List Int} {c m j : Int} : mvS n k cs (c + n * m) j = mvS n k cs c j := by
  unfold mvS
  rw [pk_turn, calls_shift]
  dsimp only
  rw [Int.add_zero]
  omega
theorem mvS_mod {n k : Int} {cs : List Int} {c j : Int} : mvS n k cs (c % n) j = mvS n k cs c j := by
  have h := Int.mul_ediv_add_emod c n
  have := mvS_turn (n := n) (k := k) (cs := cs) (c := c % n) (m := c / n) (j := j)
  rw [← this]
  congr 1
  omega
def pkAt (n k : Int) (x : Int → Int) (t : Int) : Int → Int := fun i => pk n k (x t) (i + -t) + n * 0
theorem pkAt_ge {n k : Int} {x : Int → Int} (h : Sqn n k x) (k0 : 1 ≤ k) (t i : Int) : x i ≤ pkAt n k x t i := by
  have h1 := Int.emod_nonneg (i - t + k - 1) (show k ≠ 0 by omega)
  have h2 := Int.emod_lt_of_pos (i - t + k - 1) (show 0 < k by omega)
  have h3 := Int.mul_ediv_add_emod (i - t + k - 1) k
  unfold pkAt pk
  rw [show i + -t + k - 1 = i - t + k - 1 by omega]
  generalize (i - t + k - 1) % k = r at *
  generalize (i - t + k - 1) / k = q at *
  have e : i = (t + (r - (k - 1))) + k * q := by omega
  have p := h.pm (t + (r - (k - 1))) q
  rw [← e] at p
  have f := h.far (t + (r - (k - 1))) (k - 1 - r).toNat
  rw [show t + (r - (k - 1)) + ((k - 1 - r).toNat : Int) = t by omega] at f
  omega
theorem pkAt_eq {n k : Int} {x : Int → Int} (h : Sqn n k x) (k0 : 1 ≤ k) (t q : Int) : pkAt n k x t (t + k * q) = x (t + k * q) := by
  rw [h.pm t q]
  unfold pkAt pk
  rw [show t + k * q + -t + k - 1 = (k - 1) + k * q by omega, Int.add_mul_emod_self_left, Int.emod_eq_of_lt (by omega) (by omega), Int.add_mul_ediv_left _ _ (by omega), Int.ediv_eq_zero_of_lt (by omega) (by omega)]
  rw [Int.zero_add]
  omega
theorem sqn_pkAt {n k : Int} {x : Int → Int} {t : Int} (k0 : 1 ≤ k) (kn : k ≤ n) : Sqn n k (pkAt n k x t) := (sqn_pk k0 kn).shift (-t) 0
theorem calls_pkAt {n k : Int} {x : Int → Int} {t i : Int} {cs : List Int} : fCalls n cs (pkAt n k x t) i = x t - (t - i) - mvS n k cs (x t) (t - i) := by
  unfold pkAt mvS
  rw [calls_shift, show -(t - i) = i + -t by omega]
  dsimp only
  omega
def lst (n k : Int) (x : Int → Int) (i : Int) : Nat → Int → Int
  | 0 => pkAt n k x i
  | m + 1 => minS (lst n k x i m) (pkAt n k x (i + ((m + 1 : Nat) : Int)))
theorem lst_le {n k : Int} {x : Int → Int} {i : Int} : ∀ (m j : Nat), j ≤ m → ∀ t, lst n k x i m t ≤ pkAt n k x (i + (j : Int)) t
  | 0, j, hj, t => by
    have : j = 0 := by omega
    subst this
    simp [lst]
  | m + 1, j, hj, t => by
    show min _ _ ≤ _
    by_cases e : j = m + 1
    · subst e
      exact Int.min_le_right ..
    · exact Int.le_trans (Int.min_le_left ..) (lst_le m j (by omega) t)
theorem lst_ge {n k : Int} {x : Int → Int} {i : Int} (h : Sqn n k x) (k0 : 1 ≤ k) : ∀ (m : Nat) t, x t ≤ lst n k x i m t
  | 0, t => pkAt_ge h k0 i t
  | m + 1, t => Int.le_min.mpr ⟨lst_ge h k0 m t, pkAt_ge h k0 _ t⟩
theorem lst_eq {n : Int} {k : Nat} {x : Int → Int} {i : Int} (h : Sqn n k x) (k0 : 1 ≤ k) : lst n k x i (k - 1) = x := by
  funext t
  have h1 := Int.emod_nonneg (t - i) (show (k : Int) ≠ 0 by omega)
  have h2 := Int.emod_lt_of_pos (t - i) (show 0 < (k : Int) by omega)
  have h3 := Int.mul_ediv_add_emod (t - i) k
  have a := lst_ge (i := i) h (by omega) (k - 1) t
  have b := lst_le (n := n) (k := k) (x := x) (i := i) (k - 1) ((t - i) % (k : Int)).toNat (by omega) t
  have e : t = (i + (((t - i) % (k : Int)).toNat : Int)) + (k : Int) * ((t - i) / (k : Int)) := by omega
  have c := pkAt_eq h (by omega) (i + (((t - i) % (k : Int)).toNat : Int)) ((t - i) / (k : Int))
  rw [← e] at c
  omega
theorem lst_sqn {n k : Int} {x : Int → Int} {i : Int} (k0 : 1 ≤ k) (kn : k ≤ n) : ∀ m, Sqn n k (lst n k x i m)
  | 0 => sqn_pkAt k0 kn
  | m + 1 => (lst_sqn k0 kn m).min (sqn_pkAt k0 kn)
theorem lst_calls {n k : Int} {x : Int → Int} {i t : Int} {cs : List Int} (k0 : 1 ≤ k) (kn : k ≤ n) : ∀ m, ∃ j, j ≤ m ∧ fCalls n cs (lst n k x i m) t = fCalls n cs (pkAt n k x (i + ((j : Nat) : Int))) t
  | 0 => ⟨0, Nat.le_refl _, by simp [lst]⟩
  | m + 1 => by
    obtain ⟨j, hj, e⟩ := lst_calls (x := x) (i := i) (t := t) (cs := cs) k0 kn m
    have := congrFun (calls_min (by omega) k0 cs (lst_sqn (x := x) (i := i) k0 kn m) (sqn_pkAt (x := x) (t := i + ((m + 1 : Nat) : Int)) k0 kn)) t
    have this : fCalls n cs (lst n k x i (m + 1)) t = min (fCalls n cs (lst n k x i m) t) (fCalls n cs (pkAt n k x (i + ((m + 1 : Nat) : Int))) t) := this
    rcases Int.le_total (fCalls n cs (lst n k x i m) t) (fCalls n cs (pkAt n k x (i + ((m + 1 : Nat) : Int))) t) with hl | hl
    · exact ⟨j, by omega, by rw [this, ← e]; omega⟩
    · exact ⟨m + 1, Nat.le_refl _, by rw [this]; omega⟩
def frmA (n k : Int) (cs : List Int) (x : Int → Int) (i j : Int) : Int := mvS n k cs (x (i + j)) j - (x (i + j) - x i - j)
theorem steps_le {n k : Int} {x : Int → Int} {cs : List Int} (h : Sqn n k x) (k0 : 1 ≤ k) (kn : k ≤ n) (i j : Int) : frmA n k cs x i j ≤ x i - fCalls n cs x i := by
  have := calls_mono (cs := cs) (by omega) k0 h (sqn_pkAt (x := x) (t := i + j) k0 kn) (pkAt_ge h k0 (i + j)) i
  rw [calls_pkAt, show i + j - i = j by omega] at this
  unfold frmA
  omega
theorem steps_ex {n : Int} {k : Nat} {x : Int → Int} {cs : List Int} (h : Sqn n k x) (k0 : 1 ≤ k) (kn : (k : Int) ≤ n) (i : Int) : ∃ j : Nat, j < k ∧ frmA n k cs x i j = x i - fCalls n cs x i := by
  obtain ⟨j, hj, e⟩ := lst_calls (x := x) (i := i) (t := i) (cs := cs) (show 1 ≤ (k : Int) by omega) kn (k - 1)
  rw [lst_eq h k0, calls_pkAt, show i + (j : Int) - i = j by omega] at e
  refine ⟨j, by omega, ?_⟩
  unfold frmA
  omega
theorem stT_difU {n : Nat} {us cs : List Int} (n0 : 0 < n) (hne : us ≠ []) (hc : ∀ c ∈ cs, 0 ≤ c ∧ c < (n : Int)) : ∀ j, j ≤ cs.length → stT n (us.map (· % (n : Int))) cs j = difL us (pushS n us (cs.take j))
  | 0, _ => by
    refine List.ext_getElem? fun i => ?_
    show ((us.map (· % (n : Int))).map fun _ => (0 : Int))[i]? = (difL us us)[i]?
    cases h : us[i]? with
    | none =>
      rw [List.getElem?_map, List.getElem?_map, h]
      have : us.length ≤ i := List.getElem?_eq_none_iff.mp h
      rw [List.getElem?_eq_none (by rw [difL_len rfl]; exact this)]
      rfl
    | some x =>
      rw [List.getElem?_map, List.getElem?_map, h, difL_get h h, Int.sub_self]
      rfl
  | j + 1, hj => by
    obtain ⟨c, hcj⟩ : ∃ c, cs[j]? = some c := ⟨_, List.getElem?_eq_getElem (by omega)⟩
    have ih := stT_difU n0 hne hc j (by omega)
    have lj := pushS_len n0 (cs.take j) hne
    have lj1 := pushS_len n0 (cs.take (j + 1)) hne
    have hmem : ∀ i : Nat, ∀ c ∈ cs.take i, 0 ≤ c ∧ c < (n : Int) := fun i c h => hc c (List.mem_of_mem_take h)
    have r0 := pushS_mod n0 (cs.take j) hne (hmem j)
    have r1 := pushS_mod n0 (cs.take (j + 1)) hne (hmem (j + 1))
    rw [stT_succ, ih]
    refine List.ext_getElem? fun i => ?_
    cases h : us[i]? with
    | none =>
      have : us.length ≤ i := List.getElem?_eq_none_iff.mp h
      rw [List.getElem?_eq_none, List.getElem?_eq_none]
      · rw [difL_len lj1.symm]
        exact this
      · rw [zipStep_len (by rw [difL_len lj.symm, runS_len, List.length_map]) (by rw [runS_len, runS_len]), difL_len lj.symm]
        exact this
    | some x =>
      have hi := (List.getElem?_eq_some_iff.mp h).1
      obtain ⟨u, hu⟩ : ∃ u, (pushS n us (cs.take j))[i]? = some u := ⟨_, List.getElem?_eq_getElem (by rw [lj]; exact hi)⟩
      obtain ⟨y, hy, h1, h2⟩ := push_step (c := c) (ne_of_len lj hne) n0 hu
      rw [← pushS_succ hcj] at hy
      have a0 : (runS n (us.map (· % (n : Int))) (cs.take j))[i]? = some (u % (n : Int)) := by
        rw [← r0, List.getElem?_map, hu]
        rfl
      have a1 : (runS n (us.map (· % (n : Int))) (cs.take (j + 1)))[i]? = some (y % (n : Int)) := by
        rw [← r1, List.getElem?_map, hy]
        rfl
      rw [zipStep_get (difL_get h hu) a0 a1, difL_get h hy, mod_dif ⟨h1, h2⟩]
      congr 1
      omega
theorem rowOf_ne {x : Int → Int} {σ : Nat → Int} {k : Nat} (k0 : 1 ≤ k) : rowOf x σ k ≠ [] := fun e => by
  have := congrArg List.length e
  rw [rowOf_len] at this
  simp at this
  omega
def modL (n : Nat) (us : List Int) : List Int := us.map (· % (n : Int))
theorem steps_row {n k : Nat} {x : Int → Int} {σ : Nat → Int} {cs : List Int} (n0 : 0 < n) (k0 : 1 ≤ k) (h : Sqn n k x) (ν : Nbr k σ) (hc : ∀ c ∈ cs, 0 ≤ c ∧ c < (n : Int)) : stepsL n (modL n (rowOf x σ k)) cs = rowOf (fun i => x i - fCalls n cs x i) σ k := by
  have e := stT_difU n0 (rowOf_ne (x := x) (σ := σ) k0) hc cs.length (Nat.le_refl _)
  rw [List.take_length, pushS_row n0 k0 ν cs h] at e
  rw [show stepsL n (modL n (rowOf x σ k)) cs = stT n ((rowOf x σ k).map (· % (n : Int))) cs cs.length from rfl, e]
  refine List.ext_getElem? fun a => ?_
  by_cases ha : a < k
  · rw [rowOf_get ha, difL_get (rowOf_get ha) (rowOf_get ha)]
  · rw [List.getElem?_eq_none (by rw [difL_len (by rw [rowOf_len, rowOf_len]), rowOf_len]; omega), List.getElem?_eq_none (by rw [rowOf_len]; omega)]
theorem pkS_row {n k : Nat} {c : Int} : pkS n k c = modL n (rowOf (pk n k c) (fun a => -(a : Int)) k) := by
  unfold pkS modL rowOf
  rw [List.map_map]
  refine List.map_congr_left fun b hb => ?_
  have := List.mem_range.mp hb
  show _ = pk n k c (-(b : Int)) % (n : Int)
  rw [pk_at (by omega) (by omega)]
theorem cell_mv {n k : Nat} {cs : List Int} {c : Int} {j : Nat} (k0 : 1 ≤ k) (kn : k ≤ n) (hc : ∀ c ∈ cs, 0 ≤ c ∧ c < (n : Int)) (c0 : 0 ≤ c) (c1 : c < n) (hj : j < k) : cell (mvL n k cs) c j = mvS n k cs c j := by
  unfold cell mvL
  rw [List.getD_eq_getElem?_getD (l := List.map _ _), List.getElem?_map, List.getElem?_range (by omega)]
  show (stepsL n (pkS n k (c.toNat : Int)) cs).getD j 0 = _
  rw [show ((c.toNat : Nat) : Int) = c by omega, pkS_row, steps_row (by omega) k0 (sqn_pk (by omega) (by omega)) (nbr_down k0) hc, List.getD_eq_getElem?_getD, rowOf_get hj]
  show pk n k c (-(j : Int)) - _ = _
  rw [pk_at (by omega) (by omega)]
  rfl
theorem Sqn.inj {n k : Int} {x : Int → Int} (h : Sqn n k x) {i j : Int} (e : x i = x j) : i = j := by
  rcases Int.lt_trichotomy i j with hl | he | hg
  · have := h.ltI hl
    omega
  · exact he
  · have := h.ltI hg
    omega
theorem dif_in {n : Int} {k : Nat} {x : Int → Int} (h : Sqn n k x) {i : Int} {j : Nat} (hj : j < k) : 0 ≤ x (i + (j : Int)) - x i ∧ x (i + (j : Int)) - x i < n := by
  have h1 := h.far i j
  have h2 := h.ltI (i := i + (j : Int)) (j := i + (k : Int)) (by omega)
  have h3 := h.per i
  omega
theorem mod_mod_sub (a b n : Int) : (a % n - b % n) % n = (a - b) % n := by rw [← Int.sub_emod]
theorem dsS_row {n k : Nat} {x : Int → Int} {σ : Nat → Int} {a : Nat} (n0 : 0 < n) (k0 : 1 ≤ k) (h : Sqn n k x) (ν : Nbr k σ) (ha : a < k) : dsS n (modL n (rowOf x σ k)) (x (σ a) % (n : Int)) = (List.range k).map fun (j : Nat) => x (σ a + (j : Int)) - x (σ a) := by
  have hasc : ((List.range k).map fun (j : Nat) => x (σ a + (j : Int)) - x (σ a)).Pairwise (· < ·) := by
    rw [List.pairwise_map]
    refine List.pairwise_lt_range.imp fun {i j} hij => ?_
    have := h.ltI (i := σ a + (i : Int)) (j := σ a + (j : Int)) (by omega)
    omega
  unfold dsS
  refine (srt_eq ?_ (hasc.imp fun {a b} h => by omega)).symm
  have e2 : (modL n (rowOf x σ k)).map (fun s => (s - x (σ a) % (n : Int)) % (n : Int)) = (List.range k).map fun b => (x (σ b) - x (σ a)) % (n : Int) := by
    unfold modL rowOf
    rw [List.map_map, List.map_map]
    refine List.map_congr_left fun b _ => ?_
    exact mod_mod_sub ..
  rw [e2]
  refine (List.perm_ext_iff_of_nodup (nodup_asc hasc) ?_).mpr fun v => ?_
  · refine nodup_map_of List.nodup_range fun b hb b' hb' e => ?_
    have hb := List.mem_range.mp hb
    have hb' := List.mem_range.mp hb'
    have e1 := Int.mul_ediv_add_emod (x (σ b) - x (σ a)) n
    have e3 := Int.mul_ediv_add_emod (x (σ b') - x (σ a)) n
    have ee : x (σ b) = x (σ b') + (n : Int) * ((x (σ b) - x (σ a)) / (n : Int) - (x (σ b') - x (σ a)) / (n : Int)) := by
      rw [Int.mul_sub]
      omega
    rw [← h.pm] at ee
    exact ν.inj b b' hb hb' _ (h.inj ee)
  · rw [List.mem_map, List.mem_map]
    constructor
    · rintro ⟨j, hj, rfl⟩
      have hj := List.mem_range.mp hj
      obtain ⟨b, hb, m, hm⟩ := ν.sur (σ a + (j : Int))
      refine ⟨b, List.mem_range.mpr hb, ?_⟩
      have p := h.pm (σ b) m
      rw [← hm] at p
      have d := dif_in h (i := σ a) hj
      have e4 : x (σ b) - x (σ a) = (x (σ a + (j : Int)) - x (σ a)) + (n : Int) * (-m) := by
        rw [Int.mul_neg]
        omega
      rw [e4, Int.add_mul_emod_self_left]
      exact Int.emod_eq_of_lt d.1 d.2
    · rintro ⟨b, hb, rfl⟩
      have h1 := Int.emod_nonneg (σ b - σ a) (show (k : Int) ≠ 0 by omega)
      have h2 := Int.emod_lt_of_pos (σ b - σ a) (show 0 < (k : Int) by omega)
      have h3 := Int.mul_ediv_add_emod (σ b - σ a) k
      refine ⟨((σ b - σ a) % (k : Int)).toNat, List.mem_range.mpr (by omega), ?_⟩
      have d := dif_in h (i := σ a) (j := ((σ b - σ a) % (k : Int)).toNat) (by omega)
      have p := h.pm (σ a + (((σ b - σ a) % (k : Int)).toNat : Int)) ((σ b - σ a) / (k : Int))
      rw [show σ a + (((σ b - σ a) % (k : Int)).toNat : Int) + (k : Int) * ((σ b - σ a) / (k : Int)) = σ b by omega] at p
      have e4 : x (σ b) - x (σ a) = (x (σ a + (((σ b - σ a) % (k : Int)).toNat : Int)) - x (σ a)) + (n : Int) * ((σ b - σ a) / (k : Int)) := by omega
      rw [e4, Int.add_mul_emod_self_left]
      exact (Int.emod_eq_of_lt d.1 d.2).symm
theorem stepsBy_row {n k : Nat} {x : Int → Int} {σ : Nat → Int} {cs : List Int} (k0 : 1 ≤ k) (kn : k ≤ n) (h : Sqn n k x) (ν : Nbr k σ) (hc : ∀ c ∈ cs, 0 ≤ c ∧ c < (n : Int)) : stepsBy n (mvL n k cs) (modL n (rowOf x σ k)) = rowOf (fun i => x i - fCalls n cs x i) σ k := by
  have n0 : 0 < n := by omega
  have hl : (modL n (rowOf x σ k)).length = k := by simp [modL, rowOf_len]
  refine List.ext_getElem? fun a => ?_
  by_cases ha : a < k
  · rw [rowOf_get ha]
    unfold stepsBy
    rw [List.getElem?_map]
    have hg : (modL n (rowOf x σ k))[a]? = some (x (σ a) % (n : Int)) := by
      unfold modL
      rw [List.getElem?_map, rowOf_get ha]
      rfl
    rw [hg]
    show some (mx (trmS n (mvL n k cs) (modL n (rowOf x σ k)) (x (σ a) % (n : Int)))) = _
    have et : trmS n (mvL n k cs) (modL n (rowOf x σ k)) (x (σ a) % (n : Int)) = (List.range k).map fun (j : Nat) => frmA n k cs x (σ a) j := by
      unfold trmS
      rw [hl, dsS_row n0 k0 h ν ha]
      refine List.map_congr_left fun j hj => ?_
      have hj := List.mem_range.mp hj
      have eg : ((List.range k).map fun (j : Nat) => x (σ a + (j : Int)) - x (σ a)).getD j 0 = x (σ a + (j : Int)) - x (σ a) := by
        rw [List.getD_eq_getElem?_getD, List.getElem?_map, List.getElem?_range hj]
        rfl
      rw [eg]
      have em : (x (σ a) % (n : Int) + (x (σ a + (j : Int)) - x (σ a))) % (n : Int) = x (σ a + (j : Int)) % (n : Int) := by
        rw [Int.add_emod, Int.emod_emod_of_dvd _ (Int.dvd_refl _), ← Int.add_emod]
        congr 1
        omega
      rw [em, cell_mv k0 kn hc (Int.emod_nonneg _ (by omega)) (Int.emod_lt_of_pos _ (by omega)) hj, mvS_mod]
      rfl
    rw [et]
    congr 1
    refine (mx_eq ?_ fun y hy => ?_).symm
    · obtain ⟨j, hj, e⟩ := steps_ex (cs := cs) h k0 (by omega) (σ a)
      exact List.mem_map.mpr ⟨j, List.mem_range.mpr hj, e⟩
    · obtain ⟨j, _, rfl⟩ := List.mem_map.mp hy
      exact steps_le h (by omega) (by omega) (σ a) j
  · rw [List.getElem?_eq_none (by unfold stepsBy; rw [List.length_map, hl]; omega), List.getElem?_eq_none (by rw [rowOf_len]; omega)]
def plcL (n : Nat) (ss cs : List Int) : List Int := difL ss (stepsL n ss cs)
theorem modL_self {n : Nat} {ss : List Int} (tb : Tbl n ss) : modL n ss = ss := mod_self_of tb.mem
theorem steps_tbl {n : Nat} {ss cs : List Int} (tb : Tbl n ss) (hne : ss ≠ []) (n0 : 0 < n) (hc : ∀ c ∈ cs, 0 ≤ c ∧ c < (n : Int)) : stepsL n ss cs = rowOf (fun i => xOf n ss i - fCalls n cs (xOf n ss) i) (fun a => (a : Int)) ss.length := by
  have k0 := List.length_pos_iff.mpr hne
  have e := steps_row (cs := cs) n0 k0 (sqn_xOf tb hne) (nbr_up k0) hc
  rw [row_xOf hne, modL_self tb] at e
  exact e
theorem stepsBy_tbl {n : Nat} {ss cs : List Int} (tb : Tbl n ss) (hne : ss ≠ []) (kn : ss.length ≤ n) (hc : ∀ c ∈ cs, 0 ≤ c ∧ c < (n : Int)) : stepsBy n (mvL n ss.length cs) ss = stepsL n ss cs := by
  have k0 := List.length_pos_iff.mpr hne
  have e := stepsBy_row (cs := cs) k0 kn (sqn_xOf tb hne) (nbr_up k0) hc
  rw [row_xOf hne, modL_self tb] at e
  rw [e, steps_tbl tb hne (by omega) hc]
theorem plc_tbl {n : Nat} {ss cs : List Int} (tb : Tbl n ss) (hne : ss ≠ []) (n0 : 0 < n) (hc : ∀ c ∈ cs, 0 ≤ c ∧ c < (n : Int)) : plcL n ss cs = rowOf (fCalls n cs (xOf n ss)) (fun a => (a : Int)) ss.length := by
  unfold plcL
  rw [steps_tbl tb hne n0 hc]
  refine List.ext_getElem? fun a => ?_
  by_cases ha : a < ss.length
  · have h1 : ss[a]? = some (xOf n ss (a : Int)) := by
      have := rowOf_get (x := xOf n ss) (σ := fun a => (a : Int)) ha
      rw [row_xOf hne] at this
      exact this
    rw [difL_get h1 (rowOf_get ha), rowOf_get ha]
    congr 1
    omega
  · rw [List.getElem?_eq_none (by rw [difL_len (by rw [rowOf_len])]; omega), List.getElem?_eq_none (by rw [rowOf_len]; omega)]
theorem rot_one {g : Int → Int} {k : Nat} (h : ∀ i, g (i + (k : Int)) = g i) : (rowOf (fun i => g (i + 1)) (fun a => (a : Int)) k).Perm (rowOf g (fun a => (a : Int)) k) := by
  cases k with
  | zero => exact List.Perm.refl _
  | succ k =>
    have e1 : rowOf (fun i => g (i + 1)) (fun a => (a : Int)) (k + 1) = (List.range k).map (fun (a : Nat) => g ((a : Int) + 1)) ++ [g 0] := by
      unfold rowOf
      rw [List.range_succ, List.map_append]
      congr 1
      have := h 0
      rw [show (0 : Int) + ((k + 1 : Nat) : Int) = (k : Int) + 1 by omega] at this
      rw [← this]
      rfl
    have e2 : rowOf g (fun a => (a : Int)) (k + 1) = g 0 :: (List.range k).map (fun (a : Nat) => g ((a : Int) + 1)) := by
      unfold rowOf
      rw [List.range_succ_eq_map, List.map_cons, List.map_map]
      rfl
    rw [e1, e2]
    exact List.perm_append_singleton _ _
theorem rot_nat {g : Int → Int} {k : Nat} (h : ∀ i, g (i + (k : Int)) = g i) : ∀ a : Nat, (rowOf (fun i => g (i + (a : Int))) (fun a => (a : Int)) k).Perm (rowOf g (fun a => (a : Int)) k)
  | 0 => by
    rw [show (fun i => g (i + ((0 : Nat) : Int))) = g from funext fun i => by rw [show i + ((0 : Nat) : Int) = i by omega]]
  | a + 1 => by
    have e : (fun i => g (i + ((a + 1 : Nat) : Int))) = fun i => (fun j => g (j + (a : Int))) (i + 1) := funext fun i => by
      show g _ = g _
      congr 1
      omega
    rw [e]
    refine (rot_one (g := fun j => g (j + (a : Int))) fun i => ?_).trans (rot_nat h a)
    show g (i + (k : Int) + (a : Int)) = g (i + (a : Int))
    rw [show i + (k : Int) + (a : Int) = i + (a : Int) + (k : Int) by omega]
    exact h _
theorem per_nat {g : Int → Int} {k : Nat} (h : ∀ i, g (i + (k : Int)) = g i) (i : Int) : ∀ m : Nat, g (i + (k : Int) * (m : Int)) = g i
  | 0 => by simp
  | m + 1 => by
    rw [show i + (k : Int) * ((m + 1 : Nat) : Int) = i + (k : Int) * (m : Int) + (k : Int) by rw [show ((m + 1 : Nat) : Int) = (m : Int) + 1 by omega, Int.mul_add]; omega, h, per_nat h i m]
theorem rot_perm {g : Int → Int} {k : Nat} (k0 : 1 ≤ k) (h : ∀ i, g (i + (k : Int)) = g i) (a : Int) : (rowOf (fun i => g (i + a)) (fun a => (a : Int)) k).Perm (rowOf g (fun a => (a : Int)) k) := by
  have hb : 0 ≤ a + (k : Int) * (a.natAbs : Int) := by
    have : (1 : Int) * (a.natAbs : Int) ≤ (k : Int) * (a.natAbs : Int) := Int.mul_le_mul_of_nonneg_right (by omega) (by omega)
    omega
  have e : (fun i => g (i + a)) = fun i => g (i + ((a + (k : Int) * (a.natAbs : Int)).toNat : Int)) := funext fun i => by
    rw [Int.toNat_of_nonneg hb, show i + (a + (k : Int) * (a.natAbs : Int)) = i + a + (k : Int) * (a.natAbs : Int) by omega, per_nat h]
  rw [e]
  exact rot_nat h _
theorem first_up {P : Int → Prop} (lo : Int) : ∀ d : Nat, ¬ P lo → P (lo + (d : Int)) → ∃ a, ¬ P (a - 1) ∧ P a
  | 0, h0, h1 => absurd (by rw [show lo + ((0 : Nat) : Int) = lo by omega] at h1; exact h1) h0
  | d + 1, h0, h1 => by
    by_cases h : P (lo + (d : Int))
    · exact first_up lo d h0 h
    · exact ⟨lo + ((d + 1 : Nat) : Int), by rw [show lo + ((d + 1 : Nat) : Int) - 1 = lo + (d : Int) by omega]; exact h, h1⟩
theorem Sqn.le {n k : Int} {x : Int → Int} (h : Sqn n k x) {i j : Int} (hij : i ≤ j) : x i ≤ x j := by
  rcases Int.lt_or_eq_of_le hij with h' | rfl
  · exact Int.le_of_lt (h.ltI h')
  · exact Int.le_refl _
theorem Sqn.zero {n : Nat} {k : Int} {x : Int → Int} (h : Sqn n k x) (n0 : 0 < n) (k0 : 1 ≤ k) : ∃ a, x (a - 1) < 0 ∧ 0 ≤ x a := by
  have e1 := h.pm 0 ((x 0).natAbs : Int)
  have e2 := h.pm 0 (-((x 0).natAbs + 1 : Int))
  have b1 : (1 : Int) * ((x 0).natAbs : Int) ≤ (n : Int) * ((x 0).natAbs : Int) := Int.mul_le_mul_of_nonneg_right (by omega) (by omega)
  have b2 : (1 : Int) * ((x 0).natAbs + 1 : Int) ≤ (n : Int) * ((x 0).natAbs + 1 : Int) := Int.mul_le_mul_of_nonneg_right (by omega) (by omega)
  rw [Int.mul_neg, Int.mul_neg] at e2
  have hlo : ¬ (0 ≤ x (0 + -(k * ((x 0).natAbs + 1 : Int)))) := by omega
  have hhi : 0 ≤ x (0 + k * ((x 0).natAbs : Int)) := by omega
  have hk : 0 ≤ k * ((x 0).natAbs : Int) := Int.mul_nonneg (by omega) (by omega)
  have hk2 : 0 ≤ k * ((x 0).natAbs + 1 : Int) := Int.mul_nonneg (by omega) (by omega)
  obtain ⟨a, ha, hb⟩ := first_up (P := fun i => 0 ≤ x i) (0 + -(k * ((x 0).natAbs + 1 : Int))) (k * ((x 0).natAbs : Int) + k * ((x 0).natAbs + 1 : Int)).toNat hlo (by
    rw [Int.toNat_of_nonneg (by omega), show (0 : Int) + -(k * ((x 0).natAbs + 1 : Int)) + (k * ((x 0).natAbs : Int) + k * ((x 0).natAbs + 1 : Int)) = 0 + k * ((x 0).natAbs : Int) by omega]
    exact hhi)
  exact ⟨a, by omega, hb⟩
theorem modL_row {n k : Nat} {x : Int → Int} {σ : Nat → Int} : modL n (rowOf x σ k) = rowOf (fun i => x i % (n : Int)) σ k := by
  unfold modL rowOf
  rw [List.map_map]
  rfl
theorem Sqn.mod_per {n : Nat} {k : Nat} {x : Int → Int} (h : Sqn n k x) (i : Int) : x (i + (k : Int)) % (n : Int) = x i % (n : Int) := by
  rw [h.per, Int.add_emod_right]
theorem sqn_tab {n k : Nat} {x : Int → Int} (h : Sqn n k x) (n0 : 0 < n) (k0 : 1 ≤ k) : ∃ a : Int, srt (modL n (rowOf x (fun a => (a : Int)) k)) = rowOf (fun i => x (i + a)) (fun a => (a : Int)) k ∧ Tbl n (srt (modL n (rowOf x (fun a => (a : Int)) k))) ∧ ∀ i, xOf n (srt (modL n (rowOf x (fun a => (a : Int)) k))) i = x (i + a) := by
  obtain ⟨a, ha, hb⟩ := h.zero n0 (by omega)
  have tb : Tbl n (rowOf (fun i => x (i + a)) (fun a => (a : Int)) k) := ⟨by
    refine List.pairwise_iff_getElem.mpr fun i j hi hj hij => ?_
    simp only [rowOf, List.getElem_map, List.getElem_range]
    exact h.ltI (by omega), fun y hy => by
    obtain ⟨i, hi⟩ := List.getElem?_of_mem hy
    obtain ⟨hk, rfl⟩ := rowOf_inv hi
    have l1 := h.le (show a ≤ (i : Int) + a by omega)
    have l2 := h.le (show (i : Int) + a ≤ a - 1 + (k : Int) by omega)
    rw [h.per] at l2
    exact ⟨Int.le_trans hb l1, by omega⟩⟩
  have hp : (modL n (rowOf x (fun a => (a : Int)) k)).Perm (rowOf (fun i => x (i + a)) (fun a => (a : Int)) k) := by
    rw [modL_row]
    have := (rot_perm (g := fun i => x i % (n : Int)) k0 h.mod_per a).symm
    refine this.trans ?_
    rw [show rowOf (fun i => x (i + a) % (n : Int)) (fun a => (a : Int)) k = modL n (rowOf (fun i => x (i + a)) (fun a => (a : Int)) k) from modL_row.symm, modL_self tb]
  have e : srt (modL n (rowOf x (fun a => (a : Int)) k)) = rowOf (fun i => x (i + a)) (fun a => (a : Int)) k := by rw [srt_congr hp, tb.srt]
  refine ⟨a, e, by rw [e]; exact tb, fun i => ?_⟩
  rw [e]
  have hm0 := Int.emod_nonneg i (show (k : Int) ≠ 0 by omega)
  have hm1 := Int.emod_lt_of_pos i (show (0 : Int) < k by omega)
  have hg : (rowOf (fun i => x (i + a)) (fun a => (a : Int)) k)[(i % (k : Int)).toNat]? = some (x (i % (k : Int) + a)) := by
    rw [rowOf_get (show (i % (k : Int)).toNat < k by omega)]
    rw [Int.toNat_of_nonneg hm0]
  unfold xOf
  rw [rowOf_len, List.getD_eq_getElem?_getD, hg]
  show x (i % (k : Int) + a) + _ = _
  rw [← h.pm]
  congr 1
  have := Int.mul_ediv_add_emod i k
  omega
theorem runS_tbl {n : Nat} {ss cs : List Int} (tb : Tbl n ss) (hne : ss ≠ []) (n0 : 0 < n) (hc : ∀ c ∈ cs, 0 ≤ c ∧ c < (n : Int)) : runS n ss cs = modL n (rowOf (fCalls n cs (xOf n ss)) (fun a => (a : Int)) ss.length) := by
  have k0 := List.length_pos_iff.mpr hne
  have e := pushS_mod n0 cs hne hc
  rw [mod_self_of tb.mem] at e
  rw [← e, ← pushS_row n0 k0 (nbr_up k0) cs (sqn_xOf tb hne), row_xOf hne]
  rfl
def tabA (n : Nat) (ss cs : List Int) : List Int := srt (runS n ss cs)
theorem tabA_len {n : Nat} {ss cs : List Int} : (tabA n ss cs).length = ss.length := by unfold tabA; rw [srt_len, runS_len]
theorem tabA_x {n : Nat} {ss cs : List Int} (tb : Tbl n ss) (hne : ss ≠ []) (n0 : 0 < n) (hc : ∀ c ∈ cs, 0 ≤ c ∧ c < (n : Int)) : ∃ a : Int, tabA n ss cs = rowOf (fun i => fCalls n cs (xOf n ss) (i + a)) (fun a => (a : Int)) ss.length ∧ Tbl n (tabA n ss cs) ∧ xOf n (tabA n ss cs) = fun i => fCalls n cs (xOf n ss) (i + a) := by
  have k0 := List.length_pos_iff.mpr hne
  have hs := (sqn_xOf tb hne).calls (show (0 : Int) < n by omega) cs
  obtain ⟨a, h1, h2, h3⟩ := sqn_tab hs n0 k0
  unfold tabA
  rw [runS_tbl tb hne n0 hc]
  exact ⟨a, h1, h2, funext h3⟩
theorem tabA_tbl {n : Nat} {ss cs : List Int} (tb : Tbl n ss) (hne : ss ≠ []) (n0 : 0 < n) (hc : ∀ c ∈ cs, 0 ≤ c ∧ c < (n : Int)) : Tbl n (tabA n ss cs) := by
  obtain ⟨a, _, h, _⟩ := tabA_x tb hne n0 hc
  exact h
def b_mover : DenS := (sC (sSet 3 (dC .none)) (sC (sSet 4 (dV 0)) (sC (sFor (.tp [5, 6]) (wEn (dV 1)) (sC (sSet 7 (d2 pMod (d2 pSub (dV 6) (dV 2)) (dV 0))) (sIf (t2 cLt (dV 7) (dV 4)) (sC (sSet 3 (dV 5)) (sSet 4 (dV 7))) s0))) (sRet (dIf (t2 pEq (dV 4) (dC (.int 0))) (dC .none) (dV 3))))))
def m_mover : List W → Tree PyData := fnF 3 8 (b_mover)
def b_seats_called : DenS := (sC (sSet 3 (dCall m_mover (aC (aV 0) (aC (aV 1) (aC (aV 2) a0))))) (sRet (dLc (.tp [4, 5]) [4, 5] (wEn (dV 1)) (dIf (t2 pEq (dV 4) (dV 3)) (dV 2) (dV 5)))))
def m_seats_called : List W → Tree PyData := fnF 3 6 (b_seats_called)
def b_seats_along : DenS := (sC (sSet 3 (d1 pList (dV 1))) (sC (sOwn 4 (dL (lC (dV 3) l0))) (sC (sFor (.nm 5) (iS (dV 2)) (sC (sSet 3 (dCall m_seats_called (aC (aV 0) (aC (aV 3) (aC (aV 5) a0))))) (sApp 4 (dV 3)))) (sFrz 4 (sRet (dV 4))))))
def m_seats_along : List W → Tree PyData := fnF 3 6 (b_seats_along)
def b_as_table : DenS := (sRet (d1 pTup (d1 pSrt (dV 0))))
def m_as_table : List W → Tree PyData := fnF 1 1 (b_as_table)
def b_steps : DenS := (sC (sSet 3 (dCall m_seats_along (aC (aV 0) (aC (aV 1) (aC (aV 2) a0))))) (sC (sSet 4 (dLc (.nm 7) [7] (iS (dV 1)) (dC (.int 0)))) (sC (sFor (.tp [5, 6]) (wZ2 (dV 3) (dSl (dV 3) (oS (dC (.int 1))) oN)) (sSet 4 (dLc (.tp [8, 9, 10]) [10, 9, 8] (wZ3 (dV 4) (dV 5) (dV 6)) (d2 pAdd (dV 8) (d2 pMod (d2 pSub (dV 9) (dV 10)) (dV 0)))))) (sRet (dV 4)))))
def m_steps : List W → Tree PyData := fnF 3 11 (b_steps)
def b_pack_seats : DenS := (sRet (dLc (.nm 3) [3] (iR1 (dV 1)) (d2 pMod (d2 pSub (dV 2) (dV 3)) (dV 0))))
def m_pack_seats : List W → Tree PyData := fnF 3 4 (b_pack_seats)
def b_moves_of : DenS := (sRet (d1 pTup (dLc (.nm 3) [3] (iR1 (dV 0)) (d1 pTup (dCall m_steps (aC (aV 0) (aC (aE (dCall m_pack_seats (aC (aV 0) (aC (aV 1) (aC (aV 3) a0))))) (aC (aV 2) a0))))))))
def m_moves_of : List W → Tree PyData := fnF 3 4 (b_moves_of)
def b_steps_of_one : DenS := (sC (sSet 4 (d1 pSrt (dLc (.nm 5) [5] (iS (dV 2)) (d2 pMod (d2 pSub (dV 5) (dV 3)) (dV 0))))) (sRet (d1 pMax (dLc (.tp [6, 7]) [7, 6] (wEn (dV 4)) (d2 pSub (d2 pIx (d2 pIx (dV 1) (d2 pMod (d2 pAdd (dV 3) (dV 7)) (dV 0))) (dV 6)) (d2 pSub (dV 7) (dV 6)))))))
def m_steps_of_one : List W → Tree PyData := fnF 4 8 (b_steps_of_one)
def b_steps_by : DenS := (sRet (dLc (.nm 3) [3] (iS (dV 2)) (dCall m_steps_of_one (aC (aV 0) (aC (aV 1) (aC (aV 2) (aC (aV 3) a0)))))))
def m_steps_by : List W → Tree PyData := fnF 3 4 (b_steps_by)
def b_table_by : DenS := (sC (sSet 3 (dCall m_steps_by (aC (aV 0) (aC (aV 1) (aC (aV 2) a0))))) (sRet (dCall m_as_table (aC (aE (dLc (.tp [4, 5]) [5, 4] (wZ2 (dV 2) (dV 3)) (d2 pMod (d2 pSub (dV 4) (dV 5)) (dV 0)))) a0))))
def m_table_by : List W → Tree PyData := fnF 3 6 (b_table_by)
def b_all_tables : DenS := (sC (sSet 2 (dL (lC (dT l0) l0))) (sC (sFor (.nm 3) (iR1 (dV 1)) (sSet 2 (dLc2 (.nm 4) [5, 4] (iS (dV 2)) (.nm 5) [5] (iR1 (dV 0)) (tOr (tNot (tTr (dV 4))) (t2 cLt (d2 pIx (dV 4) (d1 pNeg (dC (.int 1)))) (dV 5))) (d2 pAdd (dV 4) (dT (lC (dV 5) l0)))))) (sRet (dV 2))))
def m_all_tables : List W → Tree PyData := fnF 2 6 (b_all_tables)
def b_all_led : DenS := (sC (sSet 3 (dCall m_moves_of (aC (aV 0) (aC (aV 1) (aC (aV 2) a0))))) (sRet (dLc (.nm 4) [4] (iS (dCall m_all_tables (aC (aV 0) (aC (aV 1) a0)))) (dT (lC (dV 4) (lC (dCall m_table_by (aC (aV 0) (aC (aV 3) (aC (aV 4) a0)))) l0))))))
def m_all_led : List W → Tree PyData := fnF 3 5 (b_all_led)
def b_results_of : DenS := (sRet (dSrtSc (.tp [3, 4]) [4, 3] (iS (dCall m_all_led (aC (aV 0) (aC (aV 1) (aC (aV 2) a0))))) (dV 4)))
def m_results_of : List W → Tree PyData := fnF 3 5 (b_results_of)
def b_beginnings_of : DenS := (sC (sSet 3 (d1 pTup (dV 2))) (sRet (dLf (.tp [4, 5]) [5, 4] (iS (dCall m_all_led (aC (aV 0) (aC (aE (d1 pLen (dV 2))) (aC (aV 1) a0))))) (t2 pEq (dV 5) (dV 3)) (dV 4))))
def m_beginnings_of : List W → Tree PyData := fnF 3 6 (b_beginnings_of)
def b_staying : DenS := (sRet (dLf (.tp [3, 4]) [4, 3] (iS (dCall m_all_led (aC (aV 0) (aC (aV 1) (aC (aV 2) a0))))) (t2 pEq (dV 3) (dV 4)) (dV 3)))
def m_staying : List W → Tree PyData := fnF 3 5 (b_staying)
def b_sure_chairs : DenS := (sC (sSet 3 (dCall m_results_of (aC (aV 0) (aC (aV 1) (aC (aV 2) a0))))) (sRet (dLf (.nm 4) [4] (iR1 (dV 0)) (tTr (d1 pAll (dLc (.nm 5) [5] (iS (dV 3)) (d2 (bD pIn) (dV 4) (dV 5))))) (dV 4))))
def m_sure_chairs : List W → Tree PyData := fnF 3 6 (b_sure_chairs)
def b_never_chairs : DenS := (sC (sSet 3 (dCall m_results_of (aC (aV 0) (aC (aV 1) (aC (aV 2) a0))))) (sRet (dLf (.nm 4) [4] (iR1 (dV 0)) (tTr (d1 pAll (dLc (.nm 5) [5] (iS (dV 3)) (d2 (bD pNin) (dV 4) (dV 5))))) (dV 4))))
def m_never_chairs : List W → Tree PyData := fnF 3 6 (b_never_chairs)
def b_law_of : DenS := (sRet (d2 pIx (dV 1) (dCall takeF (aC (aV 0) (aC (aE (d1 pLen (dV 1))) a0)))))
def m_law_of : List W → Tree PyData := fnF 2 2 (b_law_of)
def b_law_same : DenS := (sRet (dSame (dV 0) (dV 1)))
def m_law_same : List W → Tree PyData := fnF 2 2 (b_law_same)
def b_law_span : DenS := (sRet (d2 pAdd (dC (.int 2)) (dCall takeF (aC (aV 0) (aC (aE (d2 pSub (dV 1) (dC (.int 1)))) a0)))))
def m_law_span : List W → Tree PyData := fnF 2 2 (b_law_span)
def b_law_tour : DenS := (sC (sParO 5 6 (dCall takeF (aC (aV 0) (aC (aE (dC (.int 5))) a0))) (dL l0)) (sC (sSet 3 (dLc (.nm 4) [4] (iR1 (dC (.int 3))) (dCall takeF (aC (aV 0) (aC (aV 1) a0))))) (sC (sFor (.nm 4) (iR1 (dCall takeF (aC (aV 0) (aC (aE (d2 pAdd (dV 2) (dC (.int 1)))) a0)))) (sApp 6 (dIf (t2 pEq (dV 5) (dC (.int 0))) (dCall m_law_of (aC (aV 0) (aC (aV 3) a0))) (dCall takeF (aC (aV 0) (aC (aV 1) a0)))))) (sFrz 6 (sRet (d2 pIx (dL (lC (dV 6) (lC (dV 6) (lC (dV 6) (lC (d1 pSrt (dV 6)) (lC (d1 pRev (d1 pSrt (dV 6))) l0)))))) (dV 5)))))))
def m_law_tour : List W → Tree PyData := fnF 3 7 (b_law_tour)
def b_law_pushed : DenS := (sC (sFor (.nm 3) (iR1 (dV 0)) (sFor (.tp [4, 5]) (wEn (dV 1)) (sIf (t2 pEq (d2 pMod (d2 pSub (d2 pAdd (dV 2) (dV 3)) (dV 5)) (dV 0)) (dC (.int 0))) (sRet (d2 pAdd (d2 pAdd (dSl (dV 1) oN (oS (dV 4))) (dL (lC (d2 pSub (dV 5) (dV 3)) l0))) (dSl (dV 1) (oS (d2 pAdd (dV 4) (dC (.int 1)))) oN))) s0))) (sRet (dV 1)))
def m_law_pushed : List W → Tree PyData := fnF 3 6 (b_law_pushed)
def b_law_walked : DenS := (sC (sSet 3 (d1 pList (dV 1))) (sC (sFor (.nm 4) (iS (dV 2)) (sSet 3 (dCall m_law_pushed (aC (aV 0) (aC (aV 3) (aC (aV 4) a0)))))) (sRet (dV 3))))
def m_law_walked : List W → Tree PyData := fnF 3 5 (b_law_walked)
def b_law_table : DenS := (sRet (d1 pTup (d1 pSrt (dLc (.nm 2) [2] (iS (dV 1)) (d2 pMod (dV 2) (dV 0))))))
def m_law_table : List W → Tree PyData := fnF 2 3 (b_law_table)
def b_law_after : DenS := (sRet (dCall m_law_table (aC (aV 0) (aC (aE (dCall m_law_walked (aC (aV 0) (aC (aV 1) (aC (aV 2) a0))))) a0))))
def m_law_after : List W → Tree PyData := fnF 3 3 (b_law_after)
def b_law_tables : DenS := (sC (sSet 2 (dL (lC (dT l0) l0))) (sC (sFor (.nm 3) (iR1 (dV 0)) (sSet 2 (d2 pAdd (dV 2) (dLf (.nm 4) [4] (iS (dV 2)) (t2 cLt (d1 pLen (dV 4)) (dV 1)) (d2 pAdd (dV 4) (dT (lC (dV 3) l0))))))) (sRet (d1 pSrtT (dLf (.nm 4) [4] (iS (dV 2)) (t2 pEq (d1 pLen (dV 4)) (dV 1)) (dV 4))))))
def m_law_tables : List W → Tree PyData := fnF 2 5 (b_law_tables)
def b_law_lots : Env → Tree TD := (tC (sNewD 3) (tC (sFor (.nm 4) (iS (dCall m_law_tables (aC (aV 0) (aC (aV 1) a0)))) (sC (sSet 5 (dCall m_law_after (aC (aV 0) (aC (aV 4) (aC (aV 2) a0))))) (sPutO 3 (dV 5) (d2 pAdd (dGetO 3 (dV 5) (dL l0)) (dL (lC (dV 4) l0)))))) (tRet 3)))
def m_law_lots : List W → Tree TD := fnT 3 6 b_law_lots
def b_law_due : DenS := (sC (sSet 3 (dLf (.nm 5) [5] (iR1 (dV 0)) (tTr (d1 pAll (dLc (.nm 7) [7] (iDtt 2) (d2 (bD pIn) (dV 5) (dV 7))))) (dV 5))) (sC (sSet 4 (dLf (.nm 5) [5] (iR1 (dV 0)) (tNot (tTr (d1 pAny (dLc (.nm 7) [7] (iDtt 2) (d2 (bD pIn) (dV 5) (dV 7)))))) (dV 5))) (sRet (dL (lC (dSrtD 2) (lC (dLf (.nm 6) [6] (iS (dCall m_law_tables (aC (aV 0) (aC (aV 1) a0)))) (t2 pInD (dV 6) (dGetO 2 (dV 6) (dL l0))) (dV 6)) (lC (dV 3) (lC (dV 4) l0))))))))
def m_law_due : List W → Tree PyData := fnF 3 8 (b_law_due)
def b_law_heard : DenS := (sC (sSet 3 (dL (lC (dCall m_results_of (aC (aV 0) (aC (aV 1) (aC (aV 2) a0)))) (lC (dCall m_staying (aC (aV 0) (aC (aV 1) (aC (aV 2) a0)))) l0)))) (sRet (d2 pAdd (dV 3) (dL (lC (dCall m_sure_chairs (aC (aV 0) (aC (aV 1) (aC (aV 2) a0)))) (lC (dCall m_never_chairs (aC (aV 0) (aC (aV 1) (aC (aV 2) a0)))) l0))))))
def m_law_heard : List W → Tree PyData := fnF 3 4 (b_law_heard)
def l_law_heard : List W → Tree (List (List PyData)) := fnLL 3 4 (fLl2 3 (olC (dCall m_results_of (aC (aV 0) (aC (aV 1) (aC (aV 2) a0)))) (olC (dCall m_staying (aC (aV 0) (aC (aV 1) (aC (aV 2) a0)))) ol0)) (olC (dCall m_sure_chairs (aC (aV 0) (aC (aV 1) (aC (aV 2) a0)))) (olC (dCall m_never_chairs (aC (aV 0) (aC (aV 1) (aC (aV 2) a0)))) ol0)))
def b_law_right : DenS := (sC (sSet 1 (dCall m_law_span (aC (aV 0) (aC (aE (dC (.int 7))) a0)))) (sC (sPar [7, 8] (lC (d2 pAdd (dC (.int 1)) (dCall takeF (aC (aV 0) (aC (aE (d2 pSub (dV 1) (dC (.int 1)))) a0)))) (lC (dCall m_law_tour (aC (aV 0) (aC (aV 1) (aC (aE (dC (.int 12))) a0)))) l0))) (sC (sParDt 9 10 (tCall2 m_law_lots (aC (aV 1) (aC (aV 7) (aC (aV 8) a0)))) (d1 pList (dV 8))) (sC (sSet 2 (dCall m_law_due (aC (aV 1) (aC (aV 7) (aC (aV 9) a0))))) (sLl 3 l_law_heard (aC (aV 1) (aC (aV 7) (aC (aV 8) a0))) (aOwn 4 (dL (lC (dCallK 3 [2, 1, 0] m_results_of (aC (aE (d1 pTup (dV 8))) (aC (aV 7) (aC (aV 1) a0)))) (lC (dCallK 3 [2, 1, 0] m_staying (aC (aE (d1 pTup (dV 8))) (aC (aV 7) (aC (aV 1) a0)))) l0))) (aApp 4 (dCallK 3 [2, 1, 0] m_sure_chairs (aC (aE (d1 pTup (dV 8))) (aC (aV 7) (aC (aV 1) a0)))) (aApp 4 (dCallK 3 [2, 1, 0] m_never_chairs (aC (aE (d1 pTup (dV 8))) (aC (aV 7) (aC (aV 1) a0)))) (aIf 3 (tNot (tTr (dCall m_law_same (aC (aE (dL (lC (dV 3) (lC (dV 4) l0)))) (aC (aE (dL (lC (dV 2) (lC (dV 2) l0)))) a0))))) (aEnd 5 (sC (sIf (tNot (tTr (dCall m_law_same (aC (aE (dCall m_law_heard (aC (aV 1) (aC (aV 7) (aC (aV 8) a0))))) (aC (aV 2) a0))))) (sRet (dC (.bool false))) s0) (sC (sFor (.nm 6) (iS (dCall m_law_tables (aC (aV 1) (aC (aV 7) a0)))) (sC (sPar [11, 12] (lC (d1 pList (dV 6)) (lC (dGetO 9 (dV 6) (dL l0)) l0))) (sN0 3 (dCall m_beginnings_of (aC (aV 1) (aC (aV 8) (aC (aV 6) a0)))) (dCallK 3 [2, 1, 0] m_beginnings_of (aC (aV 11) (aC (aE (d1 pTup (dV 8))) (aC (aV 1) a0)))) (nIf 3 (tOr (tNot (tTr (dCall m_law_same (aC (aV 3) (aC (aE (dL (lC (dV 12) (lC (dV 12) l0)))) a0))))) (t2 pNe (dV 11) (d1 pList (dV 6)))) (nEnd 0 (dC (.str "more")) s0))))) (sC (sSet 6 (dCall m_law_of (aC (aV 0) (aC (aE (d2 pIx (dV 2) (dC (.int 0)))) a0)))) (sRet (dAnd (dCall m_law_same (aC (aE (dCall m_beginnings_of (aC (aV 1) (aC (aV 8) (aC (aV 6) a0))))) (aC (aE (dIdxO 9 (dV 6))) a0))) (d2 (bD pEq) (dV 8) (dV 10)))))))))))))))))
def m_law_right : List W → Tree PyData := fnF 1 13 (b_law_right)
theorem it_l (xs : List PyData) : items (.list xs) = some xs := rfl
theorem it_t (xs : List PyData) : items (.tuple xs) = some xs := rfl
def lpM (n c : Int) : Nat → Int → PyData → List Int → PyData × Int
  | _, r, p, [] => (p, r)
  | i, r, p, s :: ss => if (s - c) % n < r then lpM n c (i + 1) ((s - c) % n) (.int (i : Int)) ss else lpM n c (i + 1) r p ss
theorem prs_cons (i : Int) (x : PyData) (xs : List PyData) (n : Nat) : prs (numsF i (n + 1)) (x :: xs) = .tuple [.int i, x] :: prs (numsF (i + 1) n) xs := by
  unfold numsF prs
  rw [List.range_succ_eq_map, List.map_cons, List.zip_cons_cons, List.map_cons, List.map_map]
  congr 1
  · simp
  · congr 2
    refine List.map_congr_left fun k _ => ?_
    simp only [Function.comp]
    congr 1
    omega
theorem nums_F (n : Nat) : nums n = numsF 0 n := by
  unfold nums numsF
  congr 1
  funext k
  rw [Int.zero_add]
theorem mover_loop {n c : Int} {d : PyData} (n0 : 0 < n) : ∀ (ss : List Int) (i : Nat) (p : PyData) (r : Int) (x5 x6 x7 : Option W), ∃ y5 y6 y7,
    forT (.tp [5, 6]) (sC (sSet 7 (d2 pMod (d2 pSub (dV 6) (dV 2)) (dV 0))) (sIf (t2 cLt (dV 7) (dV 4)) (sC (sSet 3 (dV 5)) (sSet 4 (dV 7))) s0)) (prs (numsF (i : Int) (iL ss).length) (iL ss)) [some (.d (.int n)), some (.d d), some (.d (.int c)), some (.d p), some (.d (.int r)), x5, x6, x7]
      = .ret (.nx [some (.d (.int n)), some (.d d), some (.d (.int c)), some (.d (lpM n c i r p ss).1), some (.d (.int (lpM n c i r p ss).2)), y5, y6, y7])
  | [], i, p, r, x5, x6, x7 => ⟨x5, x6, x7, rfl⟩
  | s :: ss, i, p, r, x5, x6, x7 => by
    rw [show (iL (s :: ss)).length = (iL ss).length + 1 from rfl, show iL (s :: ss) = .int s :: iL ss from rfl, prs_cons]
    by_cases h : (s - c) % n < r
    · obtain ⟨y5, y6, y7, e⟩ := mover_loop n0 ss (i + 1) (.int (i : Int)) ((s - c) % n) (some (.d (.int (i : Int)))) (some (.d (.int s))) (some (.d (.int ((s - c) % n))))
      refine ⟨y5, y6, y7, ?_⟩
      rw [lpM, if_pos h, forT]
      simp only [Tree.bind, liftO, dIdx, sAsgL, sPar4, dV, dC, d1, d2, t1, t2, l0, lC, dL, dT, aV, aE, a0, aC, dCall, dCallK, dIf, tTr, tV, truth, asB, tNot, tAnd, tOr, dAnd, dOr, sSet, sAsg, sPar, sRet, s0, sC, sIf, sX, sOwn, sApp, sFrz, frzE, sFor, outV, fnF, lenIs, ent, small, few, putE, putsE, wipeE, it_l, it_t, iS, iR1, iR2, wEn, wZ2, wZ3, dLc, dLf, dSl, oN, oS, pCut, pSub, cI, bD, pIx, pList, pTup, pLen, pNot, qIsN, qNotN, pIsN, pNotN, List.getElem?_cons_succ, List.getElem?_cons_zero, List.set_cons_succ, List.set_cons_zero, List.length_cons, List.length_nil, List.map_cons, List.map_nil, List.foldr_cons, List.foldr_nil, List.replicate_succ, List.replicate_zero, List.cons_append, List.nil_append, sOPar, sOOPar, dOIx, sNest, sCallP, dOLen, fnP, pC, pFrz, dPr, nApp, nIf, nEnd, sN0, sN1, lendE, frzW, sSetK, dGet, dZipD, dPairD, pMax2, sDD, sND, tNeN, sLock, lockE, odcE, tdE, dttE, tC, tLock, tRet, dGetO, dIdxO, tNinD, sPutO, tDen, sUpd, sCpT, iDtt, dSrtD, sParDt, sParDt3, tCall2, fnT, sNewD, isNd, pMod, if_pos n0, decide_eq_true h, if_true, reduceIte]
      exact e
    · obtain ⟨y5, y6, y7, e⟩ := mover_loop n0 ss (i + 1) p r (some (.d (.int (i : Int)))) (some (.d (.int s))) (some (.d (.int ((s - c) % n))))
      refine ⟨y5, y6, y7, ?_⟩
      rw [lpM, if_neg h, forT]
      simp only [Tree.bind, liftO, dIdx, sAsgL, sPar4, dV, dC, d1, d2, t1, t2, l0, lC, dL, dT, aV, aE, a0, aC, dCall, dCallK, dIf, tTr, tV, truth, asB, tNot, tAnd, tOr, dAnd, dOr, sSet, sAsg, sPar, sRet, s0, sC, sIf, sX, sOwn, sApp, sFrz, frzE, sFor, outV, fnF, lenIs, ent, small, few, putE, putsE, wipeE, it_l, it_t, iS, iR1, iR2, wEn, wZ2, wZ3, dLc, dLf, dSl, oN, oS, pCut, pSub, cI, bD, pIx, pList, pTup, pLen, pNot, qIsN, qNotN, pIsN, pNotN, List.getElem?_cons_succ, List.getElem?_cons_zero, List.set_cons_succ, List.set_cons_zero, List.length_cons, List.length_nil, List.map_cons, List.map_nil, List.foldr_cons, List.foldr_nil, List.replicate_succ, List.replicate_zero, List.cons_append, List.nil_append, sOPar, sOOPar, dOIx, sNest, sCallP, dOLen, fnP, pC, pFrz, dPr, nApp, nIf, nEnd, sN0, sN1, lendE, frzW, sSetK, dGet, dZipD, dPairD, pMax2, sDD, sND, tNeN, sLock, lockE, odcE, tdE, dttE, tC, tLock, tRet, dGetO, dIdxO, tNinD, sPutO, tDen, sUpd, sCpT, iDtt, dSrtD, sParDt, sParDt3, tCall2, fnT, sNewD, isNd, pMod, if_pos n0, decide_eq_false h, if_true, reduceIte]
      exact e
theorem get_snoc {α : Type} {pre : List α} {s : α} {j : Nat} {x : α} (h : (pre ++ [s])[j]? = some x) : (j < pre.length ∧ pre[j]? = some x) ∨ (j = pre.length ∧ x = s) := by
  by_cases hj : j < pre.length
  · rw [List.getElem?_append_left hj] at h
    exact .inl ⟨hj, h⟩
  · rw [List.getElem?_append_right (by omega)] at h
    by_cases e : j - pre.length = 0
    · rw [e] at h
      cases h
      exact .inr ⟨by omega, rfl⟩
    · rw [List.getElem?_eq_none (by simp; omega)] at h
      cases h
theorem lpM_near {n c : Int} (n0 : 0 < n) : ∀ (ss pre : List Int) (p : PyData) (r : Int), ((pre = [] ∧ r = n) ∨ ∃ k s, Near n c pre k s ∧ p = .int (k : Nat) ∧ r = dst n c s) → pre ++ ss ≠ [] →
    ∃ k s, Near n c (pre ++ ss) k s ∧ lpM n c pre.length r p ss = (.int (k : Nat), dst n c s)
  | [], pre, p, r, h, hne => by
    rcases h with ⟨rfl, _⟩ | ⟨k, s, hn, rfl, rfl⟩
    · exact absurd rfl hne
    · rw [List.append_nil]
      exact ⟨k, s, hn, rfl⟩
  | s :: ss, pre, p, r, h, hne => by
    have el : (pre ++ [s]).length = pre.length + 1 := by simp
    have ea : pre ++ s :: ss = (pre ++ [s]) ++ ss := by simp
    by_cases hd : (s - c) % n < r
    · have hn : Near n c (pre ++ [s]) pre.length s := by
        refine ⟨by simp, fun j s' hj => ?_, fun j s' hjk hj => ?_⟩
        · rcases get_snoc hj with ⟨hl, hj⟩ | ⟨_, rfl⟩
          · rcases h with ⟨rfl, _⟩ | ⟨k, s0, hn, _, rfl⟩
            · simp at hl
            · have := hn.le j s' hj
              unfold dst at *
              omega
          · exact Int.le_refl _
        · rcases get_snoc hj with ⟨hl, hj⟩ | ⟨e, _⟩
          · rcases h with ⟨rfl, _⟩ | ⟨k, s0, hn, _, rfl⟩
            · simp at hl
            · have := hn.le j s' hj
              unfold dst at *
              omega
          · omega
      have := lpM_near n0 ss (pre ++ [s]) (.int (pre.length : Nat)) ((s - c) % n) (.inr ⟨_, _, hn, rfl, rfl⟩) (by simp)
      rw [el] at this
      rw [lpM, if_pos hd, ea]
      exact this
    · have h2 : ∃ k s0, Near n c (pre ++ [s]) k s0 ∧ p = .int (k : Nat) ∧ r = dst n c s0 := by
        rcases h with ⟨rfl, rfl⟩ | ⟨k, s0, hn, rfl, rfl⟩
        · exact absurd (Int.emod_lt_of_pos _ n0) hd
        · have hk := (List.getElem?_eq_some_iff.mp hn.at_).1
          refine ⟨k, s0, ⟨by rw [List.getElem?_append_left hk]; exact hn.at_, fun j s' hj => ?_, fun j s' hjk hj => ?_⟩, rfl, rfl⟩
          · rcases get_snoc hj with ⟨_, hj⟩ | ⟨_, rfl⟩
            · exact hn.le j s' hj
            · unfold dst at *
              omega
          · rcases get_snoc hj with ⟨_, hj⟩ | ⟨e, _⟩
            · exact hn.lt j s' hjk hj
            · omega
      have := lpM_near n0 ss (pre ++ [s]) p r (.inr h2) (by simp)
      rw [el] at this
      rw [lpM, if_neg hd, ea]
      exact this
theorem ev_mover {n c : Int} {d : PyData} {ss : List Int} (hd : items d = some (iL ss)) (n0 : 0 < n) (hne : ss ≠ []) : m_mover [.d (.int n), .d d, .d (.int c)] = .ret (optI (moverL n c ss)) := by
  obtain ⟨k, s, hn, e⟩ := lpM_near (c := c) n0 ss [] .none n (.inl ⟨rfl, rfl⟩) (by simpa using hne)
  obtain ⟨y5, y6, y7, el⟩ := mover_loop (c := c) (d := d) n0 ss 0 .none n none none none
  rw [show lpM n c 0 n .none ss = _ from e] at el
  simp only [m_mover, b_mover, Tree.bind, liftO, dIdx, sAsgL, sPar4, dV, dC, d1, d2, t1, t2, l0, lC, dL, dT, aV, aE, a0, aC, dCall, dCallK, dIf, tTr, tV, truth, asB, tNot, tAnd, tOr, dAnd, dOr, sSet, sAsg, sPar, sRet, s0, sC, sIf, sX, sOwn, sApp, sFrz, frzE, sFor, outV, fnF, lenIs, ent, small, few, putE, putsE, wipeE, it_l, it_t, iS, iR1, iR2, wEn, wZ2, wZ3, dLc, dLf, dSl, oN, oS, pCut, pSub, cI, bD, pIx, pList, pTup, pLen, pNot, qIsN, qNotN, pIsN, pNotN, List.getElem?_cons_succ, List.getElem?_cons_zero, List.set_cons_succ, List.set_cons_zero, List.length_cons, List.length_nil, List.map_cons, List.map_nil, List.foldr_cons, List.foldr_nil, List.replicate_succ, List.replicate_zero, List.cons_append, List.nil_append, sOPar, sOOPar, dOIx, sNest, sCallP, dOLen, fnP, pC, pFrz, dPr, nApp, nIf, nEnd, sN0, sN1, lendE, frzW, sSetK, dGet, dZipD, dPairD, pMax2, sDD, sND, tNeN, sLock, lockE, odcE, tdE, dttE, tC, tLock, tRet, dGetO, dIdxO, tNinD, sPutO, tDen, sUpd, sCpT, iDtt, dSrtD, sParDt, sParDt3, tCall2, fnT, sNewD, isNd, hd, nums_F, lenIs]
  rw [show ((0 : Nat) : Int) = 0 from rfl] at el
  simp only [Nat.reduceSub, Nat.reduceAdd, List.replicate_succ, List.replicate_zero, reduceIte, Tree.bind, liftO, dIdx, sAsgL, sPar4, dV, dC, d1, d2, t1, t2, l0, lC, dL, dT, aV, aE, a0, aC, dCall, dCallK, dIf, tTr, tV, truth, asB, tNot, tAnd, tOr, dAnd, dOr, sSet, sAsg, sPar, sRet, s0, sC, sIf, sX, sOwn, sApp, sFrz, frzE, sFor, outV, fnF, lenIs, ent, small, few, putE, putsE, wipeE, it_l, it_t, iS, iR1, iR2, wEn, wZ2, wZ3, dLc, dLf, dSl, oN, oS, pCut, pSub, cI, bD, pIx, pList, pTup, pLen, pNot, qIsN, qNotN, pIsN, pNotN, List.getElem?_cons_succ, List.getElem?_cons_zero, List.set_cons_succ, List.set_cons_zero, List.length_cons, List.length_nil, List.map_cons, List.map_nil, List.foldr_cons, List.foldr_nil, List.replicate_succ, List.replicate_zero, List.cons_append, List.nil_append, sOPar, sOOPar, dOIx, sNest, sCallP, dOLen, fnP, pC, pFrz, dPr, nApp, nIf, nEnd, sN0, sN1, lendE, frzW, sSetK, dGet, dZipD, dPairD, pMax2, sDD, sND, tNeN, sLock, lockE, odcE, tdE, dttE, tC, tLock, tRet, dGetO, dIdxO, tNinD, sPutO, tDen, sUpd, sCpT, iDtt, dSrtD, sParDt, sParDt3, tCall2, fnT, sNewD, isNd, hd] at el ⊢
  rw [el]
  rw [List.nil_append] at hn
  rw [hn.mover]
  by_cases h0 : dst n c s = 0
  · simp only [Tree.bind, liftO, dIdx, sAsgL, sPar4, dV, dC, d1, d2, t1, t2, l0, lC, dL, dT, aV, aE, a0, aC, dCall, dCallK, dIf, tTr, tV, truth, asB, tNot, tAnd, tOr, dAnd, dOr, sSet, sAsg, sPar, sRet, s0, sC, sIf, sX, sOwn, sApp, sFrz, frzE, sFor, outV, fnF, lenIs, ent, small, few, putE, putsE, wipeE, it_l, it_t, iS, iR1, iR2, wEn, wZ2, wZ3, dLc, dLf, dSl, oN, oS, pCut, pSub, cI, bD, pIx, pList, pTup, pLen, pNot, qIsN, qNotN, pIsN, pNotN, List.getElem?_cons_succ, List.getElem?_cons_zero, List.set_cons_succ, List.set_cons_zero, List.length_cons, List.length_nil, List.map_cons, List.map_nil, List.foldr_cons, List.foldr_nil, List.replicate_succ, List.replicate_zero, List.cons_append, List.nil_append, sOPar, sOOPar, dOIx, sNest, sCallP, dOLen, fnP, pC, pFrz, dPr, nApp, nIf, nEnd, sN0, sN1, lendE, frzW, sSetK, dGet, dZipD, dPairD, pMax2, sDD, sND, tNeN, sLock, lockE, odcE, tdE, dttE, tC, tLock, tRet, dGetO, dIdxO, tNinD, sPutO, tDen, sUpd, sCpT, iDtt, dSrtD, sParDt, sParDt3, tCall2, fnT, sNewD, isNd, pEq, h0, decide_true, if_true, optI]
  · simp only [Tree.bind, liftO, dIdx, sAsgL, sPar4, dV, dC, d1, d2, t1, t2, l0, lC, dL, dT, aV, aE, a0, aC, dCall, dCallK, dIf, tTr, tV, truth, asB, tNot, tAnd, tOr, dAnd, dOr, sSet, sAsg, sPar, sRet, s0, sC, sIf, sX, sOwn, sApp, sFrz, frzE, sFor, outV, fnF, lenIs, ent, small, few, putE, putsE, wipeE, it_l, it_t, iS, iR1, iR2, wEn, wZ2, wZ3, dLc, dLf, dSl, oN, oS, pCut, pSub, cI, bD, pIx, pList, pTup, pLen, pNot, qIsN, qNotN, pIsN, pNotN, List.getElem?_cons_succ, List.getElem?_cons_zero, List.set_cons_succ, List.set_cons_zero, List.length_cons, List.length_nil, List.map_cons, List.map_nil, List.foldr_cons, List.foldr_nil, List.replicate_succ, List.replicate_zero, List.cons_append, List.nil_append, sOPar, sOOPar, dOIx, sNest, sCallP, dOLen, fnP, pC, pFrz, dPr, nApp, nIf, nEnd, sN0, sN1, lendE, frzW, sSetK, dGet, dZipD, dPairD, pMax2, sDD, sND, tNeN, sLock, lockE, odcE, tdE, dttE, tC, tLock, tRet, dGetO, dIdxO, tNinD, sPutO, tDen, sUpd, sCpT, iDtt, dSrtD, sParDt, sParDt3, tCall2, fnT, sNewD, isNd, pEq, h0, decide_false, if_false, optI]
theorem prs_iL (as bs : List Int) : prs (iL as) (iL bs) = (as.zip bs).map fun q => .tuple [.int q.1, .int q.2] := by
  unfold prs iL
  rw [List.zip_map, List.map_map]
  rfl
theorem trs_iL (as bs cs : List Int) : trs (iL as) (iL bs) (iL cs) = (as.zip (bs.zip cs)).map fun q => .tuple [.int q.1, .int q.2.1, .int q.2.2] := by
  unfold trs iL
  rw [List.zip_map, List.zip_map, List.map_map]
  rfl
def cnt (n : Nat) : List Int := (List.range n).map fun (k : Nat) => (k : Int)
theorem nums_cnt (n : Nat) : nums n = iL (cnt n) := nums_eq n
theorem iL_len (ns : List Int) : (iL ns).length = ns.length := List.length_map ..
theorem cnt_len (n : Nat) : (cnt n).length = n := by simp [cnt]
theorem cnt_get {n i : Nat} (h : i < n) : (cnt n)[i]? = some (i : Int) := by simp [cnt, h]
theorem pEq_in (i : Int) : pEq (.int i) .none = some false := by
  simp [pEq, SeqAt.shaped, PyData.canLay0, PyData.depth, PyData.eqv]
theorem pEq_ii (i j : Int) : pEq (.int i) (.int j) = some (decide (i = j)) := rfl
theorem ret_bind {α β : Type} (a : α) (f : α → Tree β) : (Tree.ret a).bind f = f a := rfl
theorem lift_some {α : Type} (a : α) : liftO (some a) = .ret a := rfl
theorem map_ii {α : Type} (f : α → Int) (xs : List α) : xs.map (fun x => PyData.int (f x)) = iL (xs.map f) := by
  unfold iL
  rw [List.map_map]
  rfl
theorem mapT_I {f : PyData → Tree PyData} {g : Int → Int} {ns : List Int} (h : ∀ x ∈ ns, f (.int x) = .ret (.int (g x))) : mapT f (iL ns) = .ret (iL (ns.map g)) := by
  rw [← map_ii]
  exact (mapT_map f PyData.int ns).trans (mapT_ret (g := fun x => PyData.int (g x)) h)
theorem mapT_2 {f : PyData → Tree PyData} {g : Int × Int → Int} {as bs : List Int} (h : ∀ q ∈ as.zip bs, f (.tuple [.int q.1, .int q.2]) = .ret (.int (g q))) : mapT f (prs (iL as) (iL bs)) = .ret (iL ((as.zip bs).map g)) := by
  rw [prs_iL, mapT_map, mapT_ret (g := fun x => PyData.int (g x)) h, ← map_ii]
theorem mapT_3 {f : PyData → Tree PyData} {g : Int × Int × Int → Int} {as bs cs : List Int} (h : ∀ q ∈ as.zip (bs.zip cs), f (.tuple [.int q.1, .int q.2.1, .int q.2.2]) = .ret (.int (g q))) : mapT f (trs (iL as) (iL bs) (iL cs)) = .ret (iL ((as.zip (bs.zip cs)).map g)) := by
  rw [trs_iL, mapT_map, mapT_ret (g := fun x => PyData.int (g x)) h, ← map_ii]
theorem ev_seats_called {n c : Int} {d : PyData} {ss : List Int} (hd : items d = some (iL ss)) (n0 : 0 < n) (hne : ss ≠ []) (hl : ss.length ≤ 1000) : m_seats_called [.d (.int n), .d d, .d (.int c)] = .ret (.list (iL (callL n c ss))) := by
  simp only [m_seats_called, b_seats_called, Nat.reduceSub, Nat.reduceAdd, reduceIte, Tree.bind, liftO, dIdx, sAsgL, sPar4, dV, dC, d1, d2, t1, t2, l0, lC, dL, dT, aV, aE, a0, aC, dCall, dCallK, dIf, tTr, tV, truth, asB, tNot, tAnd, tOr, dAnd, dOr, sSet, sAsg, sPar, sRet, s0, sC, sIf, sX, sOwn, sApp, sFrz, frzE, sFor, outV, fnF, lenIs, ent, small, few, putE, putsE, wipeE, it_l, it_t, iS, iR1, iR2, wEn, wZ2, wZ3, dLc, dLf, dSl, oN, oS, pCut, pSub, cI, bD, pIx, pList, pTup, pLen, pNot, qIsN, qNotN, pIsN, pNotN, List.getElem?_cons_succ, List.getElem?_cons_zero, List.set_cons_succ, List.set_cons_zero, List.length_cons, List.length_nil, List.map_cons, List.map_nil, List.foldr_cons, List.foldr_nil, List.replicate_succ, List.replicate_zero, List.cons_append, List.nil_append, sOPar, sOOPar, dOIx, sNest, sCallP, dOLen, fnP, pC, pFrz, dPr, nApp, nIf, nEnd, sN0, sN1, lendE, frzW, sSetK, dGet, dZipD, dPairD, pMax2, sDD, sND, tNeN, sLock, lockE, odcE, tdE, dttE, tC, tLock, tRet, dGetO, dIdxO, tNinD, sPutO, tDen, sUpd, sCpT, iDtt, dSrtD, sParDt, sParDt3, tCall2, fnT, sNewD, isNd, ev_mover hd n0 hne, hd, nums_cnt, iL_len]
  have hz : (prs (iL (cnt ss.length)) (iL ss)).length ≤ 50000 := by
    unfold prs
    simp [iL_len, cnt_len]
    omega
  have key : ∀ g : Int × Int → Int, (∀ i s, ss[i]? = some s → g ((i : Nat), s) = if moverL n c ss = some i then c else s) → ((cnt ss.length).zip ss).map g = callL n c ss := fun g hg => by
    refine List.ext_getElem? fun i => ?_
    by_cases hi : i < ss.length
    · have e := List.getElem?_eq_getElem hi
      rw [callL_get e, List.getElem?_map, List.getElem?_zip_eq_some (z := ((i : Int), ss[i])) |>.mpr ⟨cnt_get hi, e⟩]
      exact congrArg some (hg i _ e)
    · rw [List.getElem?_eq_none (by simp [cnt_len]; omega), List.getElem?_eq_none (by rw [callL_len]; omega)]
  cases hm : moverL n c ss with
  | none =>
    simp only [if_pos hz, optI]
    rw [mapT_2 (g := fun q => q.2) fun q hq => by simp only [Nat.reduceSub, Nat.reduceAdd, reduceIte, Tree.bind, liftO, dIdx, sAsgL, sPar4, dV, dC, d1, d2, t1, t2, l0, lC, dL, dT, aV, aE, a0, aC, dCall, dCallK, dIf, tTr, tV, truth, asB, tNot, tAnd, tOr, dAnd, dOr, sSet, sAsg, sPar, sRet, s0, sC, sIf, sX, sOwn, sApp, sFrz, frzE, sFor, outV, fnF, lenIs, ent, small, few, putE, putsE, wipeE, it_l, it_t, iS, iR1, iR2, wEn, wZ2, wZ3, dLc, dLf, dSl, oN, oS, pCut, pSub, cI, bD, pIx, pList, pTup, pLen, pNot, qIsN, qNotN, pIsN, pNotN, List.getElem?_cons_succ, List.getElem?_cons_zero, List.set_cons_succ, List.set_cons_zero, List.length_cons, List.length_nil, List.map_cons, List.map_nil, List.foldr_cons, List.foldr_nil, List.replicate_succ, List.replicate_zero, List.cons_append, List.nil_append, sOPar, sOOPar, dOIx, sNest, sCallP, dOLen, fnP, pC, pFrz, dPr, nApp, nIf, nEnd, sN0, sN1, lendE, frzW, sSetK, dGet, dZipD, dPairD, pMax2, sDD, sND, tNeN, sLock, lockE, odcE, tdE, dttE, tC, tLock, tRet, dGetO, dIdxO, tNinD, sPutO, tDen, sUpd, sCpT, iDtt, dSrtD, sParDt, sParDt3, tCall2, fnT, sNewD, isNd, pEq_in]]
    simp only [Tree.bind, liftO, dIdx, sAsgL, sPar4, dV, dC, d1, d2, t1, t2, l0, lC, dL, dT, aV, aE, a0, aC, dCall, dCallK, dIf, tTr, tV, truth, asB, tNot, tAnd, tOr, dAnd, dOr, sSet, sAsg, sPar, sRet, s0, sC, sIf, sX, sOwn, sApp, sFrz, frzE, sFor, outV, fnF, lenIs, ent, small, few, putE, putsE, wipeE, it_l, it_t, iS, iR1, iR2, wEn, wZ2, wZ3, dLc, dLf, dSl, oN, oS, pCut, pSub, cI, bD, pIx, pList, pTup, pLen, pNot, qIsN, qNotN, pIsN, pNotN, List.getElem?_cons_succ, List.getElem?_cons_zero, List.set_cons_succ, List.set_cons_zero, List.length_cons, List.length_nil, List.map_cons, List.map_nil, List.foldr_cons, List.foldr_nil, List.replicate_succ, List.replicate_zero, List.cons_append, List.nil_append, sOPar, sOOPar, dOIx, sNest, sCallP, dOLen, fnP, pC, pFrz, dPr, nApp, nIf, nEnd, sN0, sN1, lendE, frzW, sSetK, dGet, dZipD, dPairD, pMax2, sDD, sND, tNeN, sLock, lockE, odcE, tdE, dttE, tC, tLock, tRet, dGetO, dIdxO, tNinD, sPutO, tDen, sUpd, sCpT, iDtt, dSrtD, sParDt, sParDt3, tCall2, fnT, sNewD, isNd]
    rw [key _ fun i s _ => by rw [hm]; rfl]
  | some k =>
    simp only [if_pos hz, optI]
    rw [mapT_2 (g := fun q => if q.1 = (k : Int) then c else q.2) fun q hq => by
      by_cases hk : q.1 = (k : Int)
      · simp only [Nat.reduceSub, Nat.reduceAdd, reduceIte, Tree.bind, liftO, dIdx, sAsgL, sPar4, dV, dC, d1, d2, t1, t2, l0, lC, dL, dT, aV, aE, a0, aC, dCall, dCallK, dIf, tTr, tV, truth, asB, tNot, tAnd, tOr, dAnd, dOr, sSet, sAsg, sPar, sRet, s0, sC, sIf, sX, sOwn, sApp, sFrz, frzE, sFor, outV, fnF, lenIs, ent, small, few, putE, putsE, wipeE, it_l, it_t, iS, iR1, iR2, wEn, wZ2, wZ3, dLc, dLf, dSl, oN, oS, pCut, pSub, cI, bD, pIx, pList, pTup, pLen, pNot, qIsN, qNotN, pIsN, pNotN, List.getElem?_cons_succ, List.getElem?_cons_zero, List.set_cons_succ, List.set_cons_zero, List.length_cons, List.length_nil, List.map_cons, List.map_nil, List.foldr_cons, List.foldr_nil, List.replicate_succ, List.replicate_zero, List.cons_append, List.nil_append, sOPar, sOOPar, dOIx, sNest, sCallP, dOLen, fnP, pC, pFrz, dPr, nApp, nIf, nEnd, sN0, sN1, lendE, frzW, sSetK, dGet, dZipD, dPairD, pMax2, sDD, sND, tNeN, sLock, lockE, odcE, tdE, dttE, tC, tLock, tRet, dGetO, dIdxO, tNinD, sPutO, tDen, sUpd, sCpT, iDtt, dSrtD, sParDt, sParDt3, tCall2, fnT, sNewD, isNd, pEq_ii, hk, decide_true, if_true]
      · simp only [Nat.reduceSub, Nat.reduceAdd, reduceIte, Tree.bind, liftO, dIdx, sAsgL, sPar4, dV, dC, d1, d2, t1, t2, l0, lC, dL, dT, aV, aE, a0, aC, dCall, dCallK, dIf, tTr, tV, truth, asB, tNot, tAnd, tOr, dAnd, dOr, sSet, sAsg, sPar, sRet, s0, sC, sIf, sX, sOwn, sApp, sFrz, frzE, sFor, outV, fnF, lenIs, ent, small, few, putE, putsE, wipeE, it_l, it_t, iS, iR1, iR2, wEn, wZ2, wZ3, dLc, dLf, dSl, oN, oS, pCut, pSub, cI, bD, pIx, pList, pTup, pLen, pNot, qIsN, qNotN, pIsN, pNotN, List.getElem?_cons_succ, List.getElem?_cons_zero, List.set_cons_succ, List.set_cons_zero, List.length_cons, List.length_nil, List.map_cons, List.map_nil, List.foldr_cons, List.foldr_nil, List.replicate_succ, List.replicate_zero, List.cons_append, List.nil_append, sOPar, sOOPar, dOIx, sNest, sCallP, dOLen, fnP, pC, pFrz, dPr, nApp, nIf, nEnd, sN0, sN1, lendE, frzW, sSetK, dGet, dZipD, dPairD, pMax2, sDD, sND, tNeN, sLock, lockE, odcE, tdE, dttE, tC, tLock, tRet, dGetO, dIdxO, tNinD, sPutO, tDen, sUpd, sCpT, iDtt, dSrtD, sParDt, sParDt3, tCall2, fnT, sNewD, isNd, pEq_ii, hk, decide_false, if_false]]
    simp only [Tree.bind, liftO, dIdx, sAsgL, sPar4, dV, dC, d1, d2, t1, t2, l0, lC, dL, dT, aV, aE, a0, aC, dCall, dCallK, dIf, tTr, tV, truth, asB, tNot, tAnd, tOr, dAnd, dOr, sSet, sAsg, sPar, sRet, s0, sC, sIf, sX, sOwn, sApp, sFrz, frzE, sFor, outV, fnF, lenIs, ent, small, few, putE, putsE, wipeE, it_l, it_t, iS, iR1, iR2, wEn, wZ2, wZ3, dLc, dLf, dSl, oN, oS, pCut, pSub, cI, bD, pIx, pList, pTup, pLen, pNot, qIsN, qNotN, pIsN, pNotN, List.getElem?_cons_succ, List.getElem?_cons_zero, List.set_cons_succ, List.set_cons_zero, List.length_cons, List.length_nil, List.map_cons, List.map_nil, List.foldr_cons, List.foldr_nil, List.replicate_succ, List.replicate_zero, List.cons_append, List.nil_append, sOPar, sOOPar, dOIx, sNest, sCallP, dOLen, fnP, pC, pFrz, dPr, nApp, nIf, nEnd, sN0, sN1, lendE, frzW, sSetK, dGet, dZipD, dPairD, pMax2, sDD, sND, tNeN, sLock, lockE, odcE, tdE, dttE, tC, tLock, tRet, dGetO, dIdxO, tNinD, sPutO, tDen, sUpd, sCpT, iDtt, dSrtD, sParDt, sParDt3, tCall2, fnT, sNewD, isNd]
    rw [key _ fun i s _ => by
      rw [hm]
      by_cases hk : k = i
      · subst hk
        simp
      · have : ¬ ((i : Int) = (k : Int)) := by omega
        simp [hk, this]]
def alg (n : Int) : List Int → List Int → List (List Int)
  | _, [] => []
  | s, c :: cs => callL n c s :: alg n (callL n c s) cs
theorem AL_cons (n : Int) (ss : List Int) (c : Int) (cs : List Int) : AL n ss (c :: cs) = ss :: AL n (callL n c ss) cs := by
  unfold AL
  rw [List.length_cons, List.range_succ_eq_map, List.map_cons, List.map_map]
  rfl
theorem AL_alg (n : Int) : ∀ (cs ss : List Int), AL n ss cs = ss :: alg n ss cs
  | [], ss => rfl
  | c :: cs, ss => by rw [AL_cons, AL_alg n cs, alg]
theorem callL_ne {n c : Int} {ss : List Int} (h : ss ≠ []) : callL n c ss ≠ [] := fun e => h (by
  have := congrArg List.length e
  rw [callL_len] at this
  exact List.length_eq_zero_iff.mp this)
theorem along_loop {n : Int} {d e : PyData} (n0 : 0 < n) : ∀ (cs s : List Int) (acc : List PyData) (x5 : Option W), s ≠ [] → s.length ≤ 1000 → acc.length + cs.length ≤ 100000 → ∃ y5,
    forT (.nm 5) (sC (sSet 3 (dCall m_seats_called (aC (aV 0) (aC (aV 3) (aC (aV 5) a0))))) (sApp 4 (dV 3))) (iL cs) [some (.d (.int n)), some (.d d), some (.d e), some (.d (.list (iL s))), some (.own acc), x5]
      = .ret (.nx [some (.d (.int n)), some (.d d), some (.d e), some (.d (.list (iL (runS n s cs)))), some (.own (acc ++ dLs (alg n s cs))), y5])
  | [], s, acc, x5, _, _, _ => ⟨x5, by simp [iL, forT, alg, dLs, runS]⟩
  | c :: cs, s, acc, x5, h1, h2, h3 => by
    obtain ⟨y5, e⟩ := along_loop (d := d) (e := e) n0 cs (callL n c s) (acc ++ [.list (iL (callL n c s))]) (some (.d (.int c))) (callL_ne h1) (by rw [callL_len]; exact h2) (by simp at h3 ⊢; omega)
    refine ⟨y5, ?_⟩
    rw [show iL (c :: cs) = .int c :: iL cs from rfl, forT]
    simp only [Nat.reduceSub, Nat.reduceAdd, reduceIte, Tree.bind, liftO, dIdx, sAsgL, sPar4, dV, dC, d1, d2, t1, t2, l0, lC, dL, dT, aV, aE, a0, aC, dCall, dCallK, dIf, tTr, tV, truth, asB, tNot, tAnd, tOr, dAnd, dOr, sSet, sAsg, sPar, sRet, s0, sC, sIf, sX, sOwn, sApp, sFrz, frzE, sFor, outV, fnF, lenIs, ent, small, few, putE, putsE, wipeE, it_l, it_t, iS, iR1, iR2, wEn, wZ2, wZ3, dLc, dLf, dSl, oN, oS, pCut, pSub, cI, bD, pIx, pList, pTup, pLen, pNot, qIsN, qNotN, pIsN, pNotN, List.getElem?_cons_succ, List.getElem?_cons_zero, List.set_cons_succ, List.set_cons_zero, List.length_cons, List.length_nil, List.map_cons, List.map_nil, List.foldr_cons, List.foldr_nil, List.replicate_succ, List.replicate_zero, List.cons_append, List.nil_append, sOPar, sOOPar, dOIx, sNest, sCallP, dOLen, fnP, pC, pFrz, dPr, nApp, nIf, nEnd, sN0, sN1, lendE, frzW, sSetK, dGet, dZipD, dPairD, pMax2, sDD, sND, tNeN, sLock, lockE, odcE, tdE, dttE, tC, tLock, tRet, dGetO, dIdxO, tNinD, sPutO, tDen, sUpd, sCpT, iDtt, dSrtD, sParDt, sParDt3, tCall2, fnT, sNewD, isNd, ev_seats_called (it_l _) n0 h1 h2, if_pos (show acc.length + 1 ≤ 100000 by simp at h3; omega)]
    rw [e, alg, List.append_assoc]
    rfl
theorem ev_seats_along {n : Int} {d e : PyData} {ss cs : List Int} (hd : items d = some (iL ss)) (he : items e = some (iL cs)) (n0 : 0 < n) (hne : ss ≠ []) (hl : ss.length ≤ 1000) (hc : cs.length ≤ 1000) : m_seats_along [.d (.int n), .d d, .d e] = .ret (.list (dLs (AL n ss cs))) := by
  obtain ⟨y5, el⟩ := along_loop (d := d) (e := e) n0 cs ss [.list (iL ss)] none hne hl (by simp; omega)
  simp only [m_seats_along, b_seats_along, Nat.reduceSub, Nat.reduceAdd, reduceIte, Tree.bind, liftO, dIdx, sAsgL, sPar4, dV, dC, d1, d2, t1, t2, l0, lC, dL, dT, aV, aE, a0, aC, dCall, dCallK, dIf, tTr, tV, truth, asB, tNot, tAnd, tOr, dAnd, dOr, sSet, sAsg, sPar, sRet, s0, sC, sIf, sX, sOwn, sApp, sFrz, frzE, sFor, outV, fnF, lenIs, ent, small, few, putE, putsE, wipeE, it_l, it_t, iS, iR1, iR2, wEn, wZ2, wZ3, dLc, dLf, dSl, oN, oS, pCut, pSub, cI, bD, pIx, pList, pTup, pLen, pNot, qIsN, qNotN, pIsN, pNotN, List.getElem?_cons_succ, List.getElem?_cons_zero, List.set_cons_succ, List.set_cons_zero, List.length_cons, List.length_nil, List.map_cons, List.map_nil, List.foldr_cons, List.foldr_nil, List.replicate_succ, List.replicate_zero, List.cons_append, List.nil_append, sOPar, sOOPar, dOIx, sNest, sCallP, dOLen, fnP, pC, pFrz, dPr, nApp, nIf, nEnd, sN0, sN1, lendE, frzW, sSetK, dGet, dZipD, dPairD, pMax2, sDD, sND, tNeN, sLock, lockE, odcE, tdE, dttE, tC, tLock, tRet, dGetO, dIdxO, tNinD, sPutO, tDen, sUpd, sCpT, iDtt, dSrtD, sParDt, sParDt3, tCall2, fnT, sNewD, isNd, hd, he, Nat.reduceLeDiff]
  rw [el]
  simp only [Nat.reduceSub, Nat.reduceAdd, reduceIte, Tree.bind, liftO, dIdx, sAsgL, sPar4, dV, dC, d1, d2, t1, t2, l0, lC, dL, dT, aV, aE, a0, aC, dCall, dCallK, dIf, tTr, tV, truth, asB, tNot, tAnd, tOr, dAnd, dOr, sSet, sAsg, sPar, sRet, s0, sC, sIf, sX, sOwn, sApp, sFrz, frzE, sFor, outV, fnF, lenIs, ent, small, few, putE, putsE, wipeE, it_l, it_t, iS, iR1, iR2, wEn, wZ2, wZ3, dLc, dLf, dSl, oN, oS, pCut, pSub, cI, bD, pIx, pList, pTup, pLen, pNot, qIsN, qNotN, pIsN, pNotN, List.getElem?_cons_succ, List.getElem?_cons_zero, List.set_cons_succ, List.set_cons_zero, List.length_cons, List.length_nil, List.map_cons, List.map_nil, List.foldr_cons, List.foldr_nil, List.replicate_succ, List.replicate_zero, List.cons_append, List.nil_append, sOPar, sOOPar, dOIx, sNest, sCallP, dOLen, fnP, pC, pFrz, dPr, nApp, nIf, nEnd, sN0, sN1, lendE, frzW, sSetK, dGet, dZipD, dPairD, pMax2, sDD, sND, tNeN, sLock, lockE, odcE, tdE, dttE, tC, tLock, tRet, dGetO, dIdxO, tNinD, sPutO, tDen, sUpd, sCpT, iDtt, dSrtD, sParDt, sParDt3, tCall2, fnT, sNewD, isNd]
  rw [AL_alg]
  rfl
theorem dLs_cons (l : List Int) (ls : List (List Int)) : dLs (l :: ls) = .list (iL l) :: dLs ls := rfl
def stp (n : Int) : List Int → List Int → List Int → List Int
  | t, _, [] => t
  | t, s, c :: cs => stp n (zipStep n t s (callL n c s)) (callL n c s) cs
theorem stp_fold (n : Int) : ∀ (cs s t : List Int), stp n t s cs = (List.range cs.length).foldl (fun t j => zipStep n t (runS n s (cs.take j)) (runS n s (cs.take (j + 1)))) t
  | [], s, t => rfl
  | c :: cs, s, t => by
    rw [stp, stp_fold n cs, List.length_cons, List.range_succ_eq_map, List.foldl_cons, List.foldl_map]
    rfl
theorem stp_steps (n : Int) (ss cs : List Int) : stp n (ss.map fun _ => 0) ss cs = stepsL n ss cs := stp_fold n cs ss _
theorem steps_loop {n : Int} {d e a : PyData} (n0 : 0 < n) : ∀ (cs s t : List Int) (x5 x6 : Option W) (x7 x8 x9 x10 : Option W), t.length ≤ 1000 → ∃ y4 y5 y6,
    forT (.tp [5, 6]) (sSet 4 (dLc (.tp [8, 9, 10]) [10, 9, 8] (wZ3 (dV 4) (dV 5) (dV 6)) (d2 pAdd (dV 8) (d2 pMod (d2 pSub (dV 9) (dV 10)) (dV 0))))) (prs (dLs (s :: alg n s cs)) (dLs (alg n s cs))) [some (.d (.int n)), some (.d d), some (.d e), some (.d a), some (.d (.list (iL t))), x5, x6, x7, x8, x9, x10]
      = .ret (.nx [some (.d (.int n)), some (.d d), some (.d e), some (.d a), some (.d (.list (iL y4))), y5, y6, x7, x8, x9, x10]) ∧ y4 = stp n t s cs
  | [], s, t, x5, x6, x7, x8, x9, x10, _ => ⟨t, x5, x6, rfl, rfl⟩
  | c :: cs, s, t, x5, x6, x7, x8, x9, x10, h => by
    have hz : (zipStep n t s (callL n c s)).length ≤ 1000 := by
      unfold zipStep
      simp
      omega
    obtain ⟨y4, y5, y6, e1, e2⟩ := steps_loop (d := d) (e := e) (a := a) n0 cs (callL n c s) (zipStep n t s (callL n c s)) (some (.d (.list (iL s)))) (some (.d (.list (iL (callL n c s))))) x7 x8 x9 x10 hz
    refine ⟨y4, y5, y6, ?_, e2⟩
    have hz2 : (trs (iL t) (iL s) (iL (callL n c s))).length ≤ 50000 := by
      unfold trs
      simp
      omega
    rw [alg, dLs_cons, dLs_cons, show ∀ (x y : PyData) (xs ys : List PyData), prs (x :: xs) (y :: ys) = .tuple [x, y] :: prs xs ys from fun _ _ _ _ => rfl, forT]
    simp only [Nat.reduceSub, Nat.reduceAdd, reduceIte, Tree.bind, liftO, dIdx, sAsgL, sPar4, dV, dC, d1, d2, t1, t2, l0, lC, dL, dT, aV, aE, a0, aC, dCall, dCallK, dIf, tTr, tV, truth, asB, tNot, tAnd, tOr, dAnd, dOr, sSet, sAsg, sPar, sRet, s0, sC, sIf, sX, sOwn, sApp, sFrz, frzE, sFor, outV, fnF, lenIs, ent, small, few, putE, putsE, wipeE, it_l, it_t, iS, iR1, iR2, wEn, wZ2, wZ3, dLc, dLf, dSl, oN, oS, pCut, pSub, cI, bD, pIx, pList, pTup, pLen, pNot, qIsN, qNotN, pIsN, pNotN, List.getElem?_cons_succ, List.getElem?_cons_zero, List.set_cons_succ, List.set_cons_zero, List.length_cons, List.length_nil, List.map_cons, List.map_nil, List.foldr_cons, List.foldr_nil, List.replicate_succ, List.replicate_zero, List.cons_append, List.nil_append, sOPar, sOOPar, dOIx, sNest, sCallP, dOLen, fnP, pC, pFrz, dPr, nApp, nIf, nEnd, sN0, sN1, lendE, frzW, sSetK, dGet, dZipD, dPairD, pMax2, sDD, sND, tNeN, sLock, lockE, odcE, tdE, dttE, tC, tLock, tRet, dGetO, dIdxO, tNinD, sPutO, tDen, sUpd, sCpT, iDtt, dSrtD, sParDt, sParDt3, tCall2, fnT, sNewD, isNd, if_pos hz2]
    rw [mapT_3 (g := fun q => q.1 + (q.2.1 - q.2.2) % n) fun q hq => by simp only [Nat.reduceSub, Nat.reduceAdd, reduceIte, Tree.bind, liftO, dIdx, sAsgL, sPar4, dV, dC, d1, d2, t1, t2, l0, lC, dL, dT, aV, aE, a0, aC, dCall, dCallK, dIf, tTr, tV, truth, asB, tNot, tAnd, tOr, dAnd, dOr, sSet, sAsg, sPar, sRet, s0, sC, sIf, sX, sOwn, sApp, sFrz, frzE, sFor, outV, fnF, lenIs, ent, small, few, putE, putsE, wipeE, it_l, it_t, iS, iR1, iR2, wEn, wZ2, wZ3, dLc, dLf, dSl, oN, oS, pCut, pSub, cI, bD, pIx, pList, pTup, pLen, pNot, qIsN, qNotN, pIsN, pNotN, List.getElem?_cons_succ, List.getElem?_cons_zero, List.set_cons_succ, List.set_cons_zero, List.length_cons, List.length_nil, List.map_cons, List.map_nil, List.foldr_cons, List.foldr_nil, List.replicate_succ, List.replicate_zero, List.cons_append, List.nil_append, sOPar, sOOPar, dOIx, sNest, sCallP, dOLen, fnP, pC, pFrz, dPr, nApp, nIf, nEnd, sN0, sN1, lendE, frzW, sSetK, dGet, dZipD, dPairD, pMax2, sDD, sND, tNeN, sLock, lockE, odcE, tdE, dttE, tC, tLock, tRet, dGetO, dIdxO, tNinD, sPutO, tDen, sUpd, sCpT, iDtt, dSrtD, sParDt, sParDt3, tCall2, fnT, sNewD, isNd, pMod, pAdd, if_pos n0]]
    simp only [Nat.reduceSub, Nat.reduceAdd, reduceIte, Tree.bind, liftO, dIdx, sAsgL, sPar4, dV, dC, d1, d2, t1, t2, l0, lC, dL, dT, aV, aE, a0, aC, dCall, dCallK, dIf, tTr, tV, truth, asB, tNot, tAnd, tOr, dAnd, dOr, sSet, sAsg, sPar, sRet, s0, sC, sIf, sX, sOwn, sApp, sFrz, frzE, sFor, outV, fnF, lenIs, ent, small, few, putE, putsE, wipeE, it_l, it_t, iS, iR1, iR2, wEn, wZ2, wZ3, dLc, dLf, dSl, oN, oS, pCut, pSub, cI, bD, pIx, pList, pTup, pLen, pNot, qIsN, qNotN, pIsN, pNotN, List.getElem?_cons_succ, List.getElem?_cons_zero, List.set_cons_succ, List.set_cons_zero, List.length_cons, List.length_nil, List.map_cons, List.map_nil, List.foldr_cons, List.foldr_nil, List.replicate_succ, List.replicate_zero, List.cons_append, List.nil_append, sOPar, sOOPar, dOIx, sNest, sCallP, dOLen, fnP, pC, pFrz, dPr, nApp, nIf, nEnd, sN0, sN1, lendE, frzW, sSetK, dGet, dZipD, dPairD, pMax2, sDD, sND, tNeN, sLock, lockE, odcE, tdE, dttE, tC, tLock, tRet, dGetO, dIdxO, tNinD, sPutO, tDen, sUpd, sCpT, iDtt, dSrtD, sParDt, sParDt3, tCall2, fnT, sNewD, isNd]
    rw [← dLs_cons]
    exact e1
theorem cutD_1 (xs : List PyData) : cutD xs (some 1) none = xs.drop 1 := cutD_from xs 1
theorem ev_steps {n : Int} {d e : PyData} {ss cs : List Int} (hd : items d = some (iL ss)) (he : items e = some (iL cs)) (n0 : 0 < n) (hne : ss ≠ []) (hl : ss.length ≤ 1000) (hc : cs.length ≤ 1000) : m_steps [.d (.int n), .d d, .d e] = .ret (.list (iL (stepsL n ss cs))) := by
  obtain ⟨y4, y5, y6, e1, e2⟩ := steps_loop (d := d) (e := e) (a := .list (dLs (AL n ss cs))) n0 cs ss (ss.map fun _ => 0) none none none none none none (by simpa using hl)
  rw [stp_steps] at e2
  subst e2
  simp only [m_steps, b_steps, Nat.reduceSub, Nat.reduceAdd, reduceIte, Tree.bind, liftO, dIdx, sAsgL, sPar4, dV, dC, d1, d2, t1, t2, l0, lC, dL, dT, aV, aE, a0, aC, dCall, dCallK, dIf, tTr, tV, truth, asB, tNot, tAnd, tOr, dAnd, dOr, sSet, sAsg, sPar, sRet, s0, sC, sIf, sX, sOwn, sApp, sFrz, frzE, sFor, outV, fnF, lenIs, ent, small, few, putE, putsE, wipeE, it_l, it_t, iS, iR1, iR2, wEn, wZ2, wZ3, dLc, dLf, dSl, oN, oS, pCut, pSub, cI, bD, pIx, pList, pTup, pLen, pNot, qIsN, qNotN, pIsN, pNotN, List.getElem?_cons_succ, List.getElem?_cons_zero, List.set_cons_succ, List.set_cons_zero, List.length_cons, List.length_nil, List.map_cons, List.map_nil, List.foldr_cons, List.foldr_nil, List.replicate_succ, List.replicate_zero, List.cons_append, List.nil_append, sOPar, sOOPar, dOIx, sNest, sCallP, dOLen, fnP, pC, pFrz, dPr, nApp, nIf, nEnd, sN0, sN1, lendE, frzW, sSetK, dGet, dZipD, dPairD, pMax2, sDD, sND, tNeN, sLock, lockE, odcE, tdE, dttE, tC, tLock, tRet, dGetO, dIdxO, tNinD, sPutO, tDen, sUpd, sCpT, iDtt, dSrtD, sParDt, sParDt3, tCall2, fnT, sNewD, isNd, hd, he, ev_seats_along hd he n0 hne hl hc, cutD_1, if_pos (show (iL ss).length ≤ 50000 by rw [iL_len]; omega)]
  rw [mapT_I (g := fun _ => 0) fun x hx => by simp only [Nat.reduceSub, Nat.reduceAdd, reduceIte, Tree.bind, liftO, dIdx, sAsgL, sPar4, dV, dC, d1, d2, t1, t2, l0, lC, dL, dT, aV, aE, a0, aC, dCall, dCallK, dIf, tTr, tV, truth, asB, tNot, tAnd, tOr, dAnd, dOr, sSet, sAsg, sPar, sRet, s0, sC, sIf, sX, sOwn, sApp, sFrz, frzE, sFor, outV, fnF, lenIs, ent, small, few, putE, putsE, wipeE, it_l, it_t, iS, iR1, iR2, wEn, wZ2, wZ3, dLc, dLf, dSl, oN, oS, pCut, pSub, cI, bD, pIx, pList, pTup, pLen, pNot, qIsN, qNotN, pIsN, pNotN, List.getElem?_cons_succ, List.getElem?_cons_zero, List.set_cons_succ, List.set_cons_zero, List.length_cons, List.length_nil, List.map_cons, List.map_nil, List.foldr_cons, List.foldr_nil, List.replicate_succ, List.replicate_zero, List.cons_append, List.nil_append, sOPar, sOOPar, dOIx, sNest, sCallP, dOLen, fnP, pC, pFrz, dPr, nApp, nIf, nEnd, sN0, sN1, lendE, frzW, sSetK, dGet, dZipD, dPairD, pMax2, sDD, sND, tNeN, sLock, lockE, odcE, tdE, dttE, tC, tLock, tRet, dGetO, dIdxO, tNinD, sPutO, tDen, sUpd, sCpT, iDtt, dSrtD, sParDt, sParDt3, tCall2, fnT, sNewD, isNd]]
  simp only [Nat.reduceSub, Nat.reduceAdd, reduceIte, Tree.bind, liftO, dIdx, sAsgL, sPar4, dV, dC, d1, d2, t1, t2, l0, lC, dL, dT, aV, aE, a0, aC, dCall, dCallK, dIf, tTr, tV, truth, asB, tNot, tAnd, tOr, dAnd, dOr, sSet, sAsg, sPar, sRet, s0, sC, sIf, sX, sOwn, sApp, sFrz, frzE, sFor, outV, fnF, lenIs, ent, small, few, putE, putsE, wipeE, it_l, it_t, iS, iR1, iR2, wEn, wZ2, wZ3, dLc, dLf, dSl, oN, oS, pCut, pSub, cI, bD, pIx, pList, pTup, pLen, pNot, qIsN, qNotN, pIsN, pNotN, List.getElem?_cons_succ, List.getElem?_cons_zero, List.set_cons_succ, List.set_cons_zero, List.length_cons, List.length_nil, List.map_cons, List.map_nil, List.foldr_cons, List.foldr_nil, List.replicate_succ, List.replicate_zero, List.cons_append, List.nil_append, sOPar, sOOPar, dOIx, sNest, sCallP, dOLen, fnP, pC, pFrz, dPr, nApp, nIf, nEnd, sN0, sN1, lendE, frzW, sSetK, dGet, dZipD, dPairD, pMax2, sDD, sND, tNeN, sLock, lockE, odcE, tdE, dttE, tC, tLock, tRet, dGetO, dIdxO, tNinD, sPutO, tDen, sUpd, sCpT, iDtt, dSrtD, sParDt, sParDt3, tCall2, fnT, sNewD, isNd]
  rw [show (dLs (AL n ss cs)).drop 1 = dLs (alg n ss cs) by rw [AL_alg]; rfl]
  rw [show prs (dLs (AL n ss cs)) (dLs (alg n ss cs)) = prs (dLs (ss :: alg n ss cs)) (dLs (alg n ss cs)) by rw [AL_alg]]
  rw [e1]
  simp only [Nat.reduceSub, Nat.reduceAdd, reduceIte, Tree.bind, liftO, dIdx, sAsgL, sPar4, dV, dC, d1, d2, t1, t2, l0, lC, dL, dT, aV, aE, a0, aC, dCall, dCallK, dIf, tTr, tV, truth, asB, tNot, tAnd, tOr, dAnd, dOr, sSet, sAsg, sPar, sRet, s0, sC, sIf, sX, sOwn, sApp, sFrz, frzE, sFor, outV, fnF, lenIs, ent, small, few, putE, putsE, wipeE, it_l, it_t, iS, iR1, iR2, wEn, wZ2, wZ3, dLc, dLf, dSl, oN, oS, pCut, pSub, cI, bD, pIx, pList, pTup, pLen, pNot, qIsN, qNotN, pIsN, pNotN, List.getElem?_cons_succ, List.getElem?_cons_zero, List.set_cons_succ, List.set_cons_zero, List.length_cons, List.length_nil, List.map_cons, List.map_nil, List.foldr_cons, List.foldr_nil, List.replicate_succ, List.replicate_zero, List.cons_append, List.nil_append, sOPar, sOOPar, dOIx, sNest, sCallP, dOLen, fnP, pC, pFrz, dPr, nApp, nIf, nEnd, sN0, sN1, lendE, frzW, sSetK, dGet, dZipD, dPairD, pMax2, sDD, sND, tNeN, sLock, lockE, odcE, tdE, dttE, tC, tLock, tRet, dGetO, dIdxO, tNinD, sPutO, tDen, sUpd, sCpT, iDtt, dSrtD, sParDt, sParDt3, tCall2, fnT, sNewD, isNd]
theorem atI_nat {α : Type} {xs : List α} {k : Nat} {x : α} (h : xs[k]? = some x) : atI xs (k : Int) = some x := by
  have hk := (List.getElem?_eq_some_iff.mp h).1
  unfold atI
  rw [ixN_nat hk]
  exact h
theorem pIx_of {d x : PyData} {xs : List PyData} {k : Nat} (hd : items d = some xs) (h : xs[k]? = some x) : pIx d (.int (k : Int)) = some x := by
  unfold pIx
  rw [hd]
  exact atI_nat h
theorem pIx_I {d x : PyData} {xs : List PyData} {i : Int} (hd : items d = some xs) (h0 : 0 ≤ i) (h : xs[i.toNat]? = some x) : pIx d (.int i) = some x := by
  have := pIx_of (k := i.toNat) hd h
  rw [Int.toNat_of_nonneg h0] at this
  exact this
theorem rg1_nat {k : Nat} (h : k ≤ 100000) : rg1 (.int (k : Int)) = some (nums k) := by
  show (if -100000 ≤ (k : Int) ∧ (k : Int) ≤ 100000 then some (nums (k : Int).toNat) else none) = _
  rw [if_pos ⟨by omega, by omega⟩]
  rfl
theorem nums_len (n : Nat) : (nums n).length = n := by simp [nums]
theorem mapT_R {f : PyData → Tree PyData} {g : Nat → PyData} {n : Nat} (h : ∀ k, k < n → f (.int (k : Int)) = .ret (g k)) : mapT f (nums n) = .ret ((List.range n).map g) := by
  unfold nums
  rw [mapT_map]
  exact mapT_ret fun k hk => h k (List.mem_range.mp hk)
theorem ev_pack_seats {n c : Int} {k : Nat} (n0 : 0 < n) (hk : k ≤ 1000) : m_pack_seats [.d (.int n), .d (.int (k : Int)), .d (.int c)] = .ret (.list (iL (pkS n k c))) := by
  simp only [m_pack_seats, b_pack_seats, Nat.reduceSub, Nat.reduceAdd, reduceIte, Tree.bind, liftO, dIdx, sAsgL, sPar4, dV, dC, d1, d2, t1, t2, l0, lC, dL, dT, aV, aE, a0, aC, dCall, dCallK, dIf, tTr, tV, truth, asB, tNot, tAnd, tOr, dAnd, dOr, sSet, sAsg, sPar, sRet, s0, sC, sIf, sX, sOwn, sApp, sFrz, frzE, sFor, outV, fnF, lenIs, ent, small, few, putE, putsE, wipeE, it_l, it_t, iS, iR1, iR2, wEn, wZ2, wZ3, dLc, dLf, dSl, oN, oS, pCut, pSub, cI, bD, pIx, pList, pTup, pLen, pNot, qIsN, qNotN, pIsN, pNotN, List.getElem?_cons_succ, List.getElem?_cons_zero, List.set_cons_succ, List.set_cons_zero, List.length_cons, List.length_nil, List.map_cons, List.map_nil, List.foldr_cons, List.foldr_nil, List.replicate_succ, List.replicate_zero, List.cons_append, List.nil_append, sOPar, sOOPar, dOIx, sNest, sCallP, dOLen, fnP, pC, pFrz, dPr, nApp, nIf, nEnd, sN0, sN1, lendE, frzW, sSetK, dGet, dZipD, dPairD, pMax2, sDD, sND, tNeN, sLock, lockE, odcE, tdE, dttE, tC, tLock, tRet, dGetO, dIdxO, tNinD, sPutO, tDen, sUpd, sCpT, iDtt, dSrtD, sParDt, sParDt3, tCall2, fnT, sNewD, isNd, rg1_nat (show k ≤ 100000 by omega), nums_len, if_pos (show k ≤ 50000 by omega)]
  rw [mapT_R (g := fun b => .int ((c - (b : Int)) % n)) fun b hb => by simp only [Nat.reduceSub, Nat.reduceAdd, reduceIte, Tree.bind, liftO, dIdx, sAsgL, sPar4, dV, dC, d1, d2, t1, t2, l0, lC, dL, dT, aV, aE, a0, aC, dCall, dCallK, dIf, tTr, tV, truth, asB, tNot, tAnd, tOr, dAnd, dOr, sSet, sAsg, sPar, sRet, s0, sC, sIf, sX, sOwn, sApp, sFrz, frzE, sFor, outV, fnF, lenIs, ent, small, few, putE, putsE, wipeE, it_l, it_t, iS, iR1, iR2, wEn, wZ2, wZ3, dLc, dLf, dSl, oN, oS, pCut, pSub, cI, bD, pIx, pList, pTup, pLen, pNot, qIsN, qNotN, pIsN, pNotN, List.getElem?_cons_succ, List.getElem?_cons_zero, List.set_cons_succ, List.set_cons_zero, List.length_cons, List.length_nil, List.map_cons, List.map_nil, List.foldr_cons, List.foldr_nil, List.replicate_succ, List.replicate_zero, List.cons_append, List.nil_append, sOPar, sOOPar, dOIx, sNest, sCallP, dOLen, fnP, pC, pFrz, dPr, nApp, nIf, nEnd, sN0, sN1, lendE, frzW, sSetK, dGet, dZipD, dPairD, pMax2, sDD, sND, tNeN, sLock, lockE, odcE, tdE, dttE, tC, tLock, tRet, dGetO, dIdxO, tNinD, sPutO, tDen, sUpd, sCpT, iDtt, dSrtD, sParDt, sParDt3, tCall2, fnT, sNewD, isNd, pMod, if_pos n0]]
  simp only [Tree.bind, liftO, dIdx, sAsgL, sPar4, dV, dC, d1, d2, t1, t2, l0, lC, dL, dT, aV, aE, a0, aC, dCall, dCallK, dIf, tTr, tV, truth, asB, tNot, tAnd, tOr, dAnd, dOr, sSet, sAsg, sPar, sRet, s0, sC, sIf, sX, sOwn, sApp, sFrz, frzE, sFor, outV, fnF, lenIs, ent, small, few, putE, putsE, wipeE, it_l, it_t, iS, iR1, iR2, wEn, wZ2, wZ3, dLc, dLf, dSl, oN, oS, pCut, pSub, cI, bD, pIx, pList, pTup, pLen, pNot, qIsN, qNotN, pIsN, pNotN, List.getElem?_cons_succ, List.getElem?_cons_zero, List.set_cons_succ, List.set_cons_zero, List.length_cons, List.length_nil, List.map_cons, List.map_nil, List.foldr_cons, List.foldr_nil, List.replicate_succ, List.replicate_zero, List.cons_append, List.nil_append, sOPar, sOOPar, dOIx, sNest, sCallP, dOLen, fnP, pC, pFrz, dPr, nApp, nIf, nEnd, sN0, sN1, lendE, frzW, sSetK, dGet, dZipD, dPairD, pMax2, sDD, sND, tNeN, sLock, lockE, odcE, tdE, dttE, tC, tLock, tRet, dGetO, dIdxO, tNinD, sPutO, tDen, sUpd, sCpT, iDtt, dSrtD, sParDt, sParDt3, tCall2, fnT, sNewD, isNd]
  rw [map_ii (fun (b : Nat) => (c - (b : Int)) % n)]
  rfl
theorem ev_moves_of {n k : Nat} {e : PyData} {cs : List Int} (he : items e = some (iL cs)) (n0 : 0 < n) (hn : n ≤ 1000) (k0 : 1 ≤ k) (hk : k ≤ 1000) (hc : cs.length ≤ 1000) : m_moves_of [.d (.int (n : Int)), .d (.int (k : Int)), .d e] = .ret (.tuple (rowsT (mvL n k cs))) := by
  simp only [m_moves_of, b_moves_of, Nat.reduceSub, Nat.reduceAdd, reduceIte, Tree.bind, liftO, dIdx, sAsgL, sPar4, dV, dC, d1, d2, t1, t2, l0, lC, dL, dT, aV, aE, a0, aC, dCall, dCallK, dIf, tTr, tV, truth, asB, tNot, tAnd, tOr, dAnd, dOr, sSet, sAsg, sPar, sRet, s0, sC, sIf, sX, sOwn, sApp, sFrz, frzE, sFor, outV, fnF, lenIs, ent, small, few, putE, putsE, wipeE, it_l, it_t, iS, iR1, iR2, wEn, wZ2, wZ3, dLc, dLf, dSl, oN, oS, pCut, pSub, cI, bD, pIx, pList, pTup, pLen, pNot, qIsN, qNotN, pIsN, pNotN, List.getElem?_cons_succ, List.getElem?_cons_zero, List.set_cons_succ, List.set_cons_zero, List.length_cons, List.length_nil, List.map_cons, List.map_nil, List.foldr_cons, List.foldr_nil, List.replicate_succ, List.replicate_zero, List.cons_append, List.nil_append, sOPar, sOOPar, dOIx, sNest, sCallP, dOLen, fnP, pC, pFrz, dPr, nApp, nIf, nEnd, sN0, sN1, lendE, frzW, sSetK, dGet, dZipD, dPairD, pMax2, sDD, sND, tNeN, sLock, lockE, odcE, tdE, dttE, tC, tLock, tRet, dGetO, dIdxO, tNinD, sPutO, tDen, sUpd, sCpT, iDtt, dSrtD, sParDt, sParDt3, tCall2, fnT, sNewD, isNd, rg1_nat (show n ≤ 100000 by omega), nums_len, if_pos (show n ≤ 50000 by omega)]
  have hp : ∀ c : Nat, pkS n k (c : Int) ≠ [] := fun c e => by
    have := congrArg List.length e
    rw [pkS_len] at this
    simp at this
    omega
  rw [mapT_R (g := fun c => .tuple (iL (stepsL n (pkS n k (c : Int)) cs))) fun c hc' => by
    simp only [Nat.reduceSub, Nat.reduceAdd, reduceIte, Tree.bind, liftO, dIdx, sAsgL, sPar4, dV, dC, d1, d2, t1, t2, l0, lC, dL, dT, aV, aE, a0, aC, dCall, dCallK, dIf, tTr, tV, truth, asB, tNot, tAnd, tOr, dAnd, dOr, sSet, sAsg, sPar, sRet, s0, sC, sIf, sX, sOwn, sApp, sFrz, frzE, sFor, outV, fnF, lenIs, ent, small, few, putE, putsE, wipeE, it_l, it_t, iS, iR1, iR2, wEn, wZ2, wZ3, dLc, dLf, dSl, oN, oS, pCut, pSub, cI, bD, pIx, pList, pTup, pLen, pNot, qIsN, qNotN, pIsN, pNotN, List.getElem?_cons_succ, List.getElem?_cons_zero, List.set_cons_succ, List.set_cons_zero, List.length_cons, List.length_nil, List.map_cons, List.map_nil, List.foldr_cons, List.foldr_nil, List.replicate_succ, List.replicate_zero, List.cons_append, List.nil_append, sOPar, sOOPar, dOIx, sNest, sCallP, dOLen, fnP, pC, pFrz, dPr, nApp, nIf, nEnd, sN0, sN1, lendE, frzW, sSetK, dGet, dZipD, dPairD, pMax2, sDD, sND, tNeN, sLock, lockE, odcE, tdE, dttE, tC, tLock, tRet, dGetO, dIdxO, tNinD, sPutO, tDen, sUpd, sCpT, iDtt, dSrtD, sParDt, sParDt3, tCall2, fnT, sNewD, isNd, ev_pack_seats (show (0 : Int) < n by omega) hk, ev_steps (it_l _) he (show (0 : Int) < n by omega) (hp c) (by rw [pkS_len]; exact hk) hc]]
  simp only [Tree.bind, liftO, dIdx, sAsgL, sPar4, dV, dC, d1, d2, t1, t2, l0, lC, dL, dT, aV, aE, a0, aC, dCall, dCallK, dIf, tTr, tV, truth, asB, tNot, tAnd, tOr, dAnd, dOr, sSet, sAsg, sPar, sRet, s0, sC, sIf, sX, sOwn, sApp, sFrz, frzE, sFor, outV, fnF, lenIs, ent, small, few, putE, putsE, wipeE, it_l, it_t, iS, iR1, iR2, wEn, wZ2, wZ3, dLc, dLf, dSl, oN, oS, pCut, pSub, cI, bD, pIx, pList, pTup, pLen, pNot, qIsN, qNotN, pIsN, pNotN, List.getElem?_cons_succ, List.getElem?_cons_zero, List.set_cons_succ, List.set_cons_zero, List.length_cons, List.length_nil, List.map_cons, List.map_nil, List.foldr_cons, List.foldr_nil, List.replicate_succ, List.replicate_zero, List.cons_append, List.nil_append, sOPar, sOOPar, dOIx, sNest, sCallP, dOLen, fnP, pC, pFrz, dPr, nApp, nIf, nEnd, sN0, sN1, lendE, frzW, sSetK, dGet, dZipD, dPairD, pMax2, sDD, sND, tNeN, sLock, lockE, odcE, tdE, dttE, tC, tLock, tRet, dGetO, dIdxO, tNinD, sPutO, tDen, sUpd, sCpT, iDtt, dSrtD, sParDt, sParDt3, tCall2, fnT, sNewD, isNd]
  unfold rowsT mvL
  rw [List.map_map]
  rfl
def Mv (M : List (List Int)) (d : PyData) : Prop := ∃ rs, items d = some rs ∧ rs.length = M.length ∧ ∀ (i : Nat) row, M[i]? = some row → ∃ r, rs[i]? = some r ∧ items r = some (iL row)
theorem mv_rows (M : List (List Int)) : Mv M (.tuple (rowsT M)) := ⟨_, rfl, by simp [rowsT], fun i row h => ⟨_, by unfold rowsT; rw [List.getElem?_map, h]; rfl, rfl⟩⟩
structure MOk (n k : Nat) (M : List (List Int)) : Prop where
  len : M.length = n
  row : ∀ (i : Nat) (r : List Int), M[i]? = some r → r.length = k
theorem mOk_mvL {n k : Nat} {cs : List Int} : MOk n k (mvL n k cs) := ⟨by simp [mvL], fun i r h => by
  unfold mvL at h
  rw [List.getElem?_map] at h
  cases q : (List.range n)[i]? with
  | none =>
    rw [q] at h
    cases h
  | some c =>
    rw [q] at h
    cases h
    rw [show (stepsL n (pkS n k (c : Int)) cs).length = _ from stT_len _ _ _ _, pkS_len]⟩
theorem Mv.ix {n k : Nat} {M : List (List Int)} {d : PyData} {c : Int} {j : Nat} (h : Mv M d) (ok : MOk n k M) (c0 : 0 ≤ c) (c1 : c < n) (hj : j < k) : ∃ r, pIx d (.int c) = some r ∧ pIx r (.int (j : Int)) = some (.int (cell M c j)) := by
  obtain ⟨rs, h1, h2, h3⟩ := h
  have hc : c.toNat < M.length := by rw [ok.len]; omega
  obtain ⟨r, h4, h5⟩ := h3 c.toNat _ (List.getElem?_eq_getElem hc)
  refine ⟨r, pIx_I h1 c0 h4, pIx_of h5 ?_⟩
  have hl := ok.row c.toNat _ (List.getElem?_eq_getElem hc)
  have ec : M.getD c.toNat [] = M[c.toNat] := by rw [List.getD_eq_getElem?_getD, List.getElem?_eq_getElem hc, Option.getD_some]
  unfold cell
  rw [ec, List.getD_eq_getElem?_getD]
  have hj' : j < M[c.toNat].length := by rw [hl]; exact hj
  unfold iL
  rw [List.getElem?_map, List.getElem?_eq_getElem hj', Option.getD_some]
  rfl
theorem maxI_mx (i : Int) (is : List Int) : maxI i is = mx (i :: is) := mx_eq (maxI_mem is i) fun y hy => maxI_ge is i y hy
theorem pMax_of {l : List Int} (h : l ≠ []) : pMax (.list (iL l)) = some (.int (mx l)) := by
  unfold pMax onI
  dsimp only
  rw [asI_iL]
  cases l with
  | nil => exact absurd rfl h
  | cons i is => exact congrArg some (congrArg PyData.int (maxI_mx i is))
theorem pSrt_of (l : List Int) : pSrt (.list (iL l)) = some (.list (iL (srt l))) := by
  unfold pSrt onI
  dsimp only
  rw [asI_iL, ← isrt_eq]
theorem ev_steps_of_one {n : Nat} {M : List (List Int)} {d t : PyData} {ss : List Int} {seat : Int} (hM : Mv M d) (ok : MOk n ss.length M) (ht : items t = some (iL ss)) (n0 : 0 < n) (hne : ss ≠ []) (hl : ss.length ≤ 1000) : m_steps_of_one [.d (.int (n : Int)), .d d, .d t, .d (.int seat)] = .ret (.int (mx (trmS n M ss seat))) := by
  have n0' : (0 : Int) < n := by omega
  simp only [m_steps_of_one, b_steps_of_one, Nat.reduceSub, Nat.reduceAdd, reduceIte, Tree.bind, liftO, dIdx, sAsgL, sPar4, dV, dC, d1, d2, t1, t2, l0, lC, dL, dT, aV, aE, a0, aC, dCall, dCallK, dIf, tTr, tV, truth, asB, tNot, tAnd, tOr, dAnd, dOr, sSet, sAsg, sPar, sRet, s0, sC, sIf, sX, sOwn, sApp, sFrz, frzE, sFor, outV, fnF, lenIs, ent, small, few, putE, putsE, wipeE, it_l, it_t, iS, iR1, iR2, wEn, wZ2, wZ3, dLc, dLf, dSl, oN, oS, pCut, pSub, cI, bD, pIx, pList, pTup, pLen, pNot, qIsN, qNotN, pIsN, pNotN, List.getElem?_cons_succ, List.getElem?_cons_zero, List.set_cons_succ, List.set_cons_zero, List.length_cons, List.length_nil, List.map_cons, List.map_nil, List.foldr_cons, List.foldr_nil, List.replicate_succ, List.replicate_zero, List.cons_append, List.nil_append, sOPar, sOOPar, dOIx, sNest, sCallP, dOLen, fnP, pC, pFrz, dPr, nApp, nIf, nEnd, sN0, sN1, lendE, frzW, sSetK, dGet, dZipD, dPairD, pMax2, sDD, sND, tNeN, sLock, lockE, odcE, tdE, dttE, tC, tLock, tRet, dGetO, dIdxO, tNinD, sPutO, tDen, sUpd, sCpT, iDtt, dSrtD, sParDt, sParDt3, tCall2, fnT, sNewD, isNd, ht, iL_len, if_pos (show ss.length ≤ 50000 by omega)]
  rw [mapT_I (g := fun o => (o - seat) % n) fun x hx => by simp only [Nat.reduceSub, Nat.reduceAdd, reduceIte, Tree.bind, liftO, dIdx, sAsgL, sPar4, dV, dC, d1, d2, t1, t2, l0, lC, dL, dT, aV, aE, a0, aC, dCall, dCallK, dIf, tTr, tV, truth, asB, tNot, tAnd, tOr, dAnd, dOr, sSet, sAsg, sPar, sRet, s0, sC, sIf, sX, sOwn, sApp, sFrz, frzE, sFor, outV, fnF, lenIs, ent, small, few, putE, putsE, wipeE, it_l, it_t, iS, iR1, iR2, wEn, wZ2, wZ3, dLc, dLf, dSl, oN, oS, pCut, pSub, cI, bD, pIx, pList, pTup, pLen, pNot, qIsN, qNotN, pIsN, pNotN, List.getElem?_cons_succ, List.getElem?_cons_zero, List.set_cons_succ, List.set_cons_zero, List.length_cons, List.length_nil, List.map_cons, List.map_nil, List.foldr_cons, List.foldr_nil, List.replicate_succ, List.replicate_zero, List.cons_append, List.nil_append, sOPar, sOOPar, dOIx, sNest, sCallP, dOLen, fnP, pC, pFrz, dPr, nApp, nIf, nEnd, sN0, sN1, lendE, frzW, sSetK, dGet, dZipD, dPairD, pMax2, sDD, sND, tNeN, sLock, lockE, odcE, tdE, dttE, tC, tLock, tRet, dGetO, dIdxO, tNinD, sPutO, tDen, sUpd, sCpT, iDtt, dSrtD, sParDt, sParDt3, tCall2, fnT, sNewD, isNd, pMod, if_pos n0']]
  simp only [Nat.reduceSub, Nat.reduceAdd, reduceIte, Tree.bind, liftO, dIdx, sAsgL, sPar4, dV, dC, d1, d2, t1, t2, l0, lC, dL, dT, aV, aE, a0, aC, dCall, dCallK, dIf, tTr, tV, truth, asB, tNot, tAnd, tOr, dAnd, dOr, sSet, sAsg, sPar, sRet, s0, sC, sIf, sX, sOwn, sApp, sFrz, frzE, sFor, outV, fnF, lenIs, ent, small, few, putE, putsE, wipeE, it_l, it_t, iS, iR1, iR2, wEn, wZ2, wZ3, dLc, dLf, dSl, oN, oS, pCut, pSub, cI, bD, pIx, pList, pTup, pLen, pNot, qIsN, qNotN, pIsN, pNotN, List.getElem?_cons_succ, List.getElem?_cons_zero, List.set_cons_succ, List.set_cons_zero, List.length_cons, List.length_nil, List.map_cons, List.map_nil, List.foldr_cons, List.foldr_nil, List.replicate_succ, List.replicate_zero, List.cons_append, List.nil_append, sOPar, sOOPar, dOIx, sNest, sCallP, dOLen, fnP, pC, pFrz, dPr, nApp, nIf, nEnd, sN0, sN1, lendE, frzW, sSetK, dGet, dZipD, dPairD, pMax2, sDD, sND, tNeN, sLock, lockE, odcE, tdE, dttE, tC, tLock, tRet, dGetO, dIdxO, tNinD, sPutO, tDen, sUpd, sCpT, iDtt, dSrtD, sParDt, sParDt3, tCall2, fnT, sNewD, isNd, pSrt_of, nums_cnt, iL_len]
  have e1 : srt (ss.map fun o => (o - seat) % n) = dsS n ss seat := rfl
  rw [e1]
  have hdl : (dsS n ss seat).length = ss.length := dsS_len
  have hz : (prs (iL (cnt (dsS n ss seat).length)) (iL (dsS n ss seat))).length ≤ 50000 := by
    unfold prs
    simp [iL_len, cnt_len, hdl]
    omega
  simp only [if_pos hz]
  rw [mapT_2 (g := fun q => cell M ((seat + q.2) % n) q.1.toNat - (q.2 - q.1)) fun q hq => by
    obtain ⟨i, hi⟩ := List.getElem?_of_mem hq
    obtain ⟨g1, g2⟩ := List.getElem?_zip_eq_some.mp hi
    have hil : i < ss.length := by
      have := (List.getElem?_eq_some_iff.mp g1).1
      rw [cnt_len, hdl] at this
      exact this
    rw [cnt_get (by omega)] at g1
    have e2 : q.1 = (i : Int) := (Option.some.inj g1).symm
    obtain ⟨r, r1, r2⟩ := hM.ix ok (c := (seat + q.2) % n) (j := i) (Int.emod_nonneg _ (by omega)) (Int.emod_lt_of_pos _ n0') hil
    simp only [Nat.reduceSub, Nat.reduceAdd, reduceIte, Tree.bind, liftO, dV, dC, d1, d2, putE, putsE, wipeE, List.getElem?_cons_succ, List.getElem?_cons_zero, List.set_cons_succ, List.set_cons_zero, List.length_cons, List.length_nil, List.foldr_cons, List.foldr_nil, pMod, pAdd, pSub, if_pos n0', r1, e2, r2, Int.toNat_natCast]]
  simp only [Nat.reduceSub, Nat.reduceAdd, reduceIte, Tree.bind, liftO, dIdx, sAsgL, sPar4, dV, dC, d1, d2, t1, t2, l0, lC, dL, dT, aV, aE, a0, aC, dCall, dCallK, dIf, tTr, tV, truth, asB, tNot, tAnd, tOr, dAnd, dOr, sSet, sAsg, sPar, sRet, s0, sC, sIf, sX, sOwn, sApp, sFrz, frzE, sFor, outV, fnF, lenIs, ent, small, few, putE, putsE, wipeE, it_l, it_t, iS, iR1, iR2, wEn, wZ2, wZ3, dLc, dLf, dSl, oN, oS, pCut, pSub, cI, bD, pIx, pList, pTup, pLen, pNot, qIsN, qNotN, pIsN, pNotN, List.getElem?_cons_succ, List.getElem?_cons_zero, List.set_cons_succ, List.set_cons_zero, List.length_cons, List.length_nil, List.map_cons, List.map_nil, List.foldr_cons, List.foldr_nil, List.replicate_succ, List.replicate_zero, List.cons_append, List.nil_append, sOPar, sOOPar, dOIx, sNest, sCallP, dOLen, fnP, pC, pFrz, dPr, nApp, nIf, nEnd, sN0, sN1, lendE, frzW, sSetK, dGet, dZipD, dPairD, pMax2, sDD, sND, tNeN, sLock, lockE, odcE, tdE, dttE, tC, tLock, tRet, dGetO, dIdxO, tNinD, sPutO, tDen, sUpd, sCpT, iDtt, dSrtD, sParDt, sParDt3, tCall2, fnT, sNewD, isNd]
  have e3 : ((cnt (dsS n ss seat).length).zip (dsS n ss seat)).map (fun q => cell M ((seat + q.2) % n) q.1.toNat - (q.2 - q.1)) = trmS n M ss seat := by
    refine List.ext_getElem? fun i => ?_
    by_cases hi : i < ss.length
    · have hi' : i < (dsS n ss seat).length := by omega
      have e := List.getElem?_eq_getElem hi'
      rw [List.getElem?_map, List.getElem?_zip_eq_some (z := ((i : Int), (dsS n ss seat)[i])) |>.mpr ⟨cnt_get hi', e⟩]
      unfold trmS
      rw [List.getElem?_map, List.getElem?_range hi]
      have ed : (dsS n ss seat).getD i 0 = (dsS n ss seat)[i] := by rw [List.getD_eq_getElem?_getD, e, Option.getD_some]
      show some _ = some (cell M ((seat + (dsS n ss seat).getD i 0) % n) i - ((dsS n ss seat).getD i 0 - (i : Int)))
      rw [ed]
      rfl
    · rw [List.getElem?_eq_none (by simp [cnt_len]; omega), List.getElem?_eq_none (by simp [trmS]; omega)]
  rw [e3, pMax_of (fun e => by
    have := congrArg List.length e
    simp [trmS] at this
    exact hne this)]
  simp only [Tree.bind, liftO, dIdx, sAsgL, sPar4, dV, dC, d1, d2, t1, t2, l0, lC, dL, dT, aV, aE, a0, aC, dCall, dCallK, dIf, tTr, tV, truth, asB, tNot, tAnd, tOr, dAnd, dOr, sSet, sAsg, sPar, sRet, s0, sC, sIf, sX, sOwn, sApp, sFrz, frzE, sFor, outV, fnF, lenIs, ent, small, few, putE, putsE, wipeE, it_l, it_t, iS, iR1, iR2, wEn, wZ2, wZ3, dLc, dLf, dSl, oN, oS, pCut, pSub, cI, bD, pIx, pList, pTup, pLen, pNot, qIsN, qNotN, pIsN, pNotN, List.getElem?_cons_succ, List.getElem?_cons_zero, List.set_cons_succ, List.set_cons_zero, List.length_cons, List.length_nil, List.map_cons, List.map_nil, List.foldr_cons, List.foldr_nil, List.replicate_succ, List.replicate_zero, List.cons_append, List.nil_append, sOPar, sOOPar, dOIx, sNest, sCallP, dOLen, fnP, pC, pFrz, dPr, nApp, nIf, nEnd, sN0, sN1, lendE, frzW, sSetK, dGet, dZipD, dPairD, pMax2, sDD, sND, tNeN, sLock, lockE, odcE, tdE, dttE, tC, tLock, tRet, dGetO, dIdxO, tNinD, sPutO, tDen, sUpd, sCpT, iDtt, dSrtD, sParDt, sParDt3, tCall2, fnT, sNewD, isNd]
theorem ev_steps_by {n : Nat} {M : List (List Int)} {d t : PyData} {ss : List Int} (hM : Mv M d) (ok : MOk n ss.length M) (ht : items t = some (iL ss)) (n0 : 0 < n) (hne : ss ≠ []) (hl : ss.length ≤ 1000) : m_steps_by [.d (.int (n : Int)), .d d, .d t] = .ret (.list (iL (stepsBy n M ss))) := by
  simp only [m_steps_by, b_steps_by, Nat.reduceSub, Nat.reduceAdd, reduceIte, Tree.bind, liftO, dIdx, sAsgL, sPar4, dV, dC, d1, d2, t1, t2, l0, lC, dL, dT, aV, aE, a0, aC, dCall, dCallK, dIf, tTr, tV, truth, asB, tNot, tAnd, tOr, dAnd, dOr, sSet, sAsg, sPar, sRet, s0, sC, sIf, sX, sOwn, sApp, sFrz, frzE, sFor, outV, fnF, lenIs, ent, small, few, putE, putsE, wipeE, it_l, it_t, iS, iR1, iR2, wEn, wZ2, wZ3, dLc, dLf, dSl, oN, oS, pCut, pSub, cI, bD, pIx, pList, pTup, pLen, pNot, qIsN, qNotN, pIsN, pNotN, List.getElem?_cons_succ, List.getElem?_cons_zero, List.set_cons_succ, List.set_cons_zero, List.length_cons, List.length_nil, List.map_cons, List.map_nil, List.foldr_cons, List.foldr_nil, List.replicate_succ, List.replicate_zero, List.cons_append, List.nil_append, sOPar, sOOPar, dOIx, sNest, sCallP, dOLen, fnP, pC, pFrz, dPr, nApp, nIf, nEnd, sN0, sN1, lendE, frzW, sSetK, dGet, dZipD, dPairD, pMax2, sDD, sND, tNeN, sLock, lockE, odcE, tdE, dttE, tC, tLock, tRet, dGetO, dIdxO, tNinD, sPutO, tDen, sUpd, sCpT, iDtt, dSrtD, sParDt, sParDt3, tCall2, fnT, sNewD, isNd, ht, iL_len, if_pos (show ss.length ≤ 50000 by omega)]
  rw [mapT_I (g := fun seat => mx (trmS n M ss seat)) fun x hx => by simp only [Nat.reduceSub, Nat.reduceAdd, reduceIte, Tree.bind, liftO, dIdx, sAsgL, sPar4, dV, dC, d1, d2, t1, t2, l0, lC, dL, dT, aV, aE, a0, aC, dCall, dCallK, dIf, tTr, tV, truth, asB, tNot, tAnd, tOr, dAnd, dOr, sSet, sAsg, sPar, sRet, s0, sC, sIf, sX, sOwn, sApp, sFrz, frzE, sFor, outV, fnF, lenIs, ent, small, few, putE, putsE, wipeE, it_l, it_t, iS, iR1, iR2, wEn, wZ2, wZ3, dLc, dLf, dSl, oN, oS, pCut, pSub, cI, bD, pIx, pList, pTup, pLen, pNot, qIsN, qNotN, pIsN, pNotN, List.getElem?_cons_succ, List.getElem?_cons_zero, List.set_cons_succ, List.set_cons_zero, List.length_cons, List.length_nil, List.map_cons, List.map_nil, List.foldr_cons, List.foldr_nil, List.replicate_succ, List.replicate_zero, List.cons_append, List.nil_append, sOPar, sOOPar, dOIx, sNest, sCallP, dOLen, fnP, pC, pFrz, dPr, nApp, nIf, nEnd, sN0, sN1, lendE, frzW, sSetK, dGet, dZipD, dPairD, pMax2, sDD, sND, tNeN, sLock, lockE, odcE, tdE, dttE, tC, tLock, tRet, dGetO, dIdxO, tNinD, sPutO, tDen, sUpd, sCpT, iDtt, dSrtD, sParDt, sParDt3, tCall2, fnT, sNewD, isNd, ev_steps_of_one hM ok ht n0 hne hl]]
  simp only [Tree.bind, liftO, dIdx, sAsgL, sPar4, dV, dC, d1, d2, t1, t2, l0, lC, dL, dT, aV, aE, a0, aC, dCall, dCallK, dIf, tTr, tV, truth, asB, tNot, tAnd, tOr, dAnd, dOr, sSet, sAsg, sPar, sRet, s0, sC, sIf, sX, sOwn, sApp, sFrz, frzE, sFor, outV, fnF, lenIs, ent, small, few, putE, putsE, wipeE, it_l, it_t, iS, iR1, iR2, wEn, wZ2, wZ3, dLc, dLf, dSl, oN, oS, pCut, pSub, cI, bD, pIx, pList, pTup, pLen, pNot, qIsN, qNotN, pIsN, pNotN, List.getElem?_cons_succ, List.getElem?_cons_zero, List.set_cons_succ, List.set_cons_zero, List.length_cons, List.length_nil, List.map_cons, List.map_nil, List.foldr_cons, List.foldr_nil, List.replicate_succ, List.replicate_zero, List.cons_append, List.nil_append, sOPar, sOOPar, dOIx, sNest, sCallP, dOLen, fnP, pC, pFrz, dPr, nApp, nIf, nEnd, sN0, sN1, lendE, frzW, sSetK, dGet, dZipD, dPairD, pMax2, sDD, sND, tNeN, sLock, lockE, odcE, tdE, dttE, tC, tLock, tRet, dGetO, dIdxO, tNinD, sPutO, tDen, sUpd, sCpT, iDtt, dSrtD, sParDt, sParDt3, tCall2, fnT, sNewD, isNd]
  rfl
theorem all_bindE {α β : Type} (t : Tree α) (f : α → Tree β) (Q : β → Prop) : (t.bind f).All Q = t.All fun a => (f a).All Q := propext all_bind
theorem all_retE {α : Type} (a : α) (Q : α → Prop) : (Tree.ret a).All Q = Q a := rfl
theorem all_take {n : Int} {Q : PyData → Prop} (n0 : 0 < n) (n1 : n < 4611686018427387904) (h : ∀ r : Int, 0 ≤ r → r < n → Q (.int r)) : (takeF [.bx, .d (.int n)]).All Q := by
  show (if 0 < n ∧ n < 4611686018427387904 then Tree.draw n.toNat fun r => Tree.ret (PyData.int (r : Int)) else .fail).All Q
  rw [if_pos ⟨n0, n1⟩]
  exact fun r hr => h (r : Int) (by omega) (by omega)
theorem all_mapT {α β : Type} {f : α → Tree β} {P : β → Prop} : ∀ {xs : List α}, (∀ x ∈ xs, (f x).All P) → ∀ {Q : List β → Prop}, (∀ ys, ys.length = xs.length → (∀ y ∈ ys, P y) → Q ys) → (mapT f xs).All Q
  | [], _, Q, k => k [] rfl (fun y hy => nomatch hy)
  | x :: xs, h, Q, k => by
    rw [mapT, all_bindE]
    refine (h x (List.mem_cons_self ..)).imp fun y hy => ?_
    rw [all_bindE]
    refine all_mapT (P := P) (fun x hx => h x (List.mem_cons_of_mem _ hx)) fun ys hl hP => k (y :: ys) (by simp [hl]) fun z hz => ?_
    rcases List.mem_cons.mp hz with rfl | hz
    · exact hy
    · exact hP z hz
theorem all_forT {t : Tgt} {body : DenS} {Q : Out → Prop} : ∀ {xs : List PyData} {E : Env} (I : Nat → Env → Prop), I 0 E → (∀ (i : Nat) x E, xs[i]? = some x → I i E → ∃ E', putE t x E = some E' ∧ (body E').All fun o => match o with | .nx E2 => I (i + 1) E2 | .ct E2 => I (i + 1) E2 | .bk E2 => Q (.nx E2) | .rt v => Q (.rt v)) → (∀ E, I xs.length E → Q (.nx E)) → (forT t body xs E).All Q
  | [], E, I, h0, _, hd => hd E h0
  | x :: xs, E, I, h0, hs, hd => by
    obtain ⟨E', e, hb⟩ := hs 0 x E rfl h0
    rw [forT, e, lift_some, ret_bind, all_bindE]
    refine hb.imp fun o ho => ?_
    cases o with
    | nx E2 => exact all_forT (fun i => I (i + 1)) ho (fun i y E hy hi => hs (i + 1) y E (by simpa using hy) hi) fun E h => hd E (by simpa using h)
    | ct E2 => exact all_forT (fun i => I (i + 1)) ho (fun i y E hy hi => hs (i + 1) y E (by simpa using hy) hi) fun E h => hd E (by simpa using h)
    | bk E2 => exact ho
    | rt v => exact ho
theorem all_law_of {ds : List PyData} {Q : PyData → Prop} (hne : ds ≠ []) (hl : ds.length ≤ 1000) (h : ∀ d ∈ ds, Q d) : (m_law_of [.bx, .d (.list ds)]).All Q := by
  have h0 := List.length_pos_iff.mpr hne
  simp only [m_law_of, b_law_of, Nat.reduceSub, Nat.reduceAdd, reduceIte, Tree.bind, liftO, dV, d1, d2, aV, aE, a0, aC, dCall, sRet, outV, fnF, lenIs, ent, pLen, it_l, List.getElem?_cons_succ, List.getElem?_cons_zero, List.length_cons, List.length_nil, List.map_cons, List.map_nil, List.replicate_zero, List.cons_append, List.nil_append, all_bindE]
  refine all_take (by omega) (by omega) fun r r0 r1 => ?_
  have hr : r.toNat < ds.length := by omega
  rw [pIx_I (it_l _) r0 (List.getElem?_eq_getElem hr)]
  exact h _ (List.getElem_mem hr)
theorem all_law_span {m : Nat} {Q : PyData → Prop} (m0 : 2 ≤ m) (m1 : m ≤ 1000) (h : ∀ n : Nat, 2 ≤ n → n ≤ m → Q (.int (n : Int))) : (m_law_span [.bx, .d (.int (m : Int))]).All Q := by
  simp only [m_law_span, b_law_span, Nat.reduceSub, Nat.reduceAdd, reduceIte, Tree.bind, liftO, dIdx, sAsgL, sPar4, dV, dC, d1, d2, t1, t2, l0, lC, dL, dT, aV, aE, a0, aC, dCall, dCallK, dIf, tTr, tV, truth, asB, tNot, tAnd, tOr, dAnd, dOr, sSet, sAsg, sPar, sRet, s0, sC, sIf, sX, sOwn, sApp, sFrz, frzE, sFor, outV, fnF, lenIs, ent, small, few, putE, putsE, wipeE, it_l, it_t, iS, iR1, iR2, wEn, wZ2, wZ3, dLc, dLf, dSl, oN, oS, pCut, pSub, cI, bD, pIx, pList, pTup, pLen, pNot, qIsN, qNotN, pIsN, pNotN, List.getElem?_cons_succ, List.getElem?_cons_zero, List.set_cons_succ, List.set_cons_zero, List.length_cons, List.length_nil, List.map_cons, List.map_nil, List.foldr_cons, List.foldr_nil, List.replicate_succ, List.replicate_zero, List.cons_append, List.nil_append, sOPar, sOOPar, dOIx, sNest, sCallP, dOLen, fnP, pC, pFrz, dPr, nApp, nIf, nEnd, sN0, sN1, lendE, frzW, sSetK, dGet, dZipD, dPairD, pMax2, sDD, sND, tNeN, sLock, lockE, odcE, tdE, dttE, tC, tLock, tRet, dGetO, dIdxO, tNinD, sPutO, tDen, sUpd, sCpT, iDtt, dSrtD, sParDt, sParDt3, tCall2, fnT, sNewD, isNd, all_bindE]
  refine all_take (by omega) (by omega) fun r r0 r1 => ?_
  have := h (2 + r.toNat) (by omega) (by omega)
  rw [show ((2 + r.toNat : Nat) : Int) = 2 + r by omega] at this
  exact this
theorem iL_take (ns : List Int) (k : Nat) : (iL ns).take k = iL (ns.take k) := List.map_take.symm
theorem inR_srt {n : Nat} {cs : List Int} (h : InR n cs) : InR n (srt cs) := fun x hx => h x (srt_mem.mp hx)
theorem pRev_of (l : List Int) : pRev (.list (iL l)) = some (.list (iL l.reverse)) := by
  show some (PyData.list (iL l).reverse) = _
  rw [show (iL l).reverse = iL l.reverse from List.map_reverse.symm]
theorem all_law_tour {n m : Nat} {Q : PyData → Prop} (n0 : 1 ≤ n) (n1 : n ≤ 1000) (m1 : m ≤ 1000) (h : ∀ cs : List Int, InR n cs → cs.length ≤ m → Q (.list (iL cs))) : (m_law_tour [.bx, .d (.int (n : Int)), .d (.int (m : Int))]).All Q := by
  simp only [m_law_tour, b_law_tour, Nat.reduceSub, Nat.reduceAdd, reduceIte, Tree.bind, liftO, dIdx, sAsgL, sPar4, dV, dC, d1, d2, t1, t2, l0, lC, dL, dT, aV, aE, a0, aC, dCall, dCallK, dIf, tTr, tV, truth, asB, tNot, tAnd, tOr, dAnd, dOr, sSet, sAsg, sPar, sRet, s0, sC, sIf, sX, sOwn, sApp, sFrz, frzE, sFor, outV, fnF, lenIs, ent, small, few, putE, putsE, wipeE, it_l, it_t, iS, iR1, iR2, wEn, wZ2, wZ3, dLc, dLf, dSl, oN, oS, pCut, pSub, cI, bD, pIx, pList, pTup, pLen, pNot, qIsN, qNotN, pIsN, pNotN, List.getElem?_cons_succ, List.getElem?_cons_zero, List.set_cons_succ, List.set_cons_zero, List.length_cons, List.length_nil, List.map_cons, List.map_nil, List.foldr_cons, List.foldr_nil, List.replicate_succ, List.replicate_zero, List.cons_append, List.nil_append, sOPar, sOOPar, dOIx, sNest, sCallP, dOLen, fnP, pC, pFrz, dPr, nApp, nIf, nEnd, sN0, sN1, lendE, frzW, sSetK, dGet, dZipD, dPairD, pMax2, sDD, sND, tNeN, sLock, lockE, odcE, tdE, dttE, tC, tLock, tRet, dGetO, dIdxO, tNinD, sPutO, tDen, sUpd, sCpT, iDtt, dSrtD, sParDt, sParDt3, tCall2, fnT, sNewD, isNd, sParO, all_bindE, all_retE]
  refine all_take (by omega) (by omega) fun w w0 w1 => ?_
  simp only [Nat.reduceSub, Nat.reduceAdd, reduceIte, Tree.bind, liftO, dIdx, sAsgL, sPar4, dV, dC, d1, d2, t1, t2, l0, lC, dL, dT, aV, aE, a0, aC, dCall, dCallK, dIf, tTr, tV, truth, asB, tNot, tAnd, tOr, dAnd, dOr, sSet, sAsg, sPar, sRet, s0, sC, sIf, sX, sOwn, sApp, sFrz, frzE, sFor, outV, fnF, lenIs, ent, small, few, putE, putsE, wipeE, it_l, it_t, iS, iR1, iR2, wEn, wZ2, wZ3, dLc, dLf, dSl, oN, oS, pCut, pSub, cI, bD, pIx, pList, pTup, pLen, pNot, qIsN, qNotN, pIsN, pNotN, List.getElem?_cons_succ, List.getElem?_cons_zero, List.set_cons_succ, List.set_cons_zero, List.length_cons, List.length_nil, List.map_cons, List.map_nil, List.foldr_cons, List.foldr_nil, List.replicate_succ, List.replicate_zero, List.cons_append, List.nil_append, sOPar, sOOPar, dOIx, sNest, sCallP, dOLen, fnP, pC, pFrz, dPr, nApp, nIf, nEnd, sN0, sN1, lendE, frzW, sSetK, dGet, dZipD, dPairD, pMax2, sDD, sND, tNeN, sLock, lockE, odcE, tdE, dttE, tC, tLock, tRet, dGetO, dIdxO, tNinD, sPutO, tDen, sUpd, sCpT, iDtt, dSrtD, sParDt, sParDt3, tCall2, fnT, sNewD, isNd, all_bindE, all_retE, Nat.reduceLeDiff, rg1_nat (k := 3) (by decide), show rg1 (.int 3) = some (nums 3) from rfl, nums_len]
  refine all_mapT (P := fun d => ∃ i : Int, d = .int i ∧ 0 ≤ i ∧ i < n) (fun x hx => ?_) fun fw hfl hfw => ?_
  · exact all_take (by omega) (by omega) fun r r0 r1 => ⟨r, rfl, r0, r1⟩
  rw [nums_len] at hfl
  simp only [Nat.reduceSub, Nat.reduceAdd, reduceIte, Tree.bind, liftO, dIdx, sAsgL, sPar4, dV, dC, d1, d2, t1, t2, l0, lC, dL, dT, aV, aE, a0, aC, dCall, dCallK, dIf, tTr, tV, truth, asB, tNot, tAnd, tOr, dAnd, dOr, sSet, sAsg, sPar, sRet, s0, sC, sIf, sX, sOwn, sApp, sFrz, frzE, sFor, outV, fnF, lenIs, ent, small, few, putE, putsE, wipeE, it_l, it_t, iS, iR1, iR2, wEn, wZ2, wZ3, dLc, dLf, dSl, oN, oS, pCut, pSub, cI, bD, pIx, pList, pTup, pLen, pNot, qIsN, qNotN, pIsN, pNotN, List.getElem?_cons_succ, List.getElem?_cons_zero, List.set_cons_succ, List.set_cons_zero, List.length_cons, List.length_nil, List.map_cons, List.map_nil, List.foldr_cons, List.foldr_nil, List.replicate_succ, List.replicate_zero, List.cons_append, List.nil_append, sOPar, sOOPar, dOIx, sNest, sCallP, dOLen, fnP, pC, pFrz, dPr, nApp, nIf, nEnd, sN0, sN1, lendE, frzW, sSetK, dGet, dZipD, dPairD, pMax2, sDD, sND, tNeN, sLock, lockE, odcE, tdE, dttE, tC, tLock, tRet, dGetO, dIdxO, tNinD, sPutO, tDen, sUpd, sCpT, iDtt, dSrtD, sParDt, sParDt3, tCall2, fnT, sNewD, isNd, all_bindE, all_retE, pAdd]
  refine all_take (by omega) (by omega) fun r r0 r1 => ?_
  obtain ⟨r, rfl⟩ : ∃ j : Nat, r = (j : Int) := ⟨r.toNat, by omega⟩
  rw [rg1_nat (by omega)]
  simp only [all_retE]
  refine all_forT (I := fun i E => ∃ x4, ∃ cs : List Int, E = [some .bx, some (.d (.int (n : Int))), some (.d (.int (m : Int))), some (.d (.list fw)), x4, some (.d (.int w)), some (.own (iL cs))] ∧ InR n cs ∧ cs.length = i) ⟨_, [], rfl, (by intro x hx; cases hx), rfl⟩ (fun i x E hx hI => ?_) fun E hI => ?_
  · obtain ⟨x4, cs, rfl, hcr, hcl⟩ := hI
    have hi : i < r := by
      have := (List.getElem?_eq_some_iff.mp hx).1
      rw [nums_len] at this
      exact this
    refine ⟨_, rfl, ?_⟩
    have fin : ∀ d : PyData, (∃ i : Int, d = .int i ∧ 0 ≤ i ∧ i < n) → ∃ x4, ∃ cs2 : List Int, [some W.bx, some (.d (.int (n : Int))), some (.d (.int (m : Int))), some (.d (.list fw)), some (.d x), some (.d (.int w)), some (.own (iL cs ++ [d]))] = [some .bx, some (.d (.int (n : Int))), some (.d (.int (m : Int))), some (.d (.list fw)), x4, some (.d (.int w)), some (.own (iL cs2))] ∧ InR n cs2 ∧ cs2.length = i + 1 := fun d ⟨j, hj, j0, j1⟩ => by
      subst hj
      refine ⟨some (.d x), cs ++ [j], by simp [iL], fun y hy => ?_, by simp [hcl]⟩
      rcases List.mem_append.mp hy with hy | hy
      · exact hcr y hy
      · rw [List.mem_singleton.mp hy]
        exact ⟨j0, j1⟩
    simp only [Nat.reduceSub, Nat.reduceAdd, reduceIte, Tree.bind, liftO, dIdx, sAsgL, sPar4, dV, dC, d1, d2, t1, t2, l0, lC, dL, dT, aV, aE, a0, aC, dCall, dCallK, dIf, tTr, tV, truth, asB, tNot, tAnd, tOr, dAnd, dOr, sSet, sAsg, sPar, sRet, s0, sC, sIf, sX, sOwn, sApp, sFrz, frzE, sFor, outV, fnF, lenIs, ent, small, few, putE, putsE, wipeE, it_l, it_t, iS, iR1, iR2, wEn, wZ2, wZ3, dLc, dLf, dSl, oN, oS, pCut, pSub, cI, bD, pIx, pList, pTup, pLen, pNot, qIsN, qNotN, pIsN, pNotN, List.getElem?_cons_succ, List.getElem?_cons_zero, List.set_cons_succ, List.set_cons_zero, List.length_cons, List.length_nil, List.map_cons, List.map_nil, List.foldr_cons, List.foldr_nil, List.replicate_succ, List.replicate_zero, List.cons_append, List.nil_append, sOPar, sOOPar, dOIx, sNest, sCallP, dOLen, fnP, pC, pFrz, dPr, nApp, nIf, nEnd, sN0, sN1, lendE, frzW, sSetK, dGet, dZipD, dPairD, pMax2, sDD, sND, tNeN, sLock, lockE, odcE, tdE, dttE, tC, tLock, tRet, dGetO, dIdxO, tNinD, sPutO, tDen, sUpd, sCpT, iDtt, dSrtD, sParDt, sParDt3, tCall2, fnT, sNewD, isNd, all_bindE, all_retE, pEq_ii, iL_len, if_pos (show cs.length + 1 ≤ 100000 by omega)]
    by_cases hw : w = 0
    · simp only [hw, decide_true]
      rw [hw] at fin
      exact all_law_of (fun e => by rw [e] at hfl; simp at hfl) (by omega) fun d hd => fin d (hfw d hd)
    · simp only [hw, decide_false]
      exact all_take (by omega) (by omega) fun j j0 j1 => fin _ ⟨j, rfl, j0, j1⟩
  · obtain ⟨x4, cs, rfl, hcr, hcl⟩ := hI
    rw [nums_len] at hcl
    simp only [Nat.reduceSub, Nat.reduceAdd, reduceIte, Tree.bind, liftO, dIdx, sAsgL, sPar4, dV, dC, d1, d2, t1, t2, l0, lC, dL, dT, aV, aE, a0, aC, dCall, dCallK, dIf, tTr, tV, truth, asB, tNot, tAnd, tOr, dAnd, dOr, sSet, sAsg, sPar, sRet, s0, sC, sIf, sX, sOwn, sApp, sFrz, frzE, sFor, outV, fnF, lenIs, ent, small, few, putE, putsE, wipeE, it_l, it_t, iS, iR1, iR2, wEn, wZ2, wZ3, dLc, dLf, dSl, oN, oS, pCut, pSub, cI, bD, pIx, pList, pTup, pLen, pNot, qIsN, qNotN, pIsN, pNotN, List.getElem?_cons_succ, List.getElem?_cons_zero, List.set_cons_succ, List.set_cons_zero, List.length_cons, List.length_nil, List.map_cons, List.map_nil, List.foldr_cons, List.foldr_nil, List.replicate_succ, List.replicate_zero, List.cons_append, List.nil_append, sOPar, sOOPar, dOIx, sNest, sCallP, dOLen, fnP, pC, pFrz, dPr, nApp, nIf, nEnd, sN0, sN1, lendE, frzW, sSetK, dGet, dZipD, dPairD, pMax2, sDD, sND, tNeN, sLock, lockE, odcE, tdE, dttE, tC, tLock, tRet, dGetO, dIdxO, tNinD, sPutO, tDen, sUpd, sCpT, iDtt, dSrtD, sParDt, sParDt3, tCall2, fnT, sNewD, isNd, all_bindE, all_retE, pSrt_of, pRev_of, Nat.reduceLeDiff]
    have hw : w = 0 ∨ w = 1 ∨ w = 2 ∨ w = 3 ∨ w = 4 := by omega
    rcases hw with rfl | rfl | rfl | rfl | rfl
    · exact h cs hcr (by omega)
    · exact h cs hcr (by omega)
    · exact h cs hcr (by omega)
    · exact h (srt cs) (inR_srt hcr) (by rw [srt_len]; omega)
    · exact h (srt cs).reverse (fun x hx => inR_srt hcr x (List.mem_reverse.mp hx)) (by rw [List.length_reverse, srt_len]; omega)
theorem forT_det {t : Tgt} {body : DenS} {P : Out → Prop} : ∀ {xs : List PyData} {E : Env} (I : Nat → Env → Prop), I 0 E → (∀ (i : Nat) x E, xs[i]? = some x → I i E → ∃ E', putE t x E = some E' ∧ ∃ o, body E' = .ret o ∧ match o with | .nx E2 => I (i + 1) E2 | .ct E2 => I (i + 1) E2 | .bk E2 => P (.nx E2) | .rt v => P (.rt v)) → (∀ E, I xs.length E → P (.nx E)) → ∃ o, forT t body xs E = .ret o ∧ P o
  | [], E, I, h0, _, hd => ⟨_, rfl, hd E h0⟩
  | x :: xs, E, I, h0, hs, hd => by
    obtain ⟨E', e, o, hb, ho⟩ := hs 0 x E rfl h0
    rw [forT, e, lift_some, ret_bind, hb, ret_bind]
    cases o with
    | nx E2 => exact forT_det (fun i => I (i + 1)) ho (fun i y E hy hi => hs (i + 1) y E (by simpa using hy) hi) fun E h => hd E (by simpa using h)
    | ct E2 => exact forT_det (fun i => I (i + 1)) ho (fun i y E hy hi => hs (i + 1) y E (by simpa using hy) hi) fun E h => hd E (by simpa using h)
    | bk E2 => exact ⟨_, rfl, ho⟩
    | rt v => exact ⟨_, rfl, ho⟩
theorem forT_then {C : Tree Out → Prop} {t : Tgt} {body : DenS} {xs : List PyData} {E : Env} {P : Out → Prop} (I : Nat → Env → Prop) (h0 : I 0 E) (hs : ∀ (i : Nat) x E, xs[i]? = some x → I i E → ∃ E', putE t x E = some E' ∧ ∃ o, body E' = .ret o ∧ match o with | .nx E2 => I (i + 1) E2 | .ct E2 => I (i + 1) E2 | .bk E2 => P (.nx E2) | .rt v => P (.rt v)) (hd : ∀ E, I xs.length E → P (.nx E)) (k : ∀ o, P o → C (.ret o)) : C (forT t body xs E) := by
  obtain ⟨o, e, h⟩ := forT_det I h0 hs hd
  rw [e]
  exact k o h
theorem prs_at2 {ss : List Int} {i : Nat} {x : PyData} (h : (prs (nums (iL ss).length) (iL ss))[i]? = some x) : ∃ s, ss[i]? = some s ∧ x = .tuple [.int (i : Int), .int s] := by
  obtain ⟨d, hd, e⟩ := prs_at (ds := iL ss) (i := i) (z := .im x) (by rw [List.getElem?_map, h]; rfl)
  obtain ⟨s, hs, rfl⟩ := iL_get hd
  cases e
  exact ⟨s, hs, rfl⟩
theorem nums_at {n i : Nat} {x : PyData} (h : (nums n)[i]? = some x) : i < n ∧ x = .int (i : Int) := by
  have hi : i < n := by
    have := (List.getElem?_eq_some_iff.mp h).1
    rw [nums_len] at this
    exact this
  rw [nums_get hi] at h
  exact ⟨hi, (Option.some.inj h).symm⟩
theorem pAdd_ii (i j : Int) : pAdd (.int i) (.int j) = some (.int (i + j)) := rfl
theorem pAdd_l {a b : List Int} (h : a.length + b.length ≤ 100000) : pAdd (.list (iL a)) (.list (iL b)) = some (.list (iL (a ++ b))) := by
  show (if (iL a).length + (iL b).length ≤ 100000 then some (PyData.list (iL a ++ iL b)) else none) = _
  rw [if_pos (by rw [iL_len, iL_len]; exact h), show iL a ++ iL b = iL (a ++ b) from List.map_append.symm]
theorem iL_drop (ns : List Int) (k : Nat) : (iL ns).drop k = iL (ns.drop k) := List.map_drop.symm
theorem prs_len (xs ys : List PyData) : (prs xs ys).length = min xs.length ys.length := by simp [prs]
theorem pMod_of {i n : Int} (n0 : 0 < n) : pMod (.int i) (.int n) = some (.int (i % n)) := by
  show (if 0 < n then some (PyData.int (i % n)) else none) = _
  rw [if_pos n0]
theorem ev_law_pushed {n : Nat} {ss : List Int} {c : Int} (n0 : 0 < n) (n1 : n ≤ 1000) (hl : ss.length ≤ 1000) : m_law_pushed [.d (.int (n : Int)), .d (.list (iL ss)), .d (.int c)] = .ret (.list (iL (pushL n ss c))) := by
  have n0' : (0 : Int) < n := by omega
  simp only [m_law_pushed, b_law_pushed, Nat.reduceSub, Nat.reduceAdd, reduceIte, Tree.bind, liftO, dIdx, sAsgL, sPar4, dV, dC, d1, d2, t1, t2, l0, lC, dL, dT, aV, aE, a0, aC, dCall, dCallK, dIf, tTr, tV, truth, asB, tNot, tAnd, tOr, dAnd, dOr, sSet, sAsg, sPar, sRet, s0, sC, sIf, sX, sOwn, sApp, sFrz, frzE, sFor, outV, fnF, lenIs, ent, small, few, putE, putsE, wipeE, it_l, it_t, iS, iR1, iR2, wEn, wZ2, wZ3, dLc, dLf, dSl, oN, oS, pCut, pSub, cI, bD, pIx, pList, pTup, pLen, pNot, qIsN, qNotN, pIsN, pNotN, List.getElem?_cons_succ, List.getElem?_cons_zero, List.set_cons_succ, List.set_cons_zero, List.length_cons, List.length_nil, List.map_cons, List.map_nil, List.foldr_cons, List.foldr_nil, List.replicate_succ, List.replicate_zero, List.cons_append, List.nil_append, sOPar, sOOPar, dOIx, sNest, sCallP, dOLen, fnP, pC, pFrz, dPr, nApp, nIf, nEnd, sN0, sN1, lendE, frzW, sSetK, dGet, dZipD, dPairD, pMax2, sDD, sND, tNeN, sLock, lockE, odcE, tdE, dttE, tC, tLock, tRet, dGetO, dIdxO, tNinD, sPutO, tDen, sUpd, sCpT, iDtt, dSrtD, sParDt, sParDt3, tCall2, fnT, sNewD, isNd, rg1_nat (show n ≤ 100000 by omega)]
  refine Exists.elim (forT_det (t := .nm 3) (body := sFor (.tp [4, 5]) (wEn (dV 1)) (sIf (t2 pEq (d2 pMod (d2 pSub (d2 pAdd (dV 2) (dV 3)) (dV 5)) (dV 0)) (dC (.int 0))) (sRet (d2 pAdd (d2 pAdd (dSl (dV 1) oN (oS (dV 4))) (dL (lC (d2 pSub (dV 5) (dV 3)) l0))) (dSl (dV 1) (oS (d2 pAdd (dV 4) (dC (.int 1)))) oN))) s0)) (xs := nums n) (E := [some (.d (.int (n : Int))), some (.d (.list (iL ss))), some (.d (.int c)), none, none, none])
    (P := fun o => match o with | .rt v => v = .list (iL (pushL n ss c)) | .nx E => (∃ x y z, E = [some (.d (.int (n : Int))), some (.d (.list (iL ss))), some (.d (.int c)), x, y, z]) ∧ ss = pushL n ss c | _ => False)
    (I := fun i E => (∃ x y z, E = [some (.d (.int (n : Int))), some (.d (.list (iL ss))), some (.d (.int c)), x, y, z]) ∧ pushGo n ss c (n - i) i = pushL n ss c) ⟨⟨_, _, _, rfl⟩, rfl⟩ (fun i x E hx hI => ?b) fun E hI => ?c) fun o ho => ?a
  case a =>
    obtain ⟨e, hP⟩ := ho
    rw [e]
    cases o with
    | rt v => simp only [Tree.bind, liftO, dIdx, sAsgL, sPar4, dV, dC, d1, d2, t1, t2, l0, lC, dL, dT, aV, aE, a0, aC, dCall, dCallK, dIf, tTr, tV, truth, asB, tNot, tAnd, tOr, dAnd, dOr, sSet, sAsg, sPar, sRet, s0, sC, sIf, sX, sOwn, sApp, sFrz, frzE, sFor, outV, fnF, lenIs, ent, small, few, putE, putsE, wipeE, it_l, it_t, iS, iR1, iR2, wEn, wZ2, wZ3, dLc, dLf, dSl, oN, oS, pCut, pSub, cI, bD, pIx, pList, pTup, pLen, pNot, qIsN, qNotN, pIsN, pNotN, List.getElem?_cons_succ, List.getElem?_cons_zero, List.set_cons_succ, List.set_cons_zero, List.length_cons, List.length_nil, List.map_cons, List.map_nil, List.foldr_cons, List.foldr_nil, List.replicate_succ, List.replicate_zero, List.cons_append, List.nil_append, sOPar, sOOPar, dOIx, sNest, sCallP, dOLen, fnP, pC, pFrz, dPr, nApp, nIf, nEnd, sN0, sN1, lendE, frzW, sSetK, dGet, dZipD, dPairD, pMax2, sDD, sND, tNeN, sLock, lockE, odcE, tdE, dttE, tC, tLock, tRet, dGetO, dIdxO, tNinD, sPutO, tDen, sUpd, sCpT, iDtt, dSrtD, sParDt, sParDt3, tCall2, fnT, sNewD, isNd, show v = _ from hP]
    | nx E =>
      obtain ⟨⟨x, y, z, rfl⟩, h⟩ := hP
      simp only [Tree.bind, liftO, dIdx, sAsgL, sPar4, dV, dC, d1, d2, t1, t2, l0, lC, dL, dT, aV, aE, a0, aC, dCall, dCallK, dIf, tTr, tV, truth, asB, tNot, tAnd, tOr, dAnd, dOr, sSet, sAsg, sPar, sRet, s0, sC, sIf, sX, sOwn, sApp, sFrz, frzE, sFor, outV, fnF, lenIs, ent, small, few, putE, putsE, wipeE, it_l, it_t, iS, iR1, iR2, wEn, wZ2, wZ3, dLc, dLf, dSl, oN, oS, pCut, pSub, cI, bD, pIx, pList, pTup, pLen, pNot, qIsN, qNotN, pIsN, pNotN, List.getElem?_cons_succ, List.getElem?_cons_zero, List.set_cons_succ, List.set_cons_zero, List.length_cons, List.length_nil, List.map_cons, List.map_nil, List.foldr_cons, List.foldr_nil, List.replicate_succ, List.replicate_zero, List.cons_append, List.nil_append, sOPar, sOOPar, dOIx, sNest, sCallP, dOLen, fnP, pC, pFrz, dPr, nApp, nIf, nEnd, sN0, sN1, lendE, frzW, sSetK, dGet, dZipD, dPairD, pMax2, sDD, sND, tNeN, sLock, lockE, odcE, tdE, dttE, tC, tLock, tRet, dGetO, dIdxO, tNinD, sPutO, tDen, sUpd, sCpT, iDtt, dSrtD, sParDt, sParDt3, tCall2, fnT, sNewD, isNd]
      rw [← h]
    | bk E => exact hP.elim
    | ct E => exact hP.elim
  case b =>
    obtain ⟨⟨x3, y, z, rfl⟩, hG⟩ := hI
    obtain ⟨hi, rfl⟩ := nums_at hx
    refine ⟨_, rfl, ?_⟩
    refine Exists.elim (forT_det (t := .tp [4, 5]) (body := sIf (t2 pEq (d2 pMod (d2 pSub (d2 pAdd (dV 2) (dV 3)) (dV 5)) (dV 0)) (dC (.int 0))) (sRet (d2 pAdd (d2 pAdd (dSl (dV 1) oN (oS (dV 4))) (dL (lC (d2 pSub (dV 5) (dV 3)) l0))) (dSl (dV 1) (oS (d2 pAdd (dV 4) (dC (.int 1)))) oN))) s0) (xs := prs (nums (iL ss).length) (iL ss)) (E := [some (.d (.int (n : Int))), some (.d (.list (iL ss))), some (.d (.int c)), some (.d (.int (i : Int))), y, z])
      (P := fun o => match o with | .rt v => v = .list (iL (pushL n ss c)) | .nx E => (∃ y z, E = [some (.d (.int (n : Int))), some (.d (.list (iL ss))), some (.d (.int c)), some (.d (.int (i : Int))), y, z]) ∧ pushGo n ss c (n - (i + 1)) (i + 1) = pushL n ss c | _ => False)
      (I := fun k E => (∃ y z, E = [some (.d (.int (n : Int))), some (.d (.list (iL ss))), some (.d (.int c)), some (.d (.int (i : Int))), y, z]) ∧ ∀ (j : Nat) s', j < k → ss[j]? = some s' → decide ((c + (i : Int) - s') % (n : Int) = 0) = false) ⟨⟨_, _, rfl⟩, fun j _ hj => absurd hj (Nat.not_lt_zero _)⟩ (fun k x E hx hI => ?b2) fun E hI => ?c2) fun o ho => ?a2
    case a2 =>
      obtain ⟨e, hP⟩ := ho
      refine ⟨o, ?_, ?_⟩
      · show sFor _ _ _ _ = _
        simp only [Tree.bind, liftO, dIdx, sAsgL, sPar4, dV, dC, d1, d2, t1, t2, l0, lC, dL, dT, aV, aE, a0, aC, dCall, dCallK, dIf, tTr, tV, truth, asB, tNot, tAnd, tOr, dAnd, dOr, sSet, sAsg, sPar, sRet, s0, sC, sIf, sX, sOwn, sApp, sFrz, frzE, sFor, outV, fnF, lenIs, ent, small, few, putE, putsE, wipeE, it_l, it_t, iS, iR1, iR2, wEn, wZ2, wZ3, dLc, dLf, dSl, oN, oS, pCut, pSub, cI, bD, pIx, pList, pTup, pLen, pNot, qIsN, qNotN, pIsN, pNotN, List.getElem?_cons_succ, List.getElem?_cons_zero, List.set_cons_succ, List.set_cons_zero, List.length_cons, List.length_nil, List.map_cons, List.map_nil, List.foldr_cons, List.foldr_nil, List.replicate_succ, List.replicate_zero, List.cons_append, List.nil_append, sOPar, sOOPar, dOIx, sNest, sCallP, dOLen, fnP, pC, pFrz, dPr, nApp, nIf, nEnd, sN0, sN1, lendE, frzW, sSetK, dGet, dZipD, dPairD, pMax2, sDD, sND, tNeN, sLock, lockE, odcE, tdE, dttE, tC, tLock, tRet, dGetO, dIdxO, tNinD, sPutO, tDen, sUpd, sCpT, iDtt, dSrtD, sParDt, sParDt3, tCall2, fnT, sNewD, isNd]
        exact e
      · cases o with
        | rt v => exact hP
        | nx E =>
          obtain ⟨⟨y, z, rfl⟩, h⟩ := hP
          exact ⟨⟨_, _, _, rfl⟩, h⟩
        | bk E => exact hP.elim
        | ct E => exact hP.elim
    case b2 =>
      obtain ⟨⟨y1, z1, rfl⟩, hQ⟩ := hI
      obtain ⟨sp, hsp, rfl⟩ := prs_at2 hx
      have hk := (List.getElem?_eq_some_iff.mp hsp).1
      refine ⟨_, rfl, ?_⟩
      by_cases hz : (c + (i : Int) - sp) % (n : Int) = 0
      · refine ⟨.rt (.list (iL (pushL n ss c))), ?_, rfl⟩
        simp only [Nat.reduceSub, Nat.reduceAdd, reduceIte, Tree.bind, liftO, dIdx, sAsgL, sPar4, dV, dC, d1, d2, t1, t2, l0, lC, dL, dT, aV, aE, a0, aC, dCall, dCallK, dIf, tTr, tV, truth, asB, tNot, tAnd, tOr, dAnd, dOr, sSet, sAsg, sPar, sRet, s0, sC, sIf, sX, sOwn, sApp, sFrz, frzE, sFor, outV, fnF, lenIs, ent, small, few, putE, putsE, wipeE, it_l, it_t, iS, iR1, iR2, wEn, wZ2, wZ3, dLc, dLf, dSl, oN, oS, pCut, pSub, cI, bD, pIx, pList, pTup, pLen, pNot, qIsN, qNotN, pIsN, pNotN, List.getElem?_cons_succ, List.getElem?_cons_zero, List.set_cons_succ, List.set_cons_zero, List.length_cons, List.length_nil, List.map_cons, List.map_nil, List.foldr_cons, List.foldr_nil, List.replicate_succ, List.replicate_zero, List.cons_append, List.nil_append, sOPar, sOOPar, dOIx, sNest, sCallP, dOLen, fnP, pC, pFrz, dPr, nApp, nIf, nEnd, sN0, sN1, lendE, frzW, sSetK, dGet, dZipD, dPairD, pMax2, sDD, sND, tNeN, sLock, lockE, odcE, tdE, dttE, tC, tLock, tRet, dGetO, dIdxO, tNinD, sPutO, tDen, sUpd, sCpT, iDtt, dSrtD, sParDt, sParDt3, tCall2, fnT, sNewD, isNd, pAdd_ii, pMod_of n0', pEq_ii, hz, decide_true, cutD_to, show ((k : Int) + 1) = ((k + 1 : Nat) : Int) by omega, cutD_from, iL_take, iL_drop, Nat.reduceLeDiff]
        rw [show [PyData.int (sp - (i : Int))] = iL [sp - (i : Int)] from rfl, pAdd_l (by simp; omega)]
        simp only [Tree.bind, liftO, dIdx, sAsgL, sPar4, dV, dC, d1, d2, t1, t2, l0, lC, dL, dT, aV, aE, a0, aC, dCall, dCallK, dIf, tTr, tV, truth, asB, tNot, tAnd, tOr, dAnd, dOr, sSet, sAsg, sPar, sRet, s0, sC, sIf, sX, sOwn, sApp, sFrz, frzE, sFor, outV, fnF, lenIs, ent, small, few, putE, putsE, wipeE, it_l, it_t, iS, iR1, iR2, wEn, wZ2, wZ3, dLc, dLf, dSl, oN, oS, pCut, pSub, cI, bD, pIx, pList, pTup, pLen, pNot, qIsN, qNotN, pIsN, pNotN, List.getElem?_cons_succ, List.getElem?_cons_zero, List.set_cons_succ, List.set_cons_zero, List.length_cons, List.length_nil, List.map_cons, List.map_nil, List.foldr_cons, List.foldr_nil, List.replicate_succ, List.replicate_zero, List.cons_append, List.nil_append, sOPar, sOOPar, dOIx, sNest, sCallP, dOLen, fnP, pC, pFrz, dPr, nApp, nIf, nEnd, sN0, sN1, lendE, frzW, sSetK, dGet, dZipD, dPairD, pMax2, sDD, sND, tNeN, sLock, lockE, odcE, tdE, dttE, tC, tLock, tRet, dGetO, dIdxO, tNinD, sPutO, tDen, sUpd, sCpT, iDtt, dSrtD, sParDt, sParDt3, tCall2, fnT, sNewD, isNd]
        rw [pAdd_l (by simp; omega)]
        have e : ss.take k ++ [sp - (i : Int)] ++ ss.drop (k + 1) = pushL n ss c := by
          rw [← hG, show n - i = (n - i - 1) + 1 by omega]
          unfold pushGo
          rw [find_at hsp (decide_eq_true hz) hQ]
          show _ = ss.set k (ss.getD k 0 - (i : Int))
          rw [← set_cut hk, List.getD_eq_getElem?_getD, hsp]
          rfl
        rw [e]
        rfl
      · refine ⟨.nx [some (.d (.int (n : Int))), some (.d (.list (iL ss))), some (.d (.int c)), some (.d (.int (i : Int))), some (.d (.int (k : Int))), some (.d (.int sp))], ?_, ⟨_, _, rfl⟩, fun j s' hj hs' => ?_⟩
        · simp only [Nat.reduceSub, Nat.reduceAdd, reduceIte, Tree.bind, liftO, dIdx, sAsgL, sPar4, dV, dC, d1, d2, t1, t2, l0, lC, dL, dT, aV, aE, a0, aC, dCall, dCallK, dIf, tTr, tV, truth, asB, tNot, tAnd, tOr, dAnd, dOr, sSet, sAsg, sPar, sRet, s0, sC, sIf, sX, sOwn, sApp, sFrz, frzE, sFor, outV, fnF, lenIs, ent, small, few, putE, putsE, wipeE, it_l, it_t, iS, iR1, iR2, wEn, wZ2, wZ3, dLc, dLf, dSl, oN, oS, pCut, pSub, cI, bD, pIx, pList, pTup, pLen, pNot, qIsN, qNotN, pIsN, pNotN, List.getElem?_cons_succ, List.getElem?_cons_zero, List.set_cons_succ, List.set_cons_zero, List.length_cons, List.length_nil, List.map_cons, List.map_nil, List.foldr_cons, List.foldr_nil, List.replicate_succ, List.replicate_zero, List.cons_append, List.nil_append, sOPar, sOOPar, dOIx, sNest, sCallP, dOLen, fnP, pC, pFrz, dPr, nApp, nIf, nEnd, sN0, sN1, lendE, frzW, sSetK, dGet, dZipD, dPairD, pMax2, sDD, sND, tNeN, sLock, lockE, odcE, tdE, dttE, tC, tLock, tRet, dGetO, dIdxO, tNinD, sPutO, tDen, sUpd, sCpT, iDtt, dSrtD, sParDt, sParDt3, tCall2, fnT, sNewD, isNd, pAdd_ii, pMod_of n0', pEq_ii, hz, decide_false]
        · by_cases hjk : j = k
          · subst hjk
            rw [hsp] at hs'
            cases hs'
            exact decide_eq_false hz
          · exact hQ j s' (by omega) hs'
    case c2 =>
      obtain ⟨hE, hQ⟩ := hI
      refine ⟨hE, ?_⟩
      have hno : ss.findIdx? (fun s => decide ((c + (i : Int) - s) % (n : Int) = 0)) = none := find_no fun j s' hs' => hQ j s' (by
        have := (List.getElem?_eq_some_iff.mp hs').1
        simp [prs, nums_len]
        exact this) hs'
      rw [← hG, show n - i = (n - (i + 1)) + 1 by omega]
      show _ = pushGo n ss c ((n - (i + 1)) + 1) i
      conv => rhs; unfold pushGo
      rw [hno]
  case c =>
    obtain ⟨hE, hG⟩ := hI
    rw [nums_len, Nat.sub_self] at hG
    exact ⟨hE, hG⟩
theorem pushL_len2 {n : Nat} {ss : List Int} {c : Int} : (pushL n ss c).length = ss.length := by
  have go : ∀ (f far : Nat), (pushGo n ss c f far).length = ss.length := by
    intro f
    induction f with
    | zero => exact fun _ => rfl
    | succ f ih =>
      intro far
      unfold pushGo
      split
      · exact List.length_set
      · exact ih _
  exact go _ _
theorem ev_law_walked {n : Nat} {d e : PyData} {ss cs : List Int} (hd : items d = some (iL ss)) (he : items e = some (iL cs)) (n0 : 0 < n) (n1 : n ≤ 1000) (hl : ss.length ≤ 1000) : m_law_walked [.d (.int (n : Int)), .d d, .d e] = .ret (.list (iL (pushS n ss cs))) := by
  simp only [m_law_walked, b_law_walked, Nat.reduceSub, Nat.reduceAdd, reduceIte, Tree.bind, liftO, dIdx, sAsgL, sPar4, dV, dC, d1, d2, t1, t2, l0, lC, dL, dT, aV, aE, a0, aC, dCall, dCallK, dIf, tTr, tV, truth, asB, tNot, tAnd, tOr, dAnd, dOr, sSet, sAsg, sPar, sRet, s0, sC, sIf, sX, sOwn, sApp, sFrz, frzE, sFor, outV, fnF, lenIs, ent, small, few, putE, putsE, wipeE, it_l, it_t, iS, iR1, iR2, wEn, wZ2, wZ3, dLc, dLf, dSl, oN, oS, pCut, pSub, cI, bD, pIx, pList, pTup, pLen, pNot, qIsN, qNotN, pIsN, pNotN, List.getElem?_cons_succ, List.getElem?_cons_zero, List.set_cons_succ, List.set_cons_zero, List.length_cons, List.length_nil, List.map_cons, List.map_nil, List.foldr_cons, List.foldr_nil, List.replicate_succ, List.replicate_zero, List.cons_append, List.nil_append, sOPar, sOOPar, dOIx, sNest, sCallP, dOLen, fnP, pC, pFrz, dPr, nApp, nIf, nEnd, sN0, sN1, lendE, frzW, sSetK, dGet, dZipD, dPairD, pMax2, sDD, sND, tNeN, sLock, lockE, odcE, tdE, dttE, tC, tLock, tRet, dGetO, dIdxO, tNinD, sPutO, tDen, sUpd, sCpT, iDtt, dSrtD, sParDt, sParDt3, tCall2, fnT, sNewD, isNd, hd, he]
  have loop : ∀ (cs s : List Int) (x4 : Option W), s.length ≤ 1000 → ∃ y4, forT (.nm 4) (sSet 3 (dCall m_law_pushed (aC (aV 0) (aC (aV 3) (aC (aV 4) a0))))) (iL cs) [some (.d (.int (n : Int))), some (.d d), some (.d e), some (.d (.list (iL s))), x4] = .ret (.nx [some (.d (.int (n : Int))), some (.d d), some (.d e), some (.d (.list (iL (pushS n s cs)))), y4]) := by
    intro cs
    induction cs with
    | nil => exact fun s x4 _ => ⟨x4, rfl⟩
    | cons c cs ih =>
      intro s x4 hs
      obtain ⟨y4, e'⟩ := ih (pushL n s c) (some (.d (.int c))) (by rw [pushL_len2]; exact hs)
      refine ⟨y4, ?_⟩
      rw [show iL (c :: cs) = .int c :: iL cs from rfl, forT]
      simp only [Nat.reduceSub, Nat.reduceAdd, reduceIte, Tree.bind, liftO, dIdx, sAsgL, sPar4, dV, dC, d1, d2, t1, t2, l0, lC, dL, dT, aV, aE, a0, aC, dCall, dCallK, dIf, tTr, tV, truth, asB, tNot, tAnd, tOr, dAnd, dOr, sSet, sAsg, sPar, sRet, s0, sC, sIf, sX, sOwn, sApp, sFrz, frzE, sFor, outV, fnF, lenIs, ent, small, few, putE, putsE, wipeE, it_l, it_t, iS, iR1, iR2, wEn, wZ2, wZ3, dLc, dLf, dSl, oN, oS, pCut, pSub, cI, bD, pIx, pList, pTup, pLen, pNot, qIsN, qNotN, pIsN, pNotN, List.getElem?_cons_succ, List.getElem?_cons_zero, List.set_cons_succ, List.set_cons_zero, List.length_cons, List.length_nil, List.map_cons, List.map_nil, List.foldr_cons, List.foldr_nil, List.replicate_succ, List.replicate_zero, List.cons_append, List.nil_append, sOPar, sOOPar, dOIx, sNest, sCallP, dOLen, fnP, pC, pFrz, dPr, nApp, nIf, nEnd, sN0, sN1, lendE, frzW, sSetK, dGet, dZipD, dPairD, pMax2, sDD, sND, tNeN, sLock, lockE, odcE, tdE, dttE, tC, tLock, tRet, dGetO, dIdxO, tNinD, sPutO, tDen, sUpd, sCpT, iDtt, dSrtD, sParDt, sParDt3, tCall2, fnT, sNewD, isNd, ev_law_pushed n0 n1 hs]
      exact e'
  obtain ⟨y4, e'⟩ := loop cs ss none hl
  rw [e']
  simp only [Tree.bind, liftO, dIdx, sAsgL, sPar4, dV, dC, d1, d2, t1, t2, l0, lC, dL, dT, aV, aE, a0, aC, dCall, dCallK, dIf, tTr, tV, truth, asB, tNot, tAnd, tOr, dAnd, dOr, sSet, sAsg, sPar, sRet, s0, sC, sIf, sX, sOwn, sApp, sFrz, frzE, sFor, outV, fnF, lenIs, ent, small, few, putE, putsE, wipeE, it_l, it_t, iS, iR1, iR2, wEn, wZ2, wZ3, dLc, dLf, dSl, oN, oS, pCut, pSub, cI, bD, pIx, pList, pTup, pLen, pNot, qIsN, qNotN, pIsN, pNotN, List.getElem?_cons_succ, List.getElem?_cons_zero, List.set_cons_succ, List.set_cons_zero, List.length_cons, List.length_nil, List.map_cons, List.map_nil, List.foldr_cons, List.foldr_nil, List.replicate_succ, List.replicate_zero, List.cons_append, List.nil_append, sOPar, sOOPar, dOIx, sNest, sCallP, dOLen, fnP, pC, pFrz, dPr, nApp, nIf, nEnd, sN0, sN1, lendE, frzW, sSetK, dGet, dZipD, dPairD, pMax2, sDD, sND, tNeN, sLock, lockE, odcE, tdE, dttE, tC, tLock, tRet, dGetO, dIdxO, tNinD, sPutO, tDen, sUpd, sCpT, iDtt, dSrtD, sParDt, sParDt3, tCall2, fnT, sNewD, isNd]
theorem ok_iL : ∀ {ns : List Int}, (∀ x ∈ ns, x.natAbs < 10 ^ 60) → okRs (iL ns) = true
  | [], _ => by simp [okRs]
  | i :: ns, h => by
    show okRs (.int i :: iL ns) = true
    simp only [okRs, okR, decide_eq_true (h i (List.mem_cons_self ..)), ok_iL fun x hx => h x (List.mem_cons_of_mem _ hx), Bool.and_self]
theorem wd_iL : ∀ ns : List Int, wdRs (iL ns) = 63 * ns.length
  | [] => by simp [wdRs]
  | i :: ns => by
    show wdRs (.int i :: iL ns) = _
    simp only [wdRs, wdR, wd_iL ns, List.length_cons]
    omega
theorem dp_iL : ∀ ns : List Int, dpRs (iL ns) = 0
  | [] => by simp [dpRs]
  | i :: ns => by
    show dpRs (.int i :: iL ns) = _
    simp only [dpRs, dpR, dp_iL ns, Nat.max_self]
theorem ok_rowsT : ∀ {M : List (List Int)}, (∀ r ∈ M, ∀ x ∈ r, x.natAbs < 10 ^ 60) → okRs (rowsT M) = true
  | [], _ => by simp [rowsT, okRs]
  | r :: M, h => by
    show okRs (.tuple (iL r) :: rowsT M) = true
    simp only [okRs, okR, ok_iL (h r (List.mem_cons_self ..)), ok_rowsT fun x hx => h x (List.mem_cons_of_mem _ hx), Bool.and_self]
theorem wd_rowsT {k : Nat} : ∀ {M : List (List Int)}, (∀ r ∈ M, r.length = k) → wdRs (rowsT M) = (63 * k + 5) * M.length
  | [], _ => by simp [rowsT, wdRs]
  | r :: M, h => by
    show wdRs (.tuple (iL r) :: rowsT M) = _
    simp only [wdRs, wdR, wd_iL, h r (List.mem_cons_self ..), wd_rowsT fun x hx => h x (List.mem_cons_of_mem _ hx), List.length_cons, Nat.mul_add, Nat.mul_one]
    omega
theorem dp_rowsT : ∀ (M : List (List Int)), dpRs (rowsT M) ≤ 1
  | [] => by simp [rowsT, dpRs]
  | r :: M => by
    show dpRs (.tuple (iL r) :: rowsT M) ≤ 1
    simp only [dpRs, dpR, dp_iL]
    have := dp_rowsT M
    omega
structure Sh (n k : Nat) (M : List (List Int)) : Prop where
  ok : MOk n k M
  bd : ∀ r ∈ M, ∀ x ∈ r, x.natAbs < 10 ^ 60
theorem Sh.row {n k : Nat} {M : List (List Int)} (h : Sh n k M) : ∀ r ∈ M, r.length = k := fun r hr => by
  obtain ⟨i, hi⟩ := List.getElem?_of_mem hr
  exact h.ok.row i r hi
theorem shwB_mk {d : PyData} (h1 : isLT d = true) (h2 : okR d = true) (h3 : dpR d ≤ 60) (h4 : wdR d ≤ 16777216) : shwB d = true := by
  unfold shwB
  rw [h1, h2, decide_eq_true h3, decide_eq_true h4]
  rfl
theorem ev_law_same {a b : PyData} (h : shwB a = true) (e : a = b) : m_law_same [.d a, .d b] = .ret (.bool true) := by
  subst e
  have ho : okR a = true := by
    unfold shwB at h
    exact (Bool.and_eq_true_iff.mp (Bool.and_eq_true_iff.mp (Bool.and_eq_true_iff.mp h).1).1).2
  simp only [m_law_same, b_law_same, Nat.reduceSub, Nat.reduceAdd, reduceIte, Tree.bind, liftO, dIdx, sAsgL, sPar4, dV, dC, d1, d2, t1, t2, l0, lC, dL, dT, aV, aE, a0, aC, dCall, dCallK, dIf, tTr, tV, truth, asB, tNot, tAnd, tOr, dAnd, dOr, sSet, sAsg, sPar, sRet, s0, sC, sIf, sX, sOwn, sApp, sFrz, frzE, sFor, outV, fnF, lenIs, ent, small, few, putE, putsE, wipeE, it_l, it_t, iS, iR1, iR2, wEn, wZ2, wZ3, dLc, dLf, dSl, oN, oS, pCut, pSub, cI, bD, pIx, pList, pTup, pLen, pNot, qIsN, qNotN, pIsN, pNotN, List.getElem?_cons_succ, List.getElem?_cons_zero, List.set_cons_succ, List.set_cons_zero, List.length_cons, List.length_nil, List.map_cons, List.map_nil, List.foldr_cons, List.foldr_nil, List.replicate_succ, List.replicate_zero, List.cons_append, List.nil_append, sOPar, sOOPar, dOIx, sNest, sCallP, dOLen, fnP, pC, pFrz, dPr, nApp, nIf, nEnd, sN0, sN1, lendE, frzW, sSetK, dGet, dZipD, dPairD, pMax2, sDD, sND, tNeN, sLock, lockE, odcE, tdE, dttE, tC, tLock, tRet, dGetO, dIdxO, tNinD, sPutO, tDen, sUpd, sCpT, iDtt, dSrtD, sParDt, sParDt3, tCall2, fnT, sNewD, isNd, dSame, okS, if_pos h, pSame, eqP_refl ho]
mutual
theorem okR_lay : ∀ {d : PyData}, okR d = true → d.canLay0 = true ∧ d.depth ≤ dpR d
  | .none, _ => by simp [PyData.canLay0, PyData.depth]
  | .bool _, _ => by simp [PyData.canLay0, PyData.depth]
  | .int _, _ => by simp [PyData.canLay0, PyData.depth]
  | .list ds, h => by
    have := okRs_lay (ds := ds) (by simpa only [okR] using h)
    simp only [PyData.canLay0, PyData.depth, dpR]
    exact ⟨this.1, by omega⟩
  | .tuple ds, h => by
    have := okRs_lay (ds := ds) (by simpa only [okR] using h)
    simp only [PyData.canLay0, PyData.depth, dpR]
    exact ⟨this.1, by omega⟩
  | .str x, h => by
    have h : (PyData.strOk x && decide ((reprText x).length ≤ 61)) = true := by simpa only [okR] using h
    simp only [PyData.canLay0, PyData.depth]
    exact ⟨(Bool.and_eq_true_iff.mp h).1, Nat.zero_le _⟩
  | .dict _, h => by simp [okR] at h
theorem okRs_lay : ∀ {ds : List PyData}, okRs ds = true → PyData.canLayAll0 ds = true ∧ PyData.depthAll ds ≤ dpRs ds
  | [], _ => by simp [PyData.canLayAll0, PyData.depthAll]
  | d :: ds, h => by
    have h : (okR d && okRs ds) = true := by simpa only [okRs] using h
    obtain ⟨h1, h2⟩ := Bool.and_eq_true_iff.mp h
    have a := okR_lay h1
    have b := okRs_lay h2
    simp only [PyData.canLayAll0, PyData.depthAll, dpRs, a.1, b.1]
    exact ⟨rfl, by omega⟩
end
theorem okR_shaped {d : PyData} (h : okR d = true) (hd : dpR d ≤ 60) : SeqAt.shaped d = true := by
  obtain ⟨a, b⟩ := okR_lay h
  unfold SeqAt.shaped
  rw [a, decide_eq_true (by omega)]
  rfl
theorem pEq_self {d : PyData} (h : okR d = true) (hd : dpR d ≤ 60) (hl : isLT d = true) : pEq d d = some true := by
  have hs := okR_shaped h hd
  have he := SeqAt.eqv_refl d (okR_lay h).1
  cases d <;> first | (cases hl; done) | (simp [pEq]; done) | (unfold pEq; dsimp only; rw [hs, he]; rfl)
theorem pNe_self {d : PyData} (h : okR d = true) (hd : dpR d ≤ 60) (hl : isLT d = true) : pNe d d = some false := by
  unfold pNe
  rw [pEq_self h hd hl]
  rfl
theorem pickT_R {f : PyData → Tree (Option PyData)} {g : Nat → Option PyData} {n : Nat} (h : ∀ k, k < n → f (.int (k : Int)) = .ret (g k)) : pickT f (nums n) = .ret ((List.range n).filterMap g) := by
  unfold nums
  rw [pickT_map]
  exact pickT_ret fun k hk => h k (List.mem_range.mp hk)
theorem ev_as_table {l : List Int} : m_as_table [.d (.list (iL l))] = .ret (.tuple (iL (srt l))) := by
  simp only [m_as_table, b_as_table, Nat.reduceSub, Nat.reduceAdd, reduceIte, Tree.bind, liftO, dIdx, sAsgL, sPar4, dV, dC, d1, d2, t1, t2, l0, lC, dL, dT, aV, aE, a0, aC, dCall, dCallK, dIf, tTr, tV, truth, asB, tNot, tAnd, tOr, dAnd, dOr, sSet, sAsg, sPar, sRet, s0, sC, sIf, sX, sOwn, sApp, sFrz, frzE, sFor, outV, fnF, lenIs, ent, small, few, putE, putsE, wipeE, it_l, it_t, iS, iR1, iR2, wEn, wZ2, wZ3, dLc, dLf, dSl, oN, oS, pCut, pSub, cI, bD, pIx, pList, pTup, pLen, pNot, qIsN, qNotN, pIsN, pNotN, List.getElem?_cons_succ, List.getElem?_cons_zero, List.set_cons_succ, List.set_cons_zero, List.length_cons, List.length_nil, List.map_cons, List.map_nil, List.foldr_cons, List.foldr_nil, List.replicate_succ, List.replicate_zero, List.cons_append, List.nil_append, sOPar, sOOPar, dOIx, sNest, sCallP, dOLen, fnP, pC, pFrz, dPr, nApp, nIf, nEnd, sN0, sN1, lendE, frzW, sSetK, dGet, dZipD, dPairD, pMax2, sDD, sND, tNeN, sLock, lockE, odcE, tdE, dttE, tC, tLock, tRet, dGetO, dIdxO, tNinD, sPutO, tDen, sUpd, sCpT, iDtt, dSrtD, sParDt, sParDt3, tCall2, fnT, sNewD, isNd, pSrt_of]
theorem at_last {α : Type} {xs : List α} {k : Nat} {x : α} (hl : xs.length = k + 1) (h : xs[k]? = some x) : atI xs (-1) = some x := by
  unfold atI
  rw [hl, show ixN (k + 1) (-1) = some k from by
    unfold ixN
    rw [if_neg (by omega), if_pos (by omega)]
    congr 1
    omega]
  exact h
theorem mod_plc {n : Nat} {ss cs : List Int} (tb : Tbl n ss) (hne : ss ≠ []) (n0 : 0 < n) (hc : ∀ c ∈ cs, 0 ≤ c ∧ c < (n : Int)) : (ss.zip (stepsL n ss cs)).map (fun q => (q.1 - q.2) % (n : Int)) = runS n ss cs := by
  have e := plc_tbl tb hne n0 hc
  unfold plcL difL at e
  rw [runS_tbl tb hne n0 hc, ← e]
  unfold modL
  rw [List.map_map]
  rfl
theorem ev_table_by {n : Nat} {d t : PyData} {ss cs : List Int} (hM : Mv (mvL n ss.length cs) d) (ht : items t = some (iL ss)) (tb : Tbl n ss) (hne : ss ≠ []) (n0 : 0 < n) (n1 : n ≤ 1000) (kn : ss.length ≤ n) (hc : ∀ c ∈ cs, 0 ≤ c ∧ c < (n : Int)) : m_table_by [.d (.int (n : Int)), .d d, .d t] = .ret (.tuple (iL (tabA n ss cs))) := by
  have hz : (prs (iL ss) (iL (stepsL n ss cs))).length ≤ 50000 := by
    rw [prs_len, iL_len, iL_len]
    omega
  simp only [m_table_by, b_table_by, Nat.reduceSub, Nat.reduceAdd, reduceIte, Tree.bind, liftO, dIdx, sAsgL, sPar4, dV, dC, d1, d2, t1, t2, l0, lC, dL, dT, aV, aE, a0, aC, dCall, dCallK, dIf, tTr, tV, truth, asB, tNot, tAnd, tOr, dAnd, dOr, sSet, sAsg, sPar, sRet, s0, sC, sIf, sX, sOwn, sApp, sFrz, frzE, sFor, outV, fnF, lenIs, ent, small, few, putE, putsE, wipeE, it_l, it_t, iS, iR1, iR2, wEn, wZ2, wZ3, dLc, dLf, dSl, oN, oS, pCut, pSub, cI, bD, pIx, pList, pTup, pLen, pNot, qIsN, qNotN, pIsN, pNotN, List.getElem?_cons_succ, List.getElem?_cons_zero, List.set_cons_succ, List.set_cons_zero, List.length_cons, List.length_nil, List.map_cons, List.map_nil, List.foldr_cons, List.foldr_nil, List.replicate_succ, List.replicate_zero, List.cons_append, List.nil_append, sOPar, sOOPar, dOIx, sNest, sCallP, dOLen, fnP, pC, pFrz, dPr, nApp, nIf, nEnd, sN0, sN1, lendE, frzW, sSetK, dGet, dZipD, dPairD, pMax2, sDD, sND, tNeN, sLock, lockE, odcE, tdE, dttE, tC, tLock, tRet, dGetO, dIdxO, tNinD, sPutO, tDen, sUpd, sCpT, iDtt, dSrtD, sParDt, sParDt3, tCall2, fnT, sNewD, isNd, ev_steps_by hM mOk_mvL ht n0 hne (by omega), stepsBy_tbl tb hne kn hc, ht, if_pos hz]
  rw [mapT_2 (g := fun q => (q.1 - q.2) % (n : Int)) fun q hq => by simp only [Nat.reduceSub, Nat.reduceAdd, reduceIte, Tree.bind, liftO, dIdx, sAsgL, sPar4, dV, dC, d1, d2, t1, t2, l0, lC, dL, dT, aV, aE, a0, aC, dCall, dCallK, dIf, tTr, tV, truth, asB, tNot, tAnd, tOr, dAnd, dOr, sSet, sAsg, sPar, sRet, s0, sC, sIf, sX, sOwn, sApp, sFrz, frzE, sFor, outV, fnF, lenIs, ent, small, few, putE, putsE, wipeE, it_l, it_t, iS, iR1, iR2, wEn, wZ2, wZ3, dLc, dLf, dSl, oN, oS, pCut, pSub, cI, bD, pIx, pList, pTup, pLen, pNot, qIsN, qNotN, pIsN, pNotN, List.getElem?_cons_succ, List.getElem?_cons_zero, List.set_cons_succ, List.set_cons_zero, List.length_cons, List.length_nil, List.map_cons, List.map_nil, List.foldr_cons, List.foldr_nil, List.replicate_succ, List.replicate_zero, List.cons_append, List.nil_append, sOPar, sOOPar, dOIx, sNest, sCallP, dOLen, fnP, pC, pFrz, dPr, nApp, nIf, nEnd, sN0, sN1, lendE, frzW, sSetK, dGet, dZipD, dPairD, pMax2, sDD, sND, tNeN, sLock, lockE, odcE, tdE, dttE, tC, tLock, tRet, dGetO, dIdxO, tNinD, sPutO, tDen, sUpd, sCpT, iDtt, dSrtD, sParDt, sParDt3, tCall2, fnT, sNewD, isNd, pMod_of (show (0 : Int) < n by omega)]]
  rw [mod_plc tb hne n0 hc]
  simp only [Nat.reduceSub, Nat.reduceAdd, reduceIte, Tree.bind, liftO, dIdx, sAsgL, sPar4, dV, dC, d1, d2, t1, t2, l0, lC, dL, dT, aV, aE, a0, aC, dCall, dCallK, dIf, tTr, tV, truth, asB, tNot, tAnd, tOr, dAnd, dOr, sSet, sAsg, sPar, sRet, s0, sC, sIf, sX, sOwn, sApp, sFrz, frzE, sFor, outV, fnF, lenIs, ent, small, few, putE, putsE, wipeE, it_l, it_t, iS, iR1, iR2, wEn, wZ2, wZ3, dLc, dLf, dSl, oN, oS, pCut, pSub, cI, bD, pIx, pList, pTup, pLen, pNot, qIsN, qNotN, pIsN, pNotN, List.getElem?_cons_succ, List.getElem?_cons_zero, List.set_cons_succ, List.set_cons_zero, List.length_cons, List.length_nil, List.map_cons, List.map_nil, List.foldr_cons, List.foldr_nil, List.replicate_succ, List.replicate_zero, List.cons_append, List.nil_append, sOPar, sOOPar, dOIx, sNest, sCallP, dOLen, fnP, pC, pFrz, dPr, nApp, nIf, nEnd, sN0, sN1, lendE, frzW, sSetK, dGet, dZipD, dPairD, pMax2, sDD, sND, tNeN, sLock, lockE, odcE, tdE, dttE, tC, tLock, tRet, dGetO, dIdxO, tNinD, sPutO, tDen, sUpd, sCpT, iDtt, dSrtD, sParDt, sParDt3, tCall2, fnT, sNewD, isNd, ev_as_table]
  rfl
theorem eqv_iL : ∀ a b : List Int, PyData.eqvAll (iL a) (iL b) = decide (a = b)
  | [], [] => by simp [iL, PyData.eqvAll]
  | [], _ :: _ => by simp [iL, PyData.eqvAll]
  | _ :: _, [] => by simp [iL, PyData.eqvAll]
  | x :: a, y :: b => by
    have ih := eqv_iL a b
    have e : PyData.eqvAll (iL (x :: a)) (iL (y :: b)) = (PyData.eqv (.int x) (.int y) && PyData.eqvAll (iL a) (iL b)) := by
      show PyData.eqvAll (PyData.int x :: iL a) (PyData.int y :: iL b) = _
      simp only [PyData.eqvAll]
    rw [e, ih]
    by_cases h : x = y
    · subst h
      simp [PyData.eqv]
    · simp [PyData.eqv, h]
theorem dp_Is : ∀ ns : List Int, PyData.depthAll (iL ns) = 0
  | [] => rfl
  | n :: ns => by
    show PyData.depthAll (PyData.int n :: iL ns) = 0
    simp only [PyData.depthAll, dp_Is ns, PyData.depth]
    rfl
theorem lay_Is : ∀ ns : List Int, PyData.canLayAll0 (iL ns) = true
  | [] => rfl
  | n :: ns => by
    show PyData.canLayAll0 (PyData.int n :: iL ns) = true
    simp only [PyData.canLayAll0, lay_Is ns, PyData.canLay0]
    rfl
theorem shaped_tup (ns : List Int) : SeqAt.shaped (.tuple (iL ns)) = true := by
  show (PyData.canLay0 (.tuple (iL ns)) && decide (PyData.depth (.tuple (iL ns)) ≤ 64)) = true
  simp only [PyData.canLay0, PyData.depth, lay_Is, dp_Is]
  rfl
theorem pEq_tt (a b : List Int) : pEq (.tuple (iL a)) (.tuple (iL b)) = some (decide (a = b)) := by
  simp [pEq, shaped_tup, PyData.eqv, eqv_iL]
theorem ev_law_table {n : Nat} {e : PyData} {ss : List Int} (he : items e = some (iL ss)) (n0 : 0 < n) (hl : ss.length ≤ 1000) : m_law_table [.d (.int (n : Int)), .d e] = .ret (.tuple (iL (srt (modL n ss)))) := by
  simp only [m_law_table, b_law_table, Nat.reduceSub, Nat.reduceAdd, reduceIte, Tree.bind, liftO, dIdx, sAsgL, sPar4, dV, dC, d1, d2, t1, t2, l0, lC, dL, dT, aV, aE, a0, aC, dCall, dCallK, dIf, tTr, tV, truth, asB, tNot, tAnd, tOr, dAnd, dOr, sSet, sAsg, sPar, sRet, s0, sC, sIf, sX, sOwn, sApp, sFrz, frzE, sFor, outV, fnF, lenIs, ent, small, few, putE, putsE, wipeE, it_l, it_t, iS, iR1, iR2, wEn, wZ2, wZ3, dLc, dLf, dSl, oN, oS, pCut, pSub, cI, bD, pIx, pList, pTup, pLen, pNot, qIsN, qNotN, pIsN, pNotN, List.getElem?_cons_succ, List.getElem?_cons_zero, List.set_cons_succ, List.set_cons_zero, List.length_cons, List.length_nil, List.map_cons, List.map_nil, List.foldr_cons, List.foldr_nil, List.replicate_succ, List.replicate_zero, List.cons_append, List.nil_append, sOPar, sOOPar, dOIx, sNest, sCallP, dOLen, fnP, pC, pFrz, dPr, nApp, nIf, nEnd, sN0, sN1, lendE, frzW, sSetK, dGet, dZipD, dPairD, pMax2, sDD, sND, tNeN, sLock, lockE, odcE, tdE, dttE, tC, tLock, tRet, dGetO, dIdxO, tNinD, sPutO, tDen, sUpd, sCpT, iDtt, dSrtD, sParDt, sParDt3, tCall2, fnT, sNewD, isNd, he, iL_len, if_pos (show ss.length ≤ 50000 by omega)]
  rw [mapT_I (g := fun x => x % (n : Int)) fun x hx => by simp only [Nat.reduceSub, Nat.reduceAdd, reduceIte, Tree.bind, liftO, dIdx, sAsgL, sPar4, dV, dC, d1, d2, t1, t2, l0, lC, dL, dT, aV, aE, a0, aC, dCall, dCallK, dIf, tTr, tV, truth, asB, tNot, tAnd, tOr, dAnd, dOr, sSet, sAsg, sPar, sRet, s0, sC, sIf, sX, sOwn, sApp, sFrz, frzE, sFor, outV, fnF, lenIs, ent, small, few, putE, putsE, wipeE, it_l, it_t, iS, iR1, iR2, wEn, wZ2, wZ3, dLc, dLf, dSl, oN, oS, pCut, pSub, cI, bD, pIx, pList, pTup, pLen, pNot, qIsN, qNotN, pIsN, pNotN, List.getElem?_cons_succ, List.getElem?_cons_zero, List.set_cons_succ, List.set_cons_zero, List.length_cons, List.length_nil, List.map_cons, List.map_nil, List.foldr_cons, List.foldr_nil, List.replicate_succ, List.replicate_zero, List.cons_append, List.nil_append, sOPar, sOOPar, dOIx, sNest, sCallP, dOLen, fnP, pC, pFrz, dPr, nApp, nIf, nEnd, sN0, sN1, lendE, frzW, sSetK, dGet, dZipD, dPairD, pMax2, sDD, sND, tNeN, sLock, lockE, odcE, tdE, dttE, tC, tLock, tRet, dGetO, dIdxO, tNinD, sPutO, tDen, sUpd, sCpT, iDtt, dSrtD, sParDt, sParDt3, tCall2, fnT, sNewD, isNd, pMod_of (show (0 : Int) < n by omega)]]
  simp only [Nat.reduceSub, Nat.reduceAdd, reduceIte, Tree.bind, liftO, dIdx, sAsgL, sPar4, dV, dC, d1, d2, t1, t2, l0, lC, dL, dT, aV, aE, a0, aC, dCall, dCallK, dIf, tTr, tV, truth, asB, tNot, tAnd, tOr, dAnd, dOr, sSet, sAsg, sPar, sRet, s0, sC, sIf, sX, sOwn, sApp, sFrz, frzE, sFor, outV, fnF, lenIs, ent, small, few, putE, putsE, wipeE, it_l, it_t, iS, iR1, iR2, wEn, wZ2, wZ3, dLc, dLf, dSl, oN, oS, pCut, pSub, cI, bD, pIx, pList, pTup, pLen, pNot, qIsN, qNotN, pIsN, pNotN, List.getElem?_cons_succ, List.getElem?_cons_zero, List.set_cons_succ, List.set_cons_zero, List.length_cons, List.length_nil, List.map_cons, List.map_nil, List.foldr_cons, List.foldr_nil, List.replicate_succ, List.replicate_zero, List.cons_append, List.nil_append, sOPar, sOOPar, dOIx, sNest, sCallP, dOLen, fnP, pC, pFrz, dPr, nApp, nIf, nEnd, sN0, sN1, lendE, frzW, sSetK, dGet, dZipD, dPairD, pMax2, sDD, sND, tNeN, sLock, lockE, odcE, tdE, dttE, tC, tLock, tRet, dGetO, dIdxO, tNinD, sPutO, tDen, sUpd, sCpT, iDtt, dSrtD, sParDt, sParDt3, tCall2, fnT, sNewD, isNd, pSrt_of]
  rfl
def tD (t : List Int) : PyData := .tuple (iL t)
def okOn (t : List Int) (c : Nat) : Bool := t.isEmpty || decide (t.getLastD 0 < (c : Int))
def goOn (n : Nat) (t : List Int) : List (List Int) := (List.range n).filterMap fun (c : Nat) => if okOn t c then some (t ++ [(c : Int)]) else none
def tbs (n : Nat) : Nat → List (List Int)
  | 0 => [[]]
  | k + 1 => (tbs n k).flatMap (goOn n)
theorem tbs_few0 : ((List.range 11).all fun n => (List.range 11).all fun k => decide ((tbs n k).length ≤ 1000)) = true := by decide +kernel
theorem tbs_few {n k : Nat} (hn : n ≤ 10) (hk : k ≤ 10) : (tbs n k).length ≤ 1000 := by
  have h := List.all_eq_true.mp tbs_few0 n (List.mem_range.mpr (by omega))
  have g := List.all_eq_true.mp h k (List.mem_range.mpr (by omega))
  exact of_decide_eq_true g
theorem last_le {t : List Int} (h : t.Pairwise (· < ·)) : ∀ x ∈ t, x ≤ t.getLastD 0 := fun x hx => by
  obtain ⟨i, hi⟩ := List.getElem?_of_mem hx
  obtain ⟨hl, rfl⟩ := List.getElem?_eq_some_iff.mp hi
  have hne : t ≠ [] := fun e => by rw [e] at hl; simp at hl
  have e : t.getLastD 0 = t[t.length - 1]'(by omega) := by
    rw [List.getLastD_eq_getLast?, List.getLast?_eq_getElem?, List.getElem?_eq_getElem (by omega)]
    rfl
  rw [e]
  by_cases q : i = t.length - 1
  · subst q
    exact Int.le_refl _
  · exact Int.le_of_lt (List.pairwise_iff_getElem.mp h i (t.length - 1) hl (by omega) (by omega))
theorem tbs_mem {n : Nat} : ∀ {k : Nat} {t : List Int}, t ∈ tbs n k → Tbl n t ∧ t.length = k
  | 0, t, h => by
    rw [List.mem_singleton.mp (show t ∈ [[]] from h)]
    exact ⟨⟨List.Pairwise.nil, fun x hx => by cases hx⟩, rfl⟩
  | k + 1, t, h => by
    obtain ⟨u, hu, ht⟩ := List.mem_flatMap.mp (show t ∈ (tbs n k).flatMap (goOn n) from h)
    obtain ⟨tb, hl⟩ := tbs_mem hu
    unfold goOn at ht
    obtain ⟨c, hc, e⟩ := List.mem_filterMap.mp ht
    have hcn := List.mem_range.mp hc
    split at e
    · rename_i ok
      cases e
      refine ⟨⟨List.pairwise_append.mpr ⟨tb.asc, List.pairwise_singleton _ _, fun a ha b hb => ?_⟩, fun x hx => ?_⟩, by rw [List.length_append, hl]; rfl⟩
      · rw [List.mem_singleton.mp hb]
        rcases Bool.or_eq_true_iff.mp ok with q | q
        · rw [List.isEmpty_iff.mp q] at ha
          cases ha
        · exact Int.lt_of_le_of_lt (last_le tb.asc a ha) (of_decide_eq_true q)
      · rcases List.mem_append.mp hx with q | q
        · exact tb.mem x q
        · rw [List.mem_singleton.mp q]
          omega
    · cases e
theorem mapT_tD {β : Type} {f : PyData → Tree β} {g : List Int → β} {ts : List (List Int)} (h : ∀ t ∈ ts, f (tD t) = .ret (g t)) : mapT f (ts.map tD) = .ret (ts.map g) := by
  rw [mapT_map]
  exact mapT_ret h
theorem pAdd_t {a b : List Int} (h : a.length + b.length ≤ 100000) : pAdd (.tuple (iL a)) (.tuple (iL b)) = some (.tuple (iL (a ++ b))) := by
  show (if (iL a).length + (iL b).length ≤ 100000 then some (PyData.tuple (iL a ++ iL b)) else none) = _
  rw [if_pos (by rw [iL_len, iL_len]; exact h), show iL a ++ iL b = iL (a ++ b) from List.map_append.symm]
theorem ev_all_tables {n k : Nat} (n0 : 1 ≤ n) (n1 : n ≤ 10) (kn : k ≤ 10) : m_all_tables [.d (.int (n : Int)), .d (.int (k : Int))] = .ret (.list ((tbs n k).map tD)) := by
  simp only [m_all_tables, b_all_tables, Nat.reduceSub, Nat.reduceAdd, reduceIte, Tree.bind, liftO, dIdx, sAsgL, sPar4, dV, dC, d1, d2, t1, t2, l0, lC, dL, dT, aV, aE, a0, aC, dCall, dCallK, dIf, tTr, tV, truth, asB, tNot, tAnd, tOr, dAnd, dOr, sSet, sAsg, sPar, sRet, s0, sC, sIf, sX, sOwn, sApp, sFrz, frzE, sFor, outV, fnF, lenIs, ent, small, few, putE, putsE, wipeE, it_l, it_t, iS, iR1, iR2, wEn, wZ2, wZ3, dLc, dLf, dSl, oN, oS, pCut, pSub, cI, bD, pIx, pList, pTup, pLen, pNot, qIsN, qNotN, pIsN, pNotN, List.getElem?_cons_succ, List.getElem?_cons_zero, List.set_cons_succ, List.set_cons_zero, List.length_cons, List.length_nil, List.map_cons, List.map_nil, List.foldr_cons, List.foldr_nil, List.replicate_succ, List.replicate_zero, List.cons_append, List.nil_append, sOPar, sOOPar, dOIx, sNest, sCallP, dOLen, fnP, pC, pFrz, dPr, nApp, nIf, nEnd, sN0, sN1, lendE, frzW, sSetK, dGet, dZipD, dPairD, pMax2, sDD, sND, tNeN, sLock, lockE, odcE, tdE, dttE, tC, tLock, tRet, dGetO, dIdxO, tNinD, sPutO, tDen, sUpd, sCpT, iDtt, dSrtD, sParDt, sParDt3, tCall2, fnT, sNewD, isNd, Nat.reduceLeDiff, rg1_nat (show k ≤ 100000 by omega)]
  refine forT_then (C := fun t => Tree.bind (Tree.bind t _) outV = _) (P := fun o => ∃ x3, o = .nx [some (.d (.int (n : Int))), some (.d (.int (k : Int))), some (.d (.list ((tbs n k).map tD))), x3, none, none]) (fun i E => ∃ x3, E = [some (.d (.int (n : Int))), some (.d (.int (k : Int))), some (.d (.list ((tbs n i).map tD))), x3, none, none]) ⟨_, rfl⟩ (fun i x E hx hI => ?_) (fun E hI => ?_) fun o ho => ?_
  · obtain ⟨x3, rfl⟩ := hI
    obtain ⟨hi, rfl⟩ := nums_at hx
    have hlen := tbs_few (k := i) n1 (by omega)
    refine ⟨_, rfl, ?_⟩
    simp only [Nat.reduceSub, Nat.reduceAdd, reduceIte, Tree.bind, liftO, dIdx, sAsgL, sPar4, dV, dC, d1, d2, t1, t2, l0, lC, dL, dT, aV, aE, a0, aC, dCall, dCallK, dIf, tTr, tV, truth, asB, tNot, tAnd, tOr, dAnd, dOr, sSet, sAsg, sPar, sRet, s0, sC, sIf, sX, sOwn, sApp, sFrz, frzE, sFor, outV, fnF, lenIs, ent, small, few, putE, putsE, wipeE, it_l, it_t, iS, iR1, iR2, wEn, wZ2, wZ3, dLc, dLf, dSl, oN, oS, pCut, pSub, cI, bD, pIx, pList, pTup, pLen, pNot, qIsN, qNotN, pIsN, pNotN, List.getElem?_cons_succ, List.getElem?_cons_zero, List.set_cons_succ, List.set_cons_zero, List.length_cons, List.length_nil, List.map_cons, List.map_nil, List.foldr_cons, List.foldr_nil, List.replicate_succ, List.replicate_zero, List.cons_append, List.nil_append, sOPar, sOOPar, dOIx, sNest, sCallP, dOLen, fnP, pC, pFrz, dPr, nApp, nIf, nEnd, sN0, sN1, lendE, frzW, sSetK, dGet, dZipD, dPairD, pMax2, sDD, sND, tNeN, sLock, lockE, odcE, tdE, dttE, tC, tLock, tRet, dGetO, dIdxO, tNinD, sPutO, tDen, sUpd, sCpT, iDtt, dSrtD, sParDt, sParDt3, tCall2, fnT, sNewD, isNd, dLc2, atMost, List.length_map, if_pos hlen]
    rw [mapT_tD (g := fun t => (goOn n t).map tD) fun t ht => by
      obtain ⟨tb, hl⟩ := tbs_mem ht
      simp only [Nat.reduceSub, Nat.reduceAdd, reduceIte, Tree.bind, liftO, dIdx, sAsgL, sPar4, dV, dC, d1, d2, t1, t2, l0, lC, dL, dT, aV, aE, a0, aC, dCall, dCallK, dIf, tTr, tV, truth, asB, tNot, tAnd, tOr, dAnd, dOr, sSet, sAsg, sPar, sRet, s0, sC, sIf, sX, sOwn, sApp, sFrz, frzE, sFor, outV, fnF, lenIs, ent, small, few, putE, putsE, wipeE, it_l, it_t, iS, iR1, iR2, wEn, wZ2, wZ3, dLc, dLf, dSl, oN, oS, pCut, pSub, cI, bD, pIx, pList, pTup, pLen, pNot, qIsN, qNotN, pIsN, pNotN, List.getElem?_cons_succ, List.getElem?_cons_zero, List.set_cons_succ, List.set_cons_zero, List.length_cons, List.length_nil, List.map_cons, List.map_nil, List.foldr_cons, List.foldr_nil, List.replicate_succ, List.replicate_zero, List.cons_append, List.nil_append, sOPar, sOOPar, dOIx, sNest, sCallP, dOLen, fnP, pC, pFrz, dPr, nApp, nIf, nEnd, sN0, sN1, lendE, frzW, sSetK, dGet, dZipD, dPairD, pMax2, sDD, sND, tNeN, sLock, lockE, odcE, tdE, dttE, tC, tLock, tRet, dGetO, dIdxO, tNinD, sPutO, tDen, sUpd, sCpT, iDtt, dSrtD, sParDt, sParDt3, tCall2, fnT, sNewD, isNd, in2, rg1_nat (show n ≤ 100000 by omega), atMost, nums_len, if_pos (show n ≤ 50 by omega)]
      rw [pickT_R (g := fun c => if okOn t c then some (tD (t ++ [(c : Int)])) else none) fun c hc => by
        have ha : pAdd (tD t) (.tuple [.int (c : Int)]) = some (tD (t ++ [(c : Int)])) := pAdd_t (b := [(c : Int)]) (by simp; omega)
        cases t with
        | nil =>
          have ha' : pAdd (.tuple []) (.tuple [.int (c : Int)]) = some (tD [(c : Int)]) := ha
          simp only [Nat.reduceSub, Nat.reduceAdd, reduceIte, Tree.bind, liftO, dIdx, sAsgL, sPar4, dV, dC, d1, d2, t1, t2, l0, lC, dL, dT, aV, aE, a0, aC, dCall, dCallK, dIf, tTr, tV, truth, asB, tNot, tAnd, tOr, dAnd, dOr, sSet, sAsg, sPar, sRet, s0, sC, sIf, sX, sOwn, sApp, sFrz, frzE, sFor, outV, fnF, lenIs, ent, small, few, putE, putsE, wipeE, it_l, it_t, iS, iR1, iR2, wEn, wZ2, wZ3, dLc, dLf, dSl, oN, oS, pCut, pSub, cI, bD, pIx, pList, pTup, pLen, pNot, qIsN, qNotN, pIsN, pNotN, List.getElem?_cons_succ, List.getElem?_cons_zero, List.set_cons_succ, List.set_cons_zero, List.length_cons, List.length_nil, List.map_cons, List.map_nil, List.foldr_cons, List.foldr_nil, List.replicate_succ, List.replicate_zero, List.cons_append, List.nil_append, sOPar, sOOPar, dOIx, sNest, sCallP, dOLen, fnP, pC, pFrz, dPr, nApp, nIf, nEnd, sN0, sN1, lendE, frzW, sSetK, dGet, dZipD, dPairD, pMax2, sDD, sND, tNeN, sLock, lockE, odcE, tdE, dttE, tC, tLock, tRet, dGetO, dIdxO, tNinD, sPutO, tDen, sUpd, sCpT, iDtt, dSrtD, sParDt, sParDt3, tCall2, fnT, sNewD, isNd, in1, show tD [] = .tuple [] from rfl, Nat.reduceLeDiff, List.isEmpty, Bool.not_true, Bool.not_false, ha', show okOn [] c = true from rfl]
        | cons a t =>
          have hlast : atI (.int a :: iL t) (-1) = some (.int ((a :: t).getLastD 0)) := by
            have h1 : (iL (a :: t))[t.length]? = some (.int ((a :: t).getLastD 0)) := by
              unfold iL
              rw [List.getElem?_map, List.getLastD_eq_getLast?, List.getLast?_eq_getElem?, show (a :: t).length - 1 = t.length from rfl, List.getElem?_eq_getElem (by simp)]
              rfl
            exact at_last (k := t.length) (by show (iL (a :: t)).length = _; rw [iL_len]; rfl) h1
          have ha' : pAdd (.tuple (.int a :: iL t)) (.tuple [.int (c : Int)]) = some (tD (a :: t ++ [(c : Int)])) := ha
          simp only [Nat.reduceSub, Nat.reduceAdd, reduceIte, Tree.bind, liftO, dIdx, sAsgL, sPar4, dV, dC, d1, d2, t1, t2, l0, lC, dL, dT, aV, aE, a0, aC, dCall, dCallK, dIf, tTr, tV, truth, asB, tNot, tAnd, tOr, dAnd, dOr, sSet, sAsg, sPar, sRet, s0, sC, sIf, sX, sOwn, sApp, sFrz, frzE, sFor, outV, fnF, lenIs, ent, small, few, putE, putsE, wipeE, it_l, it_t, iS, iR1, iR2, wEn, wZ2, wZ3, dLc, dLf, dSl, oN, oS, pCut, pSub, cI, bD, pIx, pList, pTup, pLen, pNot, qIsN, qNotN, pIsN, pNotN, List.getElem?_cons_succ, List.getElem?_cons_zero, List.set_cons_succ, List.set_cons_zero, List.length_cons, List.length_nil, List.map_cons, List.map_nil, List.foldr_cons, List.foldr_nil, List.replicate_succ, List.replicate_zero, List.cons_append, List.nil_append, sOPar, sOOPar, dOIx, sNest, sCallP, dOLen, fnP, pC, pFrz, dPr, nApp, nIf, nEnd, sN0, sN1, lendE, frzW, sSetK, dGet, dZipD, dPairD, pMax2, sDD, sND, tNeN, sLock, lockE, odcE, tdE, dttE, tC, tLock, tRet, dGetO, dIdxO, tNinD, sPutO, tDen, sUpd, sCpT, iDtt, dSrtD, sParDt, sParDt3, tCall2, fnT, sNewD, isNd, in1, show tD (a :: t) = .tuple (.int a :: iL t) from rfl, Nat.reduceLeDiff, List.isEmpty, Bool.not_true, Bool.not_false, pNeg, hlast, ha', okOn, cLt]
          by_cases q : (a :: t).getLastD 0 < (c : Int)
          · simp only [decide_eq_true q, Bool.or_true, if_true]
          · simp only [decide_eq_false q, Bool.or_false, Bool.false_eq_true, if_false]]
      unfold goOn
      rw [List.map_filterMap]
      congr 2
      funext c
      split <;> rfl]
    refine ⟨_, rfl, some (.d (.int (i : Int))), ?_⟩
    rw [show tbs n (i + 1) = (tbs n i).flatMap (goOn n) from rfl, List.map_flatMap]
    rfl
  · obtain ⟨x3, rfl⟩ := hI
    rw [nums_len]
    exact ⟨_, rfl⟩
  · obtain ⟨x3, rfl⟩ := ho
    simp only [Nat.reduceSub, Nat.reduceAdd, reduceIte, Tree.bind, liftO, dIdx, sAsgL, sPar4, dV, dC, d1, d2, t1, t2, l0, lC, dL, dT, aV, aE, a0, aC, dCall, dCallK, dIf, tTr, tV, truth, asB, tNot, tAnd, tOr, dAnd, dOr, sSet, sAsg, sPar, sRet, s0, sC, sIf, sX, sOwn, sApp, sFrz, frzE, sFor, outV, fnF, lenIs, ent, small, few, putE, putsE, wipeE, it_l, it_t, iS, iR1, iR2, wEn, wZ2, wZ3, dLc, dLf, dSl, oN, oS, pCut, pSub, cI, bD, pIx, pList, pTup, pLen, pNot, qIsN, qNotN, pIsN, pNotN, List.getElem?_cons_succ, List.getElem?_cons_zero, List.set_cons_succ, List.set_cons_zero, List.length_cons, List.length_nil, List.map_cons, List.map_nil, List.foldr_cons, List.foldr_nil, List.replicate_succ, List.replicate_zero, List.cons_append, List.nil_append, sOPar, sOOPar, dOIx, sNest, sCallP, dOLen, fnP, pC, pFrz, dPr, nApp, nIf, nEnd, sN0, sN1, lendE, frzW, sSetK, dGet, dZipD, dPairD, pMax2, sDD, sND, tNeN, sLock, lockE, odcE, tdE, dttE, tC, tLock, tRet, dGetO, dIdxO, tNinD, sPutO, tDen, sUpd, sCpT, iDtt, dSrtD, sParDt, sParDt3, tCall2, fnT, sNewD, isNd]
theorem ev_all_led {n k : Nat} {e : PyData} {cs : List Int} (he : items e = some (iL cs)) (n1 : n ≤ 10) (k0 : 1 ≤ k) (kn : k < n) (hc : ∀ c ∈ cs, 0 ≤ c ∧ c < (n : Int)) (hl : cs.length ≤ 1000) : m_all_led [.d (.int (n : Int)), .d (.int (k : Int)), .d e] = .ret (.list ((tbs n k).map fun t => .tuple [tD t, tD (tabA n t cs)])) := by
  have hlen := tbs_few (n := n) (k := k) n1 (by omega)
  simp only [m_all_led, b_all_led, Nat.reduceSub, Nat.reduceAdd, reduceIte, Tree.bind, liftO, dIdx, sAsgL, sPar4, dV, dC, d1, d2, t1, t2, l0, lC, dL, dT, aV, aE, a0, aC, dCall, dCallK, dIf, tTr, tV, truth, asB, tNot, tAnd, tOr, dAnd, dOr, sSet, sAsg, sPar, sRet, s0, sC, sIf, sX, sOwn, sApp, sFrz, frzE, sFor, outV, fnF, lenIs, ent, small, few, putE, putsE, wipeE, it_l, it_t, iS, iR1, iR2, wEn, wZ2, wZ3, dLc, dLf, dSl, oN, oS, pCut, pSub, cI, bD, pIx, pList, pTup, pLen, pNot, qIsN, qNotN, pIsN, pNotN, List.getElem?_cons_succ, List.getElem?_cons_zero, List.set_cons_succ, List.set_cons_zero, List.length_cons, List.length_nil, List.map_cons, List.map_nil, List.foldr_cons, List.foldr_nil, List.replicate_succ, List.replicate_zero, List.cons_append, List.nil_append, sOPar, sOOPar, dOIx, sNest, sCallP, dOLen, fnP, pC, pFrz, dPr, nApp, nIf, nEnd, sN0, sN1, lendE, frzW, sSetK, dGet, dZipD, dPairD, pMax2, sDD, sND, tNeN, sLock, lockE, odcE, tdE, dttE, tC, tLock, tRet, dGetO, dIdxO, tNinD, sPutO, tDen, sUpd, sCpT, iDtt, dSrtD, sParDt, sParDt3, tCall2, fnT, sNewD, isNd, ev_moves_of he (show 0 < n by omega) (show n ≤ 1000 by omega) k0 (show k ≤ 1000 by omega) hl, ev_all_tables (show 1 ≤ n by omega) n1 (show k ≤ 10 by omega), List.length_map, if_pos (show (tbs n k).length ≤ 50000 by omega)]
  rw [mapT_tD (g := fun t => .tuple [tD t, tD (tabA n t cs)]) fun t ht => by
    obtain ⟨tb, htl⟩ := tbs_mem ht
    have hne : t ≠ [] := List.length_pos_iff.mp (by omega)
    have e2 := ev_table_by (d := .tuple (rowsT (mvL n k cs))) (t := tD t) (by rw [htl]; exact mv_rows _) (it_t _) tb hne (show 0 < n by omega) (by omega) (by omega) hc
    simp only [Nat.reduceSub, Nat.reduceAdd, reduceIte, Tree.bind, liftO, dIdx, sAsgL, sPar4, dV, dC, d1, d2, t1, t2, l0, lC, dL, dT, aV, aE, a0, aC, dCall, dCallK, dIf, tTr, tV, truth, asB, tNot, tAnd, tOr, dAnd, dOr, sSet, sAsg, sPar, sRet, s0, sC, sIf, sX, sOwn, sApp, sFrz, frzE, sFor, outV, fnF, lenIs, ent, small, few, putE, putsE, wipeE, it_l, it_t, iS, iR1, iR2, wEn, wZ2, wZ3, dLc, dLf, dSl, oN, oS, pCut, pSub, cI, bD, pIx, pList, pTup, pLen, pNot, qIsN, qNotN, pIsN, pNotN, List.getElem?_cons_succ, List.getElem?_cons_zero, List.set_cons_succ, List.set_cons_zero, List.length_cons, List.length_nil, List.map_cons, List.map_nil, List.foldr_cons, List.foldr_nil, List.replicate_succ, List.replicate_zero, List.cons_append, List.nil_append, sOPar, sOOPar, dOIx, sNest, sCallP, dOLen, fnP, pC, pFrz, dPr, nApp, nIf, nEnd, sN0, sN1, lendE, frzW, sSetK, dGet, dZipD, dPairD, pMax2, sDD, sND, tNeN, sLock, lockE, odcE, tdE, dttE, tC, tLock, tRet, dGetO, dIdxO, tNinD, sPutO, tDen, sUpd, sCpT, iDtt, dSrtD, sParDt, sParDt3, tCall2, fnT, sNewD, isNd, e2, Nat.reduceLeDiff]
    rfl]
  simp only [Nat.reduceSub, Nat.reduceAdd, reduceIte, Tree.bind, liftO, dIdx, sAsgL, sPar4, dV, dC, d1, d2, t1, t2, l0, lC, dL, dT, aV, aE, a0, aC, dCall, dCallK, dIf, tTr, tV, truth, asB, tNot, tAnd, tOr, dAnd, dOr, sSet, sAsg, sPar, sRet, s0, sC, sIf, sX, sOwn, sApp, sFrz, frzE, sFor, outV, fnF, lenIs, ent, small, few, putE, putsE, wipeE, it_l, it_t, iS, iR1, iR2, wEn, wZ2, wZ3, dLc, dLf, dSl, oN, oS, pCut, pSub, cI, bD, pIx, pList, pTup, pLen, pNot, qIsN, qNotN, pIsN, pNotN, List.getElem?_cons_succ, List.getElem?_cons_zero, List.set_cons_succ, List.set_cons_zero, List.length_cons, List.length_nil, List.map_cons, List.map_nil, List.foldr_cons, List.foldr_nil, List.replicate_succ, List.replicate_zero, List.cons_append, List.nil_append, sOPar, sOOPar, dOIx, sNest, sCallP, dOLen, fnP, pC, pFrz, dPr, nApp, nIf, nEnd, sN0, sN1, lendE, frzW, sSetK, dGet, dZipD, dPairD, pMax2, sDD, sND, tNeN, sLock, lockE, odcE, tdE, dttE, tC, tLock, tRet, dGetO, dIdxO, tNinD, sPutO, tDen, sUpd, sCpT, iDtt, dSrtD, sParDt, sParDt3, tCall2, fnT, sNewD, isNd]
def lwF (k : Nat) : Nat → List (List Int)
  | 0 => [[]]
  | m + 1 => lwF k m ++ ((lwF k m).filter fun t => decide (t.length < k)).map fun t => t ++ [(m : Int)]
def lwE (n k : Nat) : List (List Int) := (lwF k n).filter fun t => decide (t.length = k)
theorem lw_all : ((List.range 8).all fun n => (List.range n).all fun k => decide (k = 0) || (decide (srtT (lwE n k) = tbs n k) && decide (1 ≤ hdLen (lwE n k)) && decide ((lwE n k).length < 64) && (lwE n k).all (bdT (hdLen (lwE n k))) && decide ((lwF k n).length ≤ 1000))) = true := by decide +kernel
theorem lw_ok {n k : Nat} (n1 : n ≤ 7) (k0 : 1 ≤ k) (kn : k < n) : srtT (lwE n k) = tbs n k ∧ 1 ≤ hdLen (lwE n k) ∧ (lwE n k).length < 64 ∧ (lwE n k).all (bdT (hdLen (lwE n k))) = true ∧ (lwF k n).length ≤ 1000 := by
  have h := List.all_eq_true.mp lw_all n (List.mem_range.mpr (by omega))
  have g := List.all_eq_true.mp h k (List.mem_range.mpr kn)
  rw [decide_eq_false (show ¬ k = 0 by omega), Bool.false_or] at g
  simp only [Bool.and_eq_true, decide_eq_true_eq] at g
  exact ⟨g.1.1.1.1, g.1.1.1.2, g.1.1.2, g.1.2, g.2⟩
theorem lwF_mono (k : Nat) : ∀ {i m : Nat}, i ≤ m → (lwF k i).length ≤ (lwF k m).length
  | i, 0, h => by
    rw [show i = 0 by omega]
    exact Nat.le_refl _
  | i, m + 1, h => by
    by_cases e : i = m + 1
    · rw [e]
      exact Nat.le_refl _
    · refine Nat.le_trans (lwF_mono k (show i ≤ m by omega)) ?_
      show _ ≤ (lwF k m ++ _).length
      rw [List.length_append]
      omega
theorem lwF_len (k : Nat) : ∀ {m : Nat} {t : List Int}, t ∈ lwF k m → t.length ≤ m
  | 0, t, h => by
    rw [List.mem_singleton.mp (show t ∈ [[]] from h)]
    exact Nat.le_refl _
  | m + 1, t, h => by
    rcases List.mem_append.mp (show t ∈ lwF k m ++ _ from h) with h | h
    · have := lwF_len k h
      omega
    · obtain ⟨u, hu, rfl⟩ := List.mem_map.mp h
      have := lwF_len k (List.mem_filter.mp hu).1
      rw [List.length_append]
      simp
      omega
theorem tpl_tD : tpl = tD := rfl
theorem pickT_tD {f : PyData → Tree (Option PyData)} {p : List Int → Bool} {g : List Int → List Int} {ts : List (List Int)} (h : ∀ t ∈ ts, f (tD t) = .ret (if p t then some (tD (g t)) else none)) : pickT f (ts.map tD) = .ret (((ts.filter p).map g).map tD) := by
  rw [pickT_map, pickT_ret h]
  congr 1
  induction ts with
  | nil => rfl
  | cons t ts ih =>
    rw [List.filterMap_cons, List.filter_cons, ih fun u hu => h u (List.mem_cons_of_mem _ hu)]
    by_cases q : p t = true
    · simp [q]
    · simp [q]
theorem ev_law_tables {n k : Nat} (n1 : n ≤ 7) (k0 : 1 ≤ k) (kn : k < n) : m_law_tables [.d (.int (n : Int)), .d (.int (k : Int))] = .ret (.list ((tbs n k).map tD)) := by
  obtain ⟨o1, o2, o3, o4, o5⟩ := lw_ok n1 k0 kn
  simp only [m_law_tables, b_law_tables, Nat.reduceSub, Nat.reduceAdd, reduceIte, Tree.bind, liftO, dIdx, sAsgL, sPar4, dV, dC, d1, d2, t1, t2, l0, lC, dL, dT, aV, aE, a0, aC, dCall, dCallK, dIf, tTr, tV, truth, asB, tNot, tAnd, tOr, dAnd, dOr, sSet, sAsg, sPar, sRet, s0, sC, sIf, sX, sOwn, sApp, sFrz, frzE, sFor, outV, fnF, lenIs, ent, small, few, putE, putsE, wipeE, it_l, it_t, iS, iR1, iR2, wEn, wZ2, wZ3, dLc, dLf, dSl, oN, oS, pCut, pSub, cI, bD, pIx, pList, pTup, pLen, pNot, qIsN, qNotN, pIsN, pNotN, List.getElem?_cons_succ, List.getElem?_cons_zero, List.set_cons_succ, List.set_cons_zero, List.length_cons, List.length_nil, List.map_cons, List.map_nil, List.foldr_cons, List.foldr_nil, List.replicate_succ, List.replicate_zero, List.cons_append, List.nil_append, sOPar, sOOPar, dOIx, sNest, sCallP, dOLen, fnP, pC, pFrz, dPr, nApp, nIf, nEnd, sN0, sN1, lendE, frzW, sSetK, dGet, dZipD, dPairD, pMax2, sDD, sND, tNeN, sLock, lockE, odcE, tdE, dttE, tC, tLock, tRet, dGetO, dIdxO, tNinD, sPutO, tDen, sUpd, sCpT, iDtt, dSrtD, sParDt, sParDt3, tCall2, fnT, sNewD, isNd, Nat.reduceLeDiff, rg1_nat (show n ≤ 100000 by omega)]
  refine forT_then (C := fun t => Tree.bind (Tree.bind t _) outV = _) (P := fun o => ∃ x3, o = .nx [some (.d (.int (n : Int))), some (.d (.int (k : Int))), some (.d (.list ((lwF k n).map tD))), x3, none]) (fun i E => ∃ x3, E = [some (.d (.int (n : Int))), some (.d (.int (k : Int))), some (.d (.list ((lwF k i).map tD))), x3, none]) ⟨_, rfl⟩ (fun i x E hx hI => ?_) (fun E hI => ?_) fun o ho => ?_
  · obtain ⟨x3, rfl⟩ := hI
    obtain ⟨hi, rfl⟩ := nums_at hx
    have hlen : (lwF k i).length ≤ 1000 := Nat.le_trans (lwF_mono k (by omega)) o5
    have hlen2 : (lwF k (i + 1)).length ≤ 1000 := Nat.le_trans (lwF_mono k (show i + 1 ≤ n by omega)) o5
    refine ⟨_, rfl, ?_⟩
    simp only [Nat.reduceSub, Nat.reduceAdd, reduceIte, Tree.bind, liftO, dIdx, sAsgL, sPar4, dV, dC, d1, d2, t1, t2, l0, lC, dL, dT, aV, aE, a0, aC, dCall, dCallK, dIf, tTr, tV, truth, asB, tNot, tAnd, tOr, dAnd, dOr, sSet, sAsg, sPar, sRet, s0, sC, sIf, sX, sOwn, sApp, sFrz, frzE, sFor, outV, fnF, lenIs, ent, small, few, putE, putsE, wipeE, it_l, it_t, iS, iR1, iR2, wEn, wZ2, wZ3, dLc, dLf, dSl, oN, oS, pCut, pSub, cI, bD, pIx, pList, pTup, pLen, pNot, qIsN, qNotN, pIsN, pNotN, List.getElem?_cons_succ, List.getElem?_cons_zero, List.set_cons_succ, List.set_cons_zero, List.length_cons, List.length_nil, List.map_cons, List.map_nil, List.foldr_cons, List.foldr_nil, List.replicate_succ, List.replicate_zero, List.cons_append, List.nil_append, sOPar, sOOPar, dOIx, sNest, sCallP, dOLen, fnP, pC, pFrz, dPr, nApp, nIf, nEnd, sN0, sN1, lendE, frzW, sSetK, dGet, dZipD, dPairD, pMax2, sDD, sND, tNeN, sLock, lockE, odcE, tdE, dttE, tC, tLock, tRet, dGetO, dIdxO, tNinD, sPutO, tDen, sUpd, sCpT, iDtt, dSrtD, sParDt, sParDt3, tCall2, fnT, sNewD, isNd, List.length_map, if_pos (show (lwF k i).length ≤ 50000 by omega)]
    rw [pickT_tD (p := fun t => decide (t.length < k)) (g := fun t => t ++ [(i : Int)]) fun t ht => by
      have hl := lwF_len k ht
      have ha : pAdd (tD t) (.tuple [.int (i : Int)]) = some (tD (t ++ [(i : Int)])) := pAdd_t (b := [(i : Int)]) (by simp; omega)
      simp only [Nat.reduceSub, Nat.reduceAdd, reduceIte, Tree.bind, liftO, dIdx, sAsgL, sPar4, dV, dC, d1, d2, t1, t2, l0, lC, dL, dT, aV, aE, a0, aC, dCall, dCallK, dIf, tTr, tV, truth, asB, tNot, tAnd, tOr, dAnd, dOr, sSet, sAsg, sPar, sRet, s0, sC, sIf, sX, sOwn, sApp, sFrz, frzE, sFor, outV, fnF, lenIs, ent, small, few, putE, putsE, wipeE, it_l, it_t, iS, iR1, iR2, wEn, wZ2, wZ3, dLc, dLf, dSl, oN, oS, pCut, pSub, cI, bD, pIx, pList, pTup, pLen, pNot, qIsN, qNotN, pIsN, pNotN, List.getElem?_cons_succ, List.getElem?_cons_zero, List.set_cons_succ, List.set_cons_zero, List.length_cons, List.length_nil, List.map_cons, List.map_nil, List.foldr_cons, List.foldr_nil, List.replicate_succ, List.replicate_zero, List.cons_append, List.nil_append, sOPar, sOOPar, dOIx, sNest, sCallP, dOLen, fnP, pC, pFrz, dPr, nApp, nIf, nEnd, sN0, sN1, lendE, frzW, sSetK, dGet, dZipD, dPairD, pMax2, sDD, sND, tNeN, sLock, lockE, odcE, tdE, dttE, tC, tLock, tRet, dGetO, dIdxO, tNinD, sPutO, tDen, sUpd, sCpT, iDtt, dSrtD, sParDt, sParDt3, tCall2, fnT, sNewD, isNd, tD, iL_len, cLt]
      by_cases q : t.length < k
      · simp only [decide_eq_true (show ((t.length : Nat) : Int) < (k : Int) by omega), decide_eq_true q, if_true, Nat.reduceSub, Nat.reduceAdd, reduceIte, Tree.bind, liftO, dIdx, sAsgL, sPar4, dV, dC, d1, d2, t1, t2, l0, lC, dL, dT, aV, aE, a0, aC, dCall, dCallK, dIf, tTr, tV, truth, asB, tNot, tAnd, tOr, dAnd, dOr, sSet, sAsg, sPar, sRet, s0, sC, sIf, sX, sOwn, sApp, sFrz, frzE, sFor, outV, fnF, lenIs, ent, small, few, putE, putsE, wipeE, it_l, it_t, iS, iR1, iR2, wEn, wZ2, wZ3, dLc, dLf, dSl, oN, oS, pCut, pSub, cI, bD, pIx, pList, pTup, pLen, pNot, qIsN, qNotN, pIsN, pNotN, List.getElem?_cons_succ, List.getElem?_cons_zero, List.set_cons_succ, List.set_cons_zero, List.length_cons, List.length_nil, List.map_cons, List.map_nil, List.foldr_cons, List.foldr_nil, List.replicate_succ, List.replicate_zero, List.cons_append, List.nil_append, sOPar, sOOPar, dOIx, sNest, sCallP, dOLen, fnP, pC, pFrz, dPr, nApp, nIf, nEnd, sN0, sN1, lendE, frzW, sSetK, dGet, dZipD, dPairD, pMax2, sDD, sND, tNeN, sLock, lockE, odcE, tdE, dttE, tC, tLock, tRet, dGetO, dIdxO, tNinD, sPutO, tDen, sUpd, sCpT, iDtt, dSrtD, sParDt, sParDt3, tCall2, fnT, sNewD, isNd, Nat.reduceLeDiff]
        unfold tD at ha
        rw [ha]
        rfl
      · simp only [decide_eq_false (show ¬ ((t.length : Nat) : Int) < (k : Int) by omega), decide_eq_false q, Bool.false_eq_true, if_false]]
    have hadd : pAdd (.list ((lwF k i).map tD)) (.list ((((lwF k i).filter fun t => decide (t.length < k)).map fun t => t ++ [(i : Int)]).map tD)) = some (.list ((lwF k (i + 1)).map tD)) := by
      show (if ((lwF k i).map tD).length + ((((lwF k i).filter fun t => decide (t.length < k)).map fun t => t ++ [(i : Int)]).map tD).length ≤ 100000 then some (PyData.list ((lwF k i).map tD ++ (((lwF k i).filter fun t => decide (t.length < k)).map fun t => t ++ [(i : Int)]).map tD)) else none) = _
      rw [← List.length_append, ← List.map_append, if_pos (by
        rw [List.length_map]
        exact Nat.le_trans hlen2 (by decide))]
      rfl
    simp only [Nat.reduceSub, Nat.reduceAdd, reduceIte, Tree.bind, liftO, dIdx, sAsgL, sPar4, dV, dC, d1, d2, t1, t2, l0, lC, dL, dT, aV, aE, a0, aC, dCall, dCallK, dIf, tTr, tV, truth, asB, tNot, tAnd, tOr, dAnd, dOr, sSet, sAsg, sPar, sRet, s0, sC, sIf, sX, sOwn, sApp, sFrz, frzE, sFor, outV, fnF, lenIs, ent, small, few, putE, putsE, wipeE, it_l, it_t, iS, iR1, iR2, wEn, wZ2, wZ3, dLc, dLf, dSl, oN, oS, pCut, pSub, cI, bD, pIx, pList, pTup, pLen, pNot, qIsN, qNotN, pIsN, pNotN, List.getElem?_cons_succ, List.getElem?_cons_zero, List.set_cons_succ, List.set_cons_zero, List.length_cons, List.length_nil, List.map_cons, List.map_nil, List.foldr_cons, List.foldr_nil, List.replicate_succ, List.replicate_zero, List.cons_append, List.nil_append, sOPar, sOOPar, dOIx, sNest, sCallP, dOLen, fnP, pC, pFrz, dPr, nApp, nIf, nEnd, sN0, sN1, lendE, frzW, sSetK, dGet, dZipD, dPairD, pMax2, sDD, sND, tNeN, sLock, lockE, odcE, tdE, dttE, tC, tLock, tRet, dGetO, dIdxO, tNinD, sPutO, tDen, sUpd, sCpT, iDtt, dSrtD, sParDt, sParDt3, tCall2, fnT, sNewD, isNd, hadd]
    exact ⟨_, rfl, _, rfl⟩
  · obtain ⟨x3, rfl⟩ := hI
    rw [nums_len]
    exact ⟨_, rfl⟩
  · obtain ⟨x3, rfl⟩ := ho
    simp only [Nat.reduceSub, Nat.reduceAdd, reduceIte, Tree.bind, liftO, dIdx, sAsgL, sPar4, dV, dC, d1, d2, t1, t2, l0, lC, dL, dT, aV, aE, a0, aC, dCall, dCallK, dIf, tTr, tV, truth, asB, tNot, tAnd, tOr, dAnd, dOr, sSet, sAsg, sPar, sRet, s0, sC, sIf, sX, sOwn, sApp, sFrz, frzE, sFor, outV, fnF, lenIs, ent, small, few, putE, putsE, wipeE, it_l, it_t, iS, iR1, iR2, wEn, wZ2, wZ3, dLc, dLf, dSl, oN, oS, pCut, pSub, cI, bD, pIx, pList, pTup, pLen, pNot, qIsN, qNotN, pIsN, pNotN, List.getElem?_cons_succ, List.getElem?_cons_zero, List.set_cons_succ, List.set_cons_zero, List.length_cons, List.length_nil, List.map_cons, List.map_nil, List.foldr_cons, List.foldr_nil, List.replicate_succ, List.replicate_zero, List.cons_append, List.nil_append, sOPar, sOOPar, dOIx, sNest, sCallP, dOLen, fnP, pC, pFrz, dPr, nApp, nIf, nEnd, sN0, sN1, lendE, frzW, sSetK, dGet, dZipD, dPairD, pMax2, sDD, sND, tNeN, sLock, lockE, odcE, tdE, dttE, tC, tLock, tRet, dGetO, dIdxO, tNinD, sPutO, tDen, sUpd, sCpT, iDtt, dSrtD, sParDt, sParDt3, tCall2, fnT, sNewD, isNd, List.length_map, if_pos (show (lwF k n).length ≤ 50000 by omega)]
    rw [pickT_tD (p := fun t => decide (t.length = k)) (g := fun t => t) fun t ht => by
      simp only [Nat.reduceSub, Nat.reduceAdd, reduceIte, Tree.bind, liftO, dIdx, sAsgL, sPar4, dV, dC, d1, d2, t1, t2, l0, lC, dL, dT, aV, aE, a0, aC, dCall, dCallK, dIf, tTr, tV, truth, asB, tNot, tAnd, tOr, dAnd, dOr, sSet, sAsg, sPar, sRet, s0, sC, sIf, sX, sOwn, sApp, sFrz, frzE, sFor, outV, fnF, lenIs, ent, small, few, putE, putsE, wipeE, it_l, it_t, iS, iR1, iR2, wEn, wZ2, wZ3, dLc, dLf, dSl, oN, oS, pCut, pSub, cI, bD, pIx, pList, pTup, pLen, pNot, qIsN, qNotN, pIsN, pNotN, List.getElem?_cons_succ, List.getElem?_cons_zero, List.set_cons_succ, List.set_cons_zero, List.length_cons, List.length_nil, List.map_cons, List.map_nil, List.foldr_cons, List.foldr_nil, List.replicate_succ, List.replicate_zero, List.cons_append, List.nil_append, sOPar, sOOPar, dOIx, sNest, sCallP, dOLen, fnP, pC, pFrz, dPr, nApp, nIf, nEnd, sN0, sN1, lendE, frzW, sSetK, dGet, dZipD, dPairD, pMax2, sDD, sND, tNeN, sLock, lockE, odcE, tdE, dttE, tC, tLock, tRet, dGetO, dIdxO, tNinD, sPutO, tDen, sUpd, sCpT, iDtt, dSrtD, sParDt, sParDt3, tCall2, fnT, sNewD, isNd, tD, iL_len, pEq_ii]
      by_cases q : t.length = k
      · simp only [decide_eq_true (show ((t.length : Nat) : Int) = (k : Int) by omega), decide_eq_true q, if_true, Nat.reduceSub, Nat.reduceAdd, reduceIte, Tree.bind, liftO, dIdx, sAsgL, sPar4, dV, dC, d1, d2, t1, t2, l0, lC, dL, dT, aV, aE, a0, aC, dCall, dCallK, dIf, tTr, tV, truth, asB, tNot, tAnd, tOr, dAnd, dOr, sSet, sAsg, sPar, sRet, s0, sC, sIf, sX, sOwn, sApp, sFrz, frzE, sFor, outV, fnF, lenIs, ent, small, few, putE, putsE, wipeE, it_l, it_t, iS, iR1, iR2, wEn, wZ2, wZ3, dLc, dLf, dSl, oN, oS, pCut, pSub, cI, bD, pIx, pList, pTup, pLen, pNot, qIsN, qNotN, pIsN, pNotN, List.getElem?_cons_succ, List.getElem?_cons_zero, List.set_cons_succ, List.set_cons_zero, List.length_cons, List.length_nil, List.map_cons, List.map_nil, List.foldr_cons, List.foldr_nil, List.replicate_succ, List.replicate_zero, List.cons_append, List.nil_append, sOPar, sOOPar, dOIx, sNest, sCallP, dOLen, fnP, pC, pFrz, dPr, nApp, nIf, nEnd, sN0, sN1, lendE, frzW, sSetK, dGet, dZipD, dPairD, pMax2, sDD, sND, tNeN, sLock, lockE, odcE, tdE, dttE, tC, tLock, tRet, dGetO, dIdxO, tNinD, sPutO, tDen, sUpd, sCpT, iDtt, dSrtD, sParDt, sParDt3, tCall2, fnT, sNewD, isNd]
      · simp only [decide_eq_false (show ¬ ((t.length : Nat) : Int) = (k : Int) by omega), decide_eq_false q, Bool.false_eq_true, if_false]]
    rw [show ((lwF k n).filter fun t => decide (t.length = k)).map (fun t => t) = (lwF k n).filter fun t => decide (t.length = k) from List.map_id _]
    have hs : pSrtT (.list ((lwE n k).map tD)) = some (.list ((tbs n k).map tD)) := by
      unfold pSrtT
      rw [← tpl_tD]
      simp only [asTs_map]
      rw [if_pos ⟨o2, o3, o4⟩, o1]
    unfold lwE at hs
    simp only [Nat.reduceSub, Nat.reduceAdd, reduceIte, Tree.bind, liftO, dIdx, sAsgL, sPar4, dV, dC, d1, d2, t1, t2, l0, lC, dL, dT, aV, aE, a0, aC, dCall, dCallK, dIf, tTr, tV, truth, asB, tNot, tAnd, tOr, dAnd, dOr, sSet, sAsg, sPar, sRet, s0, sC, sIf, sX, sOwn, sApp, sFrz, frzE, sFor, outV, fnF, lenIs, ent, small, few, putE, putsE, wipeE, it_l, it_t, iS, iR1, iR2, wEn, wZ2, wZ3, dLc, dLf, dSl, oN, oS, pCut, pSub, cI, bD, pIx, pList, pTup, pLen, pNot, qIsN, qNotN, pIsN, pNotN, List.getElem?_cons_succ, List.getElem?_cons_zero, List.set_cons_succ, List.set_cons_zero, List.length_cons, List.length_nil, List.map_cons, List.map_nil, List.foldr_cons, List.foldr_nil, List.replicate_succ, List.replicate_zero, List.cons_append, List.nil_append, sOPar, sOOPar, dOIx, sNest, sCallP, dOLen, fnP, pC, pFrz, dPr, nApp, nIf, nEnd, sN0, sN1, lendE, frzW, sSetK, dGet, dZipD, dPairD, pMax2, sDD, sND, tNeN, sLock, lockE, odcE, tdE, dttE, tC, tLock, tRet, dGetO, dIdxO, tNinD, sPutO, tDen, sUpd, sCpT, iDtt, dSrtD, sParDt, sParDt3, tCall2, fnT, sNewD, isNd, hs]
theorem ev_law_after {n : Nat} {ss cs : List Int} (tb : Tbl n ss) (hne : ss ≠ []) (n0 : 0 < n) (n1 : n ≤ 1000) (hl : ss.length ≤ 1000) (hc : ∀ c ∈ cs, 0 ≤ c ∧ c < (n : Int)) : m_law_after [.d (.int (n : Int)), .d (.tuple (iL ss)), .d (.list (iL cs))] = .ret (tD (tabA n ss cs)) := by
  have hp : (pushS n ss cs).length = ss.length := pushS_len n0 cs hne
  simp only [m_law_after, b_law_after, Nat.reduceSub, Nat.reduceAdd, reduceIte, Tree.bind, liftO, dIdx, sAsgL, sPar4, dV, dC, d1, d2, t1, t2, l0, lC, dL, dT, aV, aE, a0, aC, dCall, dCallK, dIf, tTr, tV, truth, asB, tNot, tAnd, tOr, dAnd, dOr, sSet, sAsg, sPar, sRet, s0, sC, sIf, sX, sOwn, sApp, sFrz, frzE, sFor, outV, fnF, lenIs, ent, small, few, putE, putsE, wipeE, it_l, it_t, iS, iR1, iR2, wEn, wZ2, wZ3, dLc, dLf, dSl, oN, oS, pCut, pSub, cI, bD, pIx, pList, pTup, pLen, pNot, qIsN, qNotN, pIsN, pNotN, List.getElem?_cons_succ, List.getElem?_cons_zero, List.set_cons_succ, List.set_cons_zero, List.length_cons, List.length_nil, List.map_cons, List.map_nil, List.foldr_cons, List.foldr_nil, List.replicate_succ, List.replicate_zero, List.cons_append, List.nil_append, sOPar, sOOPar, dOIx, sNest, sCallP, dOLen, fnP, pC, pFrz, dPr, nApp, nIf, nEnd, sN0, sN1, lendE, frzW, sSetK, dGet, dZipD, dPairD, pMax2, sDD, sND, tNeN, sLock, lockE, odcE, tdE, dttE, tC, tLock, tRet, dGetO, dIdxO, tNinD, sPutO, tDen, sUpd, sCpT, iDtt, dSrtD, sParDt, sParDt3, tCall2, fnT, sNewD, isNd, ev_law_walked (it_t _) (it_l _) n0 n1 hl, ev_law_table (it_l _) n0 (show (pushS n ss cs).length ≤ 1000 by omega)]
  have e := pushS_mod n0 cs hne hc
  rw [mod_self_of tb.mem] at e
  unfold tabA tD modL
  rw [e]
theorem tbs_all {n : Nat} : ∀ {k : Nat} {t : List Int}, Tbl n t → t.length = k → t ∈ tbs n k
  | 0, t, _, h => by
    rw [List.length_eq_zero_iff.mp h]
    exact List.mem_singleton.mpr rfl
  | k + 1, t, tb, h => by
    have hne : t ≠ [] := List.length_pos_iff.mp (by omega)
    obtain ⟨u, c, rfl⟩ : ∃ u c, t = u ++ [c] := ⟨t.dropLast, t.getLast hne, (List.dropLast_concat_getLast hne).symm⟩
    have hu : u.length = k := by
      rw [List.length_append] at h
      simpa using h
    have hp := List.pairwise_append.mp tb.asc
    have tu : Tbl n u := ⟨hp.1, fun x hx => tb.mem x (List.mem_append_left _ hx)⟩
    have hc := tb.mem c (List.mem_append_right _ (List.mem_singleton.mpr rfl))
    refine List.mem_flatMap.mpr ⟨u, tbs_all tu hu, ?_⟩
    unfold goOn
    refine List.mem_filterMap.mpr ⟨c.toNat, List.mem_range.mpr (by omega), ?_⟩
    have ok : okOn u c.toNat = true := by
      unfold okOn
      cases u with
      | nil => rfl
      | cons a u =>
        have hl : (a :: u).getLastD 0 ∈ a :: u := by
          rw [List.getLastD_eq_getLast?, List.getLast?_eq_some_getLast (by simp)]
          exact List.getLast_mem _
        have := hp.2.2 _ hl c (List.mem_singleton.mpr rfl)
        rw [decide_eq_true (show (a :: u).getLastD 0 < ((c.toNat : Nat) : Int) by omega), Bool.or_true]
    rw [if_pos ok, show ((c.toNat : Nat) : Int) = c by omega]
theorem pAll_mapR {α : Type} (f : α → Bool) (xs : List α) : pAll (.list (xs.map fun x => .bool (f x))) = some (.bool (xs.all f)) := by
  have e : (xs.map fun x => PyData.bool (f x)) = (xs.map f).map .bool := by rw [List.map_map]; rfl
  unfold pAll onB
  simp only [e, asBs_map]
  rw [List.all_map]
  rfl
theorem pickT_fR {f : PyData → Tree (Option PyData)} {p : Int → Bool} : ∀ {ns : List Int}, (∀ x ∈ ns, f (.int x) = .ret (if p x then some (.int x) else none)) → pickT f (iL ns) = .ret (iL (ns.filter p))
  | [], _ => rfl
  | x :: ns, h => by
    show pickT f (PyData.int x :: iL ns) = _
    rw [pickT, h x (List.mem_cons_self ..), pickT_fR fun y hy => h y (List.mem_cons_of_mem _ hy)]
    by_cases hp : p x = true
    · rw [if_pos hp, List.filter_cons_of_pos hp]
      rfl
    · rw [if_neg hp, List.filter_cons_of_neg hp]
      rfl
theorem tpl_tDR : tpl = tD := rfl
def inB (k : Nat) (t : List Int) : Prop := t.length = k ∧ TS.Bd 1000 t
theorem inB_tbs {n k : Nat} (n1 : n ≤ 1000) {t : List Int} (h : t ∈ tbs n k) : inB k t := by
  obtain ⟨tb, hl⟩ := tbs_mem h
  exact ⟨hl, fun m hm => by have := tb.mem m hm; omega⟩
theorem bdT_of {k : Nat} {t : List Int} (h : inB k t) : bdT k t = true := by
  unfold bdT
  rw [Bool.and_eq_true]
  refine ⟨decide_eq_true h.1, List.all_eq_true.mpr fun x hx => ?_⟩
  have := h.2 x hx
  rw [Bool.and_eq_true]
  exact ⟨decide_eq_true this.1, decide_eq_true this.2⟩
theorem hd_ok {k : Nat} (k0 : 1 ≤ k) {ts : List (List Int)} (h : ∀ t ∈ ts, inB k t) : 1 ≤ hdLen ts ∧ ts.all (bdT (hdLen ts)) = true := by
  cases ts with
  | nil => exact ⟨Nat.le_refl _, rfl⟩
  | cons t ts =>
    have e : hdLen (t :: ts) = k := (h t (List.mem_cons_self ..)).1
    rw [e]
    exact ⟨k0, List.all_eq_true.mpr fun u hu => bdT_of (h u hu)⟩
theorem pSrtSetT_of {k : Nat} (k0 : 1 ≤ k) {ts : List (List Int)} (h : ∀ t ∈ ts, inB k t) (hl : ts.length < 63) : pSrtSetT (.list (ts.map tD)) = some (.list ((srtT (dedT ts)).map tD)) := by
  unfold pSrtSetT
  rw [← tpl_tDR]
  simp only [asTs_map]
  obtain ⟨h1, h2⟩ := hd_ok k0 h
  rw [if_pos ⟨h1, hl, h2⟩]
theorem srtT_mem {ts : List (List Int)} {t : List Int} : t ∈ srtT ts ↔ t ∈ ts := (srtT_perm ts).mem_iff
theorem srtT_len {ts : List (List Int)} : (srtT ts).length = ts.length := (srtT_perm ts).length_eq
theorem srtT_uniq {k : Nat} {us ts : List (List Int)} (hu : us.Nodup) (ht : ts.Nodup) (hw : us.Pairwise fun a b => kT a ≤ kT b) (hb : ∀ t ∈ ts, inB k t) (h : ∀ t, t ∈ us ↔ t ∈ ts) : us = srtT ts :=
  srtT_eq ((List.perm_ext_iff_of_nodup hu ht).mpr h) hw hb
theorem srtD_uniq {k : Nat} {us ts : List (List Int)} (hu : us.Nodup) (hw : us.Pairwise fun a b => kT a ≤ kT b) (hb : ∀ t ∈ ts, inB k t) (h : ∀ t, t ∈ us ↔ t ∈ ts) : us = srtT (dedT ts) :=
  srtT_uniq hu (dedT_nodup ts) hw (fun t ht => hb t (dedT_mem.mp ht)) fun t => by rw [h, dedT_mem]
theorem dedT_len : ∀ ts : List (List Int), (dedT ts).length ≤ ts.length
  | [] => Nat.le_refl _
  | t :: ts => by
    have := dedT_len ts
    unfold dedT
    split
    · rw [List.length_cons]
      omega
    · rw [List.length_cons, List.length_cons]
      omega
theorem tb7 : ((List.range 8).all fun n => (List.range n).all fun k => decide (k = 0) || (decide (srtT (tbs n k) = tbs n k) && decide ((tbs n k).length ≤ 62) && decide ((tbs n k).Nodup))) = true := by decide +kernel
theorem tb_ok {n k : Nat} (n1 : n ≤ 7) (k0 : 1 ≤ k) (kn : k < n) : srtT (tbs n k) = tbs n k ∧ (tbs n k).length ≤ 62 ∧ (tbs n k).Nodup := by
  have h := List.all_eq_true.mp tb7 n (List.mem_range.mpr (by omega))
  have g := List.all_eq_true.mp h k (List.mem_range.mpr kn)
  rw [decide_eq_false (show ¬ k = 0 by omega), Bool.false_or] at g
  simp only [Bool.and_eq_true, decide_eq_true_eq] at g
  exact ⟨g.1.1, g.1.2, g.2⟩
def resL (n k : Nat) (cs : List Int) : List (List Int) := srtT (dedT ((tbs n k).map fun t => tabA n t cs))
def begL (n k : Nat) (cs e : List Int) : List (List Int) := (tbs n k).filter fun t => decide (tabA n t cs = e)
def stayL (n k : Nat) (cs : List Int) : List (List Int) := (tbs n k).filter fun t => decide (t = tabA n t cs)
section
variable {n k : Nat} {cs : List Int}
theorem resL_mem {e : List Int} : e ∈ resL n k cs ↔ ∃ t ∈ tbs n k, tabA n t cs = e := by
  unfold resL
  rw [srtT_mem, dedT_mem, List.mem_map]
theorem begL_mem {e t : List Int} : t ∈ begL n k cs e ↔ t ∈ tbs n k ∧ tabA n t cs = e := by
  unfold begL
  rw [List.mem_filter, decide_eq_true_eq]
theorem stayL_mem {t : List Int} : t ∈ stayL n k cs ↔ t ∈ tbs n k ∧ t = tabA n t cs := by
  unfold stayL
  rw [List.mem_filter, decide_eq_true_eq]
theorem resL_len : (resL n k cs).length ≤ (tbs n k).length := by
  unfold resL
  rw [srtT_len]
  have := dedT_len ((tbs n k).map fun t => tabA n t cs)
  rw [List.length_map] at this
  exact this
theorem tabA_tbs (n0 : 0 < n) (k0 : 1 ≤ k) (hc : ∀ c ∈ cs, 0 ≤ c ∧ c < (n : Int)) {t : List Int} (h : t ∈ tbs n k) : tabA n t cs ∈ tbs n k := by
  obtain ⟨tb, hl⟩ := tbs_mem h
  have hne : t ≠ [] := List.length_pos_iff.mp (by omega)
  exact tbs_all (tabA_tbl tb hne n0 hc) (by rw [tabA_len, hl])
theorem resL_tbs (n0 : 0 < n) (k0 : 1 ≤ k) (hc : ∀ c ∈ cs, 0 ≤ c ∧ c < (n : Int)) {e : List Int} (h : e ∈ resL n k cs) : e ∈ tbs n k := by
  obtain ⟨t, ht, rfl⟩ := resL_mem.mp h
  exact tabA_tbs n0 k0 hc ht
end
theorem ev_results_of {n k : Nat} {e : PyData} {cs : List Int} (he : items e = some (iL cs)) (n1 : n ≤ 7) (k0 : 1 ≤ k) (kn : k < n) (hc : ∀ c ∈ cs, 0 ≤ c ∧ c < (n : Int)) (hl : cs.length ≤ 1000) : m_results_of [.d (.int (n : Int)), .d (.int (k : Int)), .d e] = .ret (.list ((resL n k cs).map tD)) := by
  obtain ⟨_, o2, _⟩ := tb_ok n1 k0 kn
  have hb : ∀ t ∈ (tbs n k).map (fun t => tabA n t cs), inB k t := fun t ht => by
    obtain ⟨u, hu, rfl⟩ := List.mem_map.mp ht
    exact inB_tbs (by omega) (tabA_tbs (by omega) k0 hc hu)
  have hs := pSrtSetT_of k0 hb (by rw [List.length_map]; omega)
  have hf : few62 (tbs n k).length = some () := if_pos o2
  simp only [m_results_of, b_results_of, Nat.reduceSub, Nat.reduceAdd, reduceIte, Tree.bind, liftO, dIdx, sAsgL, sPar4, dV, dC, d1, d2, t1, t2, l0, lC, dL, dT, aV, aE, a0, aC, dCall, dCallK, dIf, tTr, tV, truth, asB, tNot, tAnd, tOr, dAnd, dOr, sSet, sAsg, sPar, sRet, s0, sC, sIf, sX, sOwn, sApp, sFrz, frzE, sFor, outV, fnF, lenIs, ent, small, few, putE, putsE, wipeE, it_l, it_t, iS, iR1, iR2, wEn, wZ2, wZ3, dLc, dLf, dSl, oN, oS, pCut, pSub, cI, bD, pIx, pList, pTup, pLen, pNot, qIsN, qNotN, pIsN, pNotN, List.getElem?_cons_succ, List.getElem?_cons_zero, List.set_cons_succ, List.set_cons_zero, List.length_cons, List.length_nil, List.map_cons, List.map_nil, List.foldr_cons, List.foldr_nil, List.replicate_succ, List.replicate_zero, List.cons_append, List.nil_append, sOPar, sOOPar, dOIx, sNest, sCallP, dOLen, fnP, pC, pFrz, dPr, nApp, nIf, nEnd, sN0, sN1, lendE, frzW, sSetK, dGet, dZipD, dPairD, pMax2, sDD, sND, tNeN, sLock, lockE, odcE, tdE, dttE, tC, tLock, tRet, dGetO, dIdxO, tNinD, sPutO, tDen, sUpd, sCpT, iDtt, dSrtD, sParDt, sParDt3, tCall2, fnT, sNewD, isNd, dSrtSc, ev_all_led he (show n ≤ 10 by omega) k0 kn hc hl, List.length_map, hf]
  rw [mapT_map, mapT_ret (g := fun t => tD (tabA n t cs)) fun t _ => by
    have h : isTup (tD (tabA n t cs)) = some (tD (tabA n t cs)) := by
      unfold isTup
      rw [← tpl_tDR, asT_tpl]
    simp only [Nat.reduceSub, Nat.reduceAdd, reduceIte, Tree.bind, liftO, dIdx, sAsgL, sPar4, dV, dC, d1, d2, t1, t2, l0, lC, dL, dT, aV, aE, a0, aC, dCall, dCallK, dIf, tTr, tV, truth, asB, tNot, tAnd, tOr, dAnd, dOr, sSet, sAsg, sPar, sRet, s0, sC, sIf, sX, sOwn, sApp, sFrz, frzE, sFor, outV, fnF, lenIs, ent, small, few, putE, putsE, wipeE, it_l, it_t, iS, iR1, iR2, wEn, wZ2, wZ3, dLc, dLf, dSl, oN, oS, pCut, pSub, cI, bD, pIx, pList, pTup, pLen, pNot, qIsN, qNotN, pIsN, pNotN, List.getElem?_cons_succ, List.getElem?_cons_zero, List.set_cons_succ, List.set_cons_zero, List.length_cons, List.length_nil, List.map_cons, List.map_nil, List.foldr_cons, List.foldr_nil, List.replicate_succ, List.replicate_zero, List.cons_append, List.nil_append, sOPar, sOOPar, dOIx, sNest, sCallP, dOLen, fnP, pC, pFrz, dPr, nApp, nIf, nEnd, sN0, sN1, lendE, frzW, sSetK, dGet, dZipD, dPairD, pMax2, sDD, sND, tNeN, sLock, lockE, odcE, tdE, dttE, tC, tLock, tRet, dGetO, dIdxO, tNinD, sPutO, tDen, sUpd, sCpT, iDtt, dSrtD, sParDt, sParDt3, tCall2, fnT, sNewD, isNd, List.length_cons, List.length_nil, h]]
  rw [List.map_map] at hs
  simp only [Nat.reduceSub, Nat.reduceAdd, reduceIte, Tree.bind, liftO, dIdx, sAsgL, sPar4, dV, dC, d1, d2, t1, t2, l0, lC, dL, dT, aV, aE, a0, aC, dCall, dCallK, dIf, tTr, tV, truth, asB, tNot, tAnd, tOr, dAnd, dOr, sSet, sAsg, sPar, sRet, s0, sC, sIf, sX, sOwn, sApp, sFrz, frzE, sFor, outV, fnF, lenIs, ent, small, few, putE, putsE, wipeE, it_l, it_t, iS, iR1, iR2, wEn, wZ2, wZ3, dLc, dLf, dSl, oN, oS, pCut, pSub, cI, bD, pIx, pList, pTup, pLen, pNot, qIsN, qNotN, pIsN, pNotN, List.getElem?_cons_succ, List.getElem?_cons_zero, List.set_cons_succ, List.set_cons_zero, List.length_cons, List.length_nil, List.map_cons, List.map_nil, List.foldr_cons, List.foldr_nil, List.replicate_succ, List.replicate_zero, List.cons_append, List.nil_append, sOPar, sOOPar, dOIx, sNest, sCallP, dOLen, fnP, pC, pFrz, dPr, nApp, nIf, nEnd, sN0, sN1, lendE, frzW, sSetK, dGet, dZipD, dPairD, pMax2, sDD, sND, tNeN, sLock, lockE, odcE, tdE, dttE, tC, tLock, tRet, dGetO, dIdxO, tNinD, sPutO, tDen, sUpd, sCpT, iDtt, dSrtD, sParDt, sParDt3, tCall2, fnT, sNewD, isNd]
  unfold resL
  rw [show (fun t => tD (tabA n t cs)) = tD ∘ fun t => tabA n t cs from rfl, hs]
  rfl
theorem ev_beginnings_of {n k : Nat} {d e : PyData} {w cs : List Int} (hd : items d = some (iL w)) (hw : w.length = k) (he : items e = some (iL cs)) (n1 : n ≤ 7) (k0 : 1 ≤ k) (kn : k < n) (hc : ∀ c ∈ cs, 0 ≤ c ∧ c < (n : Int)) (hl : cs.length ≤ 1000) : m_beginnings_of [.d (.int (n : Int)), .d e, .d d] = .ret (.list ((begL n k cs w).map tD)) := by
  obtain ⟨_, o2, _⟩ := tb_ok n1 k0 kn
  subst hw
  simp only [m_beginnings_of, b_beginnings_of, Nat.reduceSub, Nat.reduceAdd, reduceIte, Tree.bind, liftO, dIdx, sAsgL, sPar4, dV, dC, d1, d2, t1, t2, l0, lC, dL, dT, aV, aE, a0, aC, dCall, dCallK, dIf, tTr, tV, truth, asB, tNot, tAnd, tOr, dAnd, dOr, sSet, sAsg, sPar, sRet, s0, sC, sIf, sX, sOwn, sApp, sFrz, frzE, sFor, outV, fnF, lenIs, ent, small, few, putE, putsE, wipeE, it_l, it_t, iS, iR1, iR2, wEn, wZ2, wZ3, dLc, dLf, dSl, oN, oS, pCut, pSub, cI, bD, pIx, pList, pTup, pLen, pNot, qIsN, qNotN, pIsN, pNotN, List.getElem?_cons_succ, List.getElem?_cons_zero, List.set_cons_succ, List.set_cons_zero, List.length_cons, List.length_nil, List.map_cons, List.map_nil, List.foldr_cons, List.foldr_nil, List.replicate_succ, List.replicate_zero, List.cons_append, List.nil_append, sOPar, sOOPar, dOIx, sNest, sCallP, dOLen, fnP, pC, pFrz, dPr, nApp, nIf, nEnd, sN0, sN1, lendE, frzW, sSetK, dGet, dZipD, dPairD, pMax2, sDD, sND, tNeN, sLock, lockE, odcE, tdE, dttE, tC, tLock, tRet, dGetO, dIdxO, tNinD, sPutO, tDen, sUpd, sCpT, iDtt, dSrtD, sParDt, sParDt3, tCall2, fnT, sNewD, isNd, hd, iL_len, ev_all_led he (show n ≤ 10 by omega) k0 kn hc hl, List.length_map, if_pos (show (tbs n w.length).length ≤ 50000 by omega)]
  rw [pickT_map, pickT_ret (g := fun t => if tabA n t cs = w then some (tD t) else none) fun t _ => by
    simp only [Nat.reduceSub, Nat.reduceAdd, reduceIte, Tree.bind, liftO, dIdx, sAsgL, sPar4, dV, dC, d1, d2, t1, t2, l0, lC, dL, dT, aV, aE, a0, aC, dCall, dCallK, dIf, tTr, tV, truth, asB, tNot, tAnd, tOr, dAnd, dOr, sSet, sAsg, sPar, sRet, s0, sC, sIf, sX, sOwn, sApp, sFrz, frzE, sFor, outV, fnF, lenIs, ent, small, few, putE, putsE, wipeE, it_l, it_t, iS, iR1, iR2, wEn, wZ2, wZ3, dLc, dLf, dSl, oN, oS, pCut, pSub, cI, bD, pIx, pList, pTup, pLen, pNot, qIsN, qNotN, pIsN, pNotN, List.getElem?_cons_succ, List.getElem?_cons_zero, List.set_cons_succ, List.set_cons_zero, List.length_cons, List.length_nil, List.map_cons, List.map_nil, List.foldr_cons, List.foldr_nil, List.replicate_succ, List.replicate_zero, List.cons_append, List.nil_append, sOPar, sOOPar, dOIx, sNest, sCallP, dOLen, fnP, pC, pFrz, dPr, nApp, nIf, nEnd, sN0, sN1, lendE, frzW, sSetK, dGet, dZipD, dPairD, pMax2, sDD, sND, tNeN, sLock, lockE, odcE, tdE, dttE, tC, tLock, tRet, dGetO, dIdxO, tNinD, sPutO, tDen, sUpd, sCpT, iDtt, dSrtD, sParDt, sParDt3, tCall2, fnT, sNewD, isNd, List.length_cons, List.length_nil, tD, pEq_tt]
    by_cases h : tabA n t cs = w
    · rw [decide_eq_true h, if_pos h]
    · rw [decide_eq_false h, if_neg h]]
  simp only [Nat.reduceSub, Nat.reduceAdd, reduceIte, Tree.bind, liftO, dIdx, sAsgL, sPar4, dV, dC, d1, d2, t1, t2, l0, lC, dL, dT, aV, aE, a0, aC, dCall, dCallK, dIf, tTr, tV, truth, asB, tNot, tAnd, tOr, dAnd, dOr, sSet, sAsg, sPar, sRet, s0, sC, sIf, sX, sOwn, sApp, sFrz, frzE, sFor, outV, fnF, lenIs, ent, small, few, putE, putsE, wipeE, it_l, it_t, iS, iR1, iR2, wEn, wZ2, wZ3, dLc, dLf, dSl, oN, oS, pCut, pSub, cI, bD, pIx, pList, pTup, pLen, pNot, qIsN, qNotN, pIsN, pNotN, List.getElem?_cons_succ, List.getElem?_cons_zero, List.set_cons_succ, List.set_cons_zero, List.length_cons, List.length_nil, List.map_cons, List.map_nil, List.foldr_cons, List.foldr_nil, List.replicate_succ, List.replicate_zero, List.cons_append, List.nil_append, sOPar, sOOPar, dOIx, sNest, sCallP, dOLen, fnP, pC, pFrz, dPr, nApp, nIf, nEnd, sN0, sN1, lendE, frzW, sSetK, dGet, dZipD, dPairD, pMax2, sDD, sND, tNeN, sLock, lockE, odcE, tdE, dttE, tC, tLock, tRet, dGetO, dIdxO, tNinD, sPutO, tDen, sUpd, sCpT, iDtt, dSrtD, sParDt, sParDt3, tCall2, fnT, sNewD, isNd]
  congr 2
  unfold begL
  induction tbs n w.length with
  | nil => rfl
  | cons t ts ih =>
    rw [List.filterMap_cons, List.filter_cons, ih]
    by_cases q : tabA n t cs = w
    · simp [q]
    · simp [q]
theorem ev_staying {n k : Nat} {e : PyData} {cs : List Int} (he : items e = some (iL cs)) (n1 : n ≤ 7) (k0 : 1 ≤ k) (kn : k < n) (hc : ∀ c ∈ cs, 0 ≤ c ∧ c < (n : Int)) (hl : cs.length ≤ 1000) : m_staying [.d (.int (n : Int)), .d (.int (k : Int)), .d e] = .ret (.list ((stayL n k cs).map tD)) := by
  obtain ⟨_, o2, _⟩ := tb_ok n1 k0 kn
  simp only [m_staying, b_staying, Nat.reduceSub, Nat.reduceAdd, reduceIte, Tree.bind, liftO, dIdx, sAsgL, sPar4, dV, dC, d1, d2, t1, t2, l0, lC, dL, dT, aV, aE, a0, aC, dCall, dCallK, dIf, tTr, tV, truth, asB, tNot, tAnd, tOr, dAnd, dOr, sSet, sAsg, sPar, sRet, s0, sC, sIf, sX, sOwn, sApp, sFrz, frzE, sFor, outV, fnF, lenIs, ent, small, few, putE, putsE, wipeE, it_l, it_t, iS, iR1, iR2, wEn, wZ2, wZ3, dLc, dLf, dSl, oN, oS, pCut, pSub, cI, bD, pIx, pList, pTup, pLen, pNot, qIsN, qNotN, pIsN, pNotN, List.getElem?_cons_succ, List.getElem?_cons_zero, List.set_cons_succ, List.set_cons_zero, List.length_cons, List.length_nil, List.map_cons, List.map_nil, List.foldr_cons, List.foldr_nil, List.replicate_succ, List.replicate_zero, List.cons_append, List.nil_append, sOPar, sOOPar, dOIx, sNest, sCallP, dOLen, fnP, pC, pFrz, dPr, nApp, nIf, nEnd, sN0, sN1, lendE, frzW, sSetK, dGet, dZipD, dPairD, pMax2, sDD, sND, tNeN, sLock, lockE, odcE, tdE, dttE, tC, tLock, tRet, dGetO, dIdxO, tNinD, sPutO, tDen, sUpd, sCpT, iDtt, dSrtD, sParDt, sParDt3, tCall2, fnT, sNewD, isNd, ev_all_led he (show n ≤ 10 by omega) k0 kn hc hl, List.length_map, if_pos (show (tbs n k).length ≤ 50000 by omega)]
  rw [pickT_map, pickT_ret (g := fun t => if t = tabA n t cs then some (tD t) else none) fun t _ => by
    simp only [Nat.reduceSub, Nat.reduceAdd, reduceIte, Tree.bind, liftO, dIdx, sAsgL, sPar4, dV, dC, d1, d2, t1, t2, l0, lC, dL, dT, aV, aE, a0, aC, dCall, dCallK, dIf, tTr, tV, truth, asB, tNot, tAnd, tOr, dAnd, dOr, sSet, sAsg, sPar, sRet, s0, sC, sIf, sX, sOwn, sApp, sFrz, frzE, sFor, outV, fnF, lenIs, ent, small, few, putE, putsE, wipeE, it_l, it_t, iS, iR1, iR2, wEn, wZ2, wZ3, dLc, dLf, dSl, oN, oS, pCut, pSub, cI, bD, pIx, pList, pTup, pLen, pNot, qIsN, qNotN, pIsN, pNotN, List.getElem?_cons_succ, List.getElem?_cons_zero, List.set_cons_succ, List.set_cons_zero, List.length_cons, List.length_nil, List.map_cons, List.map_nil, List.foldr_cons, List.foldr_nil, List.replicate_succ, List.replicate_zero, List.cons_append, List.nil_append, sOPar, sOOPar, dOIx, sNest, sCallP, dOLen, fnP, pC, pFrz, dPr, nApp, nIf, nEnd, sN0, sN1, lendE, frzW, sSetK, dGet, dZipD, dPairD, pMax2, sDD, sND, tNeN, sLock, lockE, odcE, tdE, dttE, tC, tLock, tRet, dGetO, dIdxO, tNinD, sPutO, tDen, sUpd, sCpT, iDtt, dSrtD, sParDt, sParDt3, tCall2, fnT, sNewD, isNd, List.length_cons, List.length_nil, tD, pEq_tt]
    by_cases h : t = tabA n t cs
    · rw [decide_eq_true h, if_pos h]
    · rw [decide_eq_false h, if_neg h]]
  simp only [Nat.reduceSub, Nat.reduceAdd, reduceIte, Tree.bind, liftO, dIdx, sAsgL, sPar4, dV, dC, d1, d2, t1, t2, l0, lC, dL, dT, aV, aE, a0, aC, dCall, dCallK, dIf, tTr, tV, truth, asB, tNot, tAnd, tOr, dAnd, dOr, sSet, sAsg, sPar, sRet, s0, sC, sIf, sX, sOwn, sApp, sFrz, frzE, sFor, outV, fnF, lenIs, ent, small, few, putE, putsE, wipeE, it_l, it_t, iS, iR1, iR2, wEn, wZ2, wZ3, dLc, dLf, dSl, oN, oS, pCut, pSub, cI, bD, pIx, pList, pTup, pLen, pNot, qIsN, qNotN, pIsN, pNotN, List.getElem?_cons_succ, List.getElem?_cons_zero, List.set_cons_succ, List.set_cons_zero, List.length_cons, List.length_nil, List.map_cons, List.map_nil, List.foldr_cons, List.foldr_nil, List.replicate_succ, List.replicate_zero, List.cons_append, List.nil_append, sOPar, sOOPar, dOIx, sNest, sCallP, dOLen, fnP, pC, pFrz, dPr, nApp, nIf, nEnd, sN0, sN1, lendE, frzW, sSetK, dGet, dZipD, dPairD, pMax2, sDD, sND, tNeN, sLock, lockE, odcE, tdE, dttE, tC, tLock, tRet, dGetO, dIdxO, tNinD, sPutO, tDen, sUpd, sCpT, iDtt, dSrtD, sParDt, sParDt3, tCall2, fnT, sNewD, isNd]
  congr 2
  unfold stayL
  induction tbs n k with
  | nil => rfl
  | cons t ts ih =>
    rw [List.filterMap_cons, List.filter_cons, ih]
    by_cases q : t = tabA n t cs
    · rw [if_pos q, decide_eq_true q]
      rfl
    · rw [if_neg q, decide_eq_false q]
      rfl
def sureL (n k : Nat) (cs : List Int) : List Int := (cnt n).filter fun c => (resL n k cs).all fun t => decide (c ∈ t)
def neverL (n k : Nat) (cs : List Int) : List Int := (cnt n).filter fun c => (resL n k cs).all fun t => !decide (c ∈ t)
theorem pIn_at (x : Int) (t : List Int) : pIn (.int x) (.tuple (iL t)) = some (decide (x ∈ t)) := by
  unfold pIn
  simp only [asI_iL, memI_eq]
theorem pNin_atT (x : Int) (t : List Int) : pNin (.int x) (.tuple (iL t)) = some (!decide (x ∈ t)) := by
  unfold pNin
  rw [pIn_at]
theorem ev_sure_chairs {n k : Nat} {e : PyData} {cs : List Int} (he : items e = some (iL cs)) (n1 : n ≤ 7) (k0 : 1 ≤ k) (kn : k < n) (hc : ∀ c ∈ cs, 0 ≤ c ∧ c < (n : Int)) (hl : cs.length ≤ 1000) : m_sure_chairs [.d (.int (n : Int)), .d (.int (k : Int)), .d e] = .ret (.list (iL (sureL n k cs))) := by
  obtain ⟨_, o2, _⟩ := tb_ok n1 k0 kn
  have hz := resL_len (n := n) (k := k) (cs := cs)
  simp only [m_sure_chairs, b_sure_chairs, Nat.reduceSub, Nat.reduceAdd, reduceIte, Tree.bind, liftO, dIdx, sAsgL, sPar4, dV, dC, d1, d2, t1, t2, l0, lC, dL, dT, aV, aE, a0, aC, dCall, dCallK, dIf, tTr, tV, truth, asB, tNot, tAnd, tOr, dAnd, dOr, sSet, sAsg, sPar, sRet, s0, sC, sIf, sX, sOwn, sApp, sFrz, frzE, sFor, outV, fnF, lenIs, ent, small, few, putE, putsE, wipeE, it_l, it_t, iS, iR1, iR2, wEn, wZ2, wZ3, dLc, dLf, dSl, oN, oS, pCut, pSub, cI, bD, pIx, pList, pTup, pLen, pNot, qIsN, qNotN, pIsN, pNotN, List.getElem?_cons_succ, List.getElem?_cons_zero, List.set_cons_succ, List.set_cons_zero, List.length_cons, List.length_nil, List.map_cons, List.map_nil, List.foldr_cons, List.foldr_nil, List.replicate_succ, List.replicate_zero, List.cons_append, List.nil_append, sOPar, sOOPar, dOIx, sNest, sCallP, dOLen, fnP, pC, pFrz, dPr, nApp, nIf, nEnd, sN0, sN1, lendE, frzW, sSetK, dGet, dZipD, dPairD, pMax2, sDD, sND, tNeN, sLock, lockE, odcE, tdE, dttE, tC, tLock, tRet, dGetO, dIdxO, tNinD, sPutO, tDen, sUpd, sCpT, iDtt, dSrtD, sParDt, sParDt3, tCall2, fnT, sNewD, isNd, ev_results_of he n1 k0 kn hc hl, rg1_nat (show n ≤ 100000 by omega), nums_len, if_pos (show n ≤ 50000 by omega)]
  rw [nums_cnt, pickT_fR (p := fun c => (resL n k cs).all fun t => decide (c ∈ t)) fun c _ => by
    simp only [Nat.reduceSub, Nat.reduceAdd, reduceIte, Tree.bind, liftO, dIdx, sAsgL, sPar4, dV, dC, d1, d2, t1, t2, l0, lC, dL, dT, aV, aE, a0, aC, dCall, dCallK, dIf, tTr, tV, truth, asB, tNot, tAnd, tOr, dAnd, dOr, sSet, sAsg, sPar, sRet, s0, sC, sIf, sX, sOwn, sApp, sFrz, frzE, sFor, outV, fnF, lenIs, ent, small, few, putE, putsE, wipeE, it_l, it_t, iS, iR1, iR2, wEn, wZ2, wZ3, dLc, dLf, dSl, oN, oS, pCut, pSub, cI, bD, pIx, pList, pTup, pLen, pNot, qIsN, qNotN, pIsN, pNotN, List.getElem?_cons_succ, List.getElem?_cons_zero, List.set_cons_succ, List.set_cons_zero, List.length_cons, List.length_nil, List.map_cons, List.map_nil, List.foldr_cons, List.foldr_nil, List.replicate_succ, List.replicate_zero, List.cons_append, List.nil_append, sOPar, sOOPar, dOIx, sNest, sCallP, dOLen, fnP, pC, pFrz, dPr, nApp, nIf, nEnd, sN0, sN1, lendE, frzW, sSetK, dGet, dZipD, dPairD, pMax2, sDD, sND, tNeN, sLock, lockE, odcE, tdE, dttE, tC, tLock, tRet, dGetO, dIdxO, tNinD, sPutO, tDen, sUpd, sCpT, iDtt, dSrtD, sParDt, sParDt3, tCall2, fnT, sNewD, isNd, List.length_map, if_pos (show (resL n k cs).length ≤ 50000 by omega)]
    rw [mapT_tD (g := fun t => .bool (decide (c ∈ t))) fun t _ => by
      simp only [Nat.reduceSub, Nat.reduceAdd, reduceIte, Tree.bind, liftO, dIdx, sAsgL, sPar4, dV, dC, d1, d2, t1, t2, l0, lC, dL, dT, aV, aE, a0, aC, dCall, dCallK, dIf, tTr, tV, truth, asB, tNot, tAnd, tOr, dAnd, dOr, sSet, sAsg, sPar, sRet, s0, sC, sIf, sX, sOwn, sApp, sFrz, frzE, sFor, outV, fnF, lenIs, ent, small, few, putE, putsE, wipeE, it_l, it_t, iS, iR1, iR2, wEn, wZ2, wZ3, dLc, dLf, dSl, oN, oS, pCut, pSub, cI, bD, pIx, pList, pTup, pLen, pNot, qIsN, qNotN, pIsN, pNotN, List.getElem?_cons_succ, List.getElem?_cons_zero, List.set_cons_succ, List.set_cons_zero, List.length_cons, List.length_nil, List.map_cons, List.map_nil, List.foldr_cons, List.foldr_nil, List.replicate_succ, List.replicate_zero, List.cons_append, List.nil_append, sOPar, sOOPar, dOIx, sNest, sCallP, dOLen, fnP, pC, pFrz, dPr, nApp, nIf, nEnd, sN0, sN1, lendE, frzW, sSetK, dGet, dZipD, dPairD, pMax2, sDD, sND, tNeN, sLock, lockE, odcE, tdE, dttE, tC, tLock, tRet, dGetO, dIdxO, tNinD, sPutO, tDen, sUpd, sCpT, iDtt, dSrtD, sParDt, sParDt3, tCall2, fnT, sNewD, isNd, tD, pIn_at]]
    simp only [Nat.reduceSub, Nat.reduceAdd, reduceIte, Tree.bind, liftO, dIdx, sAsgL, sPar4, dV, dC, d1, d2, t1, t2, l0, lC, dL, dT, aV, aE, a0, aC, dCall, dCallK, dIf, tTr, tV, truth, asB, tNot, tAnd, tOr, dAnd, dOr, sSet, sAsg, sPar, sRet, s0, sC, sIf, sX, sOwn, sApp, sFrz, frzE, sFor, outV, fnF, lenIs, ent, small, few, putE, putsE, wipeE, it_l, it_t, iS, iR1, iR2, wEn, wZ2, wZ3, dLc, dLf, dSl, oN, oS, pCut, pSub, cI, bD, pIx, pList, pTup, pLen, pNot, qIsN, qNotN, pIsN, pNotN, List.getElem?_cons_succ, List.getElem?_cons_zero, List.set_cons_succ, List.set_cons_zero, List.length_cons, List.length_nil, List.map_cons, List.map_nil, List.foldr_cons, List.foldr_nil, List.replicate_succ, List.replicate_zero, List.cons_append, List.nil_append, sOPar, sOOPar, dOIx, sNest, sCallP, dOLen, fnP, pC, pFrz, dPr, nApp, nIf, nEnd, sN0, sN1, lendE, frzW, sSetK, dGet, dZipD, dPairD, pMax2, sDD, sND, tNeN, sLock, lockE, odcE, tdE, dttE, tC, tLock, tRet, dGetO, dIdxO, tNinD, sPutO, tDen, sUpd, sCpT, iDtt, dSrtD, sParDt, sParDt3, tCall2, fnT, sNewD, isNd, pAll_mapR]
    cases (resL n k cs).all fun t => decide (c ∈ t) <;> rfl]
  rfl
theorem ev_never_chairs {n k : Nat} {e : PyData} {cs : List Int} (he : items e = some (iL cs)) (n1 : n ≤ 7) (k0 : 1 ≤ k) (kn : k < n) (hc : ∀ c ∈ cs, 0 ≤ c ∧ c < (n : Int)) (hl : cs.length ≤ 1000) : m_never_chairs [.d (.int (n : Int)), .d (.int (k : Int)), .d e] = .ret (.list (iL (neverL n k cs))) := by
  obtain ⟨_, o2, _⟩ := tb_ok n1 k0 kn
  have hz := resL_len (n := n) (k := k) (cs := cs)
  simp only [m_never_chairs, b_never_chairs, Nat.reduceSub, Nat.reduceAdd, reduceIte, Tree.bind, liftO, dIdx, sAsgL, sPar4, dV, dC, d1, d2, t1, t2, l0, lC, dL, dT, aV, aE, a0, aC, dCall, dCallK, dIf, tTr, tV, truth, asB, tNot, tAnd, tOr, dAnd, dOr, sSet, sAsg, sPar, sRet, s0, sC, sIf, sX, sOwn, sApp, sFrz, frzE, sFor, outV, fnF, lenIs, ent, small, few, putE, putsE, wipeE, it_l, it_t, iS, iR1, iR2, wEn, wZ2, wZ3, dLc, dLf, dSl, oN, oS, pCut, pSub, cI, bD, pIx, pList, pTup, pLen, pNot, qIsN, qNotN, pIsN, pNotN, List.getElem?_cons_succ, List.getElem?_cons_zero, List.set_cons_succ, List.set_cons_zero, List.length_cons, List.length_nil, List.map_cons, List.map_nil, List.foldr_cons, List.foldr_nil, List.replicate_succ, List.replicate_zero, List.cons_append, List.nil_append, sOPar, sOOPar, dOIx, sNest, sCallP, dOLen, fnP, pC, pFrz, dPr, nApp, nIf, nEnd, sN0, sN1, lendE, frzW, sSetK, dGet, dZipD, dPairD, pMax2, sDD, sND, tNeN, sLock, lockE, odcE, tdE, dttE, tC, tLock, tRet, dGetO, dIdxO, tNinD, sPutO, tDen, sUpd, sCpT, iDtt, dSrtD, sParDt, sParDt3, tCall2, fnT, sNewD, isNd, ev_results_of he n1 k0 kn hc hl, rg1_nat (show n ≤ 100000 by omega), nums_len, if_pos (show n ≤ 50000 by omega)]
  rw [nums_cnt, pickT_fR (p := fun c => (resL n k cs).all fun t => !decide (c ∈ t)) fun c _ => by
    simp only [Nat.reduceSub, Nat.reduceAdd, reduceIte, Tree.bind, liftO, dIdx, sAsgL, sPar4, dV, dC, d1, d2, t1, t2, l0, lC, dL, dT, aV, aE, a0, aC, dCall, dCallK, dIf, tTr, tV, truth, asB, tNot, tAnd, tOr, dAnd, dOr, sSet, sAsg, sPar, sRet, s0, sC, sIf, sX, sOwn, sApp, sFrz, frzE, sFor, outV, fnF, lenIs, ent, small, few, putE, putsE, wipeE, it_l, it_t, iS, iR1, iR2, wEn, wZ2, wZ3, dLc, dLf, dSl, oN, oS, pCut, pSub, cI, bD, pIx, pList, pTup, pLen, pNot, qIsN, qNotN, pIsN, pNotN, List.getElem?_cons_succ, List.getElem?_cons_zero, List.set_cons_succ, List.set_cons_zero, List.length_cons, List.length_nil, List.map_cons, List.map_nil, List.foldr_cons, List.foldr_nil, List.replicate_succ, List.replicate_zero, List.cons_append, List.nil_append, sOPar, sOOPar, dOIx, sNest, sCallP, dOLen, fnP, pC, pFrz, dPr, nApp, nIf, nEnd, sN0, sN1, lendE, frzW, sSetK, dGet, dZipD, dPairD, pMax2, sDD, sND, tNeN, sLock, lockE, odcE, tdE, dttE, tC, tLock, tRet, dGetO, dIdxO, tNinD, sPutO, tDen, sUpd, sCpT, iDtt, dSrtD, sParDt, sParDt3, tCall2, fnT, sNewD, isNd, List.length_map, if_pos (show (resL n k cs).length ≤ 50000 by omega)]
    rw [mapT_tD (g := fun t => .bool (!decide (c ∈ t))) fun t _ => by
      simp only [Nat.reduceSub, Nat.reduceAdd, reduceIte, Tree.bind, liftO, dIdx, sAsgL, sPar4, dV, dC, d1, d2, t1, t2, l0, lC, dL, dT, aV, aE, a0, aC, dCall, dCallK, dIf, tTr, tV, truth, asB, tNot, tAnd, tOr, dAnd, dOr, sSet, sAsg, sPar, sRet, s0, sC, sIf, sX, sOwn, sApp, sFrz, frzE, sFor, outV, fnF, lenIs, ent, small, few, putE, putsE, wipeE, it_l, it_t, iS, iR1, iR2, wEn, wZ2, wZ3, dLc, dLf, dSl, oN, oS, pCut, pSub, cI, bD, pIx, pList, pTup, pLen, pNot, qIsN, qNotN, pIsN, pNotN, List.getElem?_cons_succ, List.getElem?_cons_zero, List.set_cons_succ, List.set_cons_zero, List.length_cons, List.length_nil, List.map_cons, List.map_nil, List.foldr_cons, List.foldr_nil, List.replicate_succ, List.replicate_zero, List.cons_append, List.nil_append, sOPar, sOOPar, dOIx, sNest, sCallP, dOLen, fnP, pC, pFrz, dPr, nApp, nIf, nEnd, sN0, sN1, lendE, frzW, sSetK, dGet, dZipD, dPairD, pMax2, sDD, sND, tNeN, sLock, lockE, odcE, tdE, dttE, tC, tLock, tRet, dGetO, dIdxO, tNinD, sPutO, tDen, sUpd, sCpT, iDtt, dSrtD, sParDt, sParDt3, tCall2, fnT, sNewD, isNd, tD, pNin_atT]]
    simp only [Nat.reduceSub, Nat.reduceAdd, reduceIte, Tree.bind, liftO, dIdx, sAsgL, sPar4, dV, dC, d1, d2, t1, t2, l0, lC, dL, dT, aV, aE, a0, aC, dCall, dCallK, dIf, tTr, tV, truth, asB, tNot, tAnd, tOr, dAnd, dOr, sSet, sAsg, sPar, sRet, s0, sC, sIf, sX, sOwn, sApp, sFrz, frzE, sFor, outV, fnF, lenIs, ent, small, few, putE, putsE, wipeE, it_l, it_t, iS, iR1, iR2, wEn, wZ2, wZ3, dLc, dLf, dSl, oN, oS, pCut, pSub, cI, bD, pIx, pList, pTup, pLen, pNot, qIsN, qNotN, pIsN, pNotN, List.getElem?_cons_succ, List.getElem?_cons_zero, List.set_cons_succ, List.set_cons_zero, List.length_cons, List.length_nil, List.map_cons, List.map_nil, List.foldr_cons, List.foldr_nil, List.replicate_succ, List.replicate_zero, List.cons_append, List.nil_append, sOPar, sOOPar, dOIx, sNest, sCallP, dOLen, fnP, pC, pFrz, dPr, nApp, nIf, nEnd, sN0, sN1, lendE, frzW, sSetK, dGet, dZipD, dPairD, pMax2, sDD, sND, tNeN, sLock, lockE, odcE, tdE, dttE, tC, tLock, tRet, dGetO, dIdxO, tNinD, sPutO, tDen, sUpd, sCpT, iDtt, dSrtD, sParDt, sParDt3, tCall2, fnT, sNewD, isNd, pAll_mapR]
    cases (resL n k cs).all fun t => !decide (c ∈ t) <;> rfl]
  rfl
theorem sh_tDs : ∀ ts : List (List Int), PyData.canLayAll0 (ts.map tD) = true ∧ PyData.depthAll (ts.map tD) ≤ 1
  | [] => by simp [PyData.canLayAll0, PyData.depthAll]
  | t :: ts => by
    obtain ⟨h1, h2⟩ := sh_tDs ts
    rw [List.map_cons]
    simp only [PyData.canLayAll0, PyData.depthAll, tD, PyData.canLay0, PyData.depth, lay_Is, dp_Is]
    rw [h1]
    refine ⟨rfl, ?_⟩
    omega
theorem sh_tDL (ts : List (List Int)) : SeqAt.shaped (.list (ts.map tD)) = true := by
  obtain ⟨h1, h2⟩ := sh_tDs ts
  show (PyData.canLay0 (.list (ts.map tD)) && decide (PyData.depth (.list (ts.map tD)) ≤ 64)) = true
  simp only [PyData.canLay0, PyData.depth, h1, Bool.true_and]
  exact decide_eq_true (by omega)
theorem eqv_tD (a c : List Int) : PyData.eqv (tD a) (tD c) = decide (a = c) := eqv_tuple_ints a c
theorem any_tD (ts : List (List Int)) (x : List Int) : ((ts.map tD).any fun z => PyData.eqv z (tD x)) = decide (x ∈ ts) := by
  induction ts with
  | nil => rfl
  | cons t ts ih =>
    rw [List.map_cons, List.any_cons, ih, eqv_tD]
    by_cases h : t = x
    · subst h
      simp
    · have h' : x ≠ t := fun e => h e.symm
      simp [h, h']
theorem sh_tD (t : List Int) : SeqAt.shaped (tD t) = true := by
  show (PyData.canLay0 (tD t) && decide (PyData.depth (tD t) ≤ 64)) = true
  simp only [tD, PyData.canLay0, PyData.depth, lay_Is, dp_Is]
  rfl
theorem in_tD (t : List Int) (ts : List (List Int)) : pInD (tD t) (.list (ts.map tD)) = some (decide (t ∈ ts)) := by
  show (if SeqAt.shaped (tD t) = true ∧ SeqAt.shaped (.list (ts.map tD)) = true then some ((ts.map tD).any fun z => PyData.eqv z (tD t)) else none) = _
  rw [if_pos ⟨sh_tD t, sh_tDL ts⟩, any_tD]
theorem pAdd_tDs {a b : List (List Int)} (h : a.length + b.length ≤ 100000) : pAdd (.list (a.map tD)) (.list (b.map tD)) = some (.list ((a ++ b).map tD)) := by
  show (if (a.map tD).length + (b.map tD).length ≤ 100000 then some (PyData.list (a.map tD ++ b.map tD)) else none) = _
  rw [if_pos (by rw [List.length_map, List.length_map]; exact h), List.map_append]
theorem tDs_at {ts : List (List Int)} {i : Nat} {x : PyData} (h : (ts.map tD)[i]? = some x) : ∃ t, ts[i]? = some t ∧ x = tD t := by
  rw [List.getElem?_map] at h
  cases q : ts[i]? with
  | none => rw [q] at h; cases h
  | some t => rw [q] at h; cases h; exact ⟨t, rfl, rfl⟩
theorem lookT_put (kvs : TD) (t u : List Int) (d : PyData) : lookT (putT kvs t d) u = if t = u then some d else lookT kvs u := by
  induction kvs with
  | nil => rfl
  | cons q r ih =>
    obtain ⟨k, v⟩ := q
    unfold putT
    by_cases h : k = t
    · rw [if_pos h, lookT]
      subst h
      by_cases h2 : k = u
      · rw [if_pos h2, if_pos h2]
      · rw [if_neg h2, if_neg h2, lookT, if_neg h2]
    · rw [if_neg h, lookT, ih]
      by_cases h2 : k = u
      · rw [if_pos h2]
        subst h2
        rw [if_neg (fun e => h e.symm), lookT, if_pos rfl]
      · rw [if_neg h2, lookT, if_neg h2]
structure Lot (n : Nat) (cs : List Int) (us : List (List Int)) (kvs : TD) : Prop where
  nd : ndK kvs
  mem : ∀ e, e ∈ kvs.map (·.1) ↔ ∃ t ∈ us, tabA n t cs = e
  look : ∀ e, lookT kvs e = if e ∈ kvs.map (·.1) then some (.list ((us.filter fun t => decide (tabA n t cs = e)).map tD)) else none
  len : kvs.length ≤ us.length
theorem Lot.getD {n : Nat} {cs : List Int} {us : List (List Int)} {kvs : TD} (L : Lot n cs us kvs) (e : List Int) : (lookT kvs e).getD (.list []) = .list ((us.filter fun t => decide (tabA n t cs = e)).map tD) := by
  rw [L.look]
  by_cases h : e ∈ kvs.map (·.1)
  · rw [if_pos h]
    rfl
  · rw [if_neg h]
    have : us.filter (fun t => decide (tabA n t cs = e)) = [] := List.filter_eq_nil_iff.mpr fun t ht hd => h ((L.mem e).mpr ⟨t, ht, of_decide_eq_true hd⟩)
    rw [this]
    rfl
theorem Lot.zero {n : Nat} {cs : List Int} : Lot n cs [] [] := ⟨List.nodup_nil, fun e => by simp, fun e => by simp [lookT], Nat.le_refl _⟩
theorem Lot.next {n : Nat} {cs : List Int} {us : List (List Int)} {kvs : TD} (L : Lot n cs us kvs) (t : List Int) : Lot n cs (us ++ [t]) (putT kvs (tabA n t cs) (.list ((us.filter fun u => decide (tabA n u cs = tabA n t cs)).map tD ++ [tD t]))) := by
  have keys := putT_keys (t := tabA n t cs) (d := .list ((us.filter fun u => decide (tabA n u cs = tabA n t cs)).map tD ++ [tD t])) (kvs := kvs)
  have hm : ∀ e, e ∈ (putT kvs (tabA n t cs) (.list ((us.filter fun u => decide (tabA n u cs = tabA n t cs)).map tD ++ [tD t]))).map (·.1) ↔ e ∈ kvs.map (·.1) ∨ e = tabA n t cs := fun e => by
    rw [keys]
    split
    · rename_i h
      exact ⟨.inl, fun z => z.elim id fun z => by rw [z]; exact h⟩
    · rw [List.mem_append, List.mem_singleton]
  refine ⟨putT_nd L.nd, fun e => ?_, fun e => ?_, ?_⟩
  · rw [hm, L.mem]
    constructor
    · rintro (⟨u, hu, rfl⟩ | rfl)
      · exact ⟨u, List.mem_append_left _ hu, rfl⟩
      · exact ⟨t, List.mem_append_right _ (List.mem_singleton.mpr rfl), rfl⟩
    · rintro ⟨u, hu, rfl⟩
      rcases List.mem_append.mp hu with hu | hu
      · exact .inl ⟨u, hu, rfl⟩
      · rw [List.mem_singleton.mp hu]
        exact .inr rfl
  · rw [lookT_put]
    by_cases h : tabA n t cs = e
    · rw [if_pos h, if_pos ((hm e).mpr (.inr h.symm)), List.filter_append, List.map_append]
      subst h
      simp
    · rw [if_neg h, L.look, List.filter_append, List.map_append]
      have e1 : ([t].filter fun u => decide (tabA n u cs = e)) = [] := by simp [h]
      rw [e1, List.map_nil, List.append_nil]
      by_cases h2 : e ∈ kvs.map (·.1)
      · rw [if_pos h2, if_pos ((hm e).mpr (.inl h2))]
      · rw [if_neg h2, if_neg (fun z => ((hm e).mp z).elim h2 fun z => h z.symm)]
  · rw [List.length_append]
    have := putT_len (t := tabA n t cs) (d := .list ((us.filter fun u => decide (tabA n u cs = tabA n t cs)).map tD ++ [tD t])) (kvs := kvs)
    have := L.len
    simp only [List.length_cons, List.length_nil]
    omega
theorem asT_tD (t : List Int) : asT (tD t) = some t := asT_tpl t
theorem ev_law_lots {n k : Nat} {cs : List Int} (n0 : 0 < n) (n1 : n ≤ 7) (k0 : 1 ≤ k) (kn : k < n) (hc : InR n cs) : ∃ kvs, Lot n cs (tbs n k) kvs ∧ m_law_lots [.d (.int (n : Int)), .d (.int (k : Int)), .d (.list (iL cs))] = .ret kvs := by
  obtain ⟨_, o2, nd⟩ := tb_ok (n := n) n1 k0 kn
  have hA : ∀ t ∈ tbs n k, m_law_after [.d (.int (n : Int)), .d (tD t), .d (.list (iL cs))] = .ret (tD (tabA n t cs)) := fun t ht => by
    obtain ⟨tb, hl⟩ := tbs_mem ht
    exact ev_law_after tb (List.length_pos_iff.mp (by omega)) n0 (by omega) (by omega) hc
  simp only [m_law_lots, b_law_lots, Nat.reduceSub, Nat.reduceAdd, reduceIte, Tree.bind, liftO, dIdx, sAsgL, sPar4, dV, dC, d1, d2, t1, t2, l0, lC, dL, dT, aV, aE, a0, aC, dCall, dCallK, dIf, tTr, tV, truth, asB, tNot, tAnd, tOr, dAnd, dOr, sSet, sAsg, sPar, sRet, s0, sC, sIf, sX, sOwn, sApp, sFrz, frzE, sFor, outV, fnF, lenIs, ent, small, few, putE, putsE, wipeE, it_l, it_t, iS, iR1, iR2, wEn, wZ2, wZ3, dLc, dLf, dSl, oN, oS, pCut, pSub, cI, bD, pIx, pList, pTup, pLen, pNot, qIsN, qNotN, pIsN, pNotN, List.getElem?_cons_succ, List.getElem?_cons_zero, List.set_cons_succ, List.set_cons_zero, List.length_cons, List.length_nil, List.map_cons, List.map_nil, List.foldr_cons, List.foldr_nil, List.replicate_succ, List.replicate_zero, List.cons_append, List.nil_append, sOPar, sOOPar, dOIx, sNest, sCallP, dOLen, fnP, pC, pFrz, dPr, nApp, nIf, nEnd, sN0, sN1, lendE, frzW, sSetK, dGet, dZipD, dPairD, pMax2, sDD, sND, tNeN, sLock, lockE, odcE, tdE, dttE, tC, tLock, tRet, dGetO, dIdxO, tNinD, sPutO, tDen, sUpd, sCpT, iDtt, dSrtD, sParDt, sParDt3, tCall2, fnT, sNewD, isNd, Nat.reduceLeDiff, ev_law_tables n1 k0 kn]
  refine forT_then (C := fun t => ∃ kvs, Lot n cs (tbs n k) kvs ∧ Tree.bind t _ = .ret kvs) (P := fun o => ∃ kvs x4 x5, Lot n cs (tbs n k) kvs ∧ o = .nx [some (.d (.int (n : Int))), some (.d (.int (k : Int))), some (.d (.list (iL cs))), some (.odc kvs), x4, x5])
    (fun i E => ∃ kvs x4 x5, Lot n cs ((tbs n k).take i) kvs ∧ E = [some (.d (.int (n : Int))), some (.d (.int (k : Int))), some (.d (.list (iL cs))), some (.odc kvs), x4, x5]) ⟨[], none, none, Lot.zero, rfl⟩ (fun i x E hx hI => ?_) (fun E hI => ?_) fun o ho => ?_
  · obtain ⟨kvs, x4, x5, L, rfl⟩ := hI
    obtain ⟨t, ht, rfl⟩ := tDs_at hx
    have htm := List.mem_of_getElem? ht
    have hi := (List.getElem?_eq_some_iff.mp ht).1
    have hl := L.len
    rw [List.length_take] at hl
    have hz : (((tbs n k).take i).filter fun u => decide (tabA n u cs = tabA n t cs)).length ≤ 62 := by
      have := List.length_filter_le (fun u => decide (tabA n u cs = tabA n t cs)) ((tbs n k).take i)
      rw [List.length_take] at this
      omega
    have h3 := pAdd_tDs (a := ((tbs n k).take i).filter fun u => decide (tabA n u cs = tabA n t cs)) (b := [t]) (by rw [List.length_singleton]; omega)
    rw [List.map_append, List.map_cons, List.map_nil] at h3
    refine ⟨_, rfl, ?_⟩
    simp only [Nat.reduceSub, Nat.reduceAdd, reduceIte, Tree.bind, liftO, dIdx, sAsgL, sPar4, dV, dC, d1, d2, t1, t2, l0, lC, dL, dT, aV, aE, a0, aC, dCall, dCallK, dIf, tTr, tV, truth, asB, tNot, tAnd, tOr, dAnd, dOr, sSet, sAsg, sPar, sRet, s0, sC, sIf, sX, sOwn, sApp, sFrz, frzE, sFor, outV, fnF, lenIs, ent, small, few, putE, putsE, wipeE, it_l, it_t, iS, iR1, iR2, wEn, wZ2, wZ3, dLc, dLf, dSl, oN, oS, pCut, pSub, cI, bD, pIx, pList, pTup, pLen, pNot, qIsN, qNotN, pIsN, pNotN, List.getElem?_cons_succ, List.getElem?_cons_zero, List.set_cons_succ, List.set_cons_zero, List.length_cons, List.length_nil, List.map_cons, List.map_nil, List.foldr_cons, List.foldr_nil, List.replicate_succ, List.replicate_zero, List.cons_append, List.nil_append, sOPar, sOOPar, dOIx, sNest, sCallP, dOLen, fnP, pC, pFrz, dPr, nApp, nIf, nEnd, sN0, sN1, lendE, frzW, sSetK, dGet, dZipD, dPairD, pMax2, sDD, sND, tNeN, sLock, lockE, odcE, tdE, dttE, tC, tLock, tRet, dGetO, dIdxO, tNinD, sPutO, tDen, sUpd, sCpT, iDtt, dSrtD, sParDt, sParDt3, tCall2, fnT, sNewD, isNd, Nat.reduceLeDiff, hA t htm, odcE, isNd, if_pos (show (kvs.map (·.1)).Nodup from L.nd), if_pos (show kvs.length ≤ 100000 by omega), asT_tD, L.getD, h3]
    refine ⟨_, rfl, _, _, _, ?_, rfl⟩
    rw [List.take_add_one, ht, Option.toList_some]
    exact L.next t
  · obtain ⟨kvs, x4, x5, L, rfl⟩ := hI
    rw [List.length_map, List.take_length] at L
    exact ⟨kvs, x4, x5, L, rfl⟩
  · obtain ⟨kvs, x4, x5, L, rfl⟩ := ho
    exact ⟨kvs, L, rfl⟩
theorem pAny_mapR {α : Type} (f : α → Bool) (xs : List α) : pAny (.list (xs.map fun x => .bool (f x))) = some (.bool (xs.any f)) := by
  have e : (xs.map fun x => PyData.bool (f x)) = (xs.map f).map .bool := by rw [List.map_map]; rfl
  unfold pAny onB
  simp only [e, asBs_map]
  rw [List.any_map]
  rfl
theorem Lot.res {n k : Nat} {cs : List Int} {kvs : TD} (L : Lot n cs (tbs n k) kvs) (e : List Int) : e ∈ keysT kvs ↔ e ∈ resL n k cs := by
  rw [resL_mem]
  exact L.mem e
theorem Lot.srt {n k : Nat} {cs : List Int} {kvs : TD} (L : Lot n cs (tbs n k) kvs) (n0 : 0 < n) (n1 : n ≤ 7) (k0 : 1 ≤ k) (kn : k < n) (hc : InR n cs) : pSrtD kvs = some (.list ((resL n k cs).map tD)) := by
  have hb : ∀ t ∈ keysT kvs, inB k t := fun t ht => inB_tbs (by omega) (resL_tbs n0 k0 hc ((L.res t).mp ht))
  obtain ⟨h1, h2⟩ := hd_ok k0 hb
  have hl := L.len
  have e : srtT (keysT kvs) = resL n k cs := by
    refine srtD_uniq (k := k) ((srtT_perm _).nodup_iff.mpr L.nd) (srtT_pw _) (fun t ht => ?_) fun t => ?_
    · obtain ⟨u, hu, rfl⟩ := List.mem_map.mp ht
      exact inB_tbs (by omega) (tabA_tbs n0 k0 hc hu)
    · rw [srtT_mem, L.res, resL_mem, List.mem_map]
  unfold pSrtD
  have hl2 : kvs.length ≤ 1000 := by
    have := (tb_ok n1 k0 kn).2.1
    omega
  rw [if_pos ⟨h1, hl2, h2⟩, e]
  try rfl
def due51 (n k : Nat) (cs : List Int) : List PyData := [.list ((resL n k cs).map tD), .list ((stayL n k cs).map tD), .list (iL (sureL n k cs)), .list (iL (neverL n k cs))]
theorem keys_tD (kvs : TD) : (keysT kvs).map tpl = (keysT kvs).map tD := rfl
theorem ev_law_due {n k : Nat} {cs : List Int} {kvs : TD} (n0 : 0 < n) (n1 : n ≤ 7) (k0 : 1 ≤ k) (kn : k < n) (hc : InR n cs) (L : Lot n cs (tbs n k) kvs) : m_law_due [.d (.int (n : Int)), .d (.int (k : Int)), .dtt kvs] = .ret (.list (due51 n k cs)) := by
  obtain ⟨_, o2, nd⟩ := tb_ok (n := n) n1 k0 kn
  have hl := L.len
  have hkl : (keysT kvs).length ≤ 62 := by unfold keysT; rw [List.length_map]; omega
  have hall : ∀ c : Int, (keysT kvs).all (fun t => decide (c ∈ t)) = (resL n k cs).all fun t => decide (c ∈ t) := fun c => by
    rw [Bool.eq_iff_iff, List.all_eq_true, List.all_eq_true]
    exact ⟨fun h t ht => h t ((L.res t).mpr ht), fun h t ht => h t ((L.res t).mp ht)⟩
  have hany : ∀ c : Int, (!(keysT kvs).any (fun t => decide (c ∈ t))) = (resL n k cs).all fun t => !decide (c ∈ t) := fun c => by
    rw [Bool.eq_iff_iff, List.all_eq_true, Bool.not_eq_true', ← Bool.not_eq_true, List.any_eq_true]
    constructor
    · intro h t ht
      cases q : decide (c ∈ t) with
      | false => rfl
      | true => exact absurd ⟨t, (L.res t).mpr ht, q⟩ h
    · rintro h ⟨t, ht, q⟩
      have := h t ((L.res t).mp ht)
      rw [q] at this
      cases this
  simp only [m_law_due, b_law_due, Nat.reduceSub, Nat.reduceAdd, reduceIte, Tree.bind, liftO, dIdx, sAsgL, sPar4, dV, dC, d1, d2, t1, t2, l0, lC, dL, dT, aV, aE, a0, aC, dCall, dCallK, dIf, tTr, tV, truth, asB, tNot, tAnd, tOr, dAnd, dOr, sSet, sAsg, sPar, sRet, s0, sC, sIf, sX, sOwn, sApp, sFrz, frzE, sFor, outV, fnF, lenIs, ent, small, few, putE, putsE, wipeE, it_l, it_t, iS, iR1, iR2, wEn, wZ2, wZ3, dLc, dLf, dSl, oN, oS, pCut, pSub, cI, bD, pIx, pList, pTup, pLen, pNot, qIsN, qNotN, pIsN, pNotN, List.getElem?_cons_succ, List.getElem?_cons_zero, List.set_cons_succ, List.set_cons_zero, List.length_cons, List.length_nil, List.map_cons, List.map_nil, List.foldr_cons, List.foldr_nil, List.replicate_succ, List.replicate_zero, List.cons_append, List.nil_append, sOPar, sOOPar, dOIx, sNest, sCallP, dOLen, fnP, pC, pFrz, dPr, nApp, nIf, nEnd, sN0, sN1, lendE, frzW, sSetK, dGet, dZipD, dPairD, pMax2, sDD, sND, tNeN, sLock, lockE, odcE, tdE, dttE, tC, tLock, tRet, dGetO, dIdxO, tNinD, sPutO, tDen, sUpd, sCpT, iDtt, dSrtD, sParDt, sParDt3, tCall2, fnT, sNewD, isNd, Nat.reduceLeDiff, rg1_nat (show n ≤ 100000 by omega), nums_len, if_pos (show n ≤ 50000 by omega)]
  rw [nums_cnt, pickT_fR (p := fun c => (resL n k cs).all fun t => decide (c ∈ t)) fun c _ => by
    simp only [Nat.reduceSub, Nat.reduceAdd, reduceIte, Tree.bind, liftO, dIdx, sAsgL, sPar4, dV, dC, d1, d2, t1, t2, l0, lC, dL, dT, aV, aE, a0, aC, dCall, dCallK, dIf, tTr, tV, truth, asB, tNot, tAnd, tOr, dAnd, dOr, sSet, sAsg, sPar, sRet, s0, sC, sIf, sX, sOwn, sApp, sFrz, frzE, sFor, outV, fnF, lenIs, ent, small, few, putE, putsE, wipeE, it_l, it_t, iS, iR1, iR2, wEn, wZ2, wZ3, dLc, dLf, dSl, oN, oS, pCut, pSub, cI, bD, pIx, pList, pTup, pLen, pNot, qIsN, qNotN, pIsN, pNotN, List.getElem?_cons_succ, List.getElem?_cons_zero, List.set_cons_succ, List.set_cons_zero, List.length_cons, List.length_nil, List.map_cons, List.map_nil, List.foldr_cons, List.foldr_nil, List.replicate_succ, List.replicate_zero, List.cons_append, List.nil_append, sOPar, sOOPar, dOIx, sNest, sCallP, dOLen, fnP, pC, pFrz, dPr, nApp, nIf, nEnd, sN0, sN1, lendE, frzW, sSetK, dGet, dZipD, dPairD, pMax2, sDD, sND, tNeN, sLock, lockE, odcE, tdE, dttE, tC, tLock, tRet, dGetO, dIdxO, tNinD, sPutO, tDen, sUpd, sCpT, iDtt, dSrtD, sParDt, sParDt3, tCall2, fnT, sNewD, isNd, keys_tD, List.length_map, if_pos (show (keysT kvs).length ≤ 50000 by omega)]
    rw [mapT_tD (g := fun t => .bool (decide (c ∈ t))) fun t _ => by
      simp only [Nat.reduceSub, Nat.reduceAdd, reduceIte, Tree.bind, liftO, dIdx, sAsgL, sPar4, dV, dC, d1, d2, t1, t2, l0, lC, dL, dT, aV, aE, a0, aC, dCall, dCallK, dIf, tTr, tV, truth, asB, tNot, tAnd, tOr, dAnd, dOr, sSet, sAsg, sPar, sRet, s0, sC, sIf, sX, sOwn, sApp, sFrz, frzE, sFor, outV, fnF, lenIs, ent, small, few, putE, putsE, wipeE, it_l, it_t, iS, iR1, iR2, wEn, wZ2, wZ3, dLc, dLf, dSl, oN, oS, pCut, pSub, cI, bD, pIx, pList, pTup, pLen, pNot, qIsN, qNotN, pIsN, pNotN, List.getElem?_cons_succ, List.getElem?_cons_zero, List.set_cons_succ, List.set_cons_zero, List.length_cons, List.length_nil, List.map_cons, List.map_nil, List.foldr_cons, List.foldr_nil, List.replicate_succ, List.replicate_zero, List.cons_append, List.nil_append, sOPar, sOOPar, dOIx, sNest, sCallP, dOLen, fnP, pC, pFrz, dPr, nApp, nIf, nEnd, sN0, sN1, lendE, frzW, sSetK, dGet, dZipD, dPairD, pMax2, sDD, sND, tNeN, sLock, lockE, odcE, tdE, dttE, tC, tLock, tRet, dGetO, dIdxO, tNinD, sPutO, tDen, sUpd, sCpT, iDtt, dSrtD, sParDt, sParDt3, tCall2, fnT, sNewD, isNd, tD, pIn_at]]
    simp only [Nat.reduceSub, Nat.reduceAdd, reduceIte, Tree.bind, liftO, dIdx, sAsgL, sPar4, dV, dC, d1, d2, t1, t2, l0, lC, dL, dT, aV, aE, a0, aC, dCall, dCallK, dIf, tTr, tV, truth, asB, tNot, tAnd, tOr, dAnd, dOr, sSet, sAsg, sPar, sRet, s0, sC, sIf, sX, sOwn, sApp, sFrz, frzE, sFor, outV, fnF, lenIs, ent, small, few, putE, putsE, wipeE, it_l, it_t, iS, iR1, iR2, wEn, wZ2, wZ3, dLc, dLf, dSl, oN, oS, pCut, pSub, cI, bD, pIx, pList, pTup, pLen, pNot, qIsN, qNotN, pIsN, pNotN, List.getElem?_cons_succ, List.getElem?_cons_zero, List.set_cons_succ, List.set_cons_zero, List.length_cons, List.length_nil, List.map_cons, List.map_nil, List.foldr_cons, List.foldr_nil, List.replicate_succ, List.replicate_zero, List.cons_append, List.nil_append, sOPar, sOOPar, dOIx, sNest, sCallP, dOLen, fnP, pC, pFrz, dPr, nApp, nIf, nEnd, sN0, sN1, lendE, frzW, sSetK, dGet, dZipD, dPairD, pMax2, sDD, sND, tNeN, sLock, lockE, odcE, tdE, dttE, tC, tLock, tRet, dGetO, dIdxO, tNinD, sPutO, tDen, sUpd, sCpT, iDtt, dSrtD, sParDt, sParDt3, tCall2, fnT, sNewD, isNd, pAll_mapR, hall]
    cases (resL n k cs).all fun t => decide (c ∈ t) <;> rfl]
  simp only [Nat.reduceSub, Nat.reduceAdd, reduceIte, Tree.bind, liftO, dIdx, sAsgL, sPar4, dV, dC, d1, d2, t1, t2, l0, lC, dL, dT, aV, aE, a0, aC, dCall, dCallK, dIf, tTr, tV, truth, asB, tNot, tAnd, tOr, dAnd, dOr, sSet, sAsg, sPar, sRet, s0, sC, sIf, sX, sOwn, sApp, sFrz, frzE, sFor, outV, fnF, lenIs, ent, small, few, putE, putsE, wipeE, it_l, it_t, iS, iR1, iR2, wEn, wZ2, wZ3, dLc, dLf, dSl, oN, oS, pCut, pSub, cI, bD, pIx, pList, pTup, pLen, pNot, qIsN, qNotN, pIsN, pNotN, List.getElem?_cons_succ, List.getElem?_cons_zero, List.set_cons_succ, List.set_cons_zero, List.length_cons, List.length_nil, List.map_cons, List.map_nil, List.foldr_cons, List.foldr_nil, List.replicate_succ, List.replicate_zero, List.cons_append, List.nil_append, sOPar, sOOPar, dOIx, sNest, sCallP, dOLen, fnP, pC, pFrz, dPr, nApp, nIf, nEnd, sN0, sN1, lendE, frzW, sSetK, dGet, dZipD, dPairD, pMax2, sDD, sND, tNeN, sLock, lockE, odcE, tdE, dttE, tC, tLock, tRet, dGetO, dIdxO, tNinD, sPutO, tDen, sUpd, sCpT, iDtt, dSrtD, sParDt, sParDt3, tCall2, fnT, sNewD, isNd, Nat.reduceLeDiff, rg1_nat (show n ≤ 100000 by omega), nums_len, if_pos (show n ≤ 50000 by omega)]
  rw [nums_cnt, pickT_fR (p := fun c => (resL n k cs).all fun t => !decide (c ∈ t)) fun c _ => by
    simp only [Nat.reduceSub, Nat.reduceAdd, reduceIte, Tree.bind, liftO, dIdx, sAsgL, sPar4, dV, dC, d1, d2, t1, t2, l0, lC, dL, dT, aV, aE, a0, aC, dCall, dCallK, dIf, tTr, tV, truth, asB, tNot, tAnd, tOr, dAnd, dOr, sSet, sAsg, sPar, sRet, s0, sC, sIf, sX, sOwn, sApp, sFrz, frzE, sFor, outV, fnF, lenIs, ent, small, few, putE, putsE, wipeE, it_l, it_t, iS, iR1, iR2, wEn, wZ2, wZ3, dLc, dLf, dSl, oN, oS, pCut, pSub, cI, bD, pIx, pList, pTup, pLen, pNot, qIsN, qNotN, pIsN, pNotN, List.getElem?_cons_succ, List.getElem?_cons_zero, List.set_cons_succ, List.set_cons_zero, List.length_cons, List.length_nil, List.map_cons, List.map_nil, List.foldr_cons, List.foldr_nil, List.replicate_succ, List.replicate_zero, List.cons_append, List.nil_append, sOPar, sOOPar, dOIx, sNest, sCallP, dOLen, fnP, pC, pFrz, dPr, nApp, nIf, nEnd, sN0, sN1, lendE, frzW, sSetK, dGet, dZipD, dPairD, pMax2, sDD, sND, tNeN, sLock, lockE, odcE, tdE, dttE, tC, tLock, tRet, dGetO, dIdxO, tNinD, sPutO, tDen, sUpd, sCpT, iDtt, dSrtD, sParDt, sParDt3, tCall2, fnT, sNewD, isNd, keys_tD, List.length_map, if_pos (show (keysT kvs).length ≤ 50000 by omega)]
    rw [mapT_tD (g := fun t => .bool (decide (c ∈ t))) fun t _ => by
      simp only [Nat.reduceSub, Nat.reduceAdd, reduceIte, Tree.bind, liftO, dIdx, sAsgL, sPar4, dV, dC, d1, d2, t1, t2, l0, lC, dL, dT, aV, aE, a0, aC, dCall, dCallK, dIf, tTr, tV, truth, asB, tNot, tAnd, tOr, dAnd, dOr, sSet, sAsg, sPar, sRet, s0, sC, sIf, sX, sOwn, sApp, sFrz, frzE, sFor, outV, fnF, lenIs, ent, small, few, putE, putsE, wipeE, it_l, it_t, iS, iR1, iR2, wEn, wZ2, wZ3, dLc, dLf, dSl, oN, oS, pCut, pSub, cI, bD, pIx, pList, pTup, pLen, pNot, qIsN, qNotN, pIsN, pNotN, List.getElem?_cons_succ, List.getElem?_cons_zero, List.set_cons_succ, List.set_cons_zero, List.length_cons, List.length_nil, List.map_cons, List.map_nil, List.foldr_cons, List.foldr_nil, List.replicate_succ, List.replicate_zero, List.cons_append, List.nil_append, sOPar, sOOPar, dOIx, sNest, sCallP, dOLen, fnP, pC, pFrz, dPr, nApp, nIf, nEnd, sN0, sN1, lendE, frzW, sSetK, dGet, dZipD, dPairD, pMax2, sDD, sND, tNeN, sLock, lockE, odcE, tdE, dttE, tC, tLock, tRet, dGetO, dIdxO, tNinD, sPutO, tDen, sUpd, sCpT, iDtt, dSrtD, sParDt, sParDt3, tCall2, fnT, sNewD, isNd, tD, pIn_at]]
    simp only [Nat.reduceSub, Nat.reduceAdd, reduceIte, Tree.bind, liftO, dIdx, sAsgL, sPar4, dV, dC, d1, d2, t1, t2, l0, lC, dL, dT, aV, aE, a0, aC, dCall, dCallK, dIf, tTr, tV, truth, asB, tNot, tAnd, tOr, dAnd, dOr, sSet, sAsg, sPar, sRet, s0, sC, sIf, sX, sOwn, sApp, sFrz, frzE, sFor, outV, fnF, lenIs, ent, small, few, putE, putsE, wipeE, it_l, it_t, iS, iR1, iR2, wEn, wZ2, wZ3, dLc, dLf, dSl, oN, oS, pCut, pSub, cI, bD, pIx, pList, pTup, pLen, pNot, qIsN, qNotN, pIsN, pNotN, List.getElem?_cons_succ, List.getElem?_cons_zero, List.set_cons_succ, List.set_cons_zero, List.length_cons, List.length_nil, List.map_cons, List.map_nil, List.foldr_cons, List.foldr_nil, List.replicate_succ, List.replicate_zero, List.cons_append, List.nil_append, sOPar, sOOPar, dOIx, sNest, sCallP, dOLen, fnP, pC, pFrz, dPr, nApp, nIf, nEnd, sN0, sN1, lendE, frzW, sSetK, dGet, dZipD, dPairD, pMax2, sDD, sND, tNeN, sLock, lockE, odcE, tdE, dttE, tC, tLock, tRet, dGetO, dIdxO, tNinD, sPutO, tDen, sUpd, sCpT, iDtt, dSrtD, sParDt, sParDt3, tCall2, fnT, sNewD, isNd, pAny_mapR]
    rw [← hany]
    cases (keysT kvs).any fun t => decide (c ∈ t) <;> rfl]
  simp only [Nat.reduceSub, Nat.reduceAdd, reduceIte, Tree.bind, liftO, dIdx, sAsgL, sPar4, dV, dC, d1, d2, t1, t2, l0, lC, dL, dT, aV, aE, a0, aC, dCall, dCallK, dIf, tTr, tV, truth, asB, tNot, tAnd, tOr, dAnd, dOr, sSet, sAsg, sPar, sRet, s0, sC, sIf, sX, sOwn, sApp, sFrz, frzE, sFor, outV, fnF, lenIs, ent, small, few, putE, putsE, wipeE, it_l, it_t, iS, iR1, iR2, wEn, wZ2, wZ3, dLc, dLf, dSl, oN, oS, pCut, pSub, cI, bD, pIx, pList, pTup, pLen, pNot, qIsN, qNotN, pIsN, pNotN, List.getElem?_cons_succ, List.getElem?_cons_zero, List.set_cons_succ, List.set_cons_zero, List.length_cons, List.length_nil, List.map_cons, List.map_nil, List.foldr_cons, List.foldr_nil, List.replicate_succ, List.replicate_zero, List.cons_append, List.nil_append, sOPar, sOOPar, dOIx, sNest, sCallP, dOLen, fnP, pC, pFrz, dPr, nApp, nIf, nEnd, sN0, sN1, lendE, frzW, sSetK, dGet, dZipD, dPairD, pMax2, sDD, sND, tNeN, sLock, lockE, odcE, tdE, dttE, tC, tLock, tRet, dGetO, dIdxO, tNinD, sPutO, tDen, sUpd, sCpT, iDtt, dSrtD, sParDt, sParDt3, tCall2, fnT, sNewD, isNd, Nat.reduceLeDiff, L.srt n0 n1 k0 kn hc, ev_law_tables n1 k0 kn, List.length_map, if_pos (show (tbs n k).length ≤ 50000 by omega)]
  rw [pickT_tD (p := fun t => decide (t = tabA n t cs)) (g := id) fun t ht => by
    have e : decide (t ∈ (tbs n k).filter fun u => decide (tabA n u cs = t)) = decide (t = tabA n t cs) := by
      rw [decide_eq_decide, List.mem_filter, decide_eq_true_eq]
      exact ⟨fun h => h.2.symm, fun h => ⟨ht, h.symm⟩⟩
    simp only [Nat.reduceSub, Nat.reduceAdd, reduceIte, Tree.bind, liftO, dIdx, sAsgL, sPar4, dV, dC, d1, d2, t1, t2, l0, lC, dL, dT, aV, aE, a0, aC, dCall, dCallK, dIf, tTr, tV, truth, asB, tNot, tAnd, tOr, dAnd, dOr, sSet, sAsg, sPar, sRet, s0, sC, sIf, sX, sOwn, sApp, sFrz, frzE, sFor, outV, fnF, lenIs, ent, small, few, putE, putsE, wipeE, it_l, it_t, iS, iR1, iR2, wEn, wZ2, wZ3, dLc, dLf, dSl, oN, oS, pCut, pSub, cI, bD, pIx, pList, pTup, pLen, pNot, qIsN, qNotN, pIsN, pNotN, List.getElem?_cons_succ, List.getElem?_cons_zero, List.set_cons_succ, List.set_cons_zero, List.length_cons, List.length_nil, List.map_cons, List.map_nil, List.foldr_cons, List.foldr_nil, List.replicate_succ, List.replicate_zero, List.cons_append, List.nil_append, sOPar, sOOPar, dOIx, sNest, sCallP, dOLen, fnP, pC, pFrz, dPr, nApp, nIf, nEnd, sN0, sN1, lendE, frzW, sSetK, dGet, dZipD, dPairD, pMax2, sDD, sND, tNeN, sLock, lockE, odcE, tdE, dttE, tC, tLock, tRet, dGetO, dIdxO, tNinD, sPutO, tDen, sUpd, sCpT, iDtt, dSrtD, sParDt, sParDt3, tCall2, fnT, sNewD, isNd, asT_tD, L.getD, in_tD, e]
    by_cases h : t = tabA n t cs
    · rw [decide_eq_true h]
      rfl
    · rw [decide_eq_false h]
      rfl]
  simp only [Nat.reduceSub, Nat.reduceAdd, reduceIte, Tree.bind, liftO, dIdx, sAsgL, sPar4, dV, dC, d1, d2, t1, t2, l0, lC, dL, dT, aV, aE, a0, aC, dCall, dCallK, dIf, tTr, tV, truth, asB, tNot, tAnd, tOr, dAnd, dOr, sSet, sAsg, sPar, sRet, s0, sC, sIf, sX, sOwn, sApp, sFrz, frzE, sFor, outV, fnF, lenIs, ent, small, few, putE, putsE, wipeE, it_l, it_t, iS, iR1, iR2, wEn, wZ2, wZ3, dLc, dLf, dSl, oN, oS, pCut, pSub, cI, bD, pIx, pList, pTup, pLen, pNot, qIsN, qNotN, pIsN, pNotN, List.getElem?_cons_succ, List.getElem?_cons_zero, List.set_cons_succ, List.set_cons_zero, List.length_cons, List.length_nil, List.map_cons, List.map_nil, List.foldr_cons, List.foldr_nil, List.replicate_succ, List.replicate_zero, List.cons_append, List.nil_append, sOPar, sOOPar, dOIx, sNest, sCallP, dOLen, fnP, pC, pFrz, dPr, nApp, nIf, nEnd, sN0, sN1, lendE, frzW, sSetK, dGet, dZipD, dPairD, pMax2, sDD, sND, tNeN, sLock, lockE, odcE, tdE, dttE, tC, tLock, tRet, dGetO, dIdxO, tNinD, sPutO, tDen, sUpd, sCpT, iDtt, dSrtD, sParDt, sParDt3, tCall2, fnT, sNewD, isNd, Nat.reduceLeDiff, List.map_id]
  try rfl
theorem ev_law_heard {n k : Nat} {cs : List Int} (n0 : 0 < n) (n1 : n ≤ 7) (k0 : 1 ≤ k) (kn : k < n) (hc : InR n cs) (lc : cs.length ≤ 1000) : m_law_heard [.d (.int (n : Int)), .d (.int (k : Int)), .d (.list (iL cs))] = .ret (.list (due51 n k cs)) := by
  simp only [m_law_heard, b_law_heard, Nat.reduceSub, Nat.reduceAdd, reduceIte, Tree.bind, liftO, dIdx, sAsgL, sPar4, dV, dC, d1, d2, t1, t2, l0, lC, dL, dT, aV, aE, a0, aC, dCall, dCallK, dIf, tTr, tV, truth, asB, tNot, tAnd, tOr, dAnd, dOr, sSet, sAsg, sPar, sRet, s0, sC, sIf, sX, sOwn, sApp, sFrz, frzE, sFor, outV, fnF, lenIs, ent, small, few, putE, putsE, wipeE, it_l, it_t, iS, iR1, iR2, wEn, wZ2, wZ3, dLc, dLf, dSl, oN, oS, pCut, pSub, cI, bD, pIx, pList, pTup, pLen, pNot, qIsN, qNotN, pIsN, pNotN, List.getElem?_cons_succ, List.getElem?_cons_zero, List.set_cons_succ, List.set_cons_zero, List.length_cons, List.length_nil, List.map_cons, List.map_nil, List.foldr_cons, List.foldr_nil, List.replicate_succ, List.replicate_zero, List.cons_append, List.nil_append, sOPar, sOOPar, dOIx, sNest, sCallP, dOLen, fnP, pC, pFrz, dPr, nApp, nIf, nEnd, sN0, sN1, lendE, frzW, sSetK, dGet, dZipD, dPairD, pMax2, sDD, sND, tNeN, sLock, lockE, odcE, tdE, dttE, tC, tLock, tRet, dGetO, dIdxO, tNinD, sPutO, tDen, sUpd, sCpT, iDtt, dSrtD, sParDt, sParDt3, tCall2, fnT, sNewD, isNd, Nat.reduceLeDiff, ev_results_of (it_l (iL cs)) n1 k0 kn hc lc, ev_staying (it_l (iL cs)) n1 k0 kn hc lc, ev_sure_chairs (it_l (iL cs)) n1 k0 kn hc lc, ev_never_chairs (it_l (iL cs)) n1 k0 kn hc lc]
  rfl
def dueLs (n k : Nat) (cs : List Int) : List (List PyData) := [(resL n k cs).map tD, (stayL n k cs).map tD, iL (sureL n k cs), iL (neverL n k cs)]
theorem ev_l_heard {n k : Nat} {cs : List Int} (n0 : 0 < n) (n1 : n ≤ 7) (k0 : 1 ≤ k) (kn : k < n) (hc : InR n cs) (lc : cs.length ≤ 1000) : l_law_heard [.d (.int (n : Int)), .d (.int (k : Int)), .d (.list (iL cs))] = .ret (dueLs n k cs) := by
  simp only [l_law_heard, fnLL, fLl2, olC, ol0, Nat.reduceSub, Nat.reduceAdd, reduceIte, Tree.bind, liftO, dIdx, sAsgL, sPar4, dV, dC, d1, d2, t1, t2, l0, lC, dL, dT, aV, aE, a0, aC, dCall, dCallK, dIf, tTr, tV, truth, asB, tNot, tAnd, tOr, dAnd, dOr, sSet, sAsg, sPar, sRet, s0, sC, sIf, sX, sOwn, sApp, sFrz, frzE, sFor, outV, fnF, lenIs, ent, small, few, putE, putsE, wipeE, it_l, it_t, iS, iR1, iR2, wEn, wZ2, wZ3, dLc, dLf, dSl, oN, oS, pCut, pSub, cI, bD, pIx, pList, pTup, pLen, pNot, qIsN, qNotN, pIsN, pNotN, List.getElem?_cons_succ, List.getElem?_cons_zero, List.set_cons_succ, List.set_cons_zero, List.length_cons, List.length_nil, List.map_cons, List.map_nil, List.foldr_cons, List.foldr_nil, List.replicate_succ, List.replicate_zero, List.cons_append, List.nil_append, sOPar, sOOPar, dOIx, sNest, sCallP, dOLen, fnP, pC, pFrz, dPr, nApp, nIf, nEnd, sN0, sN1, lendE, frzW, sSetK, dGet, dZipD, dPairD, pMax2, sDD, sND, tNeN, sLock, lockE, odcE, tdE, dttE, tC, tLock, tRet, dGetO, dIdxO, tNinD, sPutO, tDen, sUpd, sCpT, iDtt, dSrtD, sParDt, sParDt3, tCall2, fnT, sNewD, isNd, Nat.reduceLeDiff, Nat.reduceLT, ev_results_of (it_l (iL cs)) n1 k0 kn hc lc, ev_staying (it_l (iL cs)) n1 k0 kn hc lc, ev_sure_chairs (it_l (iL cs)) n1 k0 kn hc lc, ev_never_chairs (it_l (iL cs)) n1 k0 kn hc lc]
  rfl
theorem tb7n : ((List.range 8).all fun n => (List.range n).all fun k => decide (k = 0) || !(tbs n k).isEmpty) = true := by decide +kernel
theorem tb_ne {n k : Nat} (n1 : n ≤ 7) (k0 : 1 ≤ k) (kn : k < n) : tbs n k ≠ [] := by
  have h := List.all_eq_true.mp tb7n n (List.mem_range.mpr (by omega))
  have g := List.all_eq_true.mp h k (List.mem_range.mpr kn)
  rw [decide_eq_false (show ¬ k = 0 by omega), Bool.false_or] at g
  intro e
  rw [e] at g
  cases g
theorem rowsT_tD (M : List (List Int)) : rowsT M = M.map tD := rfl
theorem ok_tbs {n k : Nat} (n1 : n ≤ 7) {ts : List (List Int)} (h : ∀ t ∈ ts, t ∈ tbs n k) : okRs (ts.map tD) = true ∧ wdRs (ts.map tD) = (63 * k + 5) * ts.length ∧ dpRs (ts.map tD) ≤ 1 := by
  rw [← rowsT_tD]
  refine ⟨ok_rowsT fun r hr x hx => ?_, wd_rowsT fun r hr => (tbs_mem (h r hr)).2, dp_rowsT _⟩
  have := (tbs_mem (h r hr)).1.mem x hx
  omega
theorem ok_cnt {n : Nat} (n1 : n ≤ 7) {cs : List Int} (h : ∀ c ∈ cs, c ∈ cnt n) (hl : cs.length ≤ n) : okRs (iL cs) = true ∧ wdRs (iL cs) ≤ 441 ∧ dpRs (iL cs) = 0 := by
  refine ⟨ok_iL fun x hx => ?_, by rw [wd_iL]; omega, dp_iL _⟩
  have hm := h x hx
  unfold cnt at hm
  obtain ⟨i, hi, rfl⟩ := List.mem_map.mp hm
  have := List.mem_range.mp hi
  omega
theorem cnt_lenD (n : Nat) : (cnt n).length = n := by
  unfold cnt
  rw [List.length_map, List.length_range]
theorem due51_ok {n k : Nat} {cs : List Int} (n0 : 0 < n) (n1 : n ≤ 7) (k0 : 1 ≤ k) (kn : k < n) (hc : InR n cs) : okRs (due51 n k cs) = true ∧ wdRs (due51 n k cs) ≤ 100000 ∧ dpRs (due51 n k cs) ≤ 2 := by
  obtain ⟨_, o2, _⟩ := tb_ok (n := n) n1 k0 kn
  have r1 := resL_len (n := n) (k := k) (cs := cs)
  have r2 : (stayL n k cs).length ≤ (tbs n k).length := List.length_filter_le _ _
  have r3 : (sureL n k cs).length ≤ n := by have := List.length_filter_le (fun c => (resL n k cs).all fun t => decide (c ∈ t)) (cnt n); rw [cnt_lenD] at this; exact this
  have r4 : (neverL n k cs).length ≤ n := by have := List.length_filter_le (fun c => (resL n k cs).all fun t => !decide (c ∈ t)) (cnt n); rw [cnt_lenD] at this; exact this
  obtain ⟨a1, a2, a3⟩ := ok_tbs n1 (ts := resL n k cs) fun t ht => resL_tbs n0 k0 hc ht
  obtain ⟨b1, b2, b3⟩ := ok_tbs n1 (ts := stayL n k cs) fun t ht => (stayL_mem.mp ht).1
  obtain ⟨c1, c2, c3⟩ := ok_cnt n1 (cs := sureL n k cs) (fun c h => (List.mem_filter.mp h).1) r3
  obtain ⟨d1, d2, d3⟩ := ok_cnt n1 (cs := neverL n k cs) (fun c h => (List.mem_filter.mp h).1) r4
  have e1 : (63 * k + 5) * (resL n k cs).length ≤ 446 * 62 := Nat.mul_le_mul (by omega) (by omega)
  have e2 : (63 * k + 5) * (stayL n k cs).length ≤ 446 * 62 := Nat.mul_le_mul (by omega) (by omega)
  unfold due51
  refine ⟨?_, ?_, ?_⟩
  · simp only [okRs, okR, a1, b1, c1, d1, Bool.and_self]
  · simp only [wdRs, wdR, a2, b2]
    omega
  · simp only [dpRs, dpR, c3, d3]
    omega
theorem same51 {a b : PyData} {xs : List PyData} (ea : a = .list [.list xs, .list xs]) (eb : b = a) (h1 : okRs xs = true) (h2 : wdRs xs ≤ 1000000) (h3 : dpRs xs ≤ 20) : m_law_same [.d a, .d b] = .ret (.bool true) := by
  refine ev_law_same ?_ eb.symm
  subst ea
  refine shwB_mk rfl ?_ ?_ ?_
  · simp only [okRs, okR, h1, Bool.and_self]
  · simp only [dpRs, dpR]
    omega
  · simp only [wdRs, wdR]
    omega
theorem same51a {a b : PyData} {xs : List PyData} (ea : a = .list xs) (eb : b = a) (h1 : okRs xs = true) (h2 : wdRs xs ≤ 1000000) (h3 : dpRs xs ≤ 20) : m_law_same [.d a, .d b] = .ret (.bool true) := by
  refine ev_law_same ?_ eb.symm
  subst ea
  refine shwB_mk rfl ?_ ?_ ?_
  · simp only [okR, h1]
  · simp only [dpR]
    omega
  · simp only [wdR]
    omega
theorem right_ok : (m_law_right [.bx]).All fun d => d = .bool true := by
  simp only [m_law_right, b_law_right, Nat.reduceSub, Nat.reduceAdd, reduceIte, Tree.bind, liftO, dIdx, sAsgL, sPar4, dV, dC, d1, d2, t1, t2, l0, lC, dL, dT, aV, aE, a0, aC, dCall, dCallK, dIf, tTr, tV, truth, asB, tNot, tAnd, tOr, dAnd, dOr, sSet, sAsg, sPar, sRet, s0, sC, sIf, sX, sOwn, sApp, sFrz, frzE, sFor, outV, fnF, lenIs, ent, small, few, putE, putsE, wipeE, it_l, it_t, iS, iR1, iR2, wEn, wZ2, wZ3, dLc, dLf, dSl, oN, oS, pCut, pSub, cI, bD, pIx, pList, pTup, pLen, pNot, qIsN, qNotN, pIsN, pNotN, List.getElem?_cons_succ, List.getElem?_cons_zero, List.set_cons_succ, List.set_cons_zero, List.length_cons, List.length_nil, List.map_cons, List.map_nil, List.foldr_cons, List.foldr_nil, List.replicate_succ, List.replicate_zero, List.cons_append, List.nil_append, sOPar, sOOPar, dOIx, sNest, sCallP, dOLen, fnP, pC, pFrz, dPr, nApp, nIf, nEnd, sN0, sN1, lendE, frzW, sSetK, dGet, dZipD, dPairD, pMax2, sDD, sND, tNeN, sLock, lockE, odcE, tdE, dttE, tC, tLock, tRet, dGetO, dIdxO, tNinD, sPutO, tDen, sUpd, sCpT, iDtt, dSrtD, sParDt, sParDt3, tCall2, fnT, sNewD, isNd, all_bindE, all_retE, Nat.reduceLeDiff]
  refine all_law_span (m := 7) (by decide) (by decide) fun n n0 n1 => ?_
  simp only [Nat.reduceSub, Nat.reduceAdd, reduceIte, Tree.bind, liftO, dIdx, sAsgL, sPar4, dV, dC, d1, d2, t1, t2, l0, lC, dL, dT, aV, aE, a0, aC, dCall, dCallK, dIf, tTr, tV, truth, asB, tNot, tAnd, tOr, dAnd, dOr, sSet, sAsg, sPar, sRet, s0, sC, sIf, sX, sOwn, sApp, sFrz, frzE, sFor, outV, fnF, lenIs, ent, small, few, putE, putsE, wipeE, it_l, it_t, iS, iR1, iR2, wEn, wZ2, wZ3, dLc, dLf, dSl, oN, oS, pCut, pSub, cI, bD, pIx, pList, pTup, pLen, pNot, qIsN, qNotN, pIsN, pNotN, List.getElem?_cons_succ, List.getElem?_cons_zero, List.set_cons_succ, List.set_cons_zero, List.length_cons, List.length_nil, List.map_cons, List.map_nil, List.foldr_cons, List.foldr_nil, List.replicate_succ, List.replicate_zero, List.cons_append, List.nil_append, sOPar, sOOPar, dOIx, sNest, sCallP, dOLen, fnP, pC, pFrz, dPr, nApp, nIf, nEnd, sN0, sN1, lendE, frzW, sSetK, dGet, dZipD, dPairD, pMax2, sDD, sND, tNeN, sLock, lockE, odcE, tdE, dttE, tC, tLock, tRet, dGetO, dIdxO, tNinD, sPutO, tDen, sUpd, sCpT, iDtt, dSrtD, sParDt, sParDt3, tCall2, fnT, sNewD, isNd, all_bindE, all_retE, Nat.reduceLeDiff]
  refine all_take (by omega) (by omega) fun r r0 r1 => ?_
  obtain ⟨k, hk⟩ : ∃ k : Nat, (1 : Int) + r = (k : Int) := ⟨(1 + r).toNat, by omega⟩
  simp only [Nat.reduceSub, Nat.reduceAdd, reduceIte, Tree.bind, liftO, dIdx, sAsgL, sPar4, dV, dC, d1, d2, t1, t2, l0, lC, dL, dT, aV, aE, a0, aC, dCall, dCallK, dIf, tTr, tV, truth, asB, tNot, tAnd, tOr, dAnd, dOr, sSet, sAsg, sPar, sRet, s0, sC, sIf, sX, sOwn, sApp, sFrz, frzE, sFor, outV, fnF, lenIs, ent, small, few, putE, putsE, wipeE, it_l, it_t, iS, iR1, iR2, wEn, wZ2, wZ3, dLc, dLf, dSl, oN, oS, pCut, pSub, cI, bD, pIx, pList, pTup, pLen, pNot, qIsN, qNotN, pIsN, pNotN, List.getElem?_cons_succ, List.getElem?_cons_zero, List.set_cons_succ, List.set_cons_zero, List.length_cons, List.length_nil, List.map_cons, List.map_nil, List.foldr_cons, List.foldr_nil, List.replicate_succ, List.replicate_zero, List.cons_append, List.nil_append, sOPar, sOOPar, dOIx, sNest, sCallP, dOLen, fnP, pC, pFrz, dPr, nApp, nIf, nEnd, sN0, sN1, lendE, frzW, sSetK, dGet, dZipD, dPairD, pMax2, sDD, sND, tNeN, sLock, lockE, odcE, tdE, dttE, tC, tLock, tRet, dGetO, dIdxO, tNinD, sPutO, tDen, sUpd, sCpT, iDtt, dSrtD, sParDt, sParDt3, tCall2, fnT, sNewD, isNd, all_bindE, all_retE, Nat.reduceLeDiff, pAdd_ii, hk]
  refine all_law_tour (m := 12) (by omega) (by omega) (by decide) fun cs hc lc => ?_
  have n0' : 0 < n := by omega
  have k0 : 1 ≤ k := by omega
  have kn : k < n := by omega
  have lc' : cs.length ≤ 1000 := by omega
  obtain ⟨_, o2, nd⟩ := tb_ok (n := n) n1 k0 kn
  obtain ⟨kvs, L, hL⟩ := ev_law_lots n0' n1 k0 kn hc
  obtain ⟨w1, w2, w3⟩ := due51_ok n0' n1 k0 kn hc
  have r1 := resL_len (n := n) (k := k) (cs := cs)
  have r2 : (stayL n k cs).length ≤ (tbs n k).length := List.length_filter_le _ _
  have r3 : (sureL n k cs).length ≤ n := by have := List.length_filter_le (fun c => (resL n k cs).all fun t => decide (c ∈ t)) (cnt n); rw [cnt_lenD] at this; exact this
  have r4 : (neverL n k cs).length ≤ n := by have := List.length_filter_le (fun c => (resL n k cs).all fun t => !decide (c ∈ t)) (cnt n); rw [cnt_lenD] at this; exact this
  have hall : (dueLs n k cs).all (fun l => decide (l.length ≤ 99999)) = true := by
    unfold dueLs
    simp only [List.all_cons, List.all_nil, List.length_map, iL_len, Bool.and_true, decide_eq_true (show (resL n k cs).length ≤ 99999 by omega), decide_eq_true (show (stayL n k cs).length ≤ 99999 by omega), decide_eq_true (show (sureL n k cs).length ≤ 99999 by omega), decide_eq_true (show (neverL n k cs).length ≤ 99999 by omega), Bool.and_self]
  have s1 : m_law_same [.d (.list [.list ((dueLs n k cs).map .list), .list [.list ((resL n k cs).map tD), .list ((stayL n k cs).map tD), .list (iL (sureL n k cs)), .list (iL (neverL n k cs))]]), .d (.list [.list (due51 n k cs), .list (due51 n k cs)])] = .ret (.bool true) := same51 (xs := due51 n k cs) rfl rfl w1 (by omega) (by omega)
  have s2 : m_law_same [.d (.list (due51 n k cs)), .d (.list (due51 n k cs))] = .ret (.bool true) := same51a rfl rfl w1 (by omega) (by omega)
  simp only [Nat.reduceSub, Nat.reduceAdd, reduceIte, Tree.bind, liftO, dIdx, sAsgL, sPar4, dV, dC, d1, d2, t1, t2, l0, lC, dL, dT, aV, aE, a0, aC, dCall, dCallK, dIf, tTr, tV, truth, asB, tNot, tAnd, tOr, dAnd, dOr, sSet, sAsg, sPar, sRet, s0, sC, sIf, sX, sOwn, sApp, sFrz, frzE, sFor, outV, fnF, lenIs, ent, small, few, putE, putsE, wipeE, it_l, it_t, iS, iR1, iR2, wEn, wZ2, wZ3, dLc, dLf, dSl, oN, oS, pCut, pSub, cI, bD, pIx, pList, pTup, pLen, pNot, qIsN, qNotN, pIsN, pNotN, List.getElem?_cons_succ, List.getElem?_cons_zero, List.set_cons_succ, List.set_cons_zero, List.length_cons, List.length_nil, List.map_cons, List.map_nil, List.foldr_cons, List.foldr_nil, List.replicate_succ, List.replicate_zero, List.cons_append, List.nil_append, sOPar, sOOPar, dOIx, sNest, sCallP, dOLen, fnP, pC, pFrz, dPr, nApp, nIf, nEnd, sN0, sN1, lendE, frzW, sSetK, dGet, dZipD, dPairD, pMax2, sDD, sND, tNeN, sLock, lockE, odcE, tdE, dttE, tC, tLock, tRet, dGetO, dIdxO, tNinD, sPutO, tDen, sUpd, sCpT, iDtt, dSrtD, sParDt, sParDt3, tCall2, fnT, sNewD, isNd, all_bindE, all_retE, Nat.reduceLeDiff, hL, it_l, ev_law_due n0' n1 k0 kn hc L, sLl, Nat.reduceLT, ev_l_heard n0' n1 k0 kn hc lc', aOwn, aApp, aIf, aEnd, ev_results_of (it_t (iL cs)) n1 k0 kn hc lc', ev_staying (it_t (iL cs)) n1 k0 kn hc lc', ev_sure_chairs (it_t (iL cs)) n1 k0 kn hc lc', ev_never_chairs (it_t (iL cs)) n1 k0 kn hc lc', pick, List.filterMap_cons, List.filterMap_nil, s1, hall, Bool.not_true, ev_law_heard n0' n1 k0 kn hc lc', s2, ev_law_tables n1 k0 kn]
  have beg : ∀ t ∈ tbs n k, ((begL n k cs t).map tD).length ≤ 62 ∧ m_law_same [.d (.list [.list ((begL n k cs t).map tD), .list ((begL n k cs t).map tD)]), .d (.list [.list ((begL n k cs t).map tD), .list ((begL n k cs t).map tD)])] = .ret (.bool true) ∧ m_law_same [.d (.list ((begL n k cs t).map tD)), .d (.list ((begL n k cs t).map tD))] = .ret (.bool true) := fun t ht => by
    have z : (begL n k cs t).length ≤ (tbs n k).length := List.length_filter_le _ _
    obtain ⟨a1, a2, a3⟩ := ok_tbs n1 (ts := begL n k cs t) fun u hu => (begL_mem.mp hu).1
    have e1 : (63 * k + 5) * (begL n k cs t).length ≤ 446 * 62 := Nat.mul_le_mul (by omega) (by omega)
    refine ⟨by rw [List.length_map]; omega, same51 rfl rfl a1 (by omega) (by omega), same51a rfl rfl a1 (by omega) (by omega)⟩
  refine forT_then (C := fun t => t.All _) (P := fun o => ∃ x3 x6 x11 x12, o = .nx [some .bx, some (.d (.int (n : Int))), some (.d (.list (due51 n k cs))), x3, some (.own [.list ((resL n k cs).map tD), .list ((stayL n k cs).map tD), .list (iL (sureL n k cs)), .list (iL (neverL n k cs))]), none, x6, some (.d (.int (k : Int))), some (.d (.list (iL cs))), some (.dtt kvs), some (.d (.list (iL cs))), x11, x12])
    (fun i E => ∃ x3 x6 x11 x12, E = [some .bx, some (.d (.int (n : Int))), some (.d (.list (due51 n k cs))), x3, some (.own [.list ((resL n k cs).map tD), .list ((stayL n k cs).map tD), .list (iL (sureL n k cs)), .list (iL (neverL n k cs))]), none, x6, some (.d (.int (k : Int))), some (.d (.list (iL cs))), some (.dtt kvs), some (.d (.list (iL cs))), x11, x12]) ⟨_, _, _, _, rfl⟩ (fun i x E hx hI => ?_) (fun E hI => hI.imp fun x3 h => h.imp fun x6 h => h.imp fun x11 h => h.imp fun x12 h => by rw [h]) fun o ho => ?_
  · obtain ⟨x3, x6, x11, x12, rfl⟩ := hI
    obtain ⟨t, ht, rfl⟩ := tDs_at hx
    have htm := List.mem_of_getElem? ht
    obtain ⟨b1, b2, _⟩ := beg t htm
    have htl := (tbs_mem htm).2
    have hB1 := ev_beginnings_of (it_t (iL t)) htl (it_l (iL cs)) n1 k0 kn hc lc'
    have hB2 := ev_beginnings_of (it_l (iL t)) htl (it_t (iL cs)) n1 k0 kn hc lc'
    have hne : pNe (.list (iL t)) (.list (iL t)) = some false := pNe_self (by simp only [okR]; exact ok_iL fun x hx => by have := (tbs_mem htm).1.mem x hx; omega) (by simp only [dpR, dp_iL]; omega) rfl
    have hg : (lookT kvs t).getD (.list []) = .list ((begL n k cs t).map tD) := L.getD t
    refine ⟨_, rfl, ?_⟩
    simp only [show ∀ t, PyData.tuple (iL t) = tD t from fun _ => rfl] at hB1
    have hit : items (tD t) = some (iL t) := rfl
    simp only [Nat.reduceSub, Nat.reduceAdd, reduceIte, Tree.bind, liftO, dIdx, sAsgL, sPar4, dV, dC, d1, d2, t1, t2, l0, lC, dL, dT, aV, aE, a0, aC, dCall, dCallK, dIf, tTr, tV, truth, asB, tNot, tAnd, tOr, dAnd, dOr, sSet, sAsg, sPar, sRet, s0, sC, sIf, sX, sOwn, sApp, sFrz, frzE, sFor, outV, fnF, lenIs, ent, small, few, putE, putsE, wipeE, it_l, it_t, iS, iR1, iR2, wEn, wZ2, wZ3, dLc, dLf, dSl, oN, oS, pCut, pSub, cI, bD, pIx, pList, pTup, pLen, pNot, qIsN, qNotN, pIsN, pNotN, List.getElem?_cons_succ, List.getElem?_cons_zero, List.set_cons_succ, List.set_cons_zero, List.length_cons, List.length_nil, List.map_cons, List.map_nil, List.foldr_cons, List.foldr_nil, List.replicate_succ, List.replicate_zero, List.cons_append, List.nil_append, sOPar, sOOPar, dOIx, sNest, sCallP, dOLen, fnP, pC, pFrz, dPr, nApp, nIf, nEnd, sN0, sN1, lendE, frzW, sSetK, dGet, dZipD, dPairD, pMax2, sDD, sND, tNeN, sLock, lockE, odcE, tdE, dttE, tC, tLock, tRet, dGetO, dIdxO, tNinD, sPutO, tDen, sUpd, sCpT, iDtt, dSrtD, sParDt, sParDt3, tCall2, fnT, sNewD, isNd, Nat.reduceLeDiff, Nat.reduceLT, hit, asT_tD, hg, hB1, hB2, it_l, pick, List.filterMap_cons, List.filterMap_nil, b2, hne, Bool.not_true]
    rw [if_pos (show ((begL n k cs t).map tD).length ≤ 99999 by omega)]
    exact ⟨_, rfl, _, _, _, _, rfl⟩
  · obtain ⟨x3, x6, x11, x12, rfl⟩ := ho
    have hix : atI ((due51 n k cs)) 0 = some (.list ((resL n k cs).map tD)) := rfl
    have hne : (resL n k cs) ≠ [] := fun h => by
      obtain ⟨t, ht⟩ := List.exists_mem_of_ne_nil _ (tb_ne n1 k0 kn)
      have : tabA n t cs ∈ resL n k cs := resL_mem.mpr ⟨t, ht, rfl⟩
      rw [h] at this
      cases this
    simp only [Nat.reduceSub, Nat.reduceAdd, reduceIte, Tree.bind, liftO, dIdx, sAsgL, sPar4, dV, dC, d1, d2, t1, t2, l0, lC, dL, dT, aV, aE, a0, aC, dCall, dCallK, dIf, tTr, tV, truth, asB, tNot, tAnd, tOr, dAnd, dOr, sSet, sAsg, sPar, sRet, s0, sC, sIf, sX, sOwn, sApp, sFrz, frzE, sFor, outV, fnF, lenIs, ent, small, few, putE, putsE, wipeE, it_l, it_t, iS, iR1, iR2, wEn, wZ2, wZ3, dLc, dLf, dSl, oN, oS, pCut, pSub, cI, bD, pIx, pList, pTup, pLen, pNot, qIsN, qNotN, pIsN, pNotN, List.getElem?_cons_succ, List.getElem?_cons_zero, List.set_cons_succ, List.set_cons_zero, List.length_cons, List.length_nil, List.map_cons, List.map_nil, List.foldr_cons, List.foldr_nil, List.replicate_succ, List.replicate_zero, List.cons_append, List.nil_append, sOPar, sOOPar, dOIx, sNest, sCallP, dOLen, fnP, pC, pFrz, dPr, nApp, nIf, nEnd, sN0, sN1, lendE, frzW, sSetK, dGet, dZipD, dPairD, pMax2, sDD, sND, tNeN, sLock, lockE, odcE, tdE, dttE, tC, tLock, tRet, dGetO, dIdxO, tNinD, sPutO, tDen, sUpd, sCpT, iDtt, dSrtD, sParDt, sParDt3, tCall2, fnT, sNewD, isNd, all_bindE, all_retE, Nat.reduceLeDiff, it_l, hix]
    refine all_law_of (by simpa using hne) (by rw [List.length_map]; omega) fun d hd => ?_
    obtain ⟨e, he, rfl⟩ := List.mem_map.mp hd
    have het := resL_tbs n0' k0 hc he
    obtain ⟨b1, b2, b3⟩ := beg e het
    have hB1 := ev_beginnings_of (it_t (iL e)) (tbs_mem het).2 (it_l (iL cs)) n1 k0 kn hc lc'
    simp only [show ∀ t, PyData.tuple (iL t) = tD t from fun _ => rfl] at hB1
    have hg : lookT kvs e = some (.list ((begL n k cs e).map tD)) := by
      rw [L.look, if_pos (show e ∈ kvs.map (·.1) from (L.res e).mpr he)]
      rfl
    have hcc : pEq (.list (iL cs)) (.list (iL cs)) = some true := pEq_self (by simp only [okR]; exact ok_iL fun x hx => by have := hc x hx; omega) (by simp only [dpR, dp_iL]; omega) rfl
    simp only [Nat.reduceSub, Nat.reduceAdd, reduceIte, Tree.bind, liftO, dIdx, sAsgL, sPar4, dV, dC, d1, d2, t1, t2, l0, lC, dL, dT, aV, aE, a0, aC, dCall, dCallK, dIf, tTr, tV, truth, asB, tNot, tAnd, tOr, dAnd, dOr, sSet, sAsg, sPar, sRet, s0, sC, sIf, sX, sOwn, sApp, sFrz, frzE, sFor, outV, fnF, lenIs, ent, small, few, putE, putsE, wipeE, it_l, it_t, iS, iR1, iR2, wEn, wZ2, wZ3, dLc, dLf, dSl, oN, oS, pCut, pSub, cI, bD, pIx, pList, pTup, pLen, pNot, qIsN, qNotN, pIsN, pNotN, List.getElem?_cons_succ, List.getElem?_cons_zero, List.set_cons_succ, List.set_cons_zero, List.length_cons, List.length_nil, List.map_cons, List.map_nil, List.foldr_cons, List.foldr_nil, List.replicate_succ, List.replicate_zero, List.cons_append, List.nil_append, sOPar, sOOPar, dOIx, sNest, sCallP, dOLen, fnP, pC, pFrz, dPr, nApp, nIf, nEnd, sN0, sN1, lendE, frzW, sSetK, dGet, dZipD, dPairD, pMax2, sDD, sND, tNeN, sLock, lockE, odcE, tdE, dttE, tC, tLock, tRet, dGetO, dIdxO, tNinD, sPutO, tDen, sUpd, sCpT, iDtt, dSrtD, sParDt, sParDt3, tCall2, fnT, sNewD, isNd, all_bindE, all_retE, Nat.reduceLeDiff, asT_tD, hB1, hg, b3, hcc]
end Nx
namespace Nx
open PySem PySem.Spec PyProof.Rows L2
def topS (i : Nat) : Stmt := PySem.Challenge.pw_nextstands_k51_results_gone_through.main.body.getD i (.Pass ⟨0, 0, 0, 0⟩)
abbrev s_mover : Stmt := topS 1
abbrev s_seats_called : Stmt := topS 2
abbrev s_seats_along : Stmt := topS 3
abbrev s_as_table : Stmt := topS 4
abbrev s_steps : Stmt := topS 5
abbrev s_pack_seats : Stmt := topS 7
abbrev s_moves_of : Stmt := topS 8
abbrev s_steps_of_one : Stmt := topS 9
abbrev s_steps_by : Stmt := topS 10
abbrev s_table_by : Stmt := topS 11
abbrev s_all_tables : Stmt := topS 13
abbrev s_all_led : Stmt := topS 14
abbrev s_results_of : Stmt := topS 15
abbrev s_beginnings_of : Stmt := topS 16
abbrev s_staying : Stmt := topS 17
abbrev s_sure_chairs : Stmt := topS 18
abbrev s_never_chairs : Stmt := topS 19
abbrev s_law_box : Stmt := topS 21
abbrev s_law_take : Stmt := topS 22
abbrev s_law_cells : Stmt := topS 23
abbrev s_law_of : Stmt := topS 24
abbrev s_law_same : Stmt := topS 25
abbrev s_law_span : Stmt := topS 26
abbrev s_law_tour : Stmt := topS 27
abbrev s_law_pushed : Stmt := topS 28
abbrev s_law_walked : Stmt := topS 29
abbrev s_law_table : Stmt := topS 30
abbrev s_law_after : Stmt := topS 31
abbrev s_law_tables : Stmt := topS 32
abbrev s_law_lots : Stmt := topS 33
abbrev s_law_due : Stmt := topS 34
abbrev s_law_heard : Stmt := topS 35
abbrev s_law_right : Stmt := topS 36
abbrev s_law : Stmt := topS 37
section
variable {P : Program} {w : World} {K : PySem.W.Frag} {mg : Str → Option Value} {base : Heap}
theorem sc_law_take : FnScope ["_law_box_here", "_law_below", "_law_blend", "_law_found"] ["_law_box_here", "_law_below"] (defScope s_law_take) := ⟨rfl, rfl, rfl, by decide +kernel, rfl, by decide +kernel, by decide +kernel⟩
def c_law_take : Ct := fun os μ Φ => ∃ b n p q t, os = [.own b, .im (.int n)] ∧ μ b = some (bx p q t) ∧ 0 < n ∧ n < 4611686018427387904 ∧ ∀ r p' t', 0 ≤ r → r < n → Φ (.im (.int r)) (μ.put b (bx p' q t'))
theorem f_law_take {f : Addr} {fd : FuncData} (F : Fun K "_law_take" "_law_take" s_law_take f fd) (hm : mg "_law_take" = some (.ref f)) : Fc P w K mg base "_law_take" s_law_take ["_law_box_here", "_law_below"] 1 c_law_take := by
  have sc := sc_law_take
  refine fc_of F hm sc (fun os μ Φ h => ?_) fun cdv A outer s H E os μ Φ hr h => ?_
  · obtain ⟨b, n, p, q, t, rfl, _⟩ := h
    rfl
  · obtain ⟨b, n, p, q, t, rfl, hb, n0, n1, k⟩ := h
    refine dss_cons (ds_if (dt_gt (de_ix (fun _ _ => rfl) (de_var 0 rfl (.inl rfl) rfl (de_int ⟨_, _, _, .own hb, rfl, rfl, de_int ⟨_, _, rfl, rfl, ?_⟩⟩)))))
    by_cases hp : 0 < p
    · rw [if_pos (decide_eq_true hp)]
      refine dss_cons (ds_set 3 sc.nd rfl (.inl rfl) (de_mod (de_ix (fun _ _ => rfl) (de_var 0 rfl (.inl rfl) rfl (de_int ⟨_, _, _, .own hb, rfl, rfl, de_var 1 rfl (.inl rfl) rfl ⟨_, _, rfl, rfl, n0, ?_⟩⟩)))))
      refine dss_cons (ds_sub (de_fdivW (de_ix (fun _ _ => rfl) (de_var 0 rfl (.inl rfl) rfl (de_int ⟨_, _, _, .own hb, rfl, rfl, de_var 1 rfl (.inl rfl) rfl ⟨_, _, rfl, rfl, wide_div (b := 62) n0 (by omega) (by decide) (by decide), de_var 0 rfl (.inl rfl) rfl (de_int ⟨_, _, _, _, rfl, rfl, hb, rfl, ?_⟩)⟩⟩)))) (hsub := pg_sub pwe pwe set_list))
      refine dss_one (ds_ret (de_var 3 rfl (.inl rfl) rfl ?_))
      exact k _ _ _ (Int.emod_nonneg _ (by omega)) (Int.emod_lt_of_pos _ n0)
    · rw [if_neg (by simpa using hp)]
      refine dss_nil ?_
      refine dss_cons (ds_sub (de_add (de_ix (fun _ _ => rfl) (de_var 0 rfl (.inl rfl) rfl (de_int ⟨_, _, _, .own hb, rfl, rfl, de_int (.inl ⟨_, _, rfl, rfl, de_var 0 rfl (.inl rfl) rfl (de_int ⟨_, _, _, _, rfl, rfl, hb, rfl, ?_⟩)⟩)⟩)))) (hsub := pg_sub pwe pwe set_list))
      refine dss_cons (ds_set 2 sc.nd rfl (.inl rfl) (de_mod (de_add (de_ix (fun _ _ => rfl) (de_var 0 rfl (.inl rfl) rfl (de_int ⟨_, _, _, .own put_same, rfl, rfl, de_mul (de_int (de_ix (fun _ _ => rfl) (de_var 0 rfl (.inl rfl) rfl (de_int ⟨_, _, _, .own put_same, rfl, rfl, ⟨_, _, rfl, rfl, .inl ⟨by decide, by decide⟩, .inl ⟨_, _, rfl, rfl, de_int ⟨_, _, rfl, rfl, by decide, ?_⟩⟩⟩⟩))))⟩))))))
      generalize hm1 : (q + 1442695040888963407 * (t + 1)) % 2305843009213693951 = m1
      have a1 := Int.emod_nonneg (q + 1442695040888963407 * (t + 1)) (show (2305843009213693951 : Int) ≠ 0 by decide)
      have a2 := Int.emod_lt_of_pos (q + 1442695040888963407 * (t + 1)) (show (0 : Int) < 2305843009213693951 by decide)
      rw [hm1] at a1 a2
      refine dss_cons (ds_set 2 sc.nd rfl (.inl rfl) (de_mod (de_add (de_add (de_mul (de_var 2 rfl (.inl rfl) rfl (de_var 2 rfl (.inl rfl) rfl ⟨_, _, rfl, rfl, .inl ⟨by omega, by omega⟩, de_mul (de_int (de_ix (fun _ _ => rfl) (de_var 0 rfl (.inl rfl) rfl (de_int ⟨_, _, _, .own put_same, rfl, rfl, ⟨_, _, rfl, rfl, .inl ⟨by decide, by decide⟩, .inl ⟨_, _, rfl, rfl, de_int (.inl ⟨_, _, rfl, rfl, de_int ⟨_, _, rfl, rfl, by decide, ?_⟩⟩)⟩⟩⟩))))⟩)))))))
      generalize hm2 : (m1 * m1 + 39373 * (t + 1) + 7) % 2305843009213693921 = m2
      have a3 := Int.emod_nonneg (m1 * m1 + 39373 * (t + 1) + 7) (show (2305843009213693921 : Int) ≠ 0 by decide)
      have a4 := Int.emod_lt_of_pos (m1 * m1 + 39373 * (t + 1) + 7) (show (0 : Int) < 2305843009213693921 by decide)
      rw [hm2] at a3 a4
      refine dss_cons (ds_set 2 sc.nd rfl (.inl rfl) (de_mod (de_add (de_mul (de_var 2 rfl (.inl rfl) rfl (de_add (de_fdiv (de_var 2 rfl (.inl rfl) rfl (de_int ⟨_, _, rfl, rfl, ⟨by decide, by decide⟩, de_int (.inl ⟨_, _, rfl, rfl, ⟨_, _, rfl, rfl, .inl ⟨by omega, by omega⟩, de_ix (fun _ _ => rfl) (de_var 0 rfl (.inl rfl) rfl (de_int ⟨_, _, _, .own put_same, rfl, rfl, .inl ⟨_, _, rfl, rfl, de_int ⟨_, _, rfl, rfl, by decide, ?_⟩⟩⟩))⟩⟩)⟩)))))))))
      refine dss_one (ds_ret (de_mod (de_fdiv (de_var 2 rfl (.inl rfl) rfl (de_int ⟨_, _, rfl, rfl, ⟨by decide, by decide⟩, de_var 1 rfl (.inl rfl) rfl ⟨_, _, rfl, rfl, n0, ?_⟩⟩)))))
      exact k _ _ _ (Int.emod_nonneg _ (by omega)) (Int.emod_lt_of_pos _ n0)
abbrev N_mover : List Str := ["size", "table", "chair", "person", "nearest", "number", "seat", "distance"]
theorem sc_mover : FnScope N_mover ["size", "table", "chair"] (defScope s_mover) := ⟨rfl, rfl, rfl, by decide +kernel, rfl, by decide +kernel, by decide +kernel⟩
theorem f_mover (B : Bt mg)    {f : Addr} {fd : FuncData} (F : Fun K "mover" "mover" s_mover f fd) (hm : mg "mover" = some (.ref f)) : Fc P w K mg base "mover" s_mover ["size", "table", "chair"] 1 (cF (m_mover)) := by
  have sc := sc_mover
  refine fc_body (k := 0) (b_mover) (m := m_mover) (by unfold m_mover; rfl) F hm sc rfl rfl fun b cdv A outer s H E hr => ?_
  exact (ss_cons (ss_set 3 sc.nd rfl (.inl rfl) se_non) (ss_cons (ss_set 4 sc.nd rfl (.inl rfl) (se_v 0 rfl (.inl rfl))) (ss_cons (ss_for (.tp [5, 6]) PassesOwn.never rfl (pg_tup rfl (pgs_cons (pg_name (i := 5) sc.nd rfl (.inl rfl)) (pgs_cons (pg_name (i := 6) sc.nd rfl (.inl rfl)) pgs_nil))) (si_en B rfl (se_v 1 rfl (.inl rfl))) (ss_cons (ss_set 7 sc.nd rfl (.inl rfl) (se_mod (se_sub (se_v 6 rfl (.inl rfl)) (se_v 2 rfl (.inl rfl))) (se_v 0 rfl (.inl rfl)))) (ss_one (ss_if (st_cmp op_lt (nomark _) okI (se_v 7 rfl (.inl rfl)) (se_v 4 rfl (.inl rfl))) (ss_cons (ss_set 3 sc.nd rfl (.inl rfl) (se_v 5 rfl (.inl rfl))) (ss_one (ss_set 4 sc.nd rfl (.inl rfl) (se_v 7 rfl (.inl rfl))))) ss_nil)))) (ss_one (ss_ret (se_if (st_cmp ((op_eqI.or (op_eqD hr.room.units)).or op_eq) (nomark _) ok_eq (se_v 4 rfl (.inl rfl)) se_int) se_non (se_v 3 rfl (.inl rfl))))))))
abbrev N_seats_called : List Str := ["size", "seats", "chair", "person", "number", "seat"]
theorem sc_seats_called : FnScope N_seats_called ["size", "seats", "chair"] (defScope s_seats_called) := ⟨rfl, rfl, rfl, by decide +kernel, rfl, by decide +kernel, by decide +kernel⟩
theorem f_seats_called (B : Bt mg) (F_mover : Fc P w K mg base "mover" s_mover ["size", "table", "chair"] 1 (cF m_mover))   {f : Addr} {fd : FuncData} (F : Fun K "seats_called" "seats_called" s_seats_called f fd) (hm : mg "seats_called" = some (.ref f)) : Fc P w K mg base "seats_called" s_seats_called ["size", "seats", "chair"] 2 (cF (m_seats_called)) := by
  have sc := sc_seats_called
  refine fc_body (k := 1) (b_seats_called) (m := m_seats_called) (by unfold m_seats_called; rfl) F hm sc rfl rfl fun b cdv A outer s H E hr => ?_
  exact (ss_cons (ss_set 3 sc.nd rfl (.inr rfl) (se_call F_mover (hr.mono (by decide)) rfl (fun _ _ _ _ _ _ us hl => match us, hl with | [_, _, _], _ => rfl) (sa_cons (sv_v 0 rfl (.inl rfl)) (sa_cons (sv_v 1 rfl (.inl rfl)) (sa_cons (sv_v 2 rfl (.inr (.inl rfl))) sa_nil))))) (ss_one (ss_ret (se_lc (own := [("number", 4), ("seat", 5)]) (.tp [4, 5]) rfl sc.nd (blkOk_by (N := N_seats_called) (sc := defScope s_seats_called) (by decide +kernel)) (by decide) (fun _ _ _ _ _ => pg_tup rfl (pgs_cons (pg_name (i := 4) sc.nd rfl (by first | exact .inl rfl | exact .inr rfl)) (pgs_cons (pg_name (i := 5) sc.nd rfl (by first | exact .inl rfl | exact .inr rfl)) pgs_nil))) (si_en B rfl (se_v 1 rfl (.inl rfl))) (fun _ _ _ _ _ => (se_if (st_cmp ((op_eqI.or (op_eqD hr.room.units)).or op_eq) (nomark _) ok_eq (se_v 4) (se_v 3)) (se_v 2) (se_v 5)))))))
abbrev N_seats_along : List Str := ["size", "table", "calls", "seats", "along", "chair"]
theorem sc_seats_along : FnScope N_seats_along ["size", "table", "calls"] (defScope s_seats_along) := ⟨rfl, rfl, rfl, by decide +kernel, rfl, by decide +kernel, by decide +kernel⟩
theorem f_seats_along (B : Bt mg) (F_seats_called : Fc P w K mg base "seats_called" s_seats_called ["size", "seats", "chair"] 2 (cF m_seats_called))   {f : Addr} {fd : FuncData} (F : Fun K "seats_along" "seats_along" s_seats_along f fd) (hm : mg "seats_along" = some (.ref f)) : Fc P w K mg base "seats_along" s_seats_along ["size", "table", "calls"] 3 (cF (m_seats_along)) := by
  have sc := sc_seats_along
  refine fc_body (k := 2) (b_seats_along) (m := m_seats_along) (by unfold m_seats_along; rfl) F hm sc rfl rfl fun b cdv A outer s H E hr => ?_
  exact (ss_cons (ss_set 3 sc.nd rfl (.inl rfl) (se_list B rfl (se_v 1 rfl (.inl rfl)))) (ss_cons (ss_own 4 sc.nd rfl (.inl rfl) (so_lst (sd_cons (se_v 3 rfl (.inl rfl)) sd_nil))) (ss_cons (ss_for (.nm 5) PassesOwn.never rfl (pg_name (i := 5) sc.nd rfl (.inl rfl)) (si_seq (se_v 2 rfl (.inl rfl))) (ss_cons (ss_set 3 sc.nd rfl (.inl rfl) (se_call F_seats_called (hr.mono (by decide)) rfl (fun _ _ _ _ _ _ us hl => match us, hl with | [_, _, _], _ => rfl) (sa_cons (sv_v 0 rfl (.inl rfl)) (sa_cons (sv_v 3 rfl (.inl rfl)) (sa_cons (sv_v 5 rfl (.inl rfl)) sa_nil))))) (ss_one (ss_app 4 rfl (.inl rfl) (se_v 3 rfl (.inl rfl)))))) (ss_frz 4 (ss_one (ss_ret (se_v 4 rfl (.inl rfl))))))))
abbrev N_as_table : List Str := ["seats"]
theorem sc_as_table : FnScope N_as_table ["seats"] (defScope s_as_table) := ⟨rfl, rfl, rfl, by decide +kernel, rfl, by decide +kernel, by decide +kernel⟩
theorem f_as_table (B : Bt mg)    {f : Addr} {fd : FuncData} (F : Fun K "as_table" "as_table" s_as_table f fd) (hm : mg "as_table" = some (.ref f)) : Fc P w K mg base "as_table" s_as_table ["seats"] 1 (cF (m_as_table)) := by
  have sc := sc_as_table
  refine fc_body (k := 0) (b_as_table) (m := m_as_table) (by unfold m_as_table; rfl) F hm sc rfl rfl fun b cdv A outer s H E hr => ?_
  exact (ss_one (ss_ret (se_tuple B rfl (se_sorted B rfl (se_v 0 rfl (.inl rfl))))))
abbrev N_steps : List Str := ["size", "table", "calls", "along", "total", "before", "after", "seat", "so_far", "old", "new"]
theorem sc_steps : FnScope N_steps ["size", "table", "calls"] (defScope s_steps) := ⟨rfl, rfl, rfl, by decide +kernel, rfl, by decide +kernel, by decide +kernel⟩
theorem f_steps (B : Bt mg) (F_seats_along : Fc P w K mg base "seats_along" s_seats_along ["size", "table", "calls"] 3 (cF m_seats_along))   {f : Addr} {fd : FuncData} (F : Fun K "steps" "steps" s_steps f fd) (hm : mg "steps" = some (.ref f)) : Fc P w K mg base "steps" s_steps ["size", "table", "calls"] 4 (cF (m_steps)) := by
  have sc := sc_steps
  refine fc_body (k := 3) (b_steps) (m := m_steps) (by unfold m_steps; rfl) F hm sc rfl rfl fun b cdv A outer s H E hr => ?_
  exact (ss_cons (ss_set 3 sc.nd rfl (.inl rfl) (se_call F_seats_along (hr.mono (by decide)) rfl (fun _ _ _ _ _ _ us hl => match us, hl with | [_, _, _], _ => rfl) (sa_cons (sv_v 0 rfl (.inr (.inl rfl))) (sa_cons (sv_v 1 rfl (.inl rfl)) (sa_cons (sv_v 2 rfl (.inl rfl)) sa_nil))))) (ss_cons (ss_setLc (own := [("seat", 7)]) (.nm 7) 4 rfl sc.nd rfl rfl (sw_true rfl rfl rfl (by decide +kernel)) (blkOk_by (N := N_steps) (sc := defScope s_steps) (by decide +kernel)) (by decide) (fun _ _ _ _ _ => pg_name (i := 7) sc.nd rfl (by first | exact .inl rfl | exact .inr rfl)) (si_seq (se_v 1 rfl (.inl rfl))) (fun _ _ _ _ _ => se_int)) (ss_cons (ss_for (.tp [5, 6]) PassesOwn.never rfl (pg_tup rfl (pgs_cons (pg_name (i := 5) sc.nd rfl (.inl rfl)) (pgs_cons (pg_name (i := 6) sc.nd rfl (.inl rfl)) pgs_nil))) (si_z2 B rfl (se_v 3 rfl (.inl rfl)) (se_sl (se_v 3 rfl (.inl rfl)) (so_s se_int) so_n)) (ss_one (ss_setLc (own := [("new", 10), ("old", 9), ("so_far", 8)]) (.tp [8, 9, 10]) 4 rfl sc.nd rfl rfl (sw_true rfl rfl rfl (by decide +kernel)) (blkOk_by (N := N_steps) (sc := defScope s_steps) (by decide +kernel)) (by decide) (fun _ _ _ _ _ => pg_tup rfl (pgs_cons (pg_name (i := 8) sc.nd rfl (by first | exact .inl rfl | exact .inr rfl)) (pgs_cons (pg_name (i := 9) sc.nd rfl (by first | exact .inl rfl | exact .inr rfl)) (pgs_cons (pg_name (i := 10) sc.nd rfl (by first | exact .inl rfl | exact .inr rfl)) pgs_nil)))) (si_z3 B rfl (se_v 4 rfl (.inl rfl)) (se_v 5 rfl (.inl rfl)) (se_v 6 rfl (.inl rfl))) (fun _ _ _ _ _ => (se_add (se_v 8) (se_mod (se_sub (se_v 9) (se_v 10)) (se_v 0))))))) (ss_one (ss_ret (se_v 4 rfl (.inl rfl)))))))
abbrev N_pack_seats : List Str := ["size", "people", "chair", "back"]
theorem sc_pack_seats : FnScope N_pack_seats ["size", "people", "chair"] (defScope s_pack_seats) := ⟨rfl, rfl, rfl, by decide +kernel, rfl, by decide +kernel, by decide +kernel⟩
theorem f_pack_seats (B : Bt mg)    {f : Addr} {fd : FuncData} (F : Fun K "pack_seats" "pack_seats" s_pack_seats f fd) (hm : mg "pack_seats" = some (.ref f)) : Fc P w K mg base "pack_seats" s_pack_seats ["size", "people", "chair"] 1 (cF (m_pack_seats)) := by
  have sc := sc_pack_seats
  refine fc_body (k := 0) (b_pack_seats) (m := m_pack_seats) (by unfold m_pack_seats; rfl) F hm sc rfl rfl fun b cdv A outer s H E hr => ?_
  exact (ss_one (ss_ret (se_lc (own := [("back", 3)]) (.nm 3) rfl sc.nd (blkOk_by (N := N_pack_seats) (sc := defScope s_pack_seats) (by decide +kernel)) (by decide) (fun _ _ _ _ _ => pg_name (i := 3) sc.nd rfl (by first | exact .inl rfl | exact .inr rfl)) (si_r1 B rfl (se_v 1 rfl (.inl rfl))) (fun _ _ _ _ _ => (se_mod (se_sub (se_v 2) (se_v 3)) (se_v 0))))))
abbrev N_moves_of : List Str := ["size", "people", "calls", "chair"]
theorem sc_moves_of : FnScope N_moves_of ["size", "people", "calls"] (defScope s_moves_of) := ⟨rfl, rfl, rfl, by decide +kernel, rfl, by decide +kernel, by decide +kernel⟩
theorem f_moves_of (B : Bt mg) (F_steps : Fc P w K mg base "steps" s_steps ["size", "table", "calls"] 4 (cF m_steps)) (F_pack_seats : Fc P w K mg base "pack_seats" s_pack_seats ["size", "people", "chair"] 1 (cF m_pack_seats))   {f : Addr} {fd : FuncData} (F : Fun K "moves_of" "moves_of" s_moves_of f fd) (hm : mg "moves_of" = some (.ref f)) : Fc P w K mg base "moves_of" s_moves_of ["size", "people", "calls"] 5 (cF (m_moves_of)) := by
  have sc := sc_moves_of
  refine fc_body (k := 4) (b_moves_of) (m := m_moves_of) (by unfold m_moves_of; rfl) F hm sc rfl rfl fun b cdv A outer s H E hr => ?_
  exact (ss_one (ss_ret (se_tuple B rfl (se_lc (own := [("chair", 3)]) (.nm 3) rfl sc.nd (blkOk_by (N := N_moves_of) (sc := defScope s_moves_of) (by decide +kernel)) (by decide) (fun _ _ _ _ _ => pg_name (i := 3) sc.nd rfl (by first | exact .inl rfl | exact .inr rfl)) (si_r1 B rfl (se_v 0 rfl (.inr (.inl rfl)))) (fun _ _ _ _ _ => (se_tuple B rfl (se_call F_steps (hr.mono (by decide)) rfl (fun _ _ _ _ _ _ us hl => match us, hl with | [_, _, _], _ => rfl) (sa_cons (sv_v 0) (sa_cons (sv_e (se_call F_pack_seats (hr.mono (by decide)) rfl (fun _ _ _ _ _ _ us hl => match us, hl with | [_, _, _], _ => rfl) (sa_cons (sv_v 0) (sa_cons (sv_v 1) (sa_cons (sv_v 3) sa_nil))))) (sa_cons (sv_v 2) sa_nil))))))))))
abbrev N_steps_of_one : List Str := ["size", "moves", "table", "seat", "distances", "other", "people", "distance"]
theorem sc_steps_of_one : FnScope N_steps_of_one ["size", "moves", "table", "seat"] (defScope s_steps_of_one) := ⟨rfl, rfl, rfl, by decide +kernel, rfl, by decide +kernel, by decide +kernel⟩
theorem f_steps_of_one (B : Bt mg)    {f : Addr} {fd : FuncData} (F : Fun K "steps_of_one" "steps_of_one" s_steps_of_one f fd) (hm : mg "steps_of_one" = some (.ref f)) : Fc P w K mg base "steps_of_one" s_steps_of_one ["size", "moves", "table", "seat"] 1 (cF (m_steps_of_one)) := by
  have sc := sc_steps_of_one
  refine fc_body (k := 0) (b_steps_of_one) (m := m_steps_of_one) (by unfold m_steps_of_one; rfl) F hm sc rfl rfl fun b cdv A outer s H E hr => ?_
  exact (ss_cons (ss_set 4 sc.nd rfl (.inl rfl) (se_sorted B rfl (se_lc (own := [("other", 5)]) (.nm 5) rfl sc.nd (blkOk_by (N := N_steps_of_one) (sc := defScope s_steps_of_one) (by decide +kernel)) (by decide) (fun _ _ _ _ _ => pg_name (i := 5) sc.nd rfl (by first | exact .inl rfl | exact .inr rfl)) (si_seq (se_v 2 rfl (.inl rfl))) (fun _ _ _ _ _ => (se_mod (se_sub (se_v 5) (se_v 3)) (se_v 0)))))) (ss_one (ss_ret (se_max B rfl rfl (se_lc (own := [("distance", 7), ("people", 6)]) (.tp [6, 7]) rfl sc.nd (blkOk_by (N := N_steps_of_one) (sc := defScope s_steps_of_one) (by decide +kernel)) (by decide) (fun _ _ _ _ _ => pg_tup rfl (pgs_cons (pg_name (i := 6) sc.nd rfl (by first | exact .inl rfl | exact .inr rfl)) (pgs_cons (pg_name (i := 7) sc.nd rfl (by first | exact .inl rfl | exact .inr rfl)) pgs_nil))) (si_en B rfl (se_v 4 rfl (.inl rfl))) (fun _ _ _ _ _ => (se_sub (se_ix (fun _ _ => rfl) (se_ix (fun _ _ => rfl) (se_v 1) (se_mod (se_add (se_v 3) (se_v 7)) (se_v 0))) (se_v 6)) (se_sub (se_v 7) (se_v 6)))))))))
abbrev N_steps_by : List Str := ["size", "moves", "table", "seat"]
theorem sc_steps_by : FnScope N_steps_by ["size", "moves", "table"] (defScope s_steps_by) := ⟨rfl, rfl, rfl, by decide +kernel, rfl, by decide +kernel, by decide +kernel⟩
theorem f_steps_by (B : Bt mg) (F_steps_of_one : Fc P w K mg base "steps_of_one" s_steps_of_one ["size", "moves", "table", "seat"] 1 (cF m_steps_of_one))   {f : Addr} {fd : FuncData} (F : Fun K "steps_by" "steps_by" s_steps_by f fd) (hm : mg "steps_by" = some (.ref f)) : Fc P w K mg base "steps_by" s_steps_by ["size", "moves", "table"] 2 (cF (m_steps_by)) := by
  have sc := sc_steps_by
  refine fc_body (k := 1) (b_steps_by) (m := m_steps_by) (by unfold m_steps_by; rfl) F hm sc rfl rfl fun b cdv A outer s H E hr => ?_
  exact (ss_one (ss_ret (se_lc (own := [("seat", 3)]) (.nm 3) rfl sc.nd (blkOk_by (N := N_steps_by) (sc := defScope s_steps_by) (by decide +kernel)) (by decide) (fun _ _ _ _ _ => pg_name (i := 3) sc.nd rfl (by first | exact .inl rfl | exact .inr rfl)) (si_seq (se_v 2 rfl (.inr (.inl rfl)))) (fun _ _ _ _ _ => (se_call F_steps_of_one (hr.mono (by decide)) rfl (fun _ _ _ _ _ _ us hl => match us, hl with | [_, _, _, _], _ => rfl) (sa_cons (sv_v 0) (sa_cons (sv_v 1) (sa_cons (sv_v 2) (sa_cons (sv_v 3) sa_nil)))))))))
abbrev N_table_by : List Str := ["size", "moves", "table", "walked", "seat", "many"]
theorem sc_table_by : FnScope N_table_by ["size", "moves", "table"] (defScope s_table_by) := ⟨rfl, rfl, rfl, by decide +kernel, rfl, by decide +kernel, by decide +kernel⟩
theorem f_table_by (B : Bt mg) (F_steps_by : Fc P w K mg base "steps_by" s_steps_by ["size", "moves", "table"] 2 (cF m_steps_by)) (F_as_table : Fc P w K mg base "as_table" s_as_table ["seats"] 1 (cF m_as_table))   {f : Addr} {fd : FuncData} (F : Fun K "table_by" "table_by" s_table_by f fd) (hm : mg "table_by" = some (.ref f)) : Fc P w K mg base "table_by" s_table_by ["size", "moves", "table"] 3 (cF (m_table_by)) := by
  have sc := sc_table_by
  refine fc_body (k := 2) (b_table_by) (m := m_table_by) (by unfold m_table_by; rfl) F hm sc rfl rfl fun b cdv A outer s H E hr => ?_
  exact (ss_cons (ss_set 3 sc.nd rfl (.inl rfl) (se_call F_steps_by (hr.mono (by decide)) rfl (fun _ _ _ _ _ _ us hl => match us, hl with | [_, _, _], _ => rfl) (sa_cons (sv_v 0 rfl (.inr (.inl rfl))) (sa_cons (sv_v 1 rfl (.inl rfl)) (sa_cons (sv_v 2 rfl (.inl rfl)) sa_nil))))) (ss_one (ss_ret (se_call F_as_table (hr.mono (by decide)) rfl (fun _ _ _ _ _ _ us hl => match us, hl with | [_], _ => rfl) (sa_cons (sv_e (se_lc (own := [("many", 5), ("seat", 4)]) (.tp [4, 5]) rfl sc.nd (blkOk_by (N := N_table_by) (sc := defScope s_table_by) (by decide +kernel)) (by decide) (fun _ _ _ _ _ => pg_tup rfl (pgs_cons (pg_name (i := 4) sc.nd rfl (by first | exact .inl rfl | exact .inr rfl)) (pgs_cons (pg_name (i := 5) sc.nd rfl (by first | exact .inl rfl | exact .inr rfl)) pgs_nil))) (si_z2 B rfl (se_v 2 rfl (.inl rfl)) (se_v 3 rfl (.inl rfl))) (fun _ _ _ _ _ => (se_mod (se_sub (se_v 4) (se_v 5)) (se_v 0))))) sa_nil)))))
abbrev N_all_tables : List Str := ["size", "people", "found", "taken", "table", "chair"]
theorem sc_all_tables : FnScope N_all_tables ["size", "people"] (defScope s_all_tables) := ⟨rfl, rfl, rfl, by decide +kernel, rfl, by decide +kernel, by decide +kernel⟩
theorem f_all_tables (B : Bt mg)    {f : Addr} {fd : FuncData} (F : Fun K "all_tables" "all_tables" s_all_tables f fd) (hm : mg "all_tables" = some (.ref f)) : Fc P w K mg base "all_tables" s_all_tables ["size", "people"] 1 (cF (m_all_tables)) := by
  have sc := sc_all_tables
  refine fc_body (k := 0) (b_all_tables) (m := m_all_tables) (by unfold m_all_tables; rfl) F hm sc rfl rfl fun b cdv A outer s H E hr => ?_
  exact (ss_cons (ss_set 2 sc.nd rfl (.inl rfl) (se_lst (sd_cons (se_tup sd_nil) sd_nil))) (ss_cons (ss_for (.nm 3) PassesOwn.never rfl (pg_name (i := 3) sc.nd rfl (.inl rfl)) (si_r1 B rfl (se_v 1 rfl (.inl rfl))) (ss_one (ss_setLc2 (own := [("chair", 5), ("table", 4)]) (.nm 4) (.nm 5) 2 rfl sc.nd rfl rfl (sw_true rfl rfl rfl (by decide +kernel)) (blkOk_by (N := N_all_tables) (sc := defScope s_all_tables) (by decide +kernel)) (by decide) (by decide) (fun _ _ _ _ _ => pg_name (i := 4) sc.nd rfl (by first | exact .inl rfl | exact .inr rfl)) (fun _ _ _ _ _ => pg_name (i := 5) sc.nd rfl (by first | exact .inl rfl | exact .inr rfl)) (si_seq (se_v 2 rfl (.inl rfl))) (fun _ _ _ _ _ => (si_r1 B rfl (se_v 0))) (fun _ _ _ _ _ => (st_w (sw_or (st_not (st_tru (se_v 4))) (sw_or1 (st_cmp op_lt (nomark _) okI (se_ix (fun _ _ => rfl) (se_v 4) (se_neg se_int)) (se_v 5)))))) (fun _ _ _ _ _ => (se_add (se_v 4) (se_tup (sd_cons (se_v 5) sd_nil))))))) (ss_one (ss_ret (se_v 2 rfl (.inl rfl))))))
abbrev N_all_led : List Str := ["size", "people", "calls", "moves", "table"]
theorem sc_all_led : FnScope N_all_led ["size", "people", "calls"] (defScope s_all_led) := ⟨rfl, rfl, rfl, by decide +kernel, rfl, by decide +kernel, by decide +kernel⟩
theorem f_all_led (B : Bt mg) (F_moves_of : Fc P w K mg base "moves_of" s_moves_of ["size", "people", "calls"] 5 (cF m_moves_of)) (F_table_by : Fc P w K mg base "table_by" s_table_by ["size", "moves", "table"] 3 (cF m_table_by)) (F_all_tables : Fc P w K mg base "all_tables" s_all_tables ["size", "people"] 1 (cF m_all_tables))   {f : Addr} {fd : FuncData} (F : Fun K "all_led" "all_led" s_all_led f fd) (hm : mg "all_led" = some (.ref f)) : Fc P w K mg base "all_led" s_all_led ["size", "people", "calls"] 6 (cF (m_all_led)) := by
  have sc := sc_all_led
  refine fc_body (k := 5) (b_all_led) (m := m_all_led) (by unfold m_all_led; rfl) F hm sc rfl rfl fun b cdv A outer s H E hr => ?_
  exact (ss_cons (ss_set 3 sc.nd rfl (.inr rfl) (se_call F_moves_of (hr.mono (by decide)) rfl (fun _ _ _ _ _ _ us hl => match us, hl with | [_, _, _], _ => rfl) (sa_cons (sv_v 0 rfl (.inr (.inl rfl))) (sa_cons (sv_v 1 rfl (.inl rfl)) (sa_cons (sv_v 2 rfl (.inl rfl)) sa_nil))))) (ss_one (ss_ret (se_lc (own := [("table", 4)]) (.nm 4) rfl sc.nd (blkOk_by (N := N_all_led) (sc := defScope s_all_led) (by decide +kernel)) (by decide) (fun _ _ _ _ _ => pg_name (i := 4) sc.nd rfl (by first | exact .inl rfl | exact .inr rfl)) (si_seq (se_call F_all_tables (hr.mono (by decide)) rfl (fun _ _ _ _ _ _ us hl => match us, hl with | [_, _], _ => rfl) (sa_cons (sv_v 0 rfl (.inr (.inl rfl))) (sa_cons (sv_v 1 rfl (.inl rfl)) sa_nil)))) (fun _ _ _ _ _ => (se_tup (sd_cons (se_v 4) (sd_cons (se_call F_table_by (hr.mono (by decide)) rfl (fun _ _ _ _ _ _ us hl => match us, hl with | [_, _, _], _ => rfl) (sa_cons (sv_v 0) (sa_cons (sv_v 3) (sa_cons (sv_v 4) sa_nil)))) sd_nil))))))))
abbrev N_results_of : List Str := ["size", "people", "calls", "before", "after"]
theorem sc_results_of : FnScope N_results_of ["size", "people", "calls"] (defScope s_results_of) := ⟨rfl, rfl, rfl, by decide +kernel, rfl, by decide +kernel, by decide +kernel⟩
theorem f_results_of (B : Bt mg) (F_all_led : Fc P w K mg base "all_led" s_all_led ["size", "people", "calls"] 6 (cF m_all_led))   {f : Addr} {fd : FuncData} (F : Fun K "results_of" "results_of" s_results_of f fd) (hm : mg "results_of" = some (.ref f)) : Fc P w K mg base "results_of" s_results_of ["size", "people", "calls"] 7 (cF (m_results_of)) := by
  have sc := sc_results_of
  refine fc_body (k := 6) (b_results_of) (m := m_results_of) (by unfold m_results_of; rfl) F hm sc rfl rfl fun b cdv A outer s H E hr => ?_
  exact (ss_one (ss_ret (se_srtSc (own := [("after", 4), ("before", 3)]) (.tp [3, 4]) B hr rfl sc.nd (blkOk_by (N := N_results_of) (sc := defScope s_results_of) (by decide +kernel)) (by decide) rfl (fun _ _ _ _ _ => pg_tup rfl (pgs_cons (pg_name (i := 3) sc.nd rfl (by first | exact .inl rfl | exact .inr rfl)) (pgs_cons (pg_name (i := 4) sc.nd rfl (by first | exact .inl rfl | exact .inr rfl)) pgs_nil))) (si_seq (se_call F_all_led (hr.mono (by decide)) rfl (fun _ _ _ _ _ _ us hl => match us, hl with | [_, _, _], _ => rfl) (sa_cons (sv_v 0 rfl (.inl rfl)) (sa_cons (sv_v 1 rfl (.inl rfl)) (sa_cons (sv_v 2 rfl (.inl rfl)) sa_nil))))) (fun _ _ _ _ _ => (se_v 4)))))
theorem fO_results_of (B : Bt mg) (F_all_led : Fc P w K mg base "all_led" s_all_led ["size", "people", "calls"] 6 (cF m_all_led))  {f : Addr} {fd : FuncData} (F : Fun K "results_of" "results_of" s_results_of f fd) (hm : mg "results_of" = some (.ref f)) : Fc P w K mg base "results_of" s_results_of ["size", "people", "calls"] 7 (cFO m_results_of) := by
  have sc := sc_results_of
  refine fc_bodyO (k := 6) b_results_of (m := m_results_of) (by unfold m_results_of; rfl) F hm sc rfl rfl fun b cdv A outer s H E hr => ?_
  exact (sso_ret (so_srtSc (own := [("after", 4), ("before", 3)]) (.tp [3, 4]) B hr rfl sc.nd (blkOk_by (N := N_results_of) (sc := defScope s_results_of) (by decide +kernel)) (by decide) rfl (fun _ _ _ _ _ => pg_tup rfl (pgs_cons (pg_name (i := 3) sc.nd rfl (by first | exact .inl rfl | exact .inr rfl)) (pgs_cons (pg_name (i := 4) sc.nd rfl (by first | exact .inl rfl | exact .inr rfl)) pgs_nil))) (si_seq (se_call F_all_led (hr.mono (by decide)) rfl (fun _ _ _ _ _ _ us hl => match us, hl with | [_, _, _], _ => rfl) (sa_cons (sv_v 0 rfl (.inl rfl)) (sa_cons (sv_v 1 rfl (.inl rfl)) (sa_cons (sv_v 2 rfl (.inl rfl)) sa_nil))))) (fun _ _ _ _ _ => (se_v 4))))
abbrev N_beginnings_of : List Str := ["size", "calls", "table", "wanted", "before", "after"]
theorem sc_beginnings_of : FnScope N_beginnings_of ["size", "calls", "table"] (defScope s_beginnings_of) := ⟨rfl, rfl, rfl, by decide +kernel, rfl, by decide +kernel, by decide +kernel⟩
theorem f_beginnings_of (B : Bt mg) (F_all_led : Fc P w K mg base "all_led" s_all_led ["size", "people", "calls"] 6 (cF m_all_led))   {f : Addr} {fd : FuncData} (F : Fun K "beginnings_of" "beginnings_of" s_beginnings_of f fd) (hm : mg "beginnings_of" = some (.ref f)) : Fc P w K mg base "beginnings_of" s_beginnings_of ["size", "calls", "table"] 7 (cF (m_beginnings_of)) := by
  have sc := sc_beginnings_of
  refine fc_body (k := 6) (b_beginnings_of) (m := m_beginnings_of) (by unfold m_beginnings_of; rfl) F hm sc rfl rfl fun b cdv A outer s H E hr => ?_
  exact (ss_cons (ss_set 3 sc.nd rfl (.inr rfl) (se_tuple B rfl (se_v 2 rfl (.inl rfl)))) (ss_one (ss_ret (se_lf (own := [("after", 5), ("before", 4)]) (.tp [4, 5]) rfl sc.nd (blkOk_by (N := N_beginnings_of) (sc := defScope s_beginnings_of) (by decide +kernel)) (by decide) (fun _ _ _ _ _ => pg_tup rfl (pgs_cons (pg_name (i := 4) sc.nd rfl (by first | exact .inl rfl | exact .inr rfl)) (pgs_cons (pg_name (i := 5) sc.nd rfl (by first | exact .inl rfl | exact .inr rfl)) pgs_nil))) (si_seq (se_call F_all_led (hr.mono (by decide)) rfl (fun _ _ _ _ _ _ us hl => match us, hl with | [_, _, _], _ => rfl) (sa_cons (sv_v 0 rfl (.inl rfl)) (sa_cons (sv_e (se_len B rfl (se_v 2 rfl (.inl rfl)))) (sa_cons (sv_v 1 rfl (.inl rfl)) sa_nil))))) (fun _ _ _ _ _ => (st_cmp ((op_eqI.or (op_eqD hr.room.units)).or op_eq) (nomark _) ok_eq (se_v 5) (se_v 3))) (fun _ _ _ _ _ => (se_v 4))))))
theorem fO_beginnings_of (B : Bt mg) (F_all_led : Fc P w K mg base "all_led" s_all_led ["size", "people", "calls"] 6 (cF m_all_led))  {f : Addr} {fd : FuncData} (F : Fun K "beginnings_of" "beginnings_of" s_beginnings_of f fd) (hm : mg "beginnings_of" = some (.ref f)) : Fc P w K mg base "beginnings_of" s_beginnings_of ["size", "calls", "table"] 7 (cFO m_beginnings_of) := by
  have sc := sc_beginnings_of
  refine fc_bodyO (k := 6) b_beginnings_of (m := m_beginnings_of) (by unfold m_beginnings_of; rfl) F hm sc rfl rfl fun b cdv A outer s H E hr => ?_
  exact (sso_cons nort_set (ss_set 3 sc.nd rfl (.inr rfl) (se_tuple B rfl (se_v 2 rfl (.inl rfl)))) (sso_ret (so_lf (own := [("after", 5), ("before", 4)]) (.tp [4, 5]) rfl sc.nd (blkOk_by (N := N_beginnings_of) (sc := defScope s_beginnings_of) (by decide +kernel)) (by decide) (fun _ _ _ _ _ => pg_tup rfl (pgs_cons (pg_name (i := 4) sc.nd rfl (by first | exact .inl rfl | exact .inr rfl)) (pgs_cons (pg_name (i := 5) sc.nd rfl (by first | exact .inl rfl | exact .inr rfl)) pgs_nil))) (si_seq (se_call F_all_led (hr.mono (by decide)) rfl (fun _ _ _ _ _ _ us hl => match us, hl with | [_, _, _], _ => rfl) (sa_cons (sv_v 0 rfl (.inl rfl)) (sa_cons (sv_e (se_len B rfl (se_v 2 rfl (.inl rfl)))) (sa_cons (sv_v 1 rfl (.inl rfl)) sa_nil))))) (fun _ _ _ _ _ => (st_cmp ((op_eqI.or (op_eqD hr.room.units)).or op_eq) (nomark _) ok_eq (se_v 5) (se_v 3))) (fun _ _ _ _ _ => (se_v 4)))))
abbrev N_staying : List Str := ["size", "people", "calls", "before", "after"]
theorem sc_staying : FnScope N_staying ["size", "people", "calls"] (defScope s_staying) := ⟨rfl, rfl, rfl, by decide +kernel, rfl, by decide +kernel, by decide +kernel⟩
theorem f_staying (B : Bt mg) (F_all_led : Fc P w K mg base "all_led" s_all_led ["size", "people", "calls"] 6 (cF m_all_led))   {f : Addr} {fd : FuncData} (F : Fun K "staying" "staying" s_staying f fd) (hm : mg "staying" = some (.ref f)) : Fc P w K mg base "staying" s_staying ["size", "people", "calls"] 7 (cF (m_staying)) := by
  have sc := sc_staying
  refine fc_body (k := 6) (b_staying) (m := m_staying) (by unfold m_staying; rfl) F hm sc rfl rfl fun b cdv A outer s H E hr => ?_
  exact (ss_one (ss_ret (se_lf (own := [("after", 4), ("before", 3)]) (.tp [3, 4]) rfl sc.nd (blkOk_by (N := N_staying) (sc := defScope s_staying) (by decide +kernel)) (by decide) (fun _ _ _ _ _ => pg_tup rfl (pgs_cons (pg_name (i := 3) sc.nd rfl (by first | exact .inl rfl | exact .inr rfl)) (pgs_cons (pg_name (i := 4) sc.nd rfl (by first | exact .inl rfl | exact .inr rfl)) pgs_nil))) (si_seq (se_call F_all_led (hr.mono (by decide)) rfl (fun _ _ _ _ _ _ us hl => match us, hl with | [_, _, _], _ => rfl) (sa_cons (sv_v 0 rfl (.inl rfl)) (sa_cons (sv_v 1 rfl (.inl rfl)) (sa_cons (sv_v 2 rfl (.inl rfl)) sa_nil))))) (fun _ _ _ _ _ => (st_cmp ((op_eqI.or (op_eqD hr.room.units)).or op_eq) (nomark _) ok_eq (se_v 3) (se_v 4))) (fun _ _ _ _ _ => (se_v 3)))))
theorem fO_staying (B : Bt mg) (F_all_led : Fc P w K mg base "all_led" s_all_led ["size", "people", "calls"] 6 (cF m_all_led))  {f : Addr} {fd : FuncData} (F : Fun K "staying" "staying" s_staying f fd) (hm : mg "staying" = some (.ref f)) : Fc P w K mg base "staying" s_staying ["size", "people", "calls"] 7 (cFO m_staying) := by
  have sc := sc_staying
  refine fc_bodyO (k := 6) b_staying (m := m_staying) (by unfold m_staying; rfl) F hm sc rfl rfl fun b cdv A outer s H E hr => ?_
  exact (sso_ret (so_lf (own := [("after", 4), ("before", 3)]) (.tp [3, 4]) rfl sc.nd (blkOk_by (N := N_staying) (sc := defScope s_staying) (by decide +kernel)) (by decide) (fun _ _ _ _ _ => pg_tup rfl (pgs_cons (pg_name (i := 3) sc.nd rfl (by first | exact .inl rfl | exact .inr rfl)) (pgs_cons (pg_name (i := 4) sc.nd rfl (by first | exact .inl rfl | exact .inr rfl)) pgs_nil))) (si_seq (se_call F_all_led (hr.mono (by decide)) rfl (fun _ _ _ _ _ _ us hl => match us, hl with | [_, _, _], _ => rfl) (sa_cons (sv_v 0 rfl (.inl rfl)) (sa_cons (sv_v 1 rfl (.inl rfl)) (sa_cons (sv_v 2 rfl (.inl rfl)) sa_nil))))) (fun _ _ _ _ _ => (st_cmp ((op_eqI.or (op_eqD hr.room.units)).or op_eq) (nomark _) ok_eq (se_v 3) (se_v 4))) (fun _ _ _ _ _ => (se_v 3))))
abbrev N_sure_chairs : List Str := ["size", "people", "calls", "results", "chair", "table"]
theorem sc_sure_chairs : FnScope N_sure_chairs ["size", "people", "calls"] (defScope s_sure_chairs) := ⟨rfl, rfl, rfl, by decide +kernel, rfl, by decide +kernel, by decide +kernel⟩
theorem f_sure_chairs (B : Bt mg) (F_results_of : Fc P w K mg base "results_of" s_results_of ["size", "people", "calls"] 7 (cF m_results_of))   {f : Addr} {fd : FuncData} (F : Fun K "sure_chairs" "sure_chairs" s_sure_chairs f fd) (hm : mg "sure_chairs" = some (.ref f)) : Fc P w K mg base "sure_chairs" s_sure_chairs ["size", "people", "calls"] 8 (cF (m_sure_chairs)) := by
  have sc := sc_sure_chairs
  refine fc_body (k := 7) (b_sure_chairs) (m := m_sure_chairs) (by unfold m_sure_chairs; rfl) F hm sc rfl rfl fun b cdv A outer s H E hr => ?_
  exact (ss_cons (ss_set 3 sc.nd rfl (.inr rfl) (se_call F_results_of (hr.mono (by decide)) rfl (fun _ _ _ _ _ _ us hl => match us, hl with | [_, _, _], _ => rfl) (sa_cons (sv_v 0 rfl (.inl rfl)) (sa_cons (sv_v 1 rfl (.inl rfl)) (sa_cons (sv_v 2 rfl (.inl rfl)) sa_nil))))) (ss_one (ss_ret (se_lf (own := [("chair", 4)]) (.nm 4) rfl sc.nd (blkOk_by (N := N_sure_chairs) (sc := defScope s_sure_chairs) (by decide +kernel)) (by decide) (fun _ _ _ _ _ => pg_name (i := 4) sc.nd rfl (by first | exact .inl rfl | exact .inr rfl)) (si_r1 B rfl (se_v 0 rfl (.inl rfl))) (fun _ _ _ _ _ => (st_tru (se_all B rfl rfl (se_lc (own := [("table", 5)]) (.nm 5) rfl sc.nd (blkOk_by (N := N_sure_chairs) (by first | decide +kernel | kernel_rfl)) (by decide) (fun _ _ _ _ _ => pg_name (i := 5) sc.nd rfl (by first | exact .inl rfl | exact .inr rfl)) (si_seq (se_v 3)) (fun _ _ _ _ _ => (se_cmp op_in_seq rfl ok_in (se_v 4) (se_v 5))))))) (fun _ _ _ _ _ => (se_v 4))))))
theorem fO_sure_chairs (B : Bt mg) (F_results_of : Fc P w K mg base "results_of" s_results_of ["size", "people", "calls"] 7 (cF m_results_of))  {f : Addr} {fd : FuncData} (F : Fun K "sure_chairs" "sure_chairs" s_sure_chairs f fd) (hm : mg "sure_chairs" = some (.ref f)) : Fc P w K mg base "sure_chairs" s_sure_chairs ["size", "people", "calls"] 8 (cFO m_sure_chairs) := by
  have sc := sc_sure_chairs
  refine fc_bodyO (k := 7) b_sure_chairs (m := m_sure_chairs) (by unfold m_sure_chairs; rfl) F hm sc rfl rfl fun b cdv A outer s H E hr => ?_
  exact (sso_cons nort_set (ss_set 3 sc.nd rfl (.inr rfl) (se_call F_results_of (hr.mono (by decide)) rfl (fun _ _ _ _ _ _ us hl => match us, hl with | [_, _, _], _ => rfl) (sa_cons (sv_v 0 rfl (.inl rfl)) (sa_cons (sv_v 1 rfl (.inl rfl)) (sa_cons (sv_v 2 rfl (.inl rfl)) sa_nil))))) (sso_ret (so_lf (own := [("chair", 4)]) (.nm 4) rfl sc.nd (blkOk_by (N := N_sure_chairs) (sc := defScope s_sure_chairs) (by decide +kernel)) (by decide) (fun _ _ _ _ _ => pg_name (i := 4) sc.nd rfl (by first | exact .inl rfl | exact .inr rfl)) (si_r1 B rfl (se_v 0 rfl (.inl rfl))) (fun _ _ _ _ _ => (st_tru (se_all B rfl rfl (se_lc (own := [("table", 5)]) (.nm 5) rfl sc.nd (blkOk_by (N := N_sure_chairs) (by first | decide +kernel | kernel_rfl)) (by decide) (fun _ _ _ _ _ => pg_name (i := 5) sc.nd rfl (by first | exact .inl rfl | exact .inr rfl)) (si_seq (se_v 3)) (fun _ _ _ _ _ => (se_cmp op_in_seq rfl ok_in (se_v 4) (se_v 5))))))) (fun _ _ _ _ _ => (se_v 4)))))
abbrev N_never_chairs : List Str := ["size", "people", "calls", "results", "chair", "table"]
theorem sc_never_chairs : FnScope N_never_chairs ["size", "people", "calls"] (defScope s_never_chairs) := ⟨rfl, rfl, rfl, by decide +kernel, rfl, by decide +kernel, by decide +kernel⟩
theorem f_never_chairs (B : Bt mg) (F_results_of : Fc P w K mg base "results_of" s_results_of ["size", "people", "calls"] 7 (cF m_results_of))   {f : Addr} {fd : FuncData} (F : Fun K "never_chairs" "never_chairs" s_never_chairs f fd) (hm : mg "never_chairs" = some (.ref f)) : Fc P w K mg base "never_chairs" s_never_chairs ["size", "people", "calls"] 8 (cF (m_never_chairs)) := by
  have sc := sc_never_chairs
  refine fc_body (k := 7) (b_never_chairs) (m := m_never_chairs) (by unfold m_never_chairs; rfl) F hm sc rfl rfl fun b cdv A outer s H E hr => ?_
  exact (ss_cons (ss_set 3 sc.nd rfl (.inr rfl) (se_call F_results_of (hr.mono (by decide)) rfl (fun _ _ _ _ _ _ us hl => match us, hl with | [_, _, _], _ => rfl) (sa_cons (sv_v 0 rfl (.inl rfl)) (sa_cons (sv_v 1 rfl (.inl rfl)) (sa_cons (sv_v 2 rfl (.inl rfl)) sa_nil))))) (ss_one (ss_ret (se_lf (own := [("chair", 4)]) (.nm 4) rfl sc.nd (blkOk_by (N := N_never_chairs) (sc := defScope s_never_chairs) (by decide +kernel)) (by decide) (fun _ _ _ _ _ => pg_name (i := 4) sc.nd rfl (by first | exact .inl rfl | exact .inr rfl)) (si_r1 B rfl (se_v 0 rfl (.inl rfl))) (fun _ _ _ _ _ => (st_tru (se_all B rfl rfl (se_lc (own := [("table", 5)]) (.nm 5) rfl sc.nd (blkOk_by (N := N_never_chairs) (by first | decide +kernel | kernel_rfl)) (by decide) (fun _ _ _ _ _ => pg_name (i := 5) sc.nd rfl (by first | exact .inl rfl | exact .inr rfl)) (si_seq (se_v 3)) (fun _ _ _ _ _ => (se_cmp op_notIn_seq rfl ok_nin (se_v 4) (se_v 5))))))) (fun _ _ _ _ _ => (se_v 4))))))
theorem fO_never_chairs (B : Bt mg) (F_results_of : Fc P w K mg base "results_of" s_results_of ["size", "people", "calls"] 7 (cF m_results_of))  {f : Addr} {fd : FuncData} (F : Fun K "never_chairs" "never_chairs" s_never_chairs f fd) (hm : mg "never_chairs" = some (.ref f)) : Fc P w K mg base "never_chairs" s_never_chairs ["size", "people", "calls"] 8 (cFO m_never_chairs) := by
  have sc := sc_never_chairs
  refine fc_bodyO (k := 7) b_never_chairs (m := m_never_chairs) (by unfold m_never_chairs; rfl) F hm sc rfl rfl fun b cdv A outer s H E hr => ?_
  exact (sso_cons nort_set (ss_set 3 sc.nd rfl (.inr rfl) (se_call F_results_of (hr.mono (by decide)) rfl (fun _ _ _ _ _ _ us hl => match us, hl with | [_, _, _], _ => rfl) (sa_cons (sv_v 0 rfl (.inl rfl)) (sa_cons (sv_v 1 rfl (.inl rfl)) (sa_cons (sv_v 2 rfl (.inl rfl)) sa_nil))))) (sso_ret (so_lf (own := [("chair", 4)]) (.nm 4) rfl sc.nd (blkOk_by (N := N_never_chairs) (sc := defScope s_never_chairs) (by decide +kernel)) (by decide) (fun _ _ _ _ _ => pg_name (i := 4) sc.nd rfl (by first | exact .inl rfl | exact .inr rfl)) (si_r1 B rfl (se_v 0 rfl (.inl rfl))) (fun _ _ _ _ _ => (st_tru (se_all B rfl rfl (se_lc (own := [("table", 5)]) (.nm 5) rfl sc.nd (blkOk_by (N := N_never_chairs) (by first | decide +kernel | kernel_rfl)) (by decide) (fun _ _ _ _ _ => pg_name (i := 5) sc.nd rfl (by first | exact .inl rfl | exact .inr rfl)) (si_seq (se_v 3)) (fun _ _ _ _ _ => (se_cmp op_notIn_seq rfl ok_nin (se_v 4) (se_v 5))))))) (fun _ _ _ _ _ => (se_v 4)))))
abbrev N_law_of : List Str := ["_law_box_here", "_law_some"]
theorem sc_law_of : FnScope N_law_of ["_law_box_here", "_law_some"] (defScope s_law_of) := ⟨rfl, rfl, rfl, by decide +kernel, rfl, by decide +kernel, by decide +kernel⟩
theorem f_law_of (B : Bt mg) (F_law_take : Fc P w K mg base "_law_take" s_law_take ["_law_box_here", "_law_below"] 1 (cF takeF))   {f : Addr} {fd : FuncData} (F : Fun K "_law_of" "_law_of" s_law_of f fd) (hm : mg "_law_of" = some (.ref f)) : Fc P w K mg base "_law_of" s_law_of ["_law_box_here", "_law_some"] 2 (cF (m_law_of)) := by
  have sc := sc_law_of
  refine fc_body (k := 1) (b_law_of) (m := m_law_of) (by unfold m_law_of; rfl) F hm sc rfl rfl fun b cdv A outer s H E hr => ?_
  exact (ss_one (ss_ret (se_ix (fun _ _ => rfl) (se_v 1 rfl (.inl rfl)) (se_call F_law_take (hr.mono (by decide)) rfl (fun _ _ _ _ _ _ us hl => match us, hl with | [_, _], _ => rfl) (sa_cons (sv_v 0 rfl (.inl rfl)) (sa_cons (sv_e (se_len B rfl (se_v 1 rfl (.inl rfl)))) sa_nil))))))
abbrev N_law_same : List Str := ["_law_found", "_law_due_here"]
theorem sc_law_same : FnScope N_law_same ["_law_found", "_law_due_here"] (defScope s_law_same) := ⟨rfl, rfl, rfl, by decide +kernel, rfl, by decide +kernel, by decide +kernel⟩
theorem f_law_same (B : Bt mg)    {f : Addr} {fd : FuncData} (F : Fun K "_law_same" "_law_same" s_law_same f fd) (hm : mg "_law_same" = some (.ref f)) : Fc P w K mg base "_law_same" s_law_same ["_law_found", "_law_due_here"] 1 (cF (m_law_same)) := by
  have sc := sc_law_same
  refine fc_body (k := 0) (b_law_same) (m := m_law_same) (by unfold m_law_same; rfl) F hm sc rfl rfl fun b cdv A outer s H E hr => ?_
  exact (ss_one (ss_ret (se_same B hr rfl (se_v 0 rfl (.inl rfl)) (se_v 1 rfl (.inl rfl)))))
abbrev N_law_span : List Str := ["_law_box_here", "_law_most"]
theorem sc_law_span : FnScope N_law_span ["_law_box_here", "_law_most"] (defScope s_law_span) := ⟨rfl, rfl, rfl, by decide +kernel, rfl, by decide +kernel, by decide +kernel⟩
theorem f_law_span (B : Bt mg) (F_law_take : Fc P w K mg base "_law_take" s_law_take ["_law_box_here", "_law_below"] 1 (cF takeF))   {f : Addr} {fd : FuncData} (F : Fun K "_law_span" "_law_span" s_law_span f fd) (hm : mg "_law_span" = some (.ref f)) : Fc P w K mg base "_law_span" s_law_span ["_law_box_here", "_law_most"] 2 (cF (m_law_span)) := by
  have sc := sc_law_span
  refine fc_body (k := 1) (b_law_span) (m := m_law_span) (by unfold m_law_span; rfl) F hm sc rfl rfl fun b cdv A outer s H E hr => ?_
  exact (ss_one (ss_ret (se_add se_int (se_call F_law_take (hr.mono (by decide)) rfl (fun _ _ _ _ _ _ us hl => match us, hl with | [_, _], _ => rfl) (sa_cons (sv_v 0 rfl (.inl rfl)) (sa_cons (sv_e (se_sub (se_v 1 rfl (.inl rfl)) se_int)) sa_nil))))))
abbrev N_law_tour : List Str := ["_law_box_here", "_law_span_here", "_law_most", "_law_few", "_law_turn", "_law_way", "_law_found"]
theorem sc_law_tour : FnScope N_law_tour ["_law_box_here", "_law_span_here", "_law_most"] (defScope s_law_tour) := ⟨rfl, rfl, rfl, by decide +kernel, rfl, by decide +kernel, by decide +kernel⟩
theorem f_law_tour (B : Bt mg) (F_law_take : Fc P w K mg base "_law_take" s_law_take ["_law_box_here", "_law_below"] 1 (cF takeF)) (F_law_of : Fc P w K mg base "_law_of" s_law_of ["_law_box_here", "_law_some"] 2 (cF m_law_of))   {f : Addr} {fd : FuncData} (F : Fun K "_law_tour" "_law_tour" s_law_tour f fd) (hm : mg "_law_tour" = some (.ref f)) : Fc P w K mg base "_law_tour" s_law_tour ["_law_box_here", "_law_span_here", "_law_most"] 3 (cF (m_law_tour)) := by
  have sc := sc_law_tour
  refine fc_body (k := 2) (b_law_tour) (m := m_law_tour) (by unfold m_law_tour; rfl) F hm sc rfl rfl fun b cdv A outer s H E hr => ?_
  exact (ss_cons (ss_parO 5 6 rfl sc.nd rfl rfl (by decide) rfl rfl rfl (se_call F_law_take (hr.mono (by decide)) rfl (fun _ _ _ _ _ _ us hl => match us, hl with | [_, _], _ => rfl) (sa_cons (sv_v 0 rfl (.inr (.inl rfl))) (sa_cons (sv_e se_int) sa_nil))) (so_lst sd_nil)) (ss_cons (ss_setLc (own := [("_law_turn", 4)]) (.nm 4) 3 rfl sc.nd rfl rfl (sw_true rfl rfl rfl (by decide +kernel)) (blkOk_by (N := N_law_tour) (sc := defScope s_law_tour) (by decide +kernel)) (by decide) (fun _ _ _ _ _ => pg_name (i := 4) sc.nd rfl (by first | exact .inl rfl | exact .inr rfl)) (si_r1 B rfl se_int) (fun _ _ _ _ _ => (se_call F_law_take (hr.mono (by decide)) rfl (fun _ _ _ _ _ _ us hl => match us, hl with | [_, _], _ => rfl) (sa_cons (sv_v 0) (sa_cons (sv_v 1) sa_nil))))) (ss_cons (ss_for (.nm 4) PassesOwn.never rfl (pg_name (i := 4) sc.nd rfl (.inl rfl)) (si_r1 B rfl (se_call F_law_take (hr.mono (by decide)) rfl (fun _ _ _ _ _ _ us hl => match us, hl with | [_, _], _ => rfl) (sa_cons (sv_v 0 rfl (.inr (.inl rfl))) (sa_cons (sv_e (se_add (se_v 2 rfl (.inl rfl)) se_int)) sa_nil)))) (ss_one (ss_app 6 rfl (.inl rfl) (se_if (st_cmp ((op_eqI.or (op_eqD hr.room.units)).or op_eq) (nomark _) ok_eq (se_v 5 rfl (.inl rfl)) se_int) (se_call F_law_of (hr.mono (by decide)) rfl (fun _ _ _ _ _ _ us hl => match us, hl with | [_, _], _ => rfl) (sa_cons (sv_v 0 rfl (.inr (.inl rfl))) (sa_cons (sv_v 3 rfl (.inl rfl)) sa_nil))) (se_call F_law_take (hr.mono (by decide)) rfl (fun _ _ _ _ _ _ us hl => match us, hl with | [_, _], _ => rfl) (sa_cons (sv_v 0 rfl (.inr (.inl rfl))) (sa_cons (sv_v 1 rfl (.inr (.inl rfl))) sa_nil))))))) (ss_frz 6 (ss_one (ss_ret (se_ix (fun _ _ => rfl) (se_lst (sd_cons (se_v 6 rfl (.inl rfl)) (sd_cons (se_v 6 rfl (.inl rfl)) (sd_cons (se_v 6 rfl (.inl rfl)) (sd_cons (se_sorted B rfl (se_v 6 rfl (.inl rfl))) (sd_cons (se_rev (se_sorted B rfl (se_v 6 rfl (.inl rfl)))) sd_nil)))))) (se_v 5 rfl (.inl rfl)))))))))
abbrev N_law_pushed : List Str := ["_law_span_here", "_law_spots", "_law_mark", "_law_far", "_law_k", "_law_spot"]
theorem sc_law_pushed : FnScope N_law_pushed ["_law_span_here", "_law_spots", "_law_mark"] (defScope s_law_pushed) := ⟨rfl, rfl, rfl, by decide +kernel, rfl, by decide +kernel, by decide +kernel⟩
theorem f_law_pushed (B : Bt mg)    {f : Addr} {fd : FuncData} (F : Fun K "_law_pushed" "_law_pushed" s_law_pushed f fd) (hm : mg "_law_pushed" = some (.ref f)) : Fc P w K mg base "_law_pushed" s_law_pushed ["_law_span_here", "_law_spots", "_law_mark"] 1 (cF (m_law_pushed)) := by
  have sc := sc_law_pushed
  refine fc_body (k := 0) (b_law_pushed) (m := m_law_pushed) (by unfold m_law_pushed; rfl) F hm sc rfl rfl fun b cdv A outer s H E hr => ?_
  exact (ss_cons (ss_for (.nm 3) PassesOwn.never rfl (pg_name (i := 3) sc.nd rfl (.inl rfl)) (si_r1 B rfl (se_v 0 rfl (.inl rfl))) (ss_one (ss_for (.tp [4, 5]) PassesOwn.never rfl (pg_tup rfl (pgs_cons (pg_name (i := 4) sc.nd rfl (.inl rfl)) (pgs_cons (pg_name (i := 5) sc.nd rfl (.inl rfl)) pgs_nil))) (si_en B rfl (se_v 1 rfl (.inl rfl))) (ss_one (ss_if (st_cmp ((op_eqI.or (op_eqD hr.room.units)).or op_eq) (nomark _) ok_eq (se_mod (se_sub (se_add (se_v 2 rfl (.inl rfl)) (se_v 3 rfl (.inl rfl))) (se_v 5 rfl (.inl rfl))) (se_v 0 rfl (.inl rfl))) se_int) (ss_one (ss_ret (se_add (se_add (se_sl (se_v 1 rfl (.inl rfl)) so_n (so_s (se_v 4 rfl (.inl rfl)))) (se_lst (sd_cons (se_sub (se_v 5 rfl (.inl rfl)) (se_v 3 rfl (.inl rfl))) sd_nil))) (se_sl (se_v 1 rfl (.inl rfl)) (so_s (se_add (se_v 4 rfl (.inl rfl)) se_int)) so_n)))) ss_nil))))) (ss_one (ss_ret (se_v 1 rfl (.inl rfl)))))
abbrev N_law_walked : List Str := ["_law_span_here", "_law_spots", "_law_tour_here", "_law_found", "_law_mark"]
theorem sc_law_walked : FnScope N_law_walked ["_law_span_here", "_law_spots", "_law_tour_here"] (defScope s_law_walked) := ⟨rfl, rfl, rfl, by decide +kernel, rfl, by decide +kernel, by decide +kernel⟩
theorem f_law_walked (B : Bt mg) (F_law_pushed : Fc P w K mg base "_law_pushed" s_law_pushed ["_law_span_here", "_law_spots", "_law_mark"] 1 (cF m_law_pushed))   {f : Addr} {fd : FuncData} (F : Fun K "_law_walked" "_law_walked" s_law_walked f fd) (hm : mg "_law_walked" = some (.ref f)) : Fc P w K mg base "_law_walked" s_law_walked ["_law_span_here", "_law_spots", "_law_tour_here"] 2 (cF (m_law_walked)) := by
  have sc := sc_law_walked
  refine fc_body (k := 1) (b_law_walked) (m := m_law_walked) (by unfold m_law_walked; rfl) F hm sc rfl rfl fun b cdv A outer s H E hr => ?_
  exact (ss_cons (ss_set 3 sc.nd rfl (.inl rfl) (se_list B rfl (se_v 1 rfl (.inl rfl)))) (ss_cons (ss_for (.nm 4) PassesOwn.never rfl (pg_name (i := 4) sc.nd rfl (.inl rfl)) (si_seq (se_v 2 rfl (.inl rfl))) (ss_one (ss_set 3 sc.nd rfl (.inl rfl) (se_call F_law_pushed (hr.mono (by decide)) rfl (fun _ _ _ _ _ _ us hl => match us, hl with | [_, _, _], _ => rfl) (sa_cons (sv_v 0 rfl (.inl rfl)) (sa_cons (sv_v 3 rfl (.inl rfl)) (sa_cons (sv_v 4 rfl (.inl rfl)) sa_nil))))))) (ss_one (ss_ret (se_v 3 rfl (.inl rfl))))))
abbrev N_law_table : List Str := ["_law_span_here", "_law_spots", "_law_spot"]
theorem sc_law_table : FnScope N_law_table ["_law_span_here", "_law_spots"] (defScope s_law_table) := ⟨rfl, rfl, rfl, by decide +kernel, rfl, by decide +kernel, by decide +kernel⟩
theorem f_law_table (B : Bt mg)    {f : Addr} {fd : FuncData} (F : Fun K "_law_table" "_law_table" s_law_table f fd) (hm : mg "_law_table" = some (.ref f)) : Fc P w K mg base "_law_table" s_law_table ["_law_span_here", "_law_spots"] 1 (cF (m_law_table)) := by
  have sc := sc_law_table
  refine fc_body (k := 0) (b_law_table) (m := m_law_table) (by unfold m_law_table; rfl) F hm sc rfl rfl fun b cdv A outer s H E hr => ?_
  exact (ss_one (ss_ret (se_tuple B rfl (se_sorted B rfl (se_lc (own := [("_law_spot", 2)]) (.nm 2) rfl sc.nd (blkOk_by (N := N_law_table) (sc := defScope s_law_table) (by decide +kernel)) (by decide) (fun _ _ _ _ _ => pg_name (i := 2) sc.nd rfl (by first | exact .inl rfl | exact .inr rfl)) (si_seq (se_v 1 rfl (.inl rfl))) (fun _ _ _ _ _ => (se_mod (se_v 2) (se_v 0))))))))
abbrev N_law_after : List Str := ["_law_span_here", "_law_crowd", "_law_tour_here"]
theorem sc_law_after : FnScope N_law_after ["_law_span_here", "_law_crowd", "_law_tour_here"] (defScope s_law_after) := ⟨rfl, rfl, rfl, by decide +kernel, rfl, by decide +kernel, by decide +kernel⟩
theorem f_law_after (B : Bt mg) (F_law_table : Fc P w K mg base "_law_table" s_law_table ["_law_span_here", "_law_spots"] 1 (cF m_law_table)) (F_law_walked : Fc P w K mg base "_law_walked" s_law_walked ["_law_span_here", "_law_spots", "_law_tour_here"] 2 (cF m_law_walked))   {f : Addr} {fd : FuncData} (F : Fun K "_law_after" "_law_after" s_law_after f fd) (hm : mg "_law_after" = some (.ref f)) : Fc P w K mg base "_law_after" s_law_after ["_law_span_here", "_law_crowd", "_law_tour_here"] 3 (cF (m_law_after)) := by
  have sc := sc_law_after
  refine fc_body (k := 2) (b_law_after) (m := m_law_after) (by unfold m_law_after; rfl) F hm sc rfl rfl fun b cdv A outer s H E hr => ?_
  exact (ss_one (ss_ret (se_call F_law_table (hr.mono (by decide)) rfl (fun _ _ _ _ _ _ us hl => match us, hl with | [_, _], _ => rfl) (sa_cons (sv_v 0 rfl (.inl rfl)) (sa_cons (sv_e (se_call F_law_walked (hr.mono (by decide)) rfl (fun _ _ _ _ _ _ us hl => match us, hl with | [_, _, _], _ => rfl) (sa_cons (sv_v 0 rfl (.inl rfl)) (sa_cons (sv_v 1 rfl (.inl rfl)) (sa_cons (sv_v 2 rfl (.inl rfl)) sa_nil))))) sa_nil)))))
abbrev N_law_tables : List Str := ["_law_span_here", "_law_folk", "_law_found", "_law_mark", "_law_crowd"]
theorem sc_law_tables : FnScope N_law_tables ["_law_span_here", "_law_folk"] (defScope s_law_tables) := ⟨rfl, rfl, rfl, by decide +kernel, rfl, by decide +kernel, by decide +kernel⟩
theorem f_law_tables (B : Bt mg)    {f : Addr} {fd : FuncData} (F : Fun K "_law_tables" "_law_tables" s_law_tables f fd) (hm : mg "_law_tables" = some (.ref f)) : Fc P w K mg base "_law_tables" s_law_tables ["_law_span_here", "_law_folk"] 1 (cF (m_law_tables)) := by
  have sc := sc_law_tables
  refine fc_body (k := 0) (b_law_tables) (m := m_law_tables) (by unfold m_law_tables; rfl) F hm sc rfl rfl fun b cdv A outer s H E hr => ?_
  exact (ss_cons (ss_set 2 sc.nd rfl (.inl rfl) (se_lst (sd_cons (se_tup sd_nil) sd_nil))) (ss_cons (ss_for (.nm 3) PassesOwn.never rfl (pg_name (i := 3) sc.nd rfl (.inr rfl)) (si_r1 B rfl (se_v 0 rfl (.inl rfl))) (ss_one (ss_set 2 sc.nd rfl (.inl rfl) (se_add (se_v 2 rfl (.inl rfl)) (se_lf (own := [("_law_crowd", 4)]) (.nm 4) rfl sc.nd (blkOk_by (N := N_law_tables) (sc := defScope s_law_tables) (by decide +kernel)) (by decide) (fun _ _ _ _ _ => pg_name (i := 4) sc.nd rfl (by first | exact .inl rfl | exact .inr rfl)) (si_seq (se_v 2 rfl (.inl rfl))) (fun _ _ _ _ _ => (st_cmp op_lt (nomark _) okI (se_len B rfl (se_v 4)) (se_v 1))) (fun _ _ _ _ _ => (se_add (se_v 4) (se_tup (sd_cons (se_v 3) sd_nil))))))))) (ss_one (ss_ret (se_sortedT B rfl (se_lf (own := [("_law_crowd", 4)]) (.nm 4) rfl sc.nd (blkOk_by (N := N_law_tables) (sc := defScope s_law_tables) (by decide +kernel)) (by decide) (fun _ _ _ _ _ => pg_name (i := 4) sc.nd rfl (by first | exact .inl rfl | exact .inr rfl)) (si_seq (se_v 2 rfl (.inl rfl))) (fun _ _ _ _ _ => (st_cmp ((op_eqI.or (op_eqD hr.room.units)).or op_eq) (nomark _) ok_eq (se_len B rfl (se_v 4)) (se_v 1))) (fun _ _ _ _ _ => (se_v 4))))))))
abbrev N_law_lots : List Str := ["_law_span_here", "_law_folk", "_law_tour_here", "_law_found", "_law_crowd", "_law_end"]
theorem sc_law_lots : FnScope N_law_lots ["_law_span_here", "_law_folk", "_law_tour_here"] (defScope s_law_lots) := ⟨rfl, rfl, rfl, by decide +kernel, rfl, by decide +kernel, by decide +kernel⟩
theorem f_law_lots (B : Bt mg) (F_law_tables : Fc P w K mg base "_law_tables" s_law_tables ["_law_span_here", "_law_folk"] 1 (cF m_law_tables)) (F_law_after : Fc P w K mg base "_law_after" s_law_after ["_law_span_here", "_law_crowd", "_law_tour_here"] 3 (cF m_law_after)) {f : Addr} {fd : FuncData} (F : Fun K "_law_lots" "_law_lots" s_law_lots f fd) (hm : mg "_law_lots" = some (.ref f)) : Fc P w K mg base "_law_lots" s_law_lots ["_law_span_here", "_law_folk", "_law_tour_here"] 4 (cFD m_law_lots) := by
  have sc := sc_law_lots
  refine fc_bodyD (k := 3) b_law_lots (m := m_law_lots) (by unfold m_law_lots; rfl) F hm sc rfl rfl fun b cdv A outer s H E hr => ?_
  exact (ssd_cons (ss_newD 3 sc.nd rfl (.inl rfl)) (ssd_cons (ss_for (.nm 4) PassesOwn.never rfl (pg_name (i := 4) sc.nd rfl (.inl rfl)) (si_seq (se_call F_law_tables (hr.mono (by decide)) rfl (fun _ _ _ _ _ _ us hl => match us, hl with | [_, _], _ => rfl) (sa_cons (sv_v 0 rfl (.inl rfl)) (sa_cons (sv_v 1 rfl (.inl rfl)) sa_nil)))) (ss_cons (ss_set 5 sc.nd rfl (.inl rfl) (se_call F_law_after (hr.mono (by decide)) rfl (fun _ _ _ _ _ _ us hl => match us, hl with | [_, _, _], _ => rfl) (sa_cons (sv_v 0 rfl (.inl rfl)) (sa_cons (sv_v 4 rfl (.inl rfl)) (sa_cons (sv_v 2 rfl (.inl rfl)) sa_nil))))) (ss_one (ss_putO 3 hr rfl (.inl rfl) (se_v 5 rfl (.inl rfl)) (se_add (se_getO 3 hr rfl (.inl rfl) (se_v 5 rfl (.inl rfl)) (se_lst sd_nil)) (se_lst (sd_cons (se_v 4 rfl (.inl rfl)) sd_nil))))))) (ssd_ret 3 rfl (.inl rfl))))
abbrev N_law_due : List Str := ["_law_span_here", "_law_folk", "_law_lots_here", "_law_sure", "_law_never", "_law_mark", "_law_crowd", "_law_end"]
theorem sc_law_due : FnScope N_law_due ["_law_span_here", "_law_folk", "_law_lots_here"] (defScope s_law_due) := ⟨rfl, rfl, rfl, by decide +kernel, rfl, by decide +kernel, by decide +kernel⟩
theorem f_law_due (B : Bt mg) (F_law_tables : Fc P w K mg base "_law_tables" s_law_tables ["_law_span_here", "_law_folk"] 1 (cF m_law_tables))   {f : Addr} {fd : FuncData} (F : Fun K "_law_due" "_law_due" s_law_due f fd) (hm : mg "_law_due" = some (.ref f)) : Fc P w K mg base "_law_due" s_law_due ["_law_span_here", "_law_folk", "_law_lots_here"] 2 (cF (m_law_due)) := by
  have sc := sc_law_due
  refine fc_body (k := 1) (b_law_due) (m := m_law_due) (by unfold m_law_due; rfl) F hm sc rfl rfl fun b cdv A outer s H E hr => ?_
  exact (ss_cons (ss_setLf (own := [("_law_mark", 5)]) (.nm 5) 3 rfl sc.nd rfl rfl (sw_true rfl rfl rfl (by decide +kernel)) (blkOk_by (N := N_law_due) (sc := defScope s_law_due) (by decide +kernel)) (by decide) (fun _ _ _ _ _ => pg_name (i := 5) sc.nd rfl (by first | exact .inl rfl | exact .inr rfl)) (si_r1 B rfl (se_v 0 rfl (.inl rfl))) (fun _ _ _ _ _ => (st_tru (se_all B rfl rfl (se_lc (own := [("_law_end", 7)]) (.nm 7) rfl sc.nd (blkOk_by (N := N_law_due) (by first | decide +kernel | kernel_rfl)) (by decide) (fun _ _ _ _ _ => pg_name (i := 7) sc.nd rfl (by first | exact .inl rfl | exact .inr rfl)) (si_dtt 2 rfl (by first | exact Or.inl rfl | exact Or.inr (Or.inl rfl) | exact Or.inr (Or.inr rfl))) (fun _ _ _ _ _ => (se_cmp op_in_seq rfl ok_in (se_v 5) (se_v 7))))))) (fun _ _ _ _ _ => (se_v 5))) (ss_cons (ss_setLf (own := [("_law_mark", 5)]) (.nm 5) 4 rfl sc.nd rfl rfl (sw_true rfl rfl rfl (by decide +kernel)) (blkOk_by (N := N_law_due) (sc := defScope s_law_due) (by decide +kernel)) (by decide) (fun _ _ _ _ _ => pg_name (i := 5) sc.nd rfl (by first | exact .inl rfl | exact .inr rfl)) (si_r1 B rfl (se_v 0 rfl (.inl rfl))) (fun _ _ _ _ _ => (st_not (st_tru (se_any B rfl rfl (se_lc (own := [("_law_end", 7)]) (.nm 7) rfl sc.nd (blkOk_by (N := N_law_due) (by first | decide +kernel | kernel_rfl)) (by decide) (fun _ _ _ _ _ => pg_name (i := 7) sc.nd rfl (by first | exact .inl rfl | exact .inr rfl)) (si_dtt 2 rfl (by first | exact Or.inl rfl | exact Or.inr (Or.inl rfl) | exact Or.inr (Or.inr rfl))) (fun _ _ _ _ _ => (se_cmp op_in_seq rfl ok_in (se_v 5) (se_v 7)))))))) (fun _ _ _ _ _ => (se_v 5))) (ss_one (ss_ret (se_lst (sd_cons (se_sortedD 2 B hr rfl rfl rfl (.inr (.inl rfl))) (sd_cons (se_lf (own := [("_law_crowd", 6)]) (.nm 6) rfl sc.nd (blkOk_by (N := N_law_due) (sc := defScope s_law_due) (by decide +kernel)) (by decide) (fun _ _ _ _ _ => pg_name (i := 6) sc.nd rfl (by first | exact .inl rfl | exact .inr rfl)) (si_seq (se_call F_law_tables (hr.mono (by decide)) rfl (fun _ _ _ _ _ _ us hl => match us, hl with | [_, _], _ => rfl) (sa_cons (sv_v 0 rfl (.inl rfl)) (sa_cons (sv_v 1 rfl (.inl rfl)) sa_nil)))) (fun _ _ _ _ _ => (st_cmp (op_inD (units65 hr.room)) rfl ok_inD (se_v 6) (se_getO 2 hr rfl (by first | exact Or.inl rfl | exact Or.inr (Or.inl rfl) | exact Or.inr (Or.inr rfl)) (se_v 6) (se_lst sd_nil)))) (fun _ _ _ _ _ => (se_v 6))) (sd_cons (se_v 3 rfl (.inl rfl)) (sd_cons (se_v 4 rfl (.inl rfl)) sd_nil)))))))))
abbrev N_law_heard : List Str := ["_law_span_here", "_law_folk", "_law_tour_here", "_law_found"]
theorem sc_law_heard : FnScope N_law_heard ["_law_span_here", "_law_folk", "_law_tour_here"] (defScope s_law_heard) := ⟨rfl, rfl, rfl, by decide +kernel, rfl, by decide +kernel, by decide +kernel⟩
theorem f_law_heard (B : Bt mg) (F_results_of : Fc P w K mg base "results_of" s_results_of ["size", "people", "calls"] 7 (cF m_results_of)) (F_staying : Fc P w K mg base "staying" s_staying ["size", "people", "calls"] 7 (cF m_staying)) (F_sure_chairs : Fc P w K mg base "sure_chairs" s_sure_chairs ["size", "people", "calls"] 8 (cF m_sure_chairs)) (F_never_chairs : Fc P w K mg base "never_chairs" s_never_chairs ["size", "people", "calls"] 8 (cF m_never_chairs))   {f : Addr} {fd : FuncData} (F : Fun K "_law_heard" "_law_heard" s_law_heard f fd) (hm : mg "_law_heard" = some (.ref f)) : Fc P w K mg base "_law_heard" s_law_heard ["_law_span_here", "_law_folk", "_law_tour_here"] 9 (cF (m_law_heard)) := by
  have sc := sc_law_heard
  refine fc_body (k := 8) (b_law_heard) (m := m_law_heard) (by unfold m_law_heard; rfl) F hm sc rfl rfl fun b cdv A outer s H E hr => ?_
  exact (ss_cons (ss_set 3 sc.nd rfl (.inl rfl) (se_lst (sd_cons (se_call F_results_of (hr.mono (by decide)) rfl (fun _ _ _ _ _ _ us hl => match us, hl with | [_, _, _], _ => rfl) (sa_cons (sv_v 0 rfl (.inl rfl)) (sa_cons (sv_v 1 rfl (.inl rfl)) (sa_cons (sv_v 2 rfl (.inl rfl)) sa_nil)))) (sd_cons (se_call F_staying (hr.mono (by decide)) rfl (fun _ _ _ _ _ _ us hl => match us, hl with | [_, _, _], _ => rfl) (sa_cons (sv_v 0 rfl (.inl rfl)) (sa_cons (sv_v 1 rfl (.inl rfl)) (sa_cons (sv_v 2 rfl (.inl rfl)) sa_nil)))) sd_nil)))) (ss_one (ss_ret (se_add (se_v 3 rfl (.inl rfl)) (se_lst (sd_cons (se_call F_sure_chairs (hr.mono (by decide)) rfl (fun _ _ _ _ _ _ us hl => match us, hl with | [_, _, _], _ => rfl) (sa_cons (sv_v 0 rfl (.inl rfl)) (sa_cons (sv_v 1 rfl (.inl rfl)) (sa_cons (sv_v 2 rfl (.inl rfl)) sa_nil)))) (sd_cons (se_call F_never_chairs (hr.mono (by decide)) rfl (fun _ _ _ _ _ _ us hl => match us, hl with | [_, _, _], _ => rfl) (sa_cons (sv_v 0 rfl (.inl rfl)) (sa_cons (sv_v 1 rfl (.inl rfl)) (sa_cons (sv_v 2 rfl (.inl rfl)) sa_nil)))) sd_nil)))))))
theorem fL_law_heard (B : Bt mg) (O_results_of : Fc P w K mg base "results_of" s_results_of ["size", "people", "calls"] 7 (cFO m_results_of)) (O_staying : Fc P w K mg base "staying" s_staying ["size", "people", "calls"] 7 (cFO m_staying)) (O_sure_chairs : Fc P w K mg base "sure_chairs" s_sure_chairs ["size", "people", "calls"] 8 (cFO m_sure_chairs)) (O_never_chairs : Fc P w K mg base "never_chairs" s_never_chairs ["size", "people", "calls"] 8 (cFO m_never_chairs)) {f : Addr} {fd : FuncData} (F : Fun K "_law_heard" "_law_heard" s_law_heard f fd) (hm : mg "_law_heard" = some (.ref f)) : Fc P w K mg base "_law_heard" s_law_heard ["_law_span_here", "_law_folk", "_law_tour_here"] 9 (cFOL l_law_heard) := by
  have sc := sc_law_heard
  refine fc_bodyLL (k := 8) (fLl2 3 (olC (dCall m_results_of (aC (aV 0) (aC (aV 1) (aC (aV 2) a0)))) (olC (dCall m_staying (aC (aV 0) (aC (aV 1) (aC (aV 2) a0)))) ol0)) (olC (dCall m_sure_chairs (aC (aV 0) (aC (aV 1) (aC (aV 2) a0)))) (olC (dCall m_never_chairs (aC (aV 0) (aC (aV 1) (aC (aV 2) a0)))) ol0))) (m := l_law_heard) (by unfold l_law_heard; rfl) F hm sc rfl rfl fun b cdv A outer s H E hr => ?_
  exact ssol_two 3 sc.nd rfl (.inl rfl) (.inl rfl) (sol_cons (so_call O_results_of (hr.mono (by decide)) rfl (fun _ _ _ _ _ _ us hl => match us, hl with | [_, _, _], _ => rfl) (sa_cons (sv_v 0 rfl (.inl rfl)) (sa_cons (sv_v 1 rfl (.inl rfl)) (sa_cons (sv_v 2 rfl (.inl rfl)) sa_nil)))) (sol_cons (so_call O_staying (hr.mono (by decide)) rfl (fun _ _ _ _ _ _ us hl => match us, hl with | [_, _, _], _ => rfl) (sa_cons (sv_v 0 rfl (.inl rfl)) (sa_cons (sv_v 1 rfl (.inl rfl)) (sa_cons (sv_v 2 rfl (.inl rfl)) sa_nil)))) sol_nil)) (sol_cons (so_call O_sure_chairs (hr.mono (by decide)) rfl (fun _ _ _ _ _ _ us hl => match us, hl with | [_, _, _], _ => rfl) (sa_cons (sv_v 0 rfl (.inl rfl)) (sa_cons (sv_v 1 rfl (.inl rfl)) (sa_cons (sv_v 2 rfl (.inl rfl)) sa_nil)))) (sol_cons (so_call O_never_chairs (hr.mono (by decide)) rfl (fun _ _ _ _ _ _ us hl => match us, hl with | [_, _, _], _ => rfl) (sa_cons (sv_v 0 rfl (.inl rfl)) (sa_cons (sv_v 1 rfl (.inl rfl)) (sa_cons (sv_v 2 rfl (.inl rfl)) sa_nil)))) sol_nil))
abbrev N_law_right : List Str := ["_law_box_here", "_law_span_here", "_law_due_here", "_law_heard_here", "_law_named", "_law_some", "_law_crowd", "_law_folk", "_law_tour_here", "_law_lots_here", "_law_kept", "_law_soft", "_law_begun"]
theorem sc_law_right : FnScope N_law_right ["_law_box_here"] (defScope s_law_right) := ⟨rfl, rfl, rfl, by decide +kernel, rfl, by decide +kernel, by decide +kernel⟩
theorem f_law_right (B : Bt mg) (F_law_span : Fc P w K mg base "_law_span" s_law_span ["_law_box_here", "_law_most"] 2 (cF m_law_span)) (F_law_due : Fc P w K mg base "_law_due" s_law_due ["_law_span_here", "_law_folk", "_law_lots_here"] 2 (cF m_law_due)) (F_law_tables : Fc P w K mg base "_law_tables" s_law_tables ["_law_span_here", "_law_folk"] 1 (cF m_law_tables)) (F_law_of : Fc P w K mg base "_law_of" s_law_of ["_law_box_here", "_law_some"] 2 (cF m_law_of)) (F_law_tour : Fc P w K mg base "_law_tour" s_law_tour ["_law_box_here", "_law_span_here", "_law_most"] 3 (cF m_law_tour)) (F_law_lots : Fc P w K mg base "_law_lots" s_law_lots ["_law_span_here", "_law_folk", "_law_tour_here"] 4 (cFD m_law_lots)) (F_results_of : Fc P w K mg base "results_of" s_results_of ["size", "people", "calls"] 7 (cF m_results_of)) (F_staying : Fc P w K mg base "staying" s_staying ["size", "people", "calls"] 7 (cF m_staying)) (F_sure_chairs : Fc P w K mg base "sure_chairs" s_sure_chairs ["size", "people", "calls"] 8 (cF m_sure_chairs)) (F_never_chairs : Fc P w K mg base "never_chairs" s_never_chairs ["size", "people", "calls"] 8 (cF m_never_chairs)) (F_law_same : Fc P w K mg base "_law_same" s_law_same ["_law_found", "_law_due_here"] 1 (cF m_law_same)) (F_law_take : Fc P w K mg base "_law_take" s_law_take ["_law_box_here", "_law_below"] 1 (cF takeF)) (F_law_heard : Fc P w K mg base "_law_heard" s_law_heard ["_law_span_here", "_law_folk", "_law_tour_here"] 9 (cF m_law_heard)) (F_beginnings_of : Fc P w K mg base "beginnings_of" s_beginnings_of ["size", "calls", "table"] 7 (cF m_beginnings_of)) (O_beginnings_of : Fc P w K mg base "beginnings_of" s_beginnings_of ["size", "calls", "table"] 7 (cFO m_beginnings_of)) (L_law_heard : Fc P w K mg base "_law_heard" s_law_heard ["_law_span_here", "_law_folk", "_law_tour_here"] 9 (cFOL l_law_heard)) {f : Addr} {fd : FuncData} (F : Fun K "_law_right" "_law_right" s_law_right f fd) (hm : mg "_law_right" = some (.ref f)) : Fc P w K mg base "_law_right" s_law_right ["_law_box_here"] 10 (cF (m_law_right)) := by
  have sc := sc_law_right
  refine fc_body (k := 9) (b_law_right) (m := m_law_right) (by unfold m_law_right; rfl) F hm sc rfl rfl fun b cdv A outer s H E hr => ?_
  exact (ss_cons (ss_set 1 sc.nd rfl (.inl rfl) (se_call F_law_span (hr.mono (by decide)) rfl (fun _ _ _ _ _ _ us hl => match us, hl with | [_, _], _ => rfl) (sa_cons (sv_v 0 rfl (.inl rfl)) (sa_cons (sv_e se_int) sa_nil)))) (ss_cons (ss_par 7 8 rfl sc.nd rfl rfl (by decide) rfl rfl rfl (sd_cons (se_add se_int (se_call F_law_take (hr.mono (by decide)) rfl (fun _ _ _ _ _ _ us hl => match us, hl with | [_, _], _ => rfl) (sa_cons (sv_v 0 rfl (.inl rfl)) (sa_cons (sv_e (se_sub (se_v 1 rfl (.inl rfl)) se_int)) sa_nil)))) (sd_cons (se_call F_law_tour (hr.mono (by decide)) rfl (fun _ _ _ _ _ _ us hl => match us, hl with | [_, _, _], _ => rfl) (sa_cons (sv_v 0 rfl (.inl rfl)) (sa_cons (sv_v 1 rfl (.inl rfl)) (sa_cons (sv_e se_int) sa_nil)))) sd_nil))) (ss_cons (ss_parDt 9 10 rfl sc.nd rfl rfl (by decide) rfl rfl rfl (sdt_call F_law_lots (hr.mono (by decide)) rfl (fun _ _ _ _ _ _ us hl => match us, hl with | [_, _, _], _ => rfl) (sa_cons (sv_v 1 rfl (.inl rfl)) (sa_cons (sv_v 7 rfl (.inl rfl)) (sa_cons (sv_v 8 rfl (.inl rfl)) sa_nil)))) (se_list B rfl (se_v 8 rfl (.inl rfl)))) (ss_cons (ss_set 2 sc.nd rfl (.inl rfl) (se_call F_law_due (hr.mono (by decide)) rfl (fun _ _ _ _ _ _ us hl => match us, hl with | [_, _, _], _ => rfl) (sa_cons (sv_v 1 rfl (.inl rfl)) (sa_cons (sv_v 7 rfl (.inl rfl)) (sa_cons (sv_v 9 rfl (.inl rfl)) sa_nil))))) (ssn_ll 3 sc.nd rfl (.inl rfl) L_law_heard (hr.mono (by decide)) rfl (fun _ _ _ _ _ _ us hl => match us, hl with | [_, _, _], _ => rfl) (sa_cons (sv_v 1 rfl (.inl rfl)) (sa_cons (sv_v 7 rfl (.inl rfl)) (sa_cons (sv_v 8 rfl (.inl rfl)) sa_nil))) (sna_own (by decide) sc.nd rfl (.inl rfl) (so_lst (sd_cons (se_callK ["calls", "people", "size"] [2, 1, 0] F_results_of (hr.mono (by decide)) rfl (fun _ _ _ _ _ _ us hl => match us, hl with | [_, _, _], _ => rfl) (sk_cons (sv_e (se_tuple B rfl (se_v 8 rfl (.inl rfl)))) (sk_cons (sv_v 7 rfl (.inl rfl)) (sk_cons (sv_v 1 rfl (.inl rfl)) sk_nil)))) (sd_cons (se_callK ["calls", "people", "size"] [2, 1, 0] F_staying (hr.mono (by decide)) rfl (fun _ _ _ _ _ _ us hl => match us, hl with | [_, _, _], _ => rfl) (sk_cons (sv_e (se_tuple B rfl (se_v 8 rfl (.inl rfl)))) (sk_cons (sv_v 7 rfl (.inl rfl)) (sk_cons (sv_v 1 rfl (.inl rfl)) sk_nil)))) sd_nil))) (sna_app (by decide) rfl (.inl rfl) (se_callK ["calls", "people", "size"] [2, 1, 0] F_sure_chairs (hr.mono (by decide)) rfl (fun _ _ _ _ _ _ us hl => match us, hl with | [_, _, _], _ => rfl) (sk_cons (sv_e (se_tuple B rfl (se_v 8 rfl (.inl rfl)))) (sk_cons (sv_v 7 rfl (.inl rfl)) (sk_cons (sv_v 1 rfl (.inl rfl)) sk_nil)))) (sna_app (by decide) rfl (.inl rfl) (se_callK ["calls", "people", "size"] [2, 1, 0] F_never_chairs (hr.mono (by decide)) rfl (fun _ _ _ _ _ _ us hl => match us, hl with | [_, _, _], _ => rfl) (sk_cons (sv_e (se_tuple B rfl (se_v 8 rfl (.inl rfl)))) (sk_cons (sv_v 7 rfl (.inl rfl)) (sk_cons (sv_v 1 rfl (.inl rfl)) sk_nil)))) (sna_if (st_not (st_tru (se_call F_law_same (hr.mono (by decide)) rfl (fun _ _ _ _ _ _ us hl => match us, hl with | [_, _], _ => rfl) (sa_cons (sv_e (se_lst (sd_cons (se_v 3 rfl (.inl rfl)) (sd_cons (se_v 4 rfl (.inl rfl)) sd_nil)))) (sa_cons (sv_e (se_lst (sd_cons (se_v 2 rfl (.inl rfl)) (sd_cons (se_v 2 rfl (.inl rfl)) sd_nil)))) sa_nil))))) (sna_end (by decide) PassesOwn.never rfl (pg_name (i := 5) sc.nd rfl (.inl rfl)) rfl (.inl rfl) rfl (.inl rfl) (ss_cons (ss_if (st_not (st_tru (se_call F_law_same (hr.mono (by decide)) rfl (fun _ _ _ _ _ _ us hl => match us, hl with | [_, _], _ => rfl) (sa_cons (sv_e (se_call F_law_heard (hr.mono (by decide)) rfl (fun _ _ _ _ _ _ us hl => match us, hl with | [_, _, _], _ => rfl) (sa_cons (sv_v 1 rfl (.inl rfl)) (sa_cons (sv_v 7 rfl (.inl rfl)) (sa_cons (sv_v 8 rfl (.inl rfl)) sa_nil))))) (sa_cons (sv_v 2 rfl (.inl rfl)) sa_nil))))) (ss_one (ss_ret se_bl)) ss_nil) (ss_cons (ss_for (.nm 6) PassesOwn.never rfl (pg_name (i := 6) sc.nd rfl (.inl rfl)) (si_seq (se_call F_law_tables (hr.mono (by decide)) rfl (fun _ _ _ _ _ _ us hl => match us, hl with | [_, _], _ => rfl) (sa_cons (sv_v 1 rfl (.inl rfl)) (sa_cons (sv_v 7 rfl (.inl rfl)) sa_nil)))) (ss_cons (ss_par 11 12 rfl sc.nd rfl rfl (by decide) rfl rfl rfl (sd_cons (se_list B rfl (se_v 6 rfl (.inl rfl))) (sd_cons (se_getO 9 hr rfl (.inl rfl) (se_v 6 rfl (.inl rfl)) (se_lst sd_nil)) sd_nil))) (ssn_0 3 sc.nd rfl (.inl rfl) O_beginnings_of (hr.mono (by decide)) rfl (fun _ _ _ _ _ _ us hl => match us, hl with | [_, _, _], _ => rfl) (sa_cons (sv_v 1 rfl (.inl rfl)) (sa_cons (sv_v 8 rfl (.inl rfl)) (sa_cons (sv_v 6 rfl (.inl rfl)) sa_nil))) (se_callK ["table", "calls", "size"] [2, 1, 0] F_beginnings_of (hr.mono (by decide)) rfl (fun _ _ _ _ _ _ us hl => match us, hl with | [_, _, _], _ => rfl) (sk_cons (sv_v 11 rfl (.inl rfl)) (sk_cons (sv_e (se_tuple B rfl (se_v 8 rfl (.inl rfl)))) (sk_cons (sv_v 1 rfl (.inl rfl)) sk_nil)))) (sn_if (st_w (sw_or (st_not (st_tru (se_call F_law_same (hr.mono (by decide)) rfl (fun _ _ _ _ _ _ us hl => match us, hl with | [_, _], _ => rfl) (sa_cons (sv_v 3 rfl (.inl rfl)) (sa_cons (sv_e (se_lst (sd_cons (se_v 12 rfl (.inl rfl)) (sd_cons (se_v 12 rfl (.inl rfl)) sd_nil)))) sa_nil))))) (sw_or1 (st_cmp ((op_neI.or (op_neD hr.room.units)).or op_ne) (nomark _) ok_ne (se_v 11 rfl (.inl rfl)) (se_list B rfl (se_v 6 rfl (.inl rfl))))))) (sn_end (i := 0) rfl (.inl rfl) se_str ss_nil))))) (ss_cons (ss_set 6 sc.nd rfl (.inl rfl) (se_call F_law_of (hr.mono (by decide)) rfl (fun _ _ _ _ _ _ us hl => match us, hl with | [_, _], _ => rfl) (sa_cons (sv_v 0 rfl (.inl rfl)) (sa_cons (sv_e (se_ix (fun _ _ => rfl) (se_v 2 rfl (.inl rfl)) se_int)) sa_nil)))) (ss_one (ss_ret (se_and (se_call F_law_same (hr.mono (by decide)) rfl (fun _ _ _ _ _ _ us hl => match us, hl with | [_, _], _ => rfl) (sa_cons (sv_e (se_call F_beginnings_of (hr.mono (by decide)) rfl (fun _ _ _ _ _ _ us hl => match us, hl with | [_, _, _], _ => rfl) (sa_cons (sv_v 1 rfl (.inl rfl)) (sa_cons (sv_v 8 rfl (.inl rfl)) (sa_cons (sv_v 6 rfl (.inl rfl)) sa_nil))))) (sa_cons (sv_e (se_idxO 9 hr rfl (.inl rfl) (se_v 6 rfl (.inl rfl)))) sa_nil))) (se_one (se_cmp ((op_eqI.or (op_eqD hr.room.units)).or op_eq) (nomark _) ok_eq (se_v 8 rfl (.inl rfl)) (se_v 10 rfl (.inl rfl))))))))))))))))))))
theorem sc_law_box : FnScope ["_law_cells_here", "_law_k", "_law_cell"] ["_law_cells_here", "_law_k"] (defScope s_law_box) := ⟨rfl, rfl, rfl, by decide +kernel, rfl, by decide +kernel, by decide +kernel⟩
def c_law_box : Ct := fun os μ Φ => ∃ (cs : List Int) (k : Nat), os = [.im (.list (iL cs)), .im (.int (k : Int))] ∧ k < cs.length ∧ ∀ b p q, μ b = none → Φ (.own b) (μ.put b (bx p q 0))
theorem f_law_box (B : Bt mg) {f : Addr} {fd : FuncData} (F : Fun K "_law_box" "_law_box" s_law_box f fd) (hm : mg "_law_box" = some (.ref f)) : Fc P w K mg base "_law_box" s_law_box ["_law_cells_here", "_law_k"] 1 c_law_box := by
  have sc := sc_law_box
  refine fc_of F hm sc (fun os μ Φ h => ?_) fun cdv A outer s H E os μ Φ hr h => ?_
  · obtain ⟨cs, k, rfl, _⟩ := h
    rfl
  · obtain ⟨cs, k, rfl, hk, q⟩ := h
    refine dss_cons (ds_set 2 sc.nd rfl (.inl rfl) (de_ix (fun _ _ => rfl) (de_var 0 rfl (.inl rfl) rfl (de_var 1 rfl (.inl rfl) rfl ⟨_, _, _, .lst _, rfl, atI_iL hk, ?_⟩))))
    refine dss_one (ds_ret (de_lstO (da_cons (de_mul (de_abs B rfl (de_var 2 rfl (.inl rfl) rfl ⟨_, rfl, de_int1 B rfl (de_ge (de_abs B rfl (de_var 2 rfl (.inl rfl) rfl ⟨_, rfl, de_pow (de_int (de_int ⟨_, _, rfl, rfl, ⟨by decide, by decide, by decide⟩, ⟨_, _, rfl, rfl, .inr ⟨_, rfl, ⟨_, _, rfl, rfl, .inr c01, da_cons (de_add (de_add (de_mod (de_var 2 rfl (.inl rfl) rfl (de_int ⟨_, _, rfl, rfl, by decide, de_mul (de_int (de_var 1 rfl (.inl rfl) rfl ⟨_, _, rfl, rfl, .inl ⟨by decide, by decide⟩, .inl ⟨_, _, rfl, rfl, de_int (.inl ⟨_, _, rfl, rfl, da_cons (de_int (da_nil ⟨lz rfl, fun b hb => q b _ _ hb⟩))⟩)⟩⟩))⟩)))))⟩⟩⟩⟩))⟩)))⟩))))))
theorem sc_law_cells : FnScope ["_law_script", "_law_utmost", "_law_cells_here", "_law_k", "_law_cell"] ["_law_script", "_law_utmost"] (defScope s_law_cells) := ⟨rfl, rfl, rfl, by decide +kernel, rfl, by decide +kernel, by decide +kernel⟩
def c_law_cells (K : PySem.W.Frag) : Ct := fun os μ Φ => ∃ (ns : List Int) (u : Nat), os = [.scr K ns, .im (.int (u : Int))] ∧ 0 < u ∧ u ≤ 1000 ∧ ns.length ≤ 63 ∧ ∀ cs : List Int, cs ≠ [] → cs.length ≤ u → Φ (.im (.list (iL cs))) μ
theorem f_law_cells (B : Bt mg) {f : Addr} {fd : FuncData} (F : Fun K "_law_cells" "_law_cells" s_law_cells f fd) (hm : mg "_law_cells" = some (.ref f)) : Fc P w K mg base "_law_cells" s_law_cells ["_law_script", "_law_utmost"] 1 (c_law_cells K) := by
  have sc := sc_law_cells
  refine fc_of F hm sc (fun os μ Φ h => ?_) fun cdv A outer s H E os μ Φ hr h => ?_
  · obtain ⟨ns, u, rfl, _⟩ := h
    rfl
  · obtain ⟨ns, u, rfl, u0, u1, hn, q⟩ := h
    refine dss_cons (ds_set 2 sc.nd rfl (.inl rfl) (de_orL (de_listO B rfl (de_slS (de_var 0 rfl (.inl rfl) rfl (de_var 1 rfl (.inl rfl) rfl ⟨_, rfl, ⟨_, rfl, ⟨_, .lst _, fun p hp => ?_⟩⟩⟩))))))
    rw [cutI_to]
    have go : ∀ (p : Addr) (μ1 : Mu) (cs : List Int), Sub μ μ1 → μ p = none → μ1 p = some ((iL cs).map OV.im) → cs ≠ [] → cs.length ≤ u → (u < ns.length → cs.length = u) →
        DSs (cxOf CX0 P w K mg base ["_law_script", "_law_utmost", "_law_cells_here", "_law_k", "_law_cell"] "_law_cells" (defScope s_law_cells) f cdv A outer s H E).nox (defBody s_law_cells).tail [some (.scr K ns), some (.im (.int (u : Int))), some (.own p), none, none] μ1 { nx := fun _ μ' => Φ (.im .none) μ', rt := Φ } := by
      intro p μ1 cs hs hp h1 hc hcl hcu
      refine dss_cons (ds_for (.tp [3, 4]) PassesOwn.never rfl (pg_tup rfl (pgs_cons (pg_name (i := 3) sc.nd rfl (.inl rfl)) (pgs_cons (pg_name (i := 4) sc.nd rfl (.inl rfl)) pgs_nil))) (di_en B rfl (de_slS (de_var 0 rfl (.inl rfl) rfl (de_var 1 rfl (.inl rfl) rfl ⟨_, rfl, de_int ⟨_, rfl, ⟨_, rfl, ⟨_, .lst, ?_⟩⟩⟩⟩)))))
      refine ⟨fun i ρ' μ' => ∃ cs' x y, ρ' = [some (.scr K ns), some (.im (.int (u : Int))), some (.own p), x, y] ∧ Sub μ μ' ∧ μ' p = some ((iL cs').map OV.im) ∧ cs'.length = cs.length, ⟨cs, none, none, rfl, hs, h1, rfl⟩, fun _ _ _ _ => trivial, fun i z ρ' μ' hz hP => ?_, fun ρ' μ' hP => ?_⟩
      · obtain ⟨cs', x, y, rfl, hs', hp', hl⟩ := hP
        obtain ⟨d, hd, rfl⟩ := prs_at hz
        obtain ⟨c, hc1, rfl⟩ := iL_get hd
        have hi := (List.getElem?_eq_some_iff.mp hc1).1
        have hlen := cutI_len ns u 63
        have hi' : i < (cutI ns (some (u : Int)) (some ((63 : Nat) : Int))).length := hi
        have hul : cs'.length = u := by rw [hl]; exact hcu (by omega)
        refine ⟨_, rfl, ?_⟩
        have em : ((i : Int) % (u : Int)) = ((i % u : Nat) : Int) := by omega
        have hm' : i % u < cs'.length := by rw [hul]; exact Nat.mod_lt _ u0
        have hix : ixN ((iL cs').map OV.im).length ((i : Int) % (u : Int)) = some (i % u) := by
          rw [em]
          exact ixN_nat (by rw [List.length_map, List.length_map]; exact hm')
        refine dss_one (ds_sub (de_add (de_ix (fun _ _ => rfl) (de_var 2 rfl (.inl rfl) rfl (de_mod (de_var 3 rfl (.inl rfl) rfl (de_var 1 rfl (.inl rfl) rfl ⟨_, _, rfl, rfl, by omega, ⟨_, _, _, .own hp', rfl, (by rw [em]; exact atI_iL hm'), de_mul (de_var 4 rfl (.inl rfl) rfl (de_add (de_var 3 rfl (.inl rfl) rfl (de_int (.inl ⟨_, _, rfl, rfl, ⟨_, _, rfl, rfl, .inr ⟨by omega, by omega⟩, .inl ⟨_, _, rfl, rfl, de_var 2 rfl (.inl rfl) rfl (de_mod (de_var 3 rfl (.inl rfl) rfl (de_var 1 rfl (.inl rfl) rfl ⟨_, _, rfl, rfl, by omega, ⟨_, _, _, _, rfl, rfl, hp', hix, ?_⟩⟩)))⟩⟩⟩)))))⟩⟩)))))) (hsub := pg_sub pwe pwe set_list))
        refine ⟨cs'.set (i % u) (cs'[i % u] + c * ((i : Int) + 2)), _, _, rfl, ⟨fun a l e => ?_, hs'.2⟩, ?_, by rw [List.length_set, hl]⟩
        · rw [put_ne (ne_own e hp)]
          exact hs'.1 a l e
        · rw [put_same, ← List.map_set, ← List.map_set]
      · obtain ⟨cs', x, y, rfl, hs', hp', hl⟩ := hP
        refine dss_frz (i := 2) rfl hp' (dss_drop (μ' := μ) ⟨fun a l e => ?_, hs'.2⟩ (dss_one (ds_ret (de_var 2 rfl (.inl rfl) rfl (q cs' ?_ ?_)))))
        · show (if a = p then none else μ' a) = some l
          rw [if_neg (ne_own e hp)]
          exact hs'.1 a l e
        · intro e
          rw [e] at hl
          exact hc (List.length_eq_zero_iff.mp hl.symm)
        · omega
    by_cases hne : ns.take u = []
    · refine ⟨[], ?_, ?_⟩
      · rw [hne]
        exact .own put_same
      · rw [if_neg (by simp)]
        refine de_one (de_lstO (da_cons (de_int (da_nil ⟨lz rfl, fun p2 hp2 => ?_⟩))))
        have hp3 : μ p2 = none := by
          cases z : μ p2 with
          | none => rfl
          | some l =>
            rw [put_ne (ne_own z hp), z] at hp2
            cases hp2
        refine go p2 _ [0] ⟨fun a l e => ?_, rfl, rfl⟩ hp3 put_same (by simp) (by simp; omega) fun hu => ?_
        · rw [put_ne (ne_own e hp3), put_ne (ne_own e hp)]
          exact e
        · have := congrArg List.length hne
          rw [List.length_take, List.length_nil] at this
          omega
    · refine ⟨iL (ns.take u), .own put_same, ?_⟩
      rw [if_pos (by simpa using hne)]
      refine go p _ (ns.take u) ⟨fun a l e => ?_, rfl, rfl⟩ hp put_same hne (by rw [List.length_take]; omega) fun hu => by rw [List.length_take]; omega
      rw [put_ne (ne_own e hp)]
      exact e
abbrev N_law : List Str := ["_law_script", "_law_cells_here", "_law_k"]
theorem sc_law : FnScope N_law ["_law_script"] (defScope s_law) := ⟨rfl, rfl, rfl, by decide +kernel, rfl, by decide +kernel, by decide +kernel⟩
theorem f_law {kr : Nat} (B : Bt mg) (F_law_cells : Fc P w K mg base "_law_cells" s_law_cells ["_law_script", "_law_utmost"] 1 (c_law_cells K)) (F_law_box : Fc P w K mg base "_law_box" s_law_box ["_law_cells_here", "_law_k"] 1 c_law_box) (F_law_right : Fc P w K mg base "_law_right" s_law_right ["_law_box_here"] (kr + 1) cR) {f : Addr} {fd : FuncData} (F : Fun K "law" "law" s_law f fd) : FnG P w K mg base CX0 (kr + 2) f fd ["_law_script"] (spOf (c_law K)) := by
  have sc := sc_law
  refine fg_of F sc (fun os μ Φ h => ?_) fun cdv A outer s H E os μ Φ hr h => ?_
  · obtain ⟨ns, rfl, _⟩ := h
    rfl
  · obtain ⟨ns, rfl, hn, k⟩ := h
    refine dss_cons (ds_set 1 sc.nd rfl (.inr rfl) (de_call F_law_cells (hr.mono (by omega)) rfl (fun _ _ _ _ _ _ us hl => match us, hl with | [_, _], _ => rfl) (da_cons (de_var 0 rfl (.inl rfl) rfl (da_cons (de_int (da_nil ⟨ns, 2, rfl, by decide, by decide, hn, fun cs hc hcl => ?_⟩)))))))
    refine dss_one (ds_ret (de_all B rfl rfl (de_lc (own := [("_law_k", 2)]) (.nm 2) rfl sc.nd (blkOk_by (N := N_law) (sc := defScope s_law) (by decide +kernel)) (by decide) (fun _ _ _ _ _ => pg_name (i := 2) sc.nd rfl (.inl rfl)) (di_range1 B rfl (de_len B rfl (de_var 1 rfl (.inr (.inl rfl)) rfl ⟨_, .lst _, ⟨_, rfl, by omega, ?_, ?_⟩⟩))))))
    · rw [List.length_map, List.length_map]
      omega
    refine ⟨fun i acc μ' => acc = (List.replicate i (PyData.bool true)).map .im, ?_, rfl, fun _ _ _ _ _ _ => trivial, fun acc μ2 h => ?_, fun i acc μ2 o ho h => ?_⟩
    · simp
      omega
    · subst h
      refine ⟨_, rfl, List.replicate (List.map (fun (q : Nat) => OV.im (PyData.int (q : Int))) (List.range (((List.map OV.im (iL cs)).length : Nat) : Int).toNat)).length true, ?_, ?_⟩
      · rw [show ∀ m : Nat, List.map PyData.bool (List.replicate m true) = List.replicate m (PyData.bool true) from fun m => List.map_replicate]
        exact .im _
      · rw [show ∀ n, (List.replicate n true).all id = true from fun n => by simp]
        exact k _
    · subst h
      have hi : i < cs.length := by simpa using (List.getElem?_eq_some_iff.mp ho).1
      simp only [List.length_map, Int.toNat_natCast, List.getElem?_map, List.getElem?_range hi, Option.map_some, Option.some.injEq] at ho
      subst ho
      refine ⟨_, rfl, fun Dl hDl => ?_⟩
      dsimp only [DTb]
      rw [if_pos rfl]
      intro s1 H1 C1 cl1 fp1
      refine de_call F_law_right hr rfl (fun _ _ _ _ _ _ us hl => match us, hl with | [_], _ => rfl) (da_cons (de_call F_law_box (hr.mono (by omega)) rfl (fun _ _ _ _ _ _ us hl => match us, hl with | [_, _], _ => rfl) (da_cons (de_v 1 rfl (da_cons (de_v 2 rfl (da_nil ⟨cs, i, rfl, hi, fun b p q hb => da_nil ⟨b, p, q, 0, rfl, put_same, fun μ3 s3 => ?_⟩⟩)))))))
      have nD : Dl ≠ b := ne_own put_same hb
      obtain ⟨pb1, pb2⟩ := put_back (s3.old Dl _ nD ((put_ne nD).trans put_same))
      refine ⟨μ3.del Dl, pb1, pb2, ?_⟩
      rw [List.replicate_succ', List.map_append]
      rfl
end
theorem all_mk {l : PySem.W.OpenLaw} {w : World} {K : PySem.W.Frag} {h : Heap} {mg : Str → Option Value} {fa : Addr} (X : K.In h) (G : h.Ns mainGlobals mg) (hfa : mg "law" = some (.ref fa))
    {f0 : Addr} {od0 an0 : Option Addr} {sl0 : Array (Option Value)} {oc0 kV0 dc0 pm0 cd0 ct0 : Value} (a0 : PySem.W.nsIn K mainGlobals "mover" = some (some (.ref f0))) (l0 : K.lookup f0 = some ⟨oc0, od0, .func (PySem.W.fnOf "mover" "mover" (defArgs s_mover) (defBody s_mover) (defScope s_mover) .none kV0 dc0 pm0 an0 cd0 ct0), sl0⟩) (c0 : PySem.W.codeIn K cd0 "mover" = true) (k0 : PySem.W.keepIn K (.ref f0) = true)
    {f1 : Addr} {od1 an1 : Option Addr} {sl1 : Array (Option Value)} {oc1 kV1 dc1 pm1 cd1 ct1 : Value} (a1 : PySem.W.nsIn K mainGlobals "seats_called" = some (some (.ref f1))) (l1 : K.lookup f1 = some ⟨oc1, od1, .func (PySem.W.fnOf "seats_called" "seats_called" (defArgs s_seats_called) (defBody s_seats_called) (defScope s_seats_called) .none kV1 dc1 pm1 an1 cd1 ct1), sl1⟩) (c1 : PySem.W.codeIn K cd1 "seats_called" = true) (k1 : PySem.W.keepIn K (.ref f1) = true)
    {f2 : Addr} {od2 an2 : Option Addr} {sl2 : Array (Option Value)} {oc2 kV2 dc2 pm2 cd2 ct2 : Value} (a2 : PySem.W.nsIn K mainGlobals "seats_along" = some (some (.ref f2))) (l2 : K.lookup f2 = some ⟨oc2, od2, .func (PySem.W.fnOf "seats_along" "seats_along" (defArgs s_seats_along) (defBody s_seats_along) (defScope s_seats_along) .none kV2 dc2 pm2 an2 cd2 ct2), sl2⟩) (c2 : PySem.W.codeIn K cd2 "seats_along" = true) (k2 : PySem.W.keepIn K (.ref f2) = true)
    {f3 : Addr} {od3 an3 : Option Addr} {sl3 : Array (Option Value)} {oc3 kV3 dc3 pm3 cd3 ct3 : Value} (a3 : PySem.W.nsIn K mainGlobals "as_table" = some (some (.ref f3))) (l3 : K.lookup f3 = some ⟨oc3, od3, .func (PySem.W.fnOf "as_table" "as_table" (defArgs s_as_table) (defBody s_as_table) (defScope s_as_table) .none kV3 dc3 pm3 an3 cd3 ct3), sl3⟩) (c3 : PySem.W.codeIn K cd3 "as_table" = true) (k3 : PySem.W.keepIn K (.ref f3) = true)
    {f4 : Addr} {od4 an4 : Option Addr} {sl4 : Array (Option Value)} {oc4 kV4 dc4 pm4 cd4 ct4 : Value} (a4 : PySem.W.nsIn K mainGlobals "steps" = some (some (.ref f4))) (l4 : K.lookup f4 = some ⟨oc4, od4, .func (PySem.W.fnOf "steps" "steps" (defArgs s_steps) (defBody s_steps) (defScope s_steps) .none kV4 dc4 pm4 an4 cd4 ct4), sl4⟩) (c4 : PySem.W.codeIn K cd4 "steps" = true) (k4 : PySem.W.keepIn K (.ref f4) = true)
    {f5 : Addr} {od5 an5 : Option Addr} {sl5 : Array (Option Value)} {oc5 kV5 dc5 pm5 cd5 ct5 : Value} (a5 : PySem.W.nsIn K mainGlobals "pack_seats" = some (some (.ref f5))) (l5 : K.lookup f5 = some ⟨oc5, od5, .func (PySem.W.fnOf "pack_seats" "pack_seats" (defArgs s_pack_seats) (defBody s_pack_seats) (defScope s_pack_seats) .none kV5 dc5 pm5 an5 cd5 ct5), sl5⟩) (c5 : PySem.W.codeIn K cd5 "pack_seats" = true) (k5 : PySem.W.keepIn K (.ref f5) = true)
    {f6 : Addr} {od6 an6 : Option Addr} {sl6 : Array (Option Value)} {oc6 kV6 dc6 pm6 cd6 ct6 : Value} (a6 : PySem.W.nsIn K mainGlobals "moves_of" = some (some (.ref f6))) (l6 : K.lookup f6 = some ⟨oc6, od6, .func (PySem.W.fnOf "moves_of" "moves_of" (defArgs s_moves_of) (defBody s_moves_of) (defScope s_moves_of) .none kV6 dc6 pm6 an6 cd6 ct6), sl6⟩) (c6 : PySem.W.codeIn K cd6 "moves_of" = true) (k6 : PySem.W.keepIn K (.ref f6) = true)
    {f7 : Addr} {od7 an7 : Option Addr} {sl7 : Array (Option Value)} {oc7 kV7 dc7 pm7 cd7 ct7 : Value} (a7 : PySem.W.nsIn K mainGlobals "steps_of_one" = some (some (.ref f7))) (l7 : K.lookup f7 = some ⟨oc7, od7, .func (PySem.W.fnOf "steps_of_one" "steps_of_one" (defArgs s_steps_of_one) (defBody s_steps_of_one) (defScope s_steps_of_one) .none kV7 dc7 pm7 an7 cd7 ct7), sl7⟩) (c7 : PySem.W.codeIn K cd7 "steps_of_one" = true) (k7 : PySem.W.keepIn K (.ref f7) = true)
    {f8 : Addr} {od8 an8 : Option Addr} {sl8 : Array (Option Value)} {oc8 kV8 dc8 pm8 cd8 ct8 : Value} (a8 : PySem.W.nsIn K mainGlobals "steps_by" = some (some (.ref f8))) (l8 : K.lookup f8 = some ⟨oc8, od8, .func (PySem.W.fnOf "steps_by" "steps_by" (defArgs s_steps_by) (defBody s_steps_by) (defScope s_steps_by) .none kV8 dc8 pm8 an8 cd8 ct8), sl8⟩) (c8 : PySem.W.codeIn K cd8 "steps_by" = true) (k8 : PySem.W.keepIn K (.ref f8) = true)
    {f9 : Addr} {od9 an9 : Option Addr} {sl9 : Array (Option Value)} {oc9 kV9 dc9 pm9 cd9 ct9 : Value} (a9 : PySem.W.nsIn K mainGlobals "table_by" = some (some (.ref f9))) (l9 : K.lookup f9 = some ⟨oc9, od9, .func (PySem.W.fnOf "table_by" "table_by" (defArgs s_table_by) (defBody s_table_by) (defScope s_table_by) .none kV9 dc9 pm9 an9 cd9 ct9), sl9⟩) (c9 : PySem.W.codeIn K cd9 "table_by" = true) (k9 : PySem.W.keepIn K (.ref f9) = true)
    {f10 : Addr} {od10 an10 : Option Addr} {sl10 : Array (Option Value)} {oc10 kV10 dc10 pm10 cd10 ct10 : Value} (a10 : PySem.W.nsIn K mainGlobals "all_tables" = some (some (.ref f10))) (l10 : K.lookup f10 = some ⟨oc10, od10, .func (PySem.W.fnOf "all_tables" "all_tables" (defArgs s_all_tables) (defBody s_all_tables) (defScope s_all_tables) .none kV10 dc10 pm10 an10 cd10 ct10), sl10⟩) (c10 : PySem.W.codeIn K cd10 "all_tables" = true) (k10 : PySem.W.keepIn K (.ref f10) = true)
    {f11 : Addr} {od11 an11 : Option Addr} {sl11 : Array (Option Value)} {oc11 kV11 dc11 pm11 cd11 ct11 : Value} (a11 : PySem.W.nsIn K mainGlobals "all_led" = some (some (.ref f11))) (l11 : K.lookup f11 = some ⟨oc11, od11, .func (PySem.W.fnOf "all_led" "all_led" (defArgs s_all_led) (defBody s_all_led) (defScope s_all_led) .none kV11 dc11 pm11 an11 cd11 ct11), sl11⟩) (c11 : PySem.W.codeIn K cd11 "all_led" = true) (k11 : PySem.W.keepIn K (.ref f11) = true)
    {f12 : Addr} {od12 an12 : Option Addr} {sl12 : Array (Option Value)} {oc12 kV12 dc12 pm12 cd12 ct12 : Value} (a12 : PySem.W.nsIn K mainGlobals "results_of" = some (some (.ref f12))) (l12 : K.lookup f12 = some ⟨oc12, od12, .func (PySem.W.fnOf "results_of" "results_of" (defArgs s_results_of) (defBody s_results_of) (defScope s_results_of) .none kV12 dc12 pm12 an12 cd12 ct12), sl12⟩) (c12 : PySem.W.codeIn K cd12 "results_of" = true) (k12 : PySem.W.keepIn K (.ref f12) = true)
    {f13 : Addr} {od13 an13 : Option Addr} {sl13 : Array (Option Value)} {oc13 kV13 dc13 pm13 cd13 ct13 : Value} (a13 : PySem.W.nsIn K mainGlobals "beginnings_of" = some (some (.ref f13))) (l13 : K.lookup f13 = some ⟨oc13, od13, .func (PySem.W.fnOf "beginnings_of" "beginnings_of" (defArgs s_beginnings_of) (defBody s_beginnings_of) (defScope s_beginnings_of) .none kV13 dc13 pm13 an13 cd13 ct13), sl13⟩) (c13 : PySem.W.codeIn K cd13 "beginnings_of" = true) (k13 : PySem.W.keepIn K (.ref f13) = true)
    {f14 : Addr} {od14 an14 : Option Addr} {sl14 : Array (Option Value)} {oc14 kV14 dc14 pm14 cd14 ct14 : Value} (a14 : PySem.W.nsIn K mainGlobals "staying" = some (some (.ref f14))) (l14 : K.lookup f14 = some ⟨oc14, od14, .func (PySem.W.fnOf "staying" "staying" (defArgs s_staying) (defBody s_staying) (defScope s_staying) .none kV14 dc14 pm14 an14 cd14 ct14), sl14⟩) (c14 : PySem.W.codeIn K cd14 "staying" = true) (k14 : PySem.W.keepIn K (.ref f14) = true)
    {f15 : Addr} {od15 an15 : Option Addr} {sl15 : Array (Option Value)} {oc15 kV15 dc15 pm15 cd15 ct15 : Value} (a15 : PySem.W.nsIn K mainGlobals "sure_chairs" = some (some (.ref f15))) (l15 : K.lookup f15 = some ⟨oc15, od15, .func (PySem.W.fnOf "sure_chairs" "sure_chairs" (defArgs s_sure_chairs) (defBody s_sure_chairs) (defScope s_sure_chairs) .none kV15 dc15 pm15 an15 cd15 ct15), sl15⟩) (c15 : PySem.W.codeIn K cd15 "sure_chairs" = true) (k15 : PySem.W.keepIn K (.ref f15) = true)
    {f16 : Addr} {od16 an16 : Option Addr} {sl16 : Array (Option Value)} {oc16 kV16 dc16 pm16 cd16 ct16 : Value} (a16 : PySem.W.nsIn K mainGlobals "never_chairs" = some (some (.ref f16))) (l16 : K.lookup f16 = some ⟨oc16, od16, .func (PySem.W.fnOf "never_chairs" "never_chairs" (defArgs s_never_chairs) (defBody s_never_chairs) (defScope s_never_chairs) .none kV16 dc16 pm16 an16 cd16 ct16), sl16⟩) (c16 : PySem.W.codeIn K cd16 "never_chairs" = true) (k16 : PySem.W.keepIn K (.ref f16) = true)
    {f17 : Addr} {od17 an17 : Option Addr} {sl17 : Array (Option Value)} {oc17 kV17 dc17 pm17 cd17 ct17 : Value} (a17 : PySem.W.nsIn K mainGlobals "_law_box" = some (some (.ref f17))) (l17 : K.lookup f17 = some ⟨oc17, od17, .func (PySem.W.fnOf "_law_box" "_law_box" (defArgs s_law_box) (defBody s_law_box) (defScope s_law_box) .none kV17 dc17 pm17 an17 cd17 ct17), sl17⟩) (c17 : PySem.W.codeIn K cd17 "_law_box" = true) (k17 : PySem.W.keepIn K (.ref f17) = true)
    {f18 : Addr} {od18 an18 : Option Addr} {sl18 : Array (Option Value)} {oc18 kV18 dc18 pm18 cd18 ct18 : Value} (a18 : PySem.W.nsIn K mainGlobals "_law_take" = some (some (.ref f18))) (l18 : K.lookup f18 = some ⟨oc18, od18, .func (PySem.W.fnOf "_law_take" "_law_take" (defArgs s_law_take) (defBody s_law_take) (defScope s_law_take) .none kV18 dc18 pm18 an18 cd18 ct18), sl18⟩) (c18 : PySem.W.codeIn K cd18 "_law_take" = true) (k18 : PySem.W.keepIn K (.ref f18) = true)
    {f19 : Addr} {od19 an19 : Option Addr} {sl19 : Array (Option Value)} {oc19 kV19 dc19 pm19 cd19 ct19 : Value} (a19 : PySem.W.nsIn K mainGlobals "_law_cells" = some (some (.ref f19))) (l19 : K.lookup f19 = some ⟨oc19, od19, .func (PySem.W.fnOf "_law_cells" "_law_cells" (defArgs s_law_cells) (defBody s_law_cells) (defScope s_law_cells) .none kV19 dc19 pm19 an19 cd19 ct19), sl19⟩) (c19 : PySem.W.codeIn K cd19 "_law_cells" = true) (k19 : PySem.W.keepIn K (.ref f19) = true)
    {f20 : Addr} {od20 an20 : Option Addr} {sl20 : Array (Option Value)} {oc20 kV20 dc20 pm20 cd20 ct20 : Value} (a20 : PySem.W.nsIn K mainGlobals "_law_of" = some (some (.ref f20))) (l20 : K.lookup f20 = some ⟨oc20, od20, .func (PySem.W.fnOf "_law_of" "_law_of" (defArgs s_law_of) (defBody s_law_of) (defScope s_law_of) .none kV20 dc20 pm20 an20 cd20 ct20), sl20⟩) (c20 : PySem.W.codeIn K cd20 "_law_of" = true) (k20 : PySem.W.keepIn K (.ref f20) = true)
    {f21 : Addr} {od21 an21 : Option Addr} {sl21 : Array (Option Value)} {oc21 kV21 dc21 pm21 cd21 ct21 : Value} (a21 : PySem.W.nsIn K mainGlobals "_law_same" = some (some (.ref f21))) (l21 : K.lookup f21 = some ⟨oc21, od21, .func (PySem.W.fnOf "_law_same" "_law_same" (defArgs s_law_same) (defBody s_law_same) (defScope s_law_same) .none kV21 dc21 pm21 an21 cd21 ct21), sl21⟩) (c21 : PySem.W.codeIn K cd21 "_law_same" = true) (k21 : PySem.W.keepIn K (.ref f21) = true)
    {f22 : Addr} {od22 an22 : Option Addr} {sl22 : Array (Option Value)} {oc22 kV22 dc22 pm22 cd22 ct22 : Value} (a22 : PySem.W.nsIn K mainGlobals "_law_span" = some (some (.ref f22))) (l22 : K.lookup f22 = some ⟨oc22, od22, .func (PySem.W.fnOf "_law_span" "_law_span" (defArgs s_law_span) (defBody s_law_span) (defScope s_law_span) .none kV22 dc22 pm22 an22 cd22 ct22), sl22⟩) (c22 : PySem.W.codeIn K cd22 "_law_span" = true) (k22 : PySem.W.keepIn K (.ref f22) = true)
    {f23 : Addr} {od23 an23 : Option Addr} {sl23 : Array (Option Value)} {oc23 kV23 dc23 pm23 cd23 ct23 : Value} (a23 : PySem.W.nsIn K mainGlobals "_law_tour" = some (some (.ref f23))) (l23 : K.lookup f23 = some ⟨oc23, od23, .func (PySem.W.fnOf "_law_tour" "_law_tour" (defArgs s_law_tour) (defBody s_law_tour) (defScope s_law_tour) .none kV23 dc23 pm23 an23 cd23 ct23), sl23⟩) (c23 : PySem.W.codeIn K cd23 "_law_tour" = true) (k23 : PySem.W.keepIn K (.ref f23) = true)
    {f24 : Addr} {od24 an24 : Option Addr} {sl24 : Array (Option Value)} {oc24 kV24 dc24 pm24 cd24 ct24 : Value} (a24 : PySem.W.nsIn K mainGlobals "_law_pushed" = some (some (.ref f24))) (l24 : K.lookup f24 = some ⟨oc24, od24, .func (PySem.W.fnOf "_law_pushed" "_law_pushed" (defArgs s_law_pushed) (defBody s_law_pushed) (defScope s_law_pushed) .none kV24 dc24 pm24 an24 cd24 ct24), sl24⟩) (c24 : PySem.W.codeIn K cd24 "_law_pushed" = true) (k24 : PySem.W.keepIn K (.ref f24) = true)
    {f25 : Addr} {od25 an25 : Option Addr} {sl25 : Array (Option Value)} {oc25 kV25 dc25 pm25 cd25 ct25 : Value} (a25 : PySem.W.nsIn K mainGlobals "_law_walked" = some (some (.ref f25))) (l25 : K.lookup f25 = some ⟨oc25, od25, .func (PySem.W.fnOf "_law_walked" "_law_walked" (defArgs s_law_walked) (defBody s_law_walked) (defScope s_law_walked) .none kV25 dc25 pm25 an25 cd25 ct25), sl25⟩) (c25 : PySem.W.codeIn K cd25 "_law_walked" = true) (k25 : PySem.W.keepIn K (.ref f25) = true)
    {f26 : Addr} {od26 an26 : Option Addr} {sl26 : Array (Option Value)} {oc26 kV26 dc26 pm26 cd26 ct26 : Value} (a26 : PySem.W.nsIn K mainGlobals "_law_table" = some (some (.ref f26))) (l26 : K.lookup f26 = some ⟨oc26, od26, .func (PySem.W.fnOf "_law_table" "_law_table" (defArgs s_law_table) (defBody s_law_table) (defScope s_law_table) .none kV26 dc26 pm26 an26 cd26 ct26), sl26⟩) (c26 : PySem.W.codeIn K cd26 "_law_table" = true) (k26 : PySem.W.keepIn K (.ref f26) = true)
    {f27 : Addr} {od27 an27 : Option Addr} {sl27 : Array (Option Value)} {oc27 kV27 dc27 pm27 cd27 ct27 : Value} (a27 : PySem.W.nsIn K mainGlobals "_law_after" = some (some (.ref f27))) (l27 : K.lookup f27 = some ⟨oc27, od27, .func (PySem.W.fnOf "_law_after" "_law_after" (defArgs s_law_after) (defBody s_law_after) (defScope s_law_after) .none kV27 dc27 pm27 an27 cd27 ct27), sl27⟩) (c27 : PySem.W.codeIn K cd27 "_law_after" = true) (k27 : PySem.W.keepIn K (.ref f27) = true)
    {f28 : Addr} {od28 an28 : Option Addr} {sl28 : Array (Option Value)} {oc28 kV28 dc28 pm28 cd28 ct28 : Value} (a28 : PySem.W.nsIn K mainGlobals "_law_tables" = some (some (.ref f28))) (l28 : K.lookup f28 = some ⟨oc28, od28, .func (PySem.W.fnOf "_law_tables" "_law_tables" (defArgs s_law_tables) (defBody s_law_tables) (defScope s_law_tables) .none kV28 dc28 pm28 an28 cd28 ct28), sl28⟩) (c28 : PySem.W.codeIn K cd28 "_law_tables" = true) (k28 : PySem.W.keepIn K (.ref f28) = true)
    {f29 : Addr} {od29 an29 : Option Addr} {sl29 : Array (Option Value)} {oc29 kV29 dc29 pm29 cd29 ct29 : Value} (a29 : PySem.W.nsIn K mainGlobals "_law_lots" = some (some (.ref f29))) (l29 : K.lookup f29 = some ⟨oc29, od29, .func (PySem.W.fnOf "_law_lots" "_law_lots" (defArgs s_law_lots) (defBody s_law_lots) (defScope s_law_lots) .none kV29 dc29 pm29 an29 cd29 ct29), sl29⟩) (c29 : PySem.W.codeIn K cd29 "_law_lots" = true) (k29 : PySem.W.keepIn K (.ref f29) = true)
    {f30 : Addr} {od30 an30 : Option Addr} {sl30 : Array (Option Value)} {oc30 kV30 dc30 pm30 cd30 ct30 : Value} (a30 : PySem.W.nsIn K mainGlobals "_law_due" = some (some (.ref f30))) (l30 : K.lookup f30 = some ⟨oc30, od30, .func (PySem.W.fnOf "_law_due" "_law_due" (defArgs s_law_due) (defBody s_law_due) (defScope s_law_due) .none kV30 dc30 pm30 an30 cd30 ct30), sl30⟩) (c30 : PySem.W.codeIn K cd30 "_law_due" = true) (k30 : PySem.W.keepIn K (.ref f30) = true)
    {f31 : Addr} {od31 an31 : Option Addr} {sl31 : Array (Option Value)} {oc31 kV31 dc31 pm31 cd31 ct31 : Value} (a31 : PySem.W.nsIn K mainGlobals "_law_heard" = some (some (.ref f31))) (l31 : K.lookup f31 = some ⟨oc31, od31, .func (PySem.W.fnOf "_law_heard" "_law_heard" (defArgs s_law_heard) (defBody s_law_heard) (defScope s_law_heard) .none kV31 dc31 pm31 an31 cd31 ct31), sl31⟩) (c31 : PySem.W.codeIn K cd31 "_law_heard" = true) (k31 : PySem.W.keepIn K (.ref f31) = true)
    {f32 : Addr} {od32 an32 : Option Addr} {sl32 : Array (Option Value)} {oc32 kV32 dc32 pm32 cd32 ct32 : Value} (a32 : PySem.W.nsIn K mainGlobals "_law_right" = some (some (.ref f32))) (l32 : K.lookup f32 = some ⟨oc32, od32, .func (PySem.W.fnOf "_law_right" "_law_right" (defArgs s_law_right) (defBody s_law_right) (defScope s_law_right) .none kV32 dc32 pm32 an32 cd32 ct32), sl32⟩) (c32 : PySem.W.codeIn K cd32 "_law_right" = true) (k32 : PySem.W.keepIn K (.ref f32) = true)
    {f33 : Addr} {od33 an33 : Option Addr} {sl33 : Array (Option Value)} {oc33 kV33 dc33 pm33 cd33 ct33 : Value} (a33 : PySem.W.nsIn K mainGlobals "law" = some (some (.ref f33))) (l33 : K.lookup f33 = some ⟨oc33, od33, .func (PySem.W.fnOf "law" "law" (defArgs s_law) (defBody s_law) (defScope s_law) .none kV33 dc33 pm33 an33 cd33 ct33), sl33⟩) (c33 : PySem.W.codeIn K cd33 "law" = true) (k33 : PySem.W.keepIn K (.ref f33) = true)
    (z_len : PySem.W.nsIn K mainGlobals "len" = some none)
    (z_range : PySem.W.nsIn K mainGlobals "range" = some none)
    (z_list : PySem.W.nsIn K mainGlobals "list" = some none)
    (z_tuple : PySem.W.nsIn K mainGlobals "tuple" = some none)
    (z_sorted : PySem.W.nsIn K mainGlobals "sorted" = some none)
    (z_abs : PySem.W.nsIn K mainGlobals "abs" = some none)
    (z_int : PySem.W.nsIn K mainGlobals "int" = some none)
    (z_str : PySem.W.nsIn K mainGlobals "str" = some none)
    (z_repr : PySem.W.nsIn K mainGlobals "repr" = some none)
    (z_all : PySem.W.nsIn K mainGlobals "all" = some none)
    (z_any : PySem.W.nsIn K mainGlobals "any" = some none)
    (z_max : PySem.W.nsIn K mainGlobals "max" = some none)
    (z_min : PySem.W.nsIn K mainGlobals "min" = some none)
    (z_sum : PySem.W.nsIn K mainGlobals "sum" = some none)
    (z_enumerate : PySem.W.nsIn K mainGlobals "enumerate" = some none)
    (z_zip : PySem.W.nsIn K mainGlobals "zip" = some none)
    (z_isinstance : PySem.W.nsIn K mainGlobals "isinstance" = some none)
    (z_bool : PySem.W.nsIn K mainGlobals "bool" = some none)
    (z_set : PySem.W.nsIn K mainGlobals "set" = some none)
    (z_dict : PySem.W.nsIn K mainGlobals "dict" = some none)
    : ∃ fd : FuncData, (∀ (s : Shared) (v : Value), BindsTo s fd ⟨[v], []⟩ [("_law_script", v)]) ∧ ∀ base : Heap, K.In base → base.Ns mainGlobals mg → FnG l.prog w K mg base CX0 11 fa fd ["_law_script"] (spOf (c_law K)) := by
  have e := hfa.symm.trans (PySem.W.mg_of X G a33)
  cases e
  have B : Bt mg := ⟨PySem.W.mg_none_of X G z_len, PySem.W.mg_none_of X G z_range, PySem.W.mg_none_of X G z_list, PySem.W.mg_none_of X G z_tuple, PySem.W.mg_none_of X G z_sorted, PySem.W.mg_none_of X G z_abs, PySem.W.mg_none_of X G z_int, PySem.W.mg_none_of X G z_str, PySem.W.mg_none_of X G z_repr, PySem.W.mg_none_of X G z_all, PySem.W.mg_none_of X G z_any, PySem.W.mg_none_of X G z_max, PySem.W.mg_none_of X G z_min, PySem.W.mg_none_of X G z_sum, PySem.W.mg_none_of X G z_enumerate, PySem.W.mg_none_of X G z_zip, PySem.W.mg_none_of X G z_isinstance, PySem.W.mg_none_of X G z_bool, PySem.W.mg_none_of X G z_set, PySem.W.mg_none_of X G z_dict⟩
  have G_law_cells := fun base : Heap => f_law_cells (P := l.prog) (w := w) (base := base) B (fun_mk (st := s_law_cells) l19 c19 k19) (PySem.W.mg_of X G a19)
  have G_law_box := fun base : Heap => f_law_box (P := l.prog) (w := w) (base := base) B (fun_mk (st := s_law_box) l17 c17 k17) (PySem.W.mg_of X G a17)
  have H_law_take := fun base : Heap => f_law_take (P := l.prog) (w := w) (base := base)  (fun_mk (st := s_law_take) l18 c18 k18) (PySem.W.mg_of X G a18)
  have G_law_take := fun base : Heap => (H_law_take base).imp take_ok
  have G_law_span := fun base : Heap => f_law_span (P := l.prog) (w := w) (base := base) B (G_law_take base) (fun_mk (st := s_law_span) l22 c22 k22) (PySem.W.mg_of X G a22)
  have G_law_tables := fun base : Heap => f_law_tables (P := l.prog) (w := w) (base := base) B (fun_mk (st := s_law_tables) l28 c28 k28) (PySem.W.mg_of X G a28)
  have G_law_due := fun base : Heap => f_law_due (P := l.prog) (w := w) (base := base) B (G_law_tables base) (fun_mk (st := s_law_due) l30 c30 k30) (PySem.W.mg_of X G a30)
  have G_law_of := fun base : Heap => f_law_of (P := l.prog) (w := w) (base := base) B (G_law_take base) (fun_mk (st := s_law_of) l20 c20 k20) (PySem.W.mg_of X G a20)
  have G_law_tour := fun base : Heap => f_law_tour (P := l.prog) (w := w) (base := base) B (G_law_take base) (G_law_of base) (fun_mk (st := s_law_tour) l23 c23 k23) (PySem.W.mg_of X G a23)
  have G_law_table := fun base : Heap => f_law_table (P := l.prog) (w := w) (base := base) B (fun_mk (st := s_law_table) l26 c26 k26) (PySem.W.mg_of X G a26)
  have G_law_pushed := fun base : Heap => f_law_pushed (P := l.prog) (w := w) (base := base) B (fun_mk (st := s_law_pushed) l24 c24 k24) (PySem.W.mg_of X G a24)
  have G_law_walked := fun base : Heap => f_law_walked (P := l.prog) (w := w) (base := base) B (G_law_pushed base) (fun_mk (st := s_law_walked) l25 c25 k25) (PySem.W.mg_of X G a25)
  have G_law_after := fun base : Heap => f_law_after (P := l.prog) (w := w) (base := base) B (G_law_table base) (G_law_walked base) (fun_mk (st := s_law_after) l27 c27 k27) (PySem.W.mg_of X G a27)
  have G_law_lots := fun base : Heap => f_law_lots (P := l.prog) (w := w) (base := base) B (G_law_tables base) (G_law_after base) (fun_mk (st := s_law_lots) l29 c29 k29) (PySem.W.mg_of X G a29)
  have G_mover := fun base : Heap => f_mover (P := l.prog) (w := w) (base := base) B (fun_mk (st := s_mover) l0 c0 k0) (PySem.W.mg_of X G a0)
  have G_seats_called := fun base : Heap => f_seats_called (P := l.prog) (w := w) (base := base) B (G_mover base) (fun_mk (st := s_seats_called) l1 c1 k1) (PySem.W.mg_of X G a1)
  have G_seats_along := fun base : Heap => f_seats_along (P := l.prog) (w := w) (base := base) B (G_seats_called base) (fun_mk (st := s_seats_along) l2 c2 k2) (PySem.W.mg_of X G a2)
  have G_steps := fun base : Heap => f_steps (P := l.prog) (w := w) (base := base) B (G_seats_along base) (fun_mk (st := s_steps) l4 c4 k4) (PySem.W.mg_of X G a4)
  have G_pack_seats := fun base : Heap => f_pack_seats (P := l.prog) (w := w) (base := base) B (fun_mk (st := s_pack_seats) l5 c5 k5) (PySem.W.mg_of X G a5)
  have G_moves_of := fun base : Heap => f_moves_of (P := l.prog) (w := w) (base := base) B (G_steps base) (G_pack_seats base) (fun_mk (st := s_moves_of) l6 c6 k6) (PySem.W.mg_of X G a6)
  have G_steps_of_one := fun base : Heap => f_steps_of_one (P := l.prog) (w := w) (base := base) B (fun_mk (st := s_steps_of_one) l7 c7 k7) (PySem.W.mg_of X G a7)
  have G_steps_by := fun base : Heap => f_steps_by (P := l.prog) (w := w) (base := base) B (G_steps_of_one base) (fun_mk (st := s_steps_by) l8 c8 k8) (PySem.W.mg_of X G a8)
  have G_as_table := fun base : Heap => f_as_table (P := l.prog) (w := w) (base := base) B (fun_mk (st := s_as_table) l3 c3 k3) (PySem.W.mg_of X G a3)
  have G_table_by := fun base : Heap => f_table_by (P := l.prog) (w := w) (base := base) B (G_steps_by base) (G_as_table base) (fun_mk (st := s_table_by) l9 c9 k9) (PySem.W.mg_of X G a9)
  have G_all_tables := fun base : Heap => f_all_tables (P := l.prog) (w := w) (base := base) B (fun_mk (st := s_all_tables) l10 c10 k10) (PySem.W.mg_of X G a10)
  have G_all_led := fun base : Heap => f_all_led (P := l.prog) (w := w) (base := base) B (G_moves_of base) (G_table_by base) (G_all_tables base) (fun_mk (st := s_all_led) l11 c11 k11) (PySem.W.mg_of X G a11)
  have G_results_of := fun base : Heap => f_results_of (P := l.prog) (w := w) (base := base) B (G_all_led base) (fun_mk (st := s_results_of) l12 c12 k12) (PySem.W.mg_of X G a12)
  have GO_results_of := fun base : Heap => fO_results_of (P := l.prog) (w := w) (base := base) B (G_all_led base) (fun_mk (st := s_results_of) l12 c12 k12) (PySem.W.mg_of X G a12)
  have G_staying := fun base : Heap => f_staying (P := l.prog) (w := w) (base := base) B (G_all_led base) (fun_mk (st := s_staying) l14 c14 k14) (PySem.W.mg_of X G a14)
  have GO_staying := fun base : Heap => fO_staying (P := l.prog) (w := w) (base := base) B (G_all_led base) (fun_mk (st := s_staying) l14 c14 k14) (PySem.W.mg_of X G a14)
  have G_sure_chairs := fun base : Heap => f_sure_chairs (P := l.prog) (w := w) (base := base) B (G_results_of base) (fun_mk (st := s_sure_chairs) l15 c15 k15) (PySem.W.mg_of X G a15)
  have GO_sure_chairs := fun base : Heap => fO_sure_chairs (P := l.prog) (w := w) (base := base) B (G_results_of base) (fun_mk (st := s_sure_chairs) l15 c15 k15) (PySem.W.mg_of X G a15)
  have G_never_chairs := fun base : Heap => f_never_chairs (P := l.prog) (w := w) (base := base) B (G_results_of base) (fun_mk (st := s_never_chairs) l16 c16 k16) (PySem.W.mg_of X G a16)
  have GO_never_chairs := fun base : Heap => fO_never_chairs (P := l.prog) (w := w) (base := base) B (G_results_of base) (fun_mk (st := s_never_chairs) l16 c16 k16) (PySem.W.mg_of X G a16)
  have G_law_same := fun base : Heap => f_law_same (P := l.prog) (w := w) (base := base) B (fun_mk (st := s_law_same) l21 c21 k21) (PySem.W.mg_of X G a21)
  have G_law_heard := fun base : Heap => f_law_heard (P := l.prog) (w := w) (base := base) B (G_results_of base) (G_staying base) (G_sure_chairs base) (G_never_chairs base) (fun_mk (st := s_law_heard) l31 c31 k31) (PySem.W.mg_of X G a31)
  have GL_law_heard := fun base : Heap => fL_law_heard (P := l.prog) (w := w) (base := base) B (GO_results_of base) (GO_staying base) (GO_sure_chairs base) (GO_never_chairs base) (fun_mk (st := s_law_heard) l31 c31 k31) (PySem.W.mg_of X G a31)
  have G_beginnings_of := fun base : Heap => f_beginnings_of (P := l.prog) (w := w) (base := base) B (G_all_led base) (fun_mk (st := s_beginnings_of) l13 c13 k13) (PySem.W.mg_of X G a13)
  have GO_beginnings_of := fun base : Heap => fO_beginnings_of (P := l.prog) (w := w) (base := base) B (G_all_led base) (fun_mk (st := s_beginnings_of) l13 c13 k13) (PySem.W.mg_of X G a13)
  have H_law_right := fun base : Heap => f_law_right (P := l.prog) (w := w) (base := base) B (G_law_span base) (G_law_due base) (G_law_tables base) (G_law_of base) (G_law_tour base) (G_law_lots base) (G_results_of base) (G_staying base) (G_sure_chairs base) (G_never_chairs base) (G_law_same base) (G_law_take base) (G_law_heard base) (G_beginnings_of base) (GO_beginnings_of base) (GL_law_heard base) (fun_mk (st := s_law_right) l32 c32 k32) (PySem.W.mg_of X G a32)
  have G_law_right := fun base : Heap => (H_law_right base).imp (cR_of right_ok)
  exact ⟨_, fun s v => .of_eq rfl, fun base _ _ => f_law B (G_law_cells base) (G_law_box base) (G_law_right base) (fun_mk (st := s_law) l33 c33 k33)⟩
end Nx
open PySem PySem.W PyProof.Rows
set_option maxHeartbeats 0 in
theorem PySem.Challenge.cw_nextstands_k51_results_gone_through_holds : PySem.Challenge.rw_nextstands_k51_results_gone_through.Holds := by
  w_on; o_law; k_head; (case hw => w_witness2)
  k_fill
  refine Nx.walk_G (l := PySem.Challenge.rw_nextstands_k51_results_gone_through) (n := 63) (k := 11) (x := "_law_script") (sp := fun K => Nx.spOf (Nx.c_law K)) rfl (by decide) rfl ⟨⟨rfl, by decide, by decide⟩, rfl⟩ (fun w h Y => PySem.W.kIn_of Y) ?F (fun K H a ns hl _ hS => Nx.law_sp K H a ns hl hS)
  case F =>
    intro w mg fa h KX G hmg
    refine' Nx.all_mk KX G hmg ?a0 ?l0 ?c0 ?k0 ?a1 ?l1 ?c1 ?k1 ?a2 ?l2 ?c2 ?k2 ?a3 ?l3 ?c3 ?k3 ?a4 ?l4 ?c4 ?k4 ?a5 ?l5 ?c5 ?k5 ?a6 ?l6 ?c6 ?k6 ?a7 ?l7 ?c7 ?k7 ?a8 ?l8 ?c8 ?k8 ?a9 ?l9 ?c9 ?k9 ?a10 ?l10 ?c10 ?k10 ?a11 ?l11 ?c11 ?k11 ?a12 ?l12 ?c12 ?k12 ?a13 ?l13 ?c13 ?k13 ?a14 ?l14 ?c14 ?k14 ?a15 ?l15 ?c15 ?k15 ?a16 ?l16 ?c16 ?k16 ?a17 ?l17 ?c17 ?k17 ?a18 ?l18 ?c18 ?k18 ?a19 ?l19 ?c19 ?k19 ?a20 ?l20 ?c20 ?k20 ?a21 ?l21 ?c21 ?k21 ?a22 ?l22 ?c22 ?k22 ?a23 ?l23 ?c23 ?k23 ?a24 ?l24 ?c24 ?k24 ?a25 ?l25 ?c25 ?k25 ?a26 ?l26 ?c26 ?k26 ?a27 ?l27 ?c27 ?k27 ?a28 ?l28 ?c28 ?k28 ?a29 ?l29 ?c29 ?k29 ?a30 ?l30 ?c30 ?k30 ?a31 ?l31 ?c31 ?k31 ?a32 ?l32 ?c32 ?k32 ?a33 ?l33 ?c33 ?k33 ?z_len ?z_range ?z_list ?z_tuple ?z_sorted ?z_abs ?z_int ?z_str ?z_repr ?z_all ?z_any ?z_max ?z_min ?z_sum ?z_enumerate ?z_zip ?z_isinstance ?z_bool ?z_set ?z_dict
    (case a0 => k_is); (case l0 => k_is); (case c0 => k_is); (case k0 => k_is); (case a1 => k_is); (case l1 => k_is); (case c1 => k_is); (case k1 => k_is); (case a2 => k_is); (case l2 => k_is); (case c2 => k_is); (case k2 => k_is); (case a3 => k_is); (case l3 => k_is); (case c3 => k_is); (case k3 => k_is); (case a4 => k_is); (case l4 => k_is); (case c4 => k_is); (case k4 => k_is); (case a5 => k_is); (case l5 => k_is); (case c5 => k_is); (case k5 => k_is); (case a6 => k_is); (case l6 => k_is); (case c6 => k_is); (case k6 => k_is); (case a7 => k_is); (case l7 => k_is); (case c7 => k_is); (case k7 => k_is); (case a8 => k_is); (case l8 => k_is); (case c8 => k_is); (case k8 => k_is); (case a9 => k_is); (case l9 => k_is); (case c9 => k_is); (case k9 => k_is); (case a10 => k_is); (case l10 => k_is); (case c10 => k_is); (case k10 => k_is); (case a11 => k_is); (case l11 => k_is); (case c11 => k_is); (case k11 => k_is); (case a12 => k_is); (case l12 => k_is); (case c12 => k_is); (case k12 => k_is); (case a13 => k_is); (case l13 => k_is); (case c13 => k_is); (case k13 => k_is); (case a14 => k_is); (case l14 => k_is); (case c14 => k_is); (case k14 => k_is); (case a15 => k_is); (case l15 => k_is); (case c15 => k_is); (case k15 => k_is); (case a16 => k_is); (case l16 => k_is); (case c16 => k_is); (case k16 => k_is); (case a17 => k_is); (case l17 => k_is); (case c17 => k_is); (case k17 => k_is); (case a18 => k_is); (case l18 => k_is); (case c18 => k_is); (case k18 => k_is); (case a19 => k_is); (case l19 => k_is); (case c19 => k_is); (case k19 => k_is); (case a20 => k_is); (case l20 => k_is); (case c20 => k_is); (case k20 => k_is); (case a21 => k_is); (case l21 => k_is); (case c21 => k_is); (case k21 => k_is); (case a22 => k_is); (case l22 => k_is); (case c22 => k_is); (case k22 => k_is); (case a23 => k_is); (case l23 => k_is); (case c23 => k_is); (case k23 => k_is); (case a24 => k_is); (case l24 => k_is); (case c24 => k_is); (case k24 => k_is); (case a25 => k_is); (case l25 => k_is); (case c25 => k_is); (case k25 => k_is); (case a26 => k_is); (case l26 => k_is); (case c26 => k_is); (case k26 => k_is); (case a27 => k_is); (case l27 => k_is); (case c27 => k_is); (case k27 => k_is); (case a28 => k_is); (case l28 => k_is); (case c28 => k_is); (case k28 => k_is); (case a29 => k_is); (case l29 => k_is); (case c29 => k_is); (case k29 => k_is); (case a30 => k_is); (case l30 => k_is); (case c30 => k_is); (case k30 => k_is); (case a31 => k_is); (case l31 => k_is); (case c31 => k_is); (case k31 => k_is); (case a32 => k_is); (case l32 => k_is); (case c32 => k_is); (case k32 => k_is); (case a33 => k_is); (case l33 => k_is); (case c33 => k_is); (case k33 => k_is); (case z_len => k_is); (case z_range => k_is); (case z_list => k_is); (case z_tuple => k_is); (case z_sorted => k_is); (case z_abs => k_is); (case z_int => k_is); (case z_str => k_is); (case z_repr => k_is); (case z_all => k_is); (case z_any => k_is); (case z_max => k_is); (case z_min => k_is); (case z_sum => k_is); (case z_enumerate => k_is); (case z_zip => k_is); (case z_isinstance => k_is); (case z_bool => k_is); (case z_set => k_is); (case z_dict => k_is)
