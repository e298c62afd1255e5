import PyProof.Rows.All
import Wide.All
import OpenK.AllK
import Wide.FinOn
import PyProof.EqAt
import PyProof.EqKinds
import PyProof.TupleCall
import HandS.ForMost
import HandS.Walk
import HandS.IsInst
import HandS.Wide
import HandS.Flow
import HandS.Deep
import HandS.TupAny
import HandS.Lambda
import PyProof.StrBlock2
import HandS.Style
import PyProof.InstNe
import HandS.Property
import HandS.MakeKw
import HandS.SlotsOwn
import HandS.SetKeys
import HandS.Strs
import HandS.Star
import KE.SortData
import PyProof.TupleOfSeq
import HandS.ExcValue
import HandS.ListItems
import HandS.DictComp
import HandS.Zip
import HandS.TupLe
import HandS.Conv
import HandS.More
import HandS.FStr
import HandS.ExcInit
import KE.KSuper
import KE.KExcSuper
import HandS.ExcSuper
import HandS.TryMany
import KE.KExcIs
import HandS.ExcField
import HandS.EndTab
import PyProof.FactsAll.dict_1
import PySem.Challenge.RW_halfbuilt_k10_words_of_slots
set_option Elab.async false
set_option linter.all false
set_option maxRecDepth 100000
set_option maxHeartbeats 4000000
/-! Tuples that are known to have no dict of their own. -/
namespace L3
open PySem PySem.Spec PyProof.Rows L2

def TupN (H : Hp) (a : Addr) (vs : List V) : Prop := ∃ o : Obj, o.dict = none ∧ H a = some (.frz o (.tup vs))
/-- a new tuple at p: whatever object it is -/
def NewT (H : Hp) (vs : List V) (Q : VK) : Prop := ∀ (p : Addr) (o : Obj), H p = none → o.dict = none → Q (.ref p) (upd H p (.frz o (.tup vs)))
theorem TupN.sq {K : PySem.W.Frag} {H : Hp} {a : Addr} {vs : List V} (h : TupN H a vs) : SqT K H a vs := by
  obtain ⟨o, _, e⟩ := h
  exact .inl (.inr ⟨o, e⟩)
theorem TupN.mono {H H' : Hp} {a : Addr} {vs : List V} (h : TupN H a vs) (s : Same H H') : TupN H' a vs := by
  obtain ⟨o, n, e⟩ := h
  exact ⟨o, n, s _ _ e⟩
theorem TupN.new {H : Hp} {a : Addr} {vs : List V} {o : Obj} (n : o.dict = none) : TupN (upd H a (.frz o (.tup vs))) a vs := ⟨o, n, upd_same⟩
section
variable {X : Cx} {pins : List (Addr × Obj)} {σ : L2.St} {H : Hp} {s : Shared} {es : List Expr} {t : TA} {pos : Pos}
theorem laidT {xs : List V} {its : List Value} {n : Nat} {Q : VK} (I : Inv X pins σ H s) (r : Vals xs its) (hz : xs.length ≤ sizeLine) (q : NewT H xs Q) : EP X pins σ Q (.ref s.heap.objs.size) { s with heap := s.heap.push { cls := .type "tuple", data := .seq its.toArray n } } :=
  ⟨.ref s.heap.objs.size, _, I.laid (t' := s.toks) (o := .frz { cls := .type "tuple", data := .seq its.toArray n } (.tup xs)) (fun b u e => Heap.get?_push_of_some _ e) (Nat.le_refl _) ⟨Heap.get?_push_size _ rfl, hz, its, r, ⟨_, Heap.get?_push_size _ rfl, rfl, _, rfl⟩⟩, rfl, q _ _ (I.hok.fresh (Nat.le_refl _)) rfl⟩
def tTupN (t : TA) : TE := fun σ H Q => t σ H fun xs H1 => xs.length ≤ sizeLine ∧ NewT H1 xs Q
theorem pe_tupN {x1} (h : PA X es t) : PE X (.Tuple es x1 pos) (tTupN t) := by
  refine ⟨fun pins s σ H Q I hq => ?_⟩
  refine wpAny_Tuple_spliced (thn (h.run pos pins s σ H _ I hq) fun us s1 ⟨xs, H1, I1, r, z, q⟩ => ⟨by rw [← r.length]; exact z, ?_⟩)
  exact laidT I1 r z q
def rTupOfN (K : PySem.W.Frag) : List V → Hp → VK → Prop := fun xs H Q => ∃ p ys, xs = [.ref p] ∧ ((SqL K H p ys ∧ NewT H ys Q) ∨ (SqT K H p ys ∧ Q (.ref p) H))
theorem call_tuple_ofN : CallR X (.type "tuple") (rTupOfN X.K) := by
  intro pins s σ H xs us Q I r h
  obtain ⟨p, ys, rfl, h⟩ := h
  obtain ⟨u, rfl, rx⟩ := vals1 r
  cases rx
  rcases h with ⟨hq, q⟩ | ⟨hq, q⟩
  · obtain ⟨its, r', pl, hz⟩ := I.list hq
    have hlen := r'.length
    refine call_tuple_list pl.isList (fun h' kp => ?_) (by simp only [List.size_toArray] <;> omega)
    have I1 : Inv X pins σ H { s with heap := h' } := I.kept (t' := s.toks) kp
    exact laidT (s := { s with heap := h' }) I1 r' hz q
  · obtain ⟨its, r', pl, hz⟩ := I.tuple hq
    exact call_tuple_same pl ⟨.ref p, H, I, rfl, q⟩
def rSlN (K : PySem.W.Frag) : V → Option Int → Option Int → Hp → VK → Prop := fun x lo hi H Q => ∃ a xs, x = .ref a ∧ SqT K H a xs ∧
  (HT.sIx xs.length 0 lo = 0 ∧ HT.sIx xs.length xs.length hi = xs.length → Q (.ref a) H) ∧ (¬ (HT.sIx xs.length 0 lo = 0 ∧ HT.sIx xs.length xs.length hi = xs.length) → NewT H (cutV xs lo hi) Q)
theorem sl_tupN : SlR X (rSlN X.K) := by
  intro pins s σ H x v vl vu lo hi sl Q I rx hs pl pu h
  obtain ⟨a, xs, rfl, hx, q1, q2⟩ := h
  by_cases hw : HT.sIx xs.length 0 lo = 0 ∧ HT.sIx xs.length xs.length hi = xs.length
  · exact sl_tupA pins s σ H _ v vl vu lo hi sl Q I rx hs pl pu ⟨a, xs, rfl, hx, q1, fun n => absurd hw n⟩
  · cases rx
    obtain ⟨its, r, ht, hz⟩ := I.tuple hx
    have hlen : its.toArray.size = xs.length := by rw [List.size_toArray]; exact r.length.symm
    refine ⟨"tuple", _, PyProof.Rows.slot_tuple_getitem.lookup, ht.typeIs, ?_⟩
    refine HT.getItem_tuple_cut ht hs pl pu (by rw [hlen]; exact hw) ?_ (by rw [hlen]; exact hz)
    rw [hlen]
    exact laidT I ((r.drop (HT.sIx xs.length 0 lo)).take (HT.sIx xs.length xs.length hi - HT.sIx xs.length 0 lo)) (Nat.le_trans (cutV_length xs lo hi) hz) (q2 hw)
def rCatN (K : PySem.W.Frag) : R2 := fun x y H Q => ∃ a b xs ys, x = .ref a ∧ y = .ref b ∧ SqT K H a xs ∧ SqT K H b ys ∧ xs.length + ys.length ≤ sizeLine ∧
  (xs = [] → Q (.ref b) H) ∧ (xs ≠ [] → ys = [] → Q (.ref a) H) ∧ (xs ≠ [] → ys ≠ [] → NewT H (xs ++ ys) Q)
theorem op_catN : OpR X (binaryOp .Add) (rCatN X.K) := by
  intro pins s σ H x y v u Q I rx ry h
  obtain ⟨a, b, xs, ys, rfl, rfl, ha, hb, hz, q0, q1, q2⟩ := h
  by_cases hx : xs = []
  · exact op_catA pins s σ H _ _ v u Q I rx ry ⟨a, b, xs, ys, rfl, rfl, ha, hb, hz, q0, fun n => absurd hx n, fun n => absurd hx n⟩
  · cases rx
    cases ry
    obtain ⟨its, r1, p1, _⟩ := I.tuple ha
    obtain ⟨its2, r2, p2, _⟩ := I.tuple hb
    refine HT.cat_tup p1 p2 (fun z => hx (r1.nil_iff.mp z)) (fun z => ⟨.ref a, H, I, rfl, q1 hx (r2.nil_iff.mp z)⟩) (fun z => ?_) (by rw [← r1.length, ← r2.length]; exact hz)
    exact laidT I (r1.append r2) (by rw [List.length_append]; exact hz) (q2 hx fun w => z (r2.nil_iff.mpr w))
def rIsiN (K : PySem.W.Frag) : List V → Hp → VK → Prop := fun xs H Q => ∃ (x : V) (tp : Addr) (cs : List V) (t : Value) (us : List Value) (b : Bool), xs = [x, .ref tp] ∧ TupN H tp cs ∧ Paired ClsV cs us ∧ TyX K H x t ∧ PySem.W.kitAny K t us = some b ∧ Q (.bl b) H
theorem call_isiN : CallR X (.builtin "isinstance") (rIsiN X.K) := by
  intro pins s σ H xs us Q I r h
  obtain ⟨x, tp, cs, t, ws, b, rfl, ⟨ob, _, hT⟩, k, ty, e, q⟩ := h
  obtain ⟨u1, u2, rfl, r1, r2⟩ := vals2 r
  cases (show u2 = Value.ref tp from r2)
  obtain ⟨P, Z, p, hx⟩ := kit_of I r1 ty
  obtain ⟨_, _, its, rv, o, h1, h2, n, h3⟩ := (show ObjOk X.prog X.w H s.heap tp (.frz ob (.tup cs)) from I.hok tp _ hT)
  have e3 := ClsV.all k rv
  subst e3
  obtain ⟨oc, od, dt, sl⟩ := o
  simp only at h2 h3
  subst h2 h3
  exact PySem.W.kia_tup Z I.kIn p h1 e hx fun tk => ⟨.bl b, H, I.tok tk, rfl, q⟩
end
end L3
/-! A layer of data over the hand layer: what a piece of the text is worth, as a tree of data, whatever the addresses. -/
namespace L3
open PySem PySem.Spec PyProof.Rows L2

/-! ### data -/
/-- the object of a dict that stays as it is, and what stands in it -/
structure Fz0 where
  o : Obj
  ks : List (Key × V)
/-- behind a function, so that no match looks into it -/
abbrev Fz := Unit → Fz0
inductive D where
  | non
  | bl (b : Bool)
  | int (i : Int)
  | str (x : Str)
  | lst (ds : List D)
  | tup (ds : List D)
  | dic (kvs : List (Key × D))
  /-- a dict that stays as it is -/
  | dcf (w : Fz) (kvs : List (Key × D))
  | scr (ns : List Int)
  | op (v : V)
  /-- an instance that stays as it is: its class, its attributes -/
  | ins (C : Addr) (kvs : List (Key × D))
  /-- an exception: its class, its attributes -/
  | exc (C : Addr) (kvs : List (Key × D))
  /-- a value of which something is known that stays true -/
  | sem (v : V) (Φ : Hp → Prop)

/-- an exception object of the class at C, its dict at d, if it has one -/
def exX (C : Addr) (d : Option Addr) (a : Addr) : HO := .ext fun h => ∃ (oe : Obj) (vs : Array Value), h.get? a = some oe ∧ oe.cls = .ref C ∧ oe.dict = d ∧ oe.data = .fields vs
mutual
inductive DV (K : PySem.W.Frag) (H : Hp) : V → D → Prop where
  | non : DV K H .non .non
  | bl (b : Bool) : DV K H (.bl b) (.bl b)
  | int (i : Int) : DV K H (.int i) (.int i)
  | str (x : Str) : DV K H (.str x) (.str x)
  | lst {a : Addr} {vs : List V} {ds : List D} (e : H a = some (.lst vs)) (h : DVs K H vs ds) : DV K H (.ref a) (.lst ds)
  | tup {a : Addr} {vs : List V} {ds : List D} (e : TupN H a vs) (h : DVs K H vs ds) : DV K H (.ref a) (.tup ds)
  | dic {a : Addr} {ks : List (Key × V)} {kvs : List (Key × D)} (e : H a = some (.dK ks)) (h : DKs K H ks kvs) : DV K H (.ref a) (.dic kvs)
  | dcf {a : Addr} {w : Fz} {kvs : List (Key × D)} (e : H a = some (.frz (w ()).o (.dK (w ()).ks))) (h : DKs K H (w ()).ks kvs) : DV K H (.ref a) (.dcf w kvs)
  | scr {a : Addr} {ns : List Int} (e : SqL K H a (ns.map V.int)) : DV K H (.ref a) (.scr ns)
  | op (v : V) : DV K H v (.op v)
  | ins {a C dx : Addr} {fs : List (Str × V)} {kvs : List (Key × D)} (e : H a = some (.ins C dx fs)) (h : DKs K H (fs.map fun p => (.inr p.1, p.2)) kvs) : DV K H (.ref a) (.ins C kvs)
  | exc {a C dx : Addr} {fs : List (Str × V)} {kvs : List (Key × D)} (e : H a = some (exX C (some dx) a)) (e2 : H dx = some (.xd fs)) (h : DKs K H (fs.map fun p => (.inr p.1, p.2)) kvs) : DV K H (.ref a) (.exc C kvs)
  | exc0 {a C : Addr} (e : H a = some (exX C none a)) : DV K H (.ref a) (.exc C [])
  | sem {v : V} {Φ : Hp → Prop} (st : ∀ H1 H2, Same H1 H2 → Φ H1 → Φ H2) (h : Φ H) : DV K H v (.sem v Φ)
inductive DVs (K : PySem.W.Frag) (H : Hp) : List V → List D → Prop where
  | nil : DVs K H [] []
  | cons {v : V} {vs : List V} {d : D} {ds : List D} (h : DV K H v d) (t : DVs K H vs ds) : DVs K H (v :: vs) (d :: ds)
inductive DKs (K : PySem.W.Frag) (H : Hp) : List (Key × V) → List (Key × D) → Prop where
  | nil : DKs K H [] []
  | cons {k : Key} {v : V} {vs : List (Key × V)} {d : D} {ds : List (Key × D)} (h : DV K H v d) (t : DKs K H vs ds) : DKs K H ((k, v) :: vs) ((k, d) :: ds)
end

section
variable {K : PySem.W.Frag} {H H' : Hp}
theorem sqT_same (s : Same H H') {a : Addr} {xs : List V} (h : SqT K H a xs) : SqT K H' a xs := by
  rcases h with (h | ⟨o, h⟩) | h
  · exact .inl (.inl (s _ _ h))
  · exact .inl (.inr ⟨o, s _ _ h⟩)
  · exact .inr h
mutual
theorem DV.mono (s : Same H H') : ∀ {v : V} {d : D}, DV K H v d → DV K H' v d
  | _, _, .non => .non
  | _, _, .bl b => .bl b
  | _, _, .int i => .int i
  | _, _, .str x => .str x
  | _, _, .lst e h => .lst (s _ _ e) (DVs.mono s h)
  | _, _, .tup e h => .tup (e.mono s) (DVs.mono s h)
  | _, _, .dic e h => .dic (s _ _ e) (DKs.mono s h)
  | _, _, .dcf e h => .dcf (s _ _ e) (DKs.mono s h)
  | _, _, .scr e => .scr (s.seq e)
  | _, _, .op v => .op v
  | _, _, .ins e h => .ins (s _ _ e) (DKs.mono s h)
  | _, _, .exc e e2 h => .exc (s _ _ e) (s _ _ e2) (DKs.mono s h)
  | _, _, .exc0 e => .exc0 (s _ _ e)
  | _, _, .sem st h => .sem st (st _ _ s h)
theorem DVs.mono (s : Same H H') : ∀ {vs : List V} {ds : List D}, DVs K H vs ds → DVs K H' vs ds
  | _, _, .nil => .nil
  | _, _, .cons h t => .cons (DV.mono s h) (DVs.mono s t)
theorem DKs.mono (s : Same H H') : ∀ {vs : List (Key × V)} {ds : List (Key × D)}, DKs K H vs ds → DKs K H' vs ds
  | _, _, .nil => .nil
  | _, _, .cons h t => .cons (DV.mono s h) (DKs.mono s t)
end
theorem DVs.len : ∀ {vs : List V} {ds : List D}, DVs K H vs ds → vs.length = ds.length
  | _, _, .nil => rfl
  | _, _, .cons _ t => by simp [DVs.len t]
theorem DVs.app : ∀ {vs ws : List V} {ds es : List D}, DVs K H vs ds → DVs K H ws es → DVs K H (vs ++ ws) (ds ++ es)
  | _, _, _, _, .nil, h => h
  | _, _, _, _, .cons h t, k => .cons h (DVs.app t k)
theorem DVs.get : ∀ {vs : List V} {ds : List D} {i : Nat} {d : D}, DVs K H vs ds → ds[i]? = some d → ∃ v, vs[i]? = some v ∧ DV K H v d
  | _, _, _, _, .nil, e => by simp at e
  | _, _, 0, _, .cons h _, e => by simp at e; subst e; exact ⟨_, rfl, h⟩
  | _, _, i + 1, _, .cons _ t, e => by
    obtain ⟨v, h1, h2⟩ := DVs.get (i := i) t (by simpa using e)
    exact ⟨v, by simpa using h1, h2⟩
theorem DVs.getV : ∀ {vs : List V} {ds : List D} {i : Nat} {v : V}, DVs K H vs ds → vs[i]? = some v → ∃ d, ds[i]? = some d ∧ DV K H v d
  | _, _, _, _, .nil, e => by simp at e
  | _, _, 0, _, .cons h _, e => by simp at e; subst e; exact ⟨_, rfl, h⟩
  | _, _, i + 1, _, .cons _ t, e => by
    obtain ⟨v, h1, h2⟩ := DVs.getV (i := i) t (by simpa using e)
    exact ⟨v, by simpa using h1, h2⟩
theorem DVs.take : ∀ {vs : List V} {ds : List D} (n : Nat), DVs K H vs ds → DVs K H (vs.take n) (ds.take n)
  | _, _, 0, _ => .nil
  | _, _, _ + 1, .nil => .nil
  | _, _, n + 1, .cons h t => .cons h (DVs.take n t)
theorem DVs.drop : ∀ {vs : List V} {ds : List D} (n : Nat), DVs K H vs ds → DVs K H (vs.drop n) (ds.drop n)
  | _, _, 0, h => h
  | _, _, _ + 1, .nil => .nil
  | _, _, n + 1, .cons _ t => DVs.drop n t
theorem DVs.set {v : V} {d : D} (h : DV K H v d) : ∀ {vs : List V} {ds : List D} (i : Nat), DVs K H vs ds → DVs K H (vs.set i v) (ds.set i d)
  | _, _, _, .nil => .nil
  | _, _, 0, .cons _ t => .cons h t
  | _, _, i + 1, .cons q t => .cons q (DVs.set h i t)
theorem DVs.strs : ∀ {vs : List V} {xs : List Str}, DVs K H vs (xs.map D.str) → vs = xs.map V.str
  | _, [], h => by cases h; rfl
  | _, x :: xs, h => by
    cases h with
    | cons a t => cases a; rw [DVs.strs t]; rfl
theorem DVs.bls : ∀ {vs : List V} {xs : List Bool}, DVs K H vs (xs.map D.bl) → vs = xs.map V.bl
  | _, [], h => by cases h; rfl
  | _, x :: xs, h => by
    cases h with
    | cons a t => cases a; rw [DVs.bls t]; rfl
theorem DVs.ints : ∀ {vs : List V} {xs : List Int}, DVs K H vs (xs.map D.int) → vs = xs.map V.int
  | _, [], h => by cases h; rfl
  | _, x :: xs, h => by
    cases h with
    | cons a t => cases a; rw [DVs.ints t]; rfl
theorem DVs.of_strs : ∀ (xs : List Str), DVs K H (xs.map V.str) (xs.map D.str)
  | [] => .nil
  | x :: xs => .cons (.str x) (DVs.of_strs xs)
theorem DVs.of_ints : ∀ (xs : List Int), DVs K H (xs.map V.int) (xs.map D.int)
  | [] => .nil
  | x :: xs => .cons (.int x) (DVs.of_ints xs)
theorem DV.int_inv {v : V} {i : Int} (h : DV K H v (.int i)) : v = .int i := by cases h; rfl
theorem DV.str_inv {v : V} {i : Str} (h : DV K H v (.str i)) : v = .str i := by cases h; rfl
theorem DV.bl_inv {v : V} {i : Bool} (h : DV K H v (.bl i)) : v = .bl i := by cases h; rfl
theorem DV.non_inv {v : V} (h : DV K H v .non) : v = .non := by cases h; rfl
theorem DV.op_inv {v w : V} (h : DV K H v (.op w)) : v = w := by cases h; rfl
end

/-! ### what is hidden: objects that may change -/
abbrev AS := Addr → Prop
open Classical in
noncomputable def hid (H : Hp) (S : AS) : Hp := fun a => if S a then none else H a
theorem hid_some {H : Hp} {S : AS} {a : Addr} {o : HO} : hid H S a = some o ↔ ¬ S a ∧ H a = some o := by
  unfold hid
  split
  · constructor
    · intro h; cases h
    · intro h; exact absurd ‹_› h.1
  · constructor
    · intro h; exact ⟨‹_›, h⟩
    · intro h; exact h.2
theorem same_hid {H : Hp} {S : AS} : Same (hid H S) H := fun _ _ h => (hid_some.mp h).2
theorem same_hid_sub {H : Hp} {S T : AS} (h : ∀ a, T a → S a) : Same (hid H S) (hid H T) := fun a o q =>
  let ⟨q1, q2⟩ := hid_some.mp q
  hid_some.mpr ⟨fun t => q1 (h a t), q2⟩

/-- a code object that a lambda is made by -/
def IsCd (o : HO) : Prop := ∃ c q, o = LamX.CodeO c q
theorem IsCd.ext {o : HO} (h : IsCd o) : ∃ φ, o = .ext φ := by
  obtain ⟨c, q, e⟩ := h
  unfold LamX.CodeO at e
  exact ⟨_, e⟩
/-- what a law carries through all its calls: some objects G that calls may change, and what is true of them -/
structure Cf where
  G : AS
  I : Hp → Prop
  loc : ∀ H H' : Hp, (∀ a, G a → H' a = H a) → (∀ a o, H a = some o → IsCd o → H' a = some o) → I H → I H'
  liv : ∀ (H : Hp) (a : Addr), I H → G a → H a ≠ none
theorem upd_ext {H : Hp} {p : Addr} {o : HO} (n : ∀ φ, H p ≠ some (.ext φ)) : ∀ a u, H a = some u → IsCd u → upd H p o a = some u := fun a u e hc => by
  by_cases z : a = p
  · obtain ⟨φ, rfl⟩ := hc.ext
    rw [z] at e; exact absurd e (n φ)
  · rw [upd_ne z]; exact e
def Ext (G : AS) (H H' : Hp) : Prop := ∀ a o, ¬ G a → H a = some o → H' a = some o
theorem Ext.refl {G : AS} {H : Hp} : Ext G H H := fun _ _ _ h => h
theorem Ext.trans {G : AS} {H H1 H2 : Hp} (a : Ext G H H1) (b : Ext G H1 H2) : Ext G H H2 := fun x o g h => b x o g (a x o g h)
structure Ok (C : Cf) (S : AS) (H : Hp) : Prop where
  i : C.I H
  g : ∀ a, C.G a → S a
  l : ∀ a, S a → H a ≠ none
structure Go (C : Cf) (H H' : Hp) : Prop where
  e : Ext C.G H H'
  i : C.I H'
section
variable {C : Cf} {S : AS} {H H' H1 H2 : Hp} {p : Addr} {o : HO}
theorem Go.refl (ok : Ok C S H) : Go C H H := ⟨Ext.refl, ok.i⟩
theorem Go.trans (a : Go C H H1) (b : Go C H1 H2) : Go C H H2 := ⟨a.e.trans b.e, b.i⟩
theorem Ok.go (ok : Ok C S H) (g : Go C H H') : Ok C S H' := ⟨g.i, ok.g, fun a ha => by
  by_cases q : C.G a
  · exact C.liv H' a g.i q
  · have h := ok.l a ha
    cases e : H a with
    | none => exact absurd e h
    | some o => rw [g.e a o q e]; intro z; cases z⟩
theorem Go.vis (ok : Ok C S H) (g : Go C H H') : Same (hid H S) (hid H' S) := fun a o q =>
  let ⟨q1, q2⟩ := hid_some.mp q
  hid_some.mpr ⟨q1, g.e a o (fun z => q1 (ok.g a z)) q2⟩
theorem Ok.fresh (ok : Ok C S H) (h : H p = none) : ¬ S p := fun q => ok.l p q h
theorem Go.new (ok : Ok C S H) (h : H p = none) : Go C H (upd H p o) := by
  have np : ¬ C.G p := fun q => C.liv H p ok.i q h
  refine ⟨fun a u _ e => ?_, C.loc H _ (fun a ga => ?_) (upd_ext fun φ z => by rw [h] at z; cases z) ok.i⟩
  · rw [upd_ne (ne_of_none e h)]; exact e
  · exact upd_ne (fun z => np (z ▸ ga))
theorem hid_new (ok : Ok C S H) (h : H p = none) : hid (upd H p o) S p = some o := hid_some.mpr ⟨ok.fresh h, upd_same⟩
end

/-! ### expressions -/
abbrev En := List (Option D)
structure Rel (K : PySem.W.Frag) (C : Cf) (S : AS) (E : En) (σ : L2.St) (H : Hp) : Prop where
  ok : Ok C S H
  len : E.length ≤ σ.length
  at_ : ∀ (i : Nat) (d : D), E[i]? = some (some d) → ∃ v, σ[i]? = some (some v) ∧ DV K (hid H S) v d
theorem Rel.go {K : PySem.W.Frag} {C : Cf} {S : AS} {E : En} {σ : L2.St} {H H' : Hp} (r : Rel K C S E σ H) (g : Go C H H') : Rel K C S E σ H' :=
  ⟨r.ok.go g, r.len, fun i d e => let ⟨v, h1, h2⟩ := r.at_ i d e; ⟨v, h1, h2.mono (g.vis r.ok)⟩⟩

abbrev TD := En → (D → Prop) → Prop
abbrev TDs := En → (List D → Prop) → Prop
abbrev TDb := En → (Bool → Prop) → Prop
/-- a reading gives data for which P holds whenever td says so -/
def EvD (K : PySem.W.Frag) (C : Cf) (te : TE) (td : TD) : Prop := ∀ (S : AS) (σ : L2.St) (H : Hp) (E : En) (P : D → Prop) (Q : VK), Rel K C S E σ H → td E P →
  (∀ v d H', Go C H H' → P d → DV K (hid H' S) v d → Q v H') → te σ H Q
def EvA (K : PySem.W.Frag) (C : Cf) (ta : TA) (td : TDs) : Prop := ∀ (S : AS) (σ : L2.St) (H : Hp) (E : En) (P : List D → Prop) (Q : List V → Hp → Prop), Rel K C S E σ H → td E P →
  (∀ vs ds H', Go C H H' → P ds → DVs K (hid H' S) vs ds → Q vs H') → ta σ H Q
def EvT (K : PySem.W.Frag) (C : Cf) (tt : TT) (td : TDb) : Prop := ∀ (S : AS) (σ : L2.St) (H : Hp) (E : En) (P : Bool → Prop) (Q : Bool → Hp → Prop), Rel K C S E σ H → td E P →
  (∀ b H', Go C H H' → P b → Q b H') → tt σ H Q
structure DE (X : Cx) (C : Cf) (e : Expr) (td : TD) : Prop where
  ex : ∃ te, PE X e te ∧ EvD X.K C te td
structure DA (X : Cx) (C : Cf) (es : List Expr) (td : TDs) : Prop where
  ex : ∃ ta, PA X es ta ∧ EvA X.K C ta td
structure DT (X : Cx) (C : Cf) (e : Expr) (td : TDb) : Prop where
  ex : ∃ tt, PT X e tt ∧ EvT X.K C tt td
structure DW (X : Cx) (C : Cf) (e : Expr) (td : TDb) : Prop where
  ex : ∃ tt, PW X e tt ∧ EvT X.K C tt td

def dVar (i : Nat) : TD := fun E P => ∃ d, E[i]? = some (some d) ∧ P d
def dC (d : D) : TD := fun _ P => P d
section
variable {X : Cx} {C : Cf}
theorem de_of {e : Expr} {i : Nat} (h : PE X e (tVar i)) : DE X C e (dVar i) := ⟨⟨_, h, fun S σ H E P Q r h q => by
  obtain ⟨d, h1, h2⟩ := h
  obtain ⟨v, h3, h4⟩ := r.at_ i d h1
  exact ⟨v, h3, q v d H (Go.refl r.ok) h2 h4⟩⟩⟩
theorem de_c {e : Expr} {v : V} {d : D} (h : PE X e (tC v)) (hd : ∀ H, DV X.K H v d) : DE X C e (dC d) := ⟨⟨_, h, fun S σ H E P Q r h q => q v d H (Go.refl r.ok) h (hd _)⟩⟩
theorem de_int {i j pos} : DE X C (.Constant (.int i) j pos) (dC (.int i)) := de_c pe_int fun _ => .int i
theorem de_bl {i j pos} : DE X C (.Constant (.bool i) j pos) (dC (.bl i)) := de_c pe_bl fun _ => .bl i
theorem de_str {i j pos} : DE X C (.Constant (.str i) j pos) (dC (.str i)) := de_c pe_str fun _ => .str i
theorem de_non {j pos} : DE X C (.Constant .none j pos) (dC .non) := de_c pe_non fun _ => .non

def dNil : TDs := fun _ P => P []
def dCons (ta : TD) (tr : TDs) : TDs := fun E P => ta E fun d => tr E fun ds => P (d :: ds)
theorem da_nil : DA X C [] dNil := ⟨⟨_, pa_nil, fun S σ H E P Q r h q => q [] [] H (Go.refl r.ok) h .nil⟩⟩
theorem da_cons {e : Expr} {es : List Expr} {td : TD} {tr : TDs} (h : DE X C e td) (t : DA X C es tr) (hs : starEach (e :: es) X.env = (false, eval e X.env) :: starEach es X.env := by rfl) : DA X C (e :: es) (dCons td tr) := by
  obtain ⟨te, h1, h2⟩ := h.ex
  obtain ⟨ta, t1, t2⟩ := t.ex
  refine ⟨⟨_, pa_cons h1 t1 hs, fun S σ H E P Q r hp q => ?_⟩⟩
  refine h2 S σ H E _ _ r hp fun v d H1 g1 p1 v1 => ?_
  refine t2 S σ H1 E _ _ (r.go g1) p1 fun vs ds H2 g2 p2 v2 => ?_
  exact q _ _ H2 (g1.trans g2) p2 (.cons (v1.mono (g2.vis (r.ok.go g1))) v2)
theorem small_line {n : Nat} (h : n ≤ 100000) : n ≤ sizeLine := Nat.le_trans h (by decide)
def dTup (t : TDs) : TD := fun E P => t E fun ds => ds.length ≤ 100000 ∧ P (.tup ds)
def dLst (t : TDs) : TD := fun E P => t E fun ds => ds.length ≤ 100000 ∧ P (.lst ds)
theorem de_tup {es : List Expr} {t : TDs} {x1 pos} (h : DA X C es t) : DE X C (.Tuple es x1 pos) (dTup t) := by
  obtain ⟨ta, h1, h2⟩ := h.ex
  refine ⟨⟨_, pe_tupN h1, fun S σ H E P Q r hp q => ?_⟩⟩
  refine h2 S σ H E _ _ r hp fun vs ds H1 g1 p1 v1 => ⟨small_line (by rw [v1.len]; exact p1.1), fun p o np nd => ?_⟩
  have ok1 := r.ok.go g1
  have gn : Go C H1 (upd H1 p (.frz o (.tup vs))) := Go.new ok1 np
  exact q _ _ _ (g1.trans gn) p1.2 (.tup ⟨o, nd, hid_new ok1 np⟩ (v1.mono (gn.vis ok1)))
theorem de_lst {es : List Expr} {t : TDs} {pos} (h : DA X C es t) : DE X C (.List es pos) (dLst t) := by
  obtain ⟨ta, h1, h2⟩ := h.ex
  refine ⟨⟨_, pe_lst h1, fun S σ H E P Q r hp q => ?_⟩⟩
  refine h2 S σ H E _ _ r hp fun vs ds H1 g1 p1 v1 => ⟨small_line (by rw [v1.len]; exact p1.1), fun p np => ?_⟩
  have ok1 := r.ok.go g1
  have gn : Go C H1 (upd H1 p (.lst vs)) := Go.new ok1 np
  exact q _ _ _ (g1.trans gn) p1.2 (.lst (hid_new ok1 np) (v1.mono (gn.vis ok1)))
end

/-! ### operators -/
abbrev F2 := D → D → (D → Prop) → Prop
def OpD (K : PySem.W.Frag) (C : Cf) (r : R2) (f : F2) : Prop := ∀ (S : AS) (H : Hp) (x y : V) (a b : D) (P : D → Prop) (Q : VK), Ok C S H → DV K (hid H S) x a → DV K (hid H S) y b → f a b P →
  (∀ v d H', Go C H H' → P d → DV K (hid H' S) v d → Q v H') → r x y H Q
def dOp (f : F2) (ta tb : TD) : TD := fun E P => ta E fun a => tb E fun b => f a b P
section
variable {X : Cx} {C : Cf} {a b : Expr} {ta tb : TD} {r : R2} {f : F2}
theorem ev_op {ua ub : TE} (h1 : EvD X.K C ua ta) (h2 : EvD X.K C ub tb) (o : OpD X.K C r f) : EvD X.K C (tOp r ua ub) (dOp f ta tb) := fun S σ H E P Q rl hp q => by
  refine h1 S σ H E _ _ rl hp fun v d H1 g1 p1 v1 => ?_
  refine h2 S σ H1 E _ _ (rl.go g1) p1 fun w e H2 g2 p2 v2 => ?_
  have ok2 := (rl.ok.go g1).go g2
  exact o S H2 v w d e P Q ok2 (v1.mono (g2.vis (rl.ok.go g1))) v2 p2 fun z d H' g => q z d H' ((g1.trans g2).trans g)
theorem de_op {op pos} (o : OpD X.K C r f) (ho : OpR X (binaryOp op) r) (ha : DE X C a ta) (hb : DE X C b tb) : DE X C (.BinOp a op b pos) (dOp f ta tb) := by
  obtain ⟨ua, a1, a2⟩ := ha.ex
  obtain ⟨ub, b1, b2⟩ := hb.ex
  exact ⟨⟨_, pe_op ho a1 b1, ev_op a2 b2 o⟩⟩
theorem de_cmp {op pos} (o : OpD X.K C r f) (ho : OpR X (compareOp op) r) (hm : behindInMarks op b = false) (ha : DE X C a ta) (hb : DE X C b tb) : DE X C (.Compare a [op] [b] pos) (dOp f ta tb) := by
  obtain ⟨ua, a1, a2⟩ := ha.ex
  obtain ⟨ub, b1, b2⟩ := hb.ex
  exact ⟨⟨_, pe_cmpR ho a1 b1 hm, ev_op a2 b2 o⟩⟩
theorem de_ix {pos} (o : OpD X.K C r f) (ho : IxR X r) (ha : DE X C a ta) (hb : DE X C b tb) (hs : PlainIx b := by exact fun _ _ => rfl) : DE X C (.Subscript a b pos) (dOp f ta tb) := by
  obtain ⟨ua, a1, a2⟩ := ha.ex
  obtain ⟨ub, b1, b2⟩ := hb.ex
  exact ⟨⟨_, pe_ix ho a1 b1 hs, ev_op a2 b2 o⟩⟩
end
end L3
namespace L3
open PySem PySem.Spec PyProof.Rows L2

/-! ### defs where nothing is being shown (no guard of a repr stands open) -/
structure FnG (P : Program) (w : World) (K : PySem.W.Frag) (mg : Str → Option Value) (base : Heap) (CX : CXT) (k : Nat) (f : Addr) (fd : FuncData) (ps : List Str) (sp : Sp) : Prop where
  len : ∀ vs H Q E, sp vs H Q E → vs.length = ps.length
  go : ∀ (A : Around) (fr : List Env) (s : Shared) (H : Hp) (ar : Args) (us : List Value) (vs : List V) (Q : VK) (E : XK), A.guards = some [] → Room k A → Env0 P w K mg base A fr s H →
    BindsTo s fd ar (ps.zip us) → Vals vs us → sp vs H Q E → codeAny (model P w) A (.call (.ref f) ar) (CR CX fr P w H s Q E) s
theorem FnG.of {P : Program} {w : World} {K : PySem.W.Frag} {mg : Str → Option Value} {base : Heap} {CX : CXT} {k : Nat} {f : Addr} {fd : FuncData} {ps : List Str} {sp : Sp} (F : FnOk P w K mg base CX k f fd ps sp) : FnG P w K mg base CX k f fd ps sp :=
  ⟨F.len, fun A fr s H ar us vs Q E _ hr => F.run A fr s H ar us vs Q E hr⟩
theorem FnG.mono {P : Program} {w : World} {K : PySem.W.Frag} {mg : Str → Option Value} {base : Heap} {CX : CXT} {j k : Nat} {f : Addr} {fd : FuncData} {ps : List Str} {sp : Sp} (F : FnG P w K mg base CX j f fd ps sp) (h : j ≤ k) : FnG P w K mg base CX k f fd ps sp :=
  ⟨F.len, fun A fr s H ar us vs Q E hg hr => F.go A fr s H ar us vs Q E hg (hr.mono h)⟩
section
variable {X : Cx} {CX : CXT} {k : Nat} {f : Addr} {fd : FuncData} {ps ks : List Str} {sp : Sp} {E : XK} {x : Str} {p pos : Pos} {e : Expr} {es : List Expr} {kws : List Keyword} {t tk : TA}
variable {g : List Value → List Value → List Value} {gV : List V → List V → List V}
theorem go_end {pins : List (Addr × Obj)} {σ : L2.St} {H : Hp} {s : Shared} {Q : VK} (hx : Passes CX X E) (I : Inv X pins σ H s) {r : Result} {s' : Shared} (hq : CR CX X.stack X.prog X.w H s Q E r s') :
    match r with | .ok (.ret u) => EP X pins σ Q u s' | .ok _ => False | .error e => X.xe e s' := by
  match r with
  | .error e => exact hx pins σ H s e s' I hq
  | .ok (.ret u) => exact I.after hq
  | .ok .next => exact hq
  | .ok .brk => exact hq
  | .ok .cont => exact hq
theorem go_fn {pins : List (Addr × Obj)} {σ : L2.St} {H : Hp} {s : Shared} {Q : VK} {us : List Value} {vs : List V} (F : FnG X.prog X.w X.K X.mg X.base CX k f fd ps sp) (hgd : X.A.guards = some []) (hr : Room k X.A) (hb : Binds X.K fd ps []) (hx : Passes CX X E)
    (I : Inv X pins σ H s) (r : Vals vs us) (h : sp vs H Q E) : wpAny (model X.prog X.w) X.A (call (.ref f) us) (EP X pins σ Q) X.xe s := by
  have hl : us.length = ps.length := by rw [← r.length]; exact F.len _ _ _ _ h
  have hb' := hb s us I.kIn (by rw [List.append_nil]; exact hl)
  rw [List.append_nil] at hb'
  refine wpAny_call (codeAny_mono (F.go X.A X.stack s H ⟨us, []⟩ us vs Q E hgd hr I.env0 hb' r h) fun r s' hq => ?_)
  rcases r with e | (_ | _ | _ | u)
  all_goals first | exact go_end hx I hq | exact (go_end hx I hq).elim
theorem go_fnK {pins : List (Addr × Obj)} {σ : L2.St} {H : Hp} {s : Shared} {Q : VK} {us ws : List Value} {vs zs : List V} (F : FnG X.prog X.w X.K X.mg X.base CX k f fd ps sp) (hgd : X.A.guards = some []) (hr : Room k X.A) (hb : KBinds X.K fd ps ks g gV) (hx : Passes CX X E)
    (I : Inv X pins σ H s) (r : Vals vs us) (rz : Vals zs ws) (h : sp (gV vs zs) H Q E) : wpAny (model X.prog X.w) X.A (call (.ref f) us (ks.zip ws)) (EP X pins σ Q) X.xe s := by
  have r2 := hb.rel r rz
  have hl : (g us ws).length = ps.length := r2.length.symm.trans (F.len _ _ _ _ h)
  refine wpAny_call (codeAny_mono (F.go X.A X.stack s H ⟨us, ks.zip ws⟩ (g us ws) (gV vs zs) Q E hgd hr I.env0 (hb.to s us ws I.kIn hl) r2 h) fun r s' hq => ?_)
  rcases r with e | (_ | _ | _ | u)
  all_goals first | exact go_end hx I hq | exact (go_end hx I hq).elim
theorem pe_go (F : FnG X.prog X.w X.K X.mg X.base CX k f fd ps sp) (hgd : X.A.guards = some []) (hr : Room k X.A) (hg : Gl X x) (hm : X.mg x = some (.ref f)) (hk : PySem.W.keepIn X.K (.ref f) = true) (hb : Binds X.K fd ps []) (hx : Passes CX X E)
    (ha : PA X (e :: es) t) (hdb : (x == ("__debug__" : Str)) = false := by decide) (he : starEach (e :: es) X.env = (false, eval e X.env) :: starEach es X.env := by rfl) (hpl : (backTo pos (starEach es X.env)).any (·.1) = false := by rfl) :
    PE X (.Call (.Name x p) (e :: es) [] pos) (fun σ H Q => t σ H fun vs H1 => sp vs H1 Q E) :=
  ⟨fun pins s σ H Q I h => wpAny_Call_Name_kw (ld_glob I hg hm (PySem.W.callWith_K (h₀ := X.base) I.ok.mod.kin hk (thn (ha.run pos pins s σ H _ I h) fun us s1 ⟨vs, H1, I1, r, q⟩ => ⟨I1.kIn, go_fn F hgd hr hb hx I1 r q⟩) he hpl) hdb)⟩
theorem pe_goK1 (F : FnG X.prog X.w X.K X.mg X.base CX k f fd ps sp) (hgd : X.A.guards = some []) (hr : Room k X.A) (hg : Gl X x) (hm : X.mg x = some (.ref f)) (hk : PySem.W.keepIn X.K (.ref f) = true) (hb : KBinds X.K fd ps ks g gV) (hx : Passes CX X E)
    (ha : PA X (e :: es) t) (hkw : PK X kws tk) (hall : (backToKw pos (keywordEach kws X.env)).all (·.1.isSome) = true := by rfl) (hks : (backToKw pos (keywordEach kws X.env)).filterMap (·.1) = ks := by rfl)
    (hdb : (x == ("__debug__" : Str)) = false := by decide) (he : starEach (e :: es) X.env = (false, eval e X.env) :: starEach es X.env := by rfl)
    (hpl : ((backTo pos (starEach (e :: es) X.env)).any (·.1) || (backToKw pos (keywordEach kws X.env)).any (·.1.isNone)) = false := by rfl) :
    PE X (.Call (.Name x p) (e :: es) kws pos) (fun σ H Q => t σ H fun vs H1 => tk σ H1 fun zs H2 => sp (gV vs zs) H2 Q E) := by
  refine ⟨fun pins s σ H Q I h => wpAny_Call_Name_kw (ld_glob I hg hm ?_ hdb)⟩
  refine PySem.W.callWith_KW (h₀ := X.base) I.ok.mod.kin hk hall (thn (ha.run pos pins s σ H _ I h) fun us s1 ⟨vs, H1, I1, r, q⟩ => ?_) hpl he
  refine thn (hkw.run pos pins s1 σ H1 _ I1 q) fun ws s2 ⟨zs, H2, I2, rz, q2⟩ => ⟨I2.kIn, ?_⟩
  rw [hks]; exact go_fnK F hgd hr hb hx I2 r rz q2
end
/-- a def of the text keeps its promise, by its body -/
theorem _root_.L2.Fun.okG {P : Program} {w : World} {K : PySem.W.Frag} {mg : Str → Option Value} {base : Heap} {CX : CXT} {x qual : Str} {st : Stmt} {f : Addr} {fd : FuncData} {N ps : List Str} {k : Nat} {sp : Sp} (F : Fun K x qual st f fd) (S : FnScope N ps (defScope st)) (len : ∀ vs H Q E, sp vs H Q E → vs.length = ps.length)
    (hbody : ∀ (cdv : Value) (A : Around) (fr : List Env) (s : Shared) (H : Hp) (vs : List V) (Q : VK) (E : XK), A.guards = some [] → Room k (A.deeper (envOfC qual (defScope st) s.heap.objs.size f cdv)) → sp vs H Q E →
      ∃ t, PSs (cxOf CX P w K mg base N qual (defScope st) f cdv A fr s H E) (defBody st) t ∧ t { nx := fun _ H' => Q .non H', rt := Q } (start N vs) H) : FnG P w K mg base CX (k + 1) f fd ps sp := by
  obtain ⟨oc, od, kV, doc, pm, an, cdv, ct, osl, rfl, lk, hcd⟩ := F.ex
  refine ⟨len, fun A fr s H ar us vs Q E hgd hr e0 hb r hsp => ?_⟩
  have hl := len _ _ _ _ hsp
  have KX : K.In s.heap := e0.mod.kin.keeps fun b o e => (e0.bs b o e).1
  have lim : s.heap.NoLimit := e0.mod.nolimit.keeps fun b o e => (e0.bs b o e).1
  refine codeAny_call_function hr.depth (KX _ _ lk) rfl S.co S.gen rfl (PySem.W.codeRec_of KX hcd) (hb _ _ _ _ ?_)
  refine wpAny_newFunctionEnv_cells S.kind (fun ⟨n, v⟩ hy => ?_) fun env he s1 x => ?_
  · rcases S.par n (List.of_mem_zip hy).1 with q | q
    · exact .inl q
    · exact .inr ⟨q, PySem.W.cellsFrom_some _ _ _ (.inl q)⟩
  subst he
  refine ⟨lim.keeps x.toInCall.keep, codeAny_func ?_⟩
  obtain ⟨t, ht, hq⟩ := hbody cdv A fr s H vs Q E hgd (hr.deeper _) hsp
  have I : Inv (cxOf CX P w K mg base N qual (defScope st) f cdv A fr s H E) [] (start N vs) H s1 := inv_start S hr.hd e0 hl r x
  refine wpAny_mono (ht.run [] s1 (start N vs) H _ I hq) (fun fl s' hs => ?_) fun e s' hs => hs
  match fl, hs with
  | .ret u, hs => obtain ⟨v, σ', H', J, rv, q⟩ := hs; exact ⟨v, H', J.os, J.bare, J.base, J.hok, rv, q⟩
  | .next, hs => obtain ⟨σ', H', J, q⟩ := hs; exact ⟨V.non, H', J.os, J.bare, J.base, J.hok, rfl, q⟩
  | .brk, hs => obtain ⟨_, _, _, q⟩ := hs; exact q.elim
  | .cont, hs => obtain ⟨_, _, _, q⟩ := hs; exact q.elim
end L3
namespace L3
open PySem PySem.Spec PyProof.Rows L2

/-! ### tests -/
def dB (t : TD) : TDb := fun E P => t E fun d => ∃ b, d = .bl b ∧ P b
def bNot (t : TDb) : TDb := fun E P => t E fun b => P (!b)
def bAnd (t u : TDb) : TDb := fun E P => t E fun b => if b = true then u E P else P false
def bOr (t u : TDb) : TDb := fun E P => t E fun b => if b = true then P true else u E P
section
variable {X : Cx} {C : Cf} {a b c : Expr} {ta tb tc : TD} {ua ub : TDb} {pos : Pos} {rest : List Expr}
theorem ev_test {te : TE} (h : EvD X.K C te ta) : EvT X.K C (fun σ H Q => te σ H fun x H' => ∃ k, x = .bl k ∧ Q k H') (dB ta) := fun S σ H E P Q rl hp q => by
  refine h S σ H E _ _ rl hp fun v d H1 g1 p1 v1 => ?_
  obtain ⟨k, rfl, p2⟩ := p1
  exact ⟨k, v1.bl_inv, q k H1 g1 p2⟩
theorem dt_val (h : DE X C a ta) (he : ∀ whole, isTrue a X.env whole = (do let v ← whole; standAt a.pos; holding [v] (truthy v)) := by intro _; rfl) : DT X C a (dB ta) := by
  obtain ⟨te, h1, h2⟩ := h.ex
  exact ⟨⟨_, pt_val h1 he, ev_test h2⟩⟩
theorem dt_cmp {op r f} (o : OpD X.K C r f) (ho : OpR X (compareOp op) r) (hm : behindInMarks op b = false) (ha : DE X C a ta) (hb : DE X C b tb) : DT X C (.Compare a [op] [b] pos) (dB (dOp f ta tb)) := by
  obtain ⟨va, a1, a2⟩ := ha.ex
  obtain ⟨vb, b1, b2⟩ := hb.ex
  exact ⟨⟨_, pt_cmpR ho a1 b1 hm, ev_test (ev_op a2 b2 o)⟩⟩
theorem dt_not (h : DT X C a ua) : DT X C (.UnaryOp .Not a pos) (bNot ua) := by
  obtain ⟨te, h1, h2⟩ := h.ex
  exact ⟨⟨_, pt_not h1, fun S σ H E P Q rl hp q => h2 S σ H E _ _ rl hp fun b H1 g1 p1 => q _ H1 g1 p1⟩⟩
theorem dw_and1 (h : DT X C a ua) : DW X C (.BoolOp .And [a] pos) ua := let ⟨te, h1, h2⟩ := h.ex; ⟨⟨_, pw_and1 h1, h2⟩⟩
theorem dw_or1 (h : DT X C a ua) : DW X C (.BoolOp .Or [a] pos) ua := let ⟨te, h1, h2⟩ := h.ex; ⟨⟨_, pw_or1 h1, h2⟩⟩
theorem dw_and (h : DT X C a ua) (t : DW X C (.BoolOp .And (b :: rest) pos) ub) : DW X C (.BoolOp .And (a :: b :: rest) pos) (bAnd ua ub) := by
  obtain ⟨te, h1, h2⟩ := h.ex
  obtain ⟨tu, t1, t2⟩ := t.ex
  refine ⟨⟨_, pw_and h1 t1, fun S σ H E P Q rl hp q => h2 S σ H E _ _ rl hp fun b H1 g1 p1 => ?_⟩⟩
  cases b with
  | true => rw [if_pos rfl] at p1 ⊢; exact t2 S σ H1 E _ _ (rl.go g1) p1 fun b H2 g2 p2 => q b H2 (g1.trans g2) p2
  | false => rw [if_neg Bool.false_ne_true] at p1 ⊢; exact q _ H1 g1 p1
theorem dw_or (h : DT X C a ua) (t : DW X C (.BoolOp .Or (b :: rest) pos) ub) : DW X C (.BoolOp .Or (a :: b :: rest) pos) (bOr ua ub) := by
  obtain ⟨te, h1, h2⟩ := h.ex
  obtain ⟨tu, t1, t2⟩ := t.ex
  refine ⟨⟨_, pw_or h1 t1, fun S σ H E P Q rl hp q => h2 S σ H E _ _ rl hp fun b H1 g1 p1 => ?_⟩⟩
  cases b with
  | false => rw [if_neg Bool.false_ne_true] at p1 ⊢; exact t2 S σ H1 E _ _ (rl.go g1) p1 fun b H2 g2 p2 => q b H2 (g1.trans g2) p2
  | true => rw [if_pos rfl] at p1 ⊢; exact q _ H1 g1 p1
theorem dt_w (h : DW X C a ua) : DT X C a ua := let ⟨te, h1, h2⟩ := h.ex; ⟨⟨_, h1.pt, h2⟩⟩
/-- a op b op' c -/
def dChain (f f' : F2) (ta tb tc : TD) : TD := fun E P => ta E fun x => tb E fun y => f x y fun z => ∃ k, z = .bl k ∧ if k = true then tc E fun w => f' y w P else P (.bl false)
theorem ev_chain {va vb vc : TE} {r r' : R2} {f f' : F2} (o : OpD X.K C r f) (o' : OpD X.K C r' f') (h1 : EvD X.K C va ta) (h2 : EvD X.K C vb tb) (h3 : EvD X.K C vc tc) : EvD X.K C (tChain r r' va vb vc) (dChain f f' ta tb tc) := fun S σ H E P Q rl hp q => by
  refine h1 S σ H E _ _ rl hp fun v d H1 g1 p1 v1 => ?_
  refine h2 S σ H1 E _ _ (rl.go g1) p1 fun w e H2 g2 p2 v2 => ?_
  have ok1 := rl.ok.go g1
  have ok2 := ok1.go g2
  refine o S H2 v w d e _ _ ok2 (v1.mono (g2.vis ok1)) v2 p2 fun z dz H3 g3 p3 v3 => ?_
  obtain ⟨k, rfl, p3⟩ := p3
  refine ⟨k, v3.bl_inv, ?_⟩
  cases k with
  | false => rw [if_neg Bool.false_ne_true] at p3 ⊢; exact q _ _ H3 ((g1.trans g2).trans g3) p3 (.bl _)
  | true =>
    rw [if_pos rfl] at p3 ⊢
    have ok3 := ok2.go g3
    refine h3 S σ H3 E _ _ (((rl.go g1).go g2).go g3) p3 fun u du H4 g4 p4 v4 => ?_
    exact o' S H4 w u e du P Q (ok3.go g4) ((v2.mono (g3.vis ok2)).mono (g4.vis ok3)) v4 p4 fun z d H' g => q z d H' ((((g1.trans g2).trans g3).trans g4).trans g)
theorem de_chain {op op' r r' f f'} (o : OpD X.K C r f) (o' : OpD X.K C r' f') (ho : OpR X (compareOp op) r) (ho' : OpR X (compareOp op') r') (ha : DE X C a ta) (hb : DE X C b tb) (hc : DE X C c tc) (hm : lastMarks [op, op'] [b, c] = false := by with_unfolding_all rfl) :
    DE X C (.Compare a [op, op'] [b, c] pos) (dChain f f' ta tb tc) := by
  obtain ⟨va, a1, a2⟩ := ha.ex
  obtain ⟨vb, b1, b2⟩ := hb.ex
  obtain ⟨vc, c1, c2⟩ := hc.ex
  exact ⟨⟨_, pe_chain ho ho' a1 b1 c1 hm, ev_chain o o' a2 b2 c2⟩⟩
theorem dt_chain {op op' r r' f f'} (o : OpD X.K C r f) (o' : OpD X.K C r' f') (ho : OpR X (compareOp op) r) (ho' : OpR X (compareOp op') r') (ha : DE X C a ta) (hb : DE X C b tb) (hc : DE X C c tc) (hm : lastMarks [op, op'] [b, c] = false := by with_unfolding_all rfl) :
    DT X C (.Compare a [op, op'] [b, c] pos) (dB (dChain f f' ta tb tc)) := by
  obtain ⟨va, a1, a2⟩ := ha.ex
  obtain ⟨vb, b1, b2⟩ := hb.ex
  obtain ⟨vc, c1, c2⟩ := hc.ex
  exact ⟨⟨_, pt_chain ho ho' a1 b1 c1 hm, ev_test (ev_chain o o' a2 b2 c2)⟩⟩
end
/-- a datum's truth -/
def truD : D → Option Bool
  | .non => some false
  | .bl b => some b
  | .int i => some (i != 0)
  | .str x => if x.length ≤ 100000 then some ((x.length : Int) != 0) else none
  | .lst ds => some (!ds.isEmpty)
  | .tup ds => some (!ds.isEmpty)
  | .dic ds => some (!ds.isEmpty)
  | .dcf _ _ => none
  | .scr ns => some (!ns.isEmpty)
  | .op _ => none
  | .ins _ _ => none
  | .exc _ _ => none
  | .sem _ _ => none
theorem tru_of {K : PySem.W.Frag} {H : Hp} {S : AS} {v : V} {d : D} {k : Bool} (h : DV K (hid H S) v d) (e : truD d = some k) : TruV K v H k := by
  have em : ∀ {vs : List V} {ds : List D}, DVs K (hid H S) vs ds → (!ds.isEmpty) = !vs.isEmpty := fun h => by cases h <;> rfl
  have ek : ∀ {vs : List (Key × V)} {ds : List (Key × D)}, DKs K (hid H S) vs ds → (!ds.isEmpty) = !vs.isEmpty := fun h => by cases h <;> rfl
  cases h with
  | non => exact (Option.some.inj e).symm
  | bl b => exact (Option.some.inj e).symm
  | int i => exact (Option.some.inj e).symm
  | str x =>
    have e : (if x.length ≤ 100000 then some ((x.length : Int) != 0) else Option.none) = some k := e
    split at e
    · exact ⟨small_line ‹_›, (Option.some.inj e).symm⟩
    · cases e
  | lst e1 h => exact .inl ⟨_, .inl (.inl (same_hid _ _ e1)), (Option.some.inj e).symm.trans (em h)⟩
  | tup e1 h => exact .inr (.inl ⟨_, (e1.mono same_hid).sq, (Option.some.inj e).symm.trans (em h)⟩)
  | dic e1 h => exact .inr (.inr ⟨_, same_hid _ _ e1, (Option.some.inj e).symm.trans (ek h)⟩)
  | dcf _ _ => cases e
  | @scr a ns e1 => exact .inl ⟨_, Same.seq same_hid e1, (Option.some.inj e).symm.trans (by cases ns <;> rfl)⟩
  | op v => cases e
  | ins _ _ => cases e
  | exc _ _ _ => cases e
  | exc0 _ => cases e
  | sem _ _ => cases e
def dTru (t : TD) : TDb := fun E P => t E fun d => ∃ k, truD d = some k ∧ P k
def dOrT (t u : TD) : TD := fun E P => t E fun d => ∃ k, truD d = some k ∧ if k = true then P d else u E P
def dAndT (t u : TD) : TD := fun E P => t E fun d => ∃ k, truD d = some k ∧ if k = true then u E P else P d
def dNotT (t : TD) : TD := fun E P => t E fun d => ∃ k, truD d = some k ∧ P (.bl (!k))
def dIf (c : TDb) (t u : TD) : TD := fun E P => c E fun b => if b = true then t E P else u E P
section
variable {X : Cx} {C : Cf} {a b c : Expr} {ta tb : TD} {uc : TDb} {pos : Pos} {rest : List Expr}
theorem dt_tru (h : DE X C a ta) (he : ∀ whole, isTrue a X.env whole = (do let v ← whole; standAt a.pos; holding [v] (truthy v)) := by intro _; rfl) : DT X C a (dTru ta) := by
  obtain ⟨te, h1, h2⟩ := h.ex
  refine ⟨⟨_, pt_truth h1 he, fun S σ H E P Q rl hp q => h2 S σ H E _ _ rl hp fun v d H1 g1 p1 v1 => ?_⟩⟩
  obtain ⟨k, e, p2⟩ := p1
  exact ⟨k, tru_of v1 e, q k H1 g1 p2⟩
theorem de_orT (ha : DE X C a ta) (hb : DE X C (.BoolOp .Or (b :: rest) pos) tb) : DE X C (.BoolOp .Or (a :: b :: rest) pos) (dOrT ta tb) := by
  obtain ⟨te, h1, h2⟩ := ha.ex
  obtain ⟨tu, t1, t2⟩ := hb.ex
  refine ⟨⟨_, pe_orT h1 t1, fun S σ H E P Q rl hp q => h2 S σ H E _ _ rl hp fun v d H1 g1 p1 v1 => ?_⟩⟩
  obtain ⟨k, e, p2⟩ := p1
  refine ⟨k, tru_of v1 e, ?_⟩
  cases k with
  | true => rw [if_pos rfl] at p2 ⊢; exact q v d H1 g1 p2 v1
  | false => rw [if_neg Bool.false_ne_true] at p2 ⊢; exact t2 S σ H1 E P Q (rl.go g1) p2 fun v d H' g => q v d H' (g1.trans g)
theorem de_andT (ha : DE X C a ta) (hb : DE X C (.BoolOp .And (b :: rest) pos) tb) : DE X C (.BoolOp .And (a :: b :: rest) pos) (dAndT ta tb) := by
  obtain ⟨te, h1, h2⟩ := ha.ex
  obtain ⟨tu, t1, t2⟩ := hb.ex
  refine ⟨⟨_, pe_andT h1 t1, fun S σ H E P Q rl hp q => h2 S σ H E _ _ rl hp fun v d H1 g1 p1 v1 => ?_⟩⟩
  obtain ⟨k, e, p2⟩ := p1
  refine ⟨k, tru_of v1 e, ?_⟩
  cases k with
  | false => rw [if_neg Bool.false_ne_true] at p2 ⊢; exact q v d H1 g1 p2 v1
  | true => rw [if_pos rfl] at p2 ⊢; exact t2 S σ H1 E P Q (rl.go g1) p2 fun v d H' g => q v d H' (g1.trans g)
theorem de_one {op} (h : DE X C a ta) : DE X C (.BoolOp op [a] pos) ta := let ⟨te, h1, h2⟩ := h.ex; ⟨⟨_, pe_one h1, h2⟩⟩
theorem de_notT (ha : DE X C a ta) : DE X C (.UnaryOp .Not a pos) (dNotT ta) := by
  obtain ⟨te, h1, h2⟩ := ha.ex
  refine ⟨⟨_, pe_notT h1, fun S σ H E P Q rl hp q => h2 S σ H E _ _ rl hp fun v d H1 g1 p1 v1 => ?_⟩⟩
  obtain ⟨k, e, p2⟩ := p1
  exact ⟨k, tru_of v1 e, q _ _ H1 g1 p2 (.bl _)⟩
theorem de_if (hc : DT X C c uc) (ha : DE X C a ta) (hb : DE X C b tb) : DE X C (.IfExp c a b pos) (dIf uc ta tb) := by
  obtain ⟨tc, c1, c2⟩ := hc.ex
  obtain ⟨te, h1, h2⟩ := ha.ex
  obtain ⟨tu, t1, t2⟩ := hb.ex
  refine ⟨⟨_, pe_ifExp c1 h1 t1, fun S σ H E P Q rl hp q => c2 S σ H E _ _ rl hp fun b H1 g1 p1 => ?_⟩⟩
  cases b with
  | true => rw [if_pos rfl] at p1 ⊢; exact h2 S σ H1 E P Q (rl.go g1) p1 fun v d H' g => q v d H' (g1.trans g)
  | false => rw [if_neg Bool.false_ne_true] at p1 ⊢; exact t2 S σ H1 E P Q (rl.go g1) p1 fun v d H' g => q v d H' (g1.trans g)
end

/-! ### calls -/
abbrev FN := List D → (D → Prop) → Prop
def CallD (K : PySem.W.Frag) (C : Cf) (r : List V → Hp → VK → Prop) (f : FN) : Prop := ∀ (S : AS) (H : Hp) (vs : List V) (ds : List D) (P : D → Prop) (Q : VK), Ok C S H → DVs K (hid H S) vs ds → f ds P →
  (∀ v d H', Go C H H' → P d → DV K (hid H' S) v d → Q v H') → r vs H Q
def dCall (f : FN) (t : TDs) : TD := fun E P => t E fun ds => f ds P
/-- what a def is worth: for a law's own objects C and the arguments' data, any datum for which P holds -/
def spD (K : PySem.W.Frag) (F : Cf → FN) : Sp := fun vs H Q _ => ∃ (C : Cf) (S : AS) (ds : List D) (P : D → Prop), Ok C S H ∧ DVs K (hid H S) vs ds ∧ F C ds P ∧ ∀ v d H', Go C H H' → P d → DV K (hid H' S) v d → Q v H'
section
variable {X : Cx} {C : Cf} {e : Expr} {es : List Expr} {td : TDs} {f : FN} {r : List V → Hp → VK → Prop} {x : Str} {id T : String} {p pos : Pos}
theorem ev_call {ta : TA} (h : EvA X.K C ta td) (o : CallD X.K C r f) : EvD X.K C (tCB r ta) (dCall f td) := fun S σ H E P Q rl hp q =>
  h S σ H E _ _ rl hp fun vs ds H1 g1 p1 v1 => o S H1 vs ds P Q (rl.ok.go g1) v1 p1 fun v d H' g => q v d H' (g1.trans g)
theorem de_blt (o : CallD X.K C r f) (hc : CallR X (.builtin id) r) (hg : Gl X x) (hm : X.mg x = none) (hv : bootBuiltins x = some (.builtin id)) (ha : DA X C (e :: es) td) (hn : x ≠ "__name__" := by decide) (hdb : (x == ("__debug__" : Str)) = false := by decide)
    (he : starEach (e :: es) X.env = (false, eval e X.env) :: starEach es X.env := by rfl) (hpl : (backTo pos (starEach es X.env)).any (·.1) = false := by rfl) : DE X C (.Call (.Name x p) (e :: es) [] pos) (dCall f td) := by
  obtain ⟨ta, a1, a2⟩ := ha.ex
  exact ⟨⟨_, pe_callB hc hg hm hv a1 hn hdb he hpl, ev_call a2 o⟩⟩
theorem de_typ (o : CallD X.K C r f) (hc : CallR X (.type T) r) (hg : Gl X x) (hm : X.mg x = none) (hv : bootBuiltins x = some (.type T)) (ha : DA X C (e :: es) td) (hn : x ≠ "__name__" := by decide) (hdb : (x == ("__debug__" : Str)) = false := by decide)
    (he : starEach (e :: es) X.env = (false, eval e X.env) :: starEach es X.env := by rfl) (hpl : (backTo pos (starEach es X.env)).any (·.1) = false := by rfl) : DE X C (.Call (.Name x p) (e :: es) [] pos) (dCall f td) := by
  obtain ⟨ta, a1, a2⟩ := ha.ex
  exact ⟨⟨_, pe_callTy hc hg hm hv a1 hn hdb he hpl, ev_call a2 o⟩⟩
theorem ev_sp {ta : TA} {F : Cf → FN} {E0 : XK} (h : EvA X.K C ta td) : EvD X.K C (fun σ H Q => ta σ H fun vs H1 => spD X.K F vs H1 Q E0) (dCall (F C) td) := fun S σ H E P Q rl hp q =>
  h S σ H E _ _ rl hp fun vs ds H1 g1 p1 v1 => ⟨C, S, ds, P, rl.ok.go g1, v1, p1, fun v d H' g => q v d H' (g1.trans g)⟩
variable {k : Nat} {fa : Addr} {fd : FuncData} {ps ks : List Str} {F : Cf → FN}
theorem de_fn (G : FnG X.prog X.w X.K X.mg X.base CX0 k fa fd ps (spD X.K F)) (hgd : X.A.guards = some []) (hr : Room k X.A) (hm : X.mg x = some (.ref fa)) (hk : PySem.W.keepIn X.K (.ref fa) = true) (hb : L2.Binds X.K fd ps []) (hg : Gl X x)
    (ha : DA X C (e :: es) td) (hdb : (x == ("__debug__" : Str)) = false := by decide) (he : starEach (e :: es) X.env = (false, eval e X.env) :: starEach es X.env := by rfl) (hpl : (backTo pos (starEach es X.env)).any (·.1) = false := by rfl) :
    DE X C (.Call (.Name x p) (e :: es) [] pos) (dCall (F C) td) := by
  obtain ⟨ta, a1, a2⟩ := ha.ex
  exact ⟨⟨_, pe_go G hgd hr hg hm hk hb pass0 a1 hdb he hpl, ev_sp a2⟩⟩
end
end L3
namespace L3
open PySem PySem.Spec PyProof.Rows L2

/-! ### the slots of a def: data, or a list (a dict) of the def's own that may still grow -/
inductive Sl where
  | no
  | dat (d : D)
  | own (ds : List D)
  | owd (kvs : List (Key × D))
abbrev Rho := List Sl
def Sl.isOwn : Sl → Bool
  | .own _ => true
  | .owd _ => true
  | _ => false
def ownAt (ρ : Rho) (i : Nat) : Prop := ∃ s, ρ[i]? = some s ∧ s.isOwn = true
def Vol (S0 : AS) (al : Nat → Addr) (ρ : Rho) : AS := fun a => S0 a ∨ ∃ i, ownAt ρ i ∧ al i = a
def view1 : Sl → Option D
  | .dat d => some d
  | _ => none
def frz1 : Sl → Option D
  | .dat d => some d
  | .own ds => some (.lst ds)
  | .owd ks => some (.dic ks)
  | .no => none
def thaw1 : Sl → Sl
  | .own ds => .dat (.lst ds)
  | .owd ks => .dat (.dic ks)
  | s => s
def view (ρ : Rho) : En := ρ.map view1
def frz (ρ : Rho) : En := ρ.map frz1
def thaw (ρ : Rho) : Rho := ρ.map thaw1
abbrev Gs := List (V × D)
def GsOk (K : PySem.W.Frag) (H : Hp) (S : AS) (gs : Gs) : Prop := ∀ g ∈ gs, DV K (hid H S) g.1 g.2
structure EnvR (K : PySem.W.Frag) (C : Cf) (S0 : AS) (H0 : Hp) (gs : Gs) (al : Nat → Addr) (ρ : Rho) (σ : L2.St) (H : Hp) : Prop where
  len : σ.length = ρ.length
  ok : Ok C S0 H
  ext : Ext C.G H0 H
  old : ∀ a, S0 a → H0 a ≠ none
  dat : ∀ (i : Nat) (d : D), ρ[i]? = some (.dat d) → ∃ v, σ[i]? = some (some v) ∧ DV K (hid H (Vol S0 al ρ)) v d
  own : ∀ (i : Nat) (ds : List D), ρ[i]? = some (.own ds) → σ[i]? = some (some (.ref (al i))) ∧ ∃ vs, H (al i) = some (.lst vs) ∧ DVs K (hid H (Vol S0 al ρ)) vs ds
  owd : ∀ (i : Nat) (ks : List (Key × D)), ρ[i]? = some (.owd ks) → σ[i]? = some (some (.ref (al i))) ∧ ∃ vs, H (al i) = some (.dK vs) ∧ DKs K (hid H (Vol S0 al ρ)) vs ks
  new : ∀ i, ownAt ρ i → H0 (al i) = none
  inj : ∀ i j, ownAt ρ i → ownAt ρ j → al i = al j → i = j
  gh : GsOk K H (Vol S0 al ρ) gs

section
variable {K : PySem.W.Frag} {C : Cf} {S0 : AS} {H0 H H' : Hp} {gs : Gs} {al : Nat → Addr} {ρ : Rho} {σ : L2.St}
theorem EnvR.alive (r : EnvR K C S0 H0 gs al ρ σ H) {i : Nat} (h : ownAt ρ i) : ∃ o, H (al i) = some o := by
  obtain ⟨s, e, q⟩ := h
  cases s with
  | own ds => obtain ⟨_, vs, z, _⟩ := r.own i ds e; exact ⟨_, z⟩
  | owd ds => obtain ⟨_, vs, z, _⟩ := r.owd i ds e; exact ⟨_, z⟩
  | no => cases q
  | dat d => cases q
theorem EnvR.notG (r : EnvR K C S0 H0 gs al ρ σ H) {i : Nat} (h : ownAt ρ i) : ¬ C.G (al i) := fun q => r.old _ (r.ok.g _ q) (r.new i h)
theorem EnvR.vok (r : EnvR K C S0 H0 gs al ρ σ H) : Ok C (Vol S0 al ρ) H := ⟨r.ok.i, fun a h => .inl (r.ok.g a h), fun a h => by
  rcases h with h | ⟨i, h, rfl⟩
  · exact r.ok.l a h
  · obtain ⟨o, e⟩ := r.alive h; rw [e]; intro z; cases z⟩
theorem map_at {f : Sl → Option D} {ρ : Rho} {i : Nat} {d : D} (h : (ρ.map f)[i]? = some (some d)) : ∃ s, ρ[i]? = some s ∧ f s = some d := by
  rw [List.getElem?_map] at h
  cases e : ρ[i]? with
  | none => rw [e] at h; cases h
  | some s => rw [e] at h; exact ⟨s, rfl, Option.some.inj h⟩
theorem EnvR.relA (r : EnvR K C S0 H0 gs al ρ σ H) : Rel K C (Vol S0 al ρ) (view ρ) σ H := ⟨r.vok, by unfold view; rw [List.length_map, r.len]; exact Nat.le_refl _, fun i d h => by
  obtain ⟨s, e, q⟩ := map_at h
  cases s with
  | dat d' => cases q; exact r.dat i d e
  | own _ => cases q
  | owd _ => cases q
  | no => cases q⟩
theorem EnvR.relB (r : EnvR K C S0 H0 gs al ρ σ H) : Rel K C S0 (frz ρ) σ H := ⟨r.ok, by unfold frz; rw [List.length_map, r.len]; exact Nat.le_refl _, fun i d h => by
  have sub : Same (hid H (Vol S0 al ρ)) (hid H S0) := same_hid_sub fun a h => .inl h
  obtain ⟨s, e, q⟩ := map_at h
  cases s with
  | dat d' => cases q; obtain ⟨v, h1, h2⟩ := r.dat i d e; exact ⟨v, h1, h2.mono sub⟩
  | own ds =>
    cases q
    obtain ⟨h1, vs, h2, h3⟩ := r.own i ds e
    refine ⟨_, h1, .lst (hid_some.mpr ⟨fun z => ?_, h2⟩) (h3.mono sub)⟩
    exact r.old _ z (r.new i ⟨_, e, rfl⟩)
  | owd ds =>
    cases q
    obtain ⟨h1, vs, h2, h3⟩ := r.owd i ds e
    refine ⟨_, h1, .dic (hid_some.mpr ⟨fun z => ?_, h2⟩) (h3.mono sub)⟩
    exact r.old _ z (r.new i ⟨_, e, rfl⟩)
  | no => cases q⟩
theorem EnvR.go (r : EnvR K C S0 H0 gs al ρ σ H) (g : Go C H H') : EnvR K C S0 H0 gs al ρ σ H' := by
  have vs := g.vis r.vok
  refine ⟨r.len, r.ok.go g, r.ext.trans g.e, r.old, fun i d e => ?_, fun i d e => ?_, fun i d e => ?_, r.new, r.inj, fun x hx => (r.gh x hx).mono vs⟩
  · obtain ⟨v, h1, h2⟩ := r.dat i d e; exact ⟨v, h1, h2.mono vs⟩
  · obtain ⟨h1, w, h2, h3⟩ := r.own i d e; exact ⟨h1, w, g.e _ _ (r.notG ⟨_, e, rfl⟩) h2, h3.mono vs⟩
  · obtain ⟨h1, w, h2, h3⟩ := r.owd i d e; exact ⟨h1, w, g.e _ _ (r.notG ⟨_, e, rfl⟩) h2, h3.mono vs⟩
theorem set_at {α : Type} {l : List α} {i j : Nat} {s x : α} (h : (l.set i s)[j]? = some x) : (i = j ∧ i < l.length ∧ x = s) ∨ (i ≠ j ∧ l[j]? = some x) := by
  rw [List.getElem?_set] at h
  split at h
  · split at h
    · exact .inl ⟨‹_›, ‹_›, (Option.some.inj h).symm⟩
    · cases h
  · exact .inr ⟨‹_›, h⟩
theorem ownAt_set {i j : Nat} {s : Sl} (h : ownAt (ρ.set i s) j) : (i = j ∧ s.isOwn = true ∧ i < ρ.length) ∨ (i ≠ j ∧ ownAt ρ j) := by
  obtain ⟨t, e, q⟩ := h
  rcases set_at e with ⟨rfl, hl, rfl⟩ | ⟨ne, e⟩
  · exact .inl ⟨rfl, q, hl⟩
  · exact .inr ⟨ne, t, e, q⟩
theorem EnvR.setDat (r : EnvR K C S0 H0 gs al ρ σ H) (i : Nat) {v : V} {d : D} (h : DV K (hid H (Vol S0 al ρ)) v d) : EnvR K C S0 H0 gs al (ρ.set i (.dat d)) (σ.set i (some v)) H := by
  have sub : Same (hid H (Vol S0 al ρ)) (hid H (Vol S0 al (ρ.set i (.dat d)))) := same_hid_sub fun a h => by
    rcases h with h | ⟨j, h, e⟩
    · exact .inl h
    · rcases ownAt_set h with ⟨_, z, _⟩ | ⟨_, z⟩
      · cases z
      · exact .inr ⟨j, z, e⟩
  have oo : ∀ {j}, ownAt (ρ.set i (.dat d)) j → ownAt ρ j := fun h => by
    rcases ownAt_set h with ⟨_, z, _⟩ | ⟨_, z⟩
    · cases z
    · exact z
  refine ⟨by simp [r.len], r.ok, r.ext, r.old, fun j e q => ?_, fun j e q => ?_, fun j e q => ?_, fun j q => r.new j (oo q), fun j k a b => r.inj j k (oo a) (oo b), fun x hx => (r.gh x hx).mono sub⟩
  · rcases set_at q with ⟨rfl, hl, z⟩ | ⟨ne, z⟩
    · cases z
      exact ⟨v, by rw [List.getElem?_set_self (by rw [r.len]; exact hl)], h.mono sub⟩
    · obtain ⟨w, h1, h2⟩ := r.dat j e z
      exact ⟨w, by rw [List.getElem?_set_ne ne]; exact h1, h2.mono sub⟩
  · rcases set_at q with ⟨rfl, hl, z⟩ | ⟨ne, z⟩
    · cases z
    · obtain ⟨h1, w, h2, h3⟩ := r.own j e z
      exact ⟨by rw [List.getElem?_set_ne ne]; exact h1, w, h2, h3.mono sub⟩
  · rcases set_at q with ⟨rfl, hl, z⟩ | ⟨ne, z⟩
    · cases z
    · obtain ⟨h1, w, h2, h3⟩ := r.owd j e z
      exact ⟨by rw [List.getElem?_set_ne ne]; exact h1, w, h2, h3.mono sub⟩
/-- a slot that gets a new list of its own -/
theorem EnvR.setOwn (r : EnvR K C S0 H0 gs al ρ σ H) (i : Nat) {p : Addr} {vs : List V} {ds : List D} (np : H p = none) (h : DVs K (hid H (Vol S0 al ρ)) vs ds) :
    EnvR K C S0 H0 gs (fun j => if j = i then p else al j) (ρ.set i (.own ds)) (σ.set i (some (.ref p))) (upd H p (.lst vs)) := by
  have g : Go C H (upd H p (.lst vs)) := Go.new r.ok np
  have np0 : H0 p = none := by
    cases e : H0 p with
    | none => rfl
    | some o =>
      by_cases q : C.G p
      · exact absurd np (C.liv H p r.ok.i q)
      · rw [r.ext p o q e] at np; cases np
  have nal : ∀ {j}, ownAt ρ j → al j ≠ p := fun h z => by obtain ⟨o, e⟩ := r.alive h; rw [z, np] at e; cases e
  have vv := g.vis r.vok
  have sub : Same (hid H (Vol S0 al ρ)) (hid (upd H p (.lst vs)) (Vol S0 (fun j => if j = i then p else al j) (ρ.set i (.own ds)))) := fun a o q => by
    obtain ⟨q1, q2⟩ := hid_some.mp q
    have nap : a ≠ p := ne_of_none q2 np
    refine hid_some.mpr ⟨fun z => ?_, by rw [upd_ne nap]; exact q2⟩
    rcases z with z | ⟨j, z, e⟩
    · exact q1 (.inl z)
    · have e : (if j = i then p else al j) = a := e
      rcases ownAt_set z with ⟨rfl, _, _⟩ | ⟨ne, z⟩
      · rw [if_pos rfl] at e; exact nap e.symm
      · rw [if_neg (fun z : j = i => ne z.symm)] at e; exact q1 (.inr ⟨j, z, e⟩)
  refine ⟨by simp [r.len], r.ok.go g, r.ext.trans g.e, r.old, fun j e q => ?_, fun j e q => ?_, fun j e q => ?_, fun j q => ?_, fun j k a b e => ?_, fun x hx => (r.gh x hx).mono sub⟩
  · rcases set_at q with ⟨rfl, hl, z⟩ | ⟨ne, z⟩
    · cases z
    · obtain ⟨w, h1, h2⟩ := r.dat j e z
      exact ⟨w, by rw [List.getElem?_set_ne ne]; exact h1, h2.mono sub⟩
  · rcases set_at q with ⟨rfl, hl, z⟩ | ⟨ne, z⟩
    · cases z
      refine ⟨by rw [List.getElem?_set_self (by rw [r.len]; exact hl)]; simp, vs, by simp only [if_pos rfl, ite_true]; exact upd_same, h.mono sub⟩
    · obtain ⟨h1, w, h2, h3⟩ := r.own j e z
      have nj : ¬ j = i := fun z => ne z.symm
      refine ⟨by simp only [if_neg nj]; rw [List.getElem?_set_ne ne]; exact h1, w, by simp only [if_neg nj]; rw [upd_ne (nal ⟨_, z, rfl⟩)]; exact h2, h3.mono sub⟩
  · rcases set_at q with ⟨rfl, hl, z⟩ | ⟨ne, z⟩
    · cases z
    · obtain ⟨h1, w, h2, h3⟩ := r.owd j e z
      have nj : ¬ j = i := fun z => ne z.symm
      refine ⟨by simp only [if_neg nj]; rw [List.getElem?_set_ne ne]; exact h1, w, by simp only [if_neg nj]; rw [upd_ne (nal ⟨_, z, rfl⟩)]; exact h2, h3.mono sub⟩
  · rcases ownAt_set q with ⟨rfl, _, _⟩ | ⟨ne, z⟩
    · simp only [if_pos rfl]; exact np0
    · have nj : ¬ j = i := fun z => ne z.symm
      simp only [if_neg nj]; exact r.new j z
  · have e : (if j = i then p else al j) = (if k = i then p else al k) := e
    rcases ownAt_set a with ⟨ea, _, _⟩ | ⟨ne, a⟩ <;> rcases ownAt_set b with ⟨eb, _, _⟩ | ⟨ne2, b⟩
    · exact ea.symm.trans eb
    · rw [if_pos ea.symm, if_neg (fun z : k = i => ne2 z.symm)] at e
      exact absurd e.symm (nal b)
    · rw [if_pos eb.symm, if_neg (fun z : j = i => ne z.symm)] at e
      exact absurd e (nal a)
    · rw [if_neg (fun z : j = i => ne z.symm), if_neg (fun z : k = i => ne2 z.symm)] at e
      exact r.inj j k a b e
/-- the own list of a slot is changed -/
theorem EnvR.wrOwn (r : EnvR K C S0 H0 gs al ρ σ H) {i : Nat} {ds0 ds : List D} {vs : List V} (e0 : ρ[i]? = some (.own ds0)) (h : DVs K (hid H (Vol S0 al ρ)) vs ds) :
    EnvR K C S0 H0 gs al (ρ.set i (.own ds)) σ (upd H (al i) (.lst vs)) := by
  have oi : ownAt ρ i := ⟨_, e0, rfl⟩
  have ng := r.notG oi
  have hl : i < ρ.length := (List.getElem?_eq_some_iff.mp e0).1
  have oo : ∀ {j}, ownAt (ρ.set i (.own ds)) j → ownAt ρ j := fun h => by
    rcases ownAt_set h with ⟨rfl, z, _⟩ | ⟨_, z⟩
    · exact oi
    · exact z
  have sub : Same (hid H (Vol S0 al ρ)) (hid (upd H (al i) (.lst vs)) (Vol S0 al (ρ.set i (.own ds)))) := fun a o q => by
    obtain ⟨q1, q2⟩ := hid_some.mp q
    have na : a ≠ al i := fun z => q1 (.inr ⟨i, oi, z.symm⟩)
    refine hid_some.mpr ⟨fun z => ?_, by rw [upd_ne na]; exact q2⟩
    rcases z with z | ⟨j, z, e⟩
    · exact q1 (.inl z)
    · exact q1 (.inr ⟨j, oo z, e⟩)
  have i2 : C.I (upd H (al i) (.lst vs)) := C.loc H _ (fun a ga => upd_ne (fun z => ng (z ▸ ga))) (upd_ext fun φ z => by obtain ⟨_, _, y, _⟩ := r.own i _ e0; rw [y] at z; cases z) r.ok.i
  refine ⟨by simp [r.len], ⟨i2, r.ok.g, fun a ha => ?_⟩, fun a o ga e => ?_, r.old, fun j e q => ?_, fun j e q => ?_, fun j e q => ?_, fun j q => r.new j (oo q), fun j k a b e => r.inj j k (oo a) (oo b) e, fun x hx => (r.gh x hx).mono sub⟩
  · by_cases z : a = al i
    · subst z; rw [upd_same]; intro z; cases z
    · rw [upd_ne z]; exact r.ok.l a ha
  · have z : a ≠ al i := fun z => by rw [z, r.new i oi] at e; cases e
    rw [upd_ne z]; exact r.ext a o ga e
  · rcases set_at q with ⟨rfl, hl, z⟩ | ⟨ne, z⟩
    · cases z
    · obtain ⟨w, h1, h2⟩ := r.dat j e z
      exact ⟨w, h1, h2.mono sub⟩
  · rcases set_at q with ⟨rfl, hl, z⟩ | ⟨ne, z⟩
    · cases z
      exact ⟨(r.own i ds0 e0).1, vs, upd_same, h.mono sub⟩
    · obtain ⟨h1, w, h2, h3⟩ := r.own j e z
      exact ⟨h1, w, by rw [upd_ne (fun z' => ne (r.inj j i ⟨_, z, rfl⟩ oi z').symm)]; exact h2, h3.mono sub⟩
  · rcases set_at q with ⟨rfl, hl, z⟩ | ⟨ne, z⟩
    · cases z
    · obtain ⟨h1, w, h2, h3⟩ := r.owd j e z
      exact ⟨h1, w, by rw [upd_ne (fun z' => ne (r.inj j i ⟨_, z, rfl⟩ oi z').symm)]; exact h2, h3.mono sub⟩
/-- all own lists become data -/
theorem thaw_at {i : Nat} {d : D} (h : (thaw ρ)[i]? = some (.dat d)) : (frz ρ)[i]? = some (some d) := by
  unfold thaw at h
  unfold frz
  rw [List.getElem?_map] at h ⊢
  cases e : ρ[i]? with
  | none => rw [e] at h; cases h
  | some s =>
    rw [e] at h
    cases s <;> cases h <;> rfl
theorem thaw_not {i : Nat} (h : ownAt (thaw ρ) i) : False := by
  obtain ⟨s, e, q⟩ := h
  unfold thaw at e
  rw [List.getElem?_map] at e
  cases z : ρ[i]? with
  | none => rw [z] at e; cases e
  | some t => rw [z] at e; cases t <;> cases e <;> cases q
theorem vol_thaw : Same (hid H S0) (hid H (Vol S0 al (thaw ρ))) := same_hid_sub fun a h => by
  rcases h with h | ⟨j, h, e⟩
  · exact h
  · exact (thaw_not h).elim
theorem EnvR.thaw (r : EnvR K C S0 H0 gs al ρ σ H) : EnvR K C S0 H0 gs al (thaw ρ) σ H := by
  refine ⟨by rw [r.len]; unfold L3.thaw; simp, r.ok, r.ext, r.old, fun j d q => ?_, fun j e q => (thaw_not ⟨_, q, rfl⟩).elim, fun j e q => (thaw_not ⟨_, q, rfl⟩).elim, fun j q => (thaw_not q).elim, fun j k a => (thaw_not a).elim, fun x hx => (r.gh x hx).mono ?_⟩
  · obtain ⟨v, h1, h2⟩ := r.relB.at_ j d (thaw_at q)
    exact ⟨v, h1, h2.mono vol_thaw⟩
  · exact same_hid_sub fun a h => by
      rcases h with h | ⟨j, h, e⟩
      · exact .inl h
      · exact (thaw_not h).elim
end

/-! ### statements -/
structure EndsD where
  nx : Rho → Prop
  rt : D → Prop
  bk : Rho → Prop := fun _ => False
  ct : Rho → Prop := fun _ => False
abbrev TSd := EndsD → Rho → Prop
structure Good (K : PySem.W.Frag) (C : Cf) (S0 : AS) (H0 : Hp) (gs : Gs) (Dn : EndsD) (D' : Ends) : Prop where
  nx : ∀ al ρ σ H, EnvR K C S0 H0 gs al ρ σ H → Dn.nx ρ → D'.nx σ H
  rt : ∀ v d H, Ext C.G H0 H → C.I H → Dn.rt d → DV K (hid H S0) v d → D'.rt v H
  bk : ∀ al ρ σ H, EnvR K C S0 H0 gs al ρ σ H → Dn.bk ρ → D'.bk σ H
  ct : ∀ al ρ σ H, EnvR K C S0 H0 gs al ρ σ H → Dn.ct ρ → D'.ct σ H
def EvS (K : PySem.W.Frag) (C : Cf) (t : TS) (ts : TSd) : Prop := ∀ (S0 : AS) (H0 : Hp) (gs : Gs) (al : Nat → Addr) (ρ : Rho) (σ : L2.St) (H : Hp) (Dn : EndsD) (D' : Ends), EnvR K C S0 H0 gs al ρ σ H → ts Dn ρ → Good K C S0 H0 gs Dn D' → t D' σ H
structure DS (X : Cx) (C : Cf) (st : Stmt) (ts : TSd) : Prop where
  ex : ∃ t, PS X st t ∧ EvS X.K C t ts
structure DSs (X : Cx) (C : Cf) (st : List Stmt) (ts : TSd) : Prop where
  ex : ∃ t, PSs X st t ∧ EvS X.K C t ts
def sNx : TSd := fun Dn ρ => Dn.nx ρ
def sBk : TSd := fun Dn ρ => Dn.bk ρ
def sCt : TSd := fun Dn ρ => Dn.ct ρ
def sSeq (t u : TSd) : TSd := fun Dn ρ => t { Dn with nx := u Dn } ρ
def flatD : D → Bool
  | .non => true
  | .bl _ => true
  | .int _ => true
  | .str _ => true
  | .op _ => true
  | _ => false
theorem flat_any {K : PySem.W.Frag} {H H' : Hp} {v : V} {d : D} (h : DV K H v d) (f : flatD d = true) : DV K H' v d := by
  cases h with
  | non => exact .non
  | bl b => exact .bl b
  | int b => exact .int b
  | str b => exact .str b
  | op _ => exact .op _
  | ins _ _ => cases f
  | exc _ _ _ => cases f
  | exc0 _ => cases f
  | sem _ _ => cases f
  | lst _ _ => cases f
  | tup _ _ => cases f
  | dic _ _ => cases f
  | dcf _ _ => cases f
  | scr _ => cases f
mutual
/-- no list, no dict in it -/
def frzD : D → Bool
  | .non => true
  | .bl _ => true
  | .int _ => true
  | .str _ => true
  | .op _ => true
  | .tup ds => frzDs ds
  | .ins _ ks => frzKs ks
  | .exc _ ks => frzKs ks
  | .dcf _ ks => frzKs ks
  | _ => false
def frzDs : List D → Bool
  | [] => true
  | d :: r => frzD d && frzDs r
def frzKs : List (Key × D) → Bool
  | [] => true
  | (_, d) :: r => frzD d && frzKs r
end
def Grows (H : Hp) (S T : AS) : Prop := ∀ a, T a → S a ∨ (∃ xs, H a = some (.lst xs)) ∨ ∃ ks, H a = some (.dK ks)
theorem Grows.at_ {H : Hp} {S T : AS} {a : Addr} {o : HO} (g : Grows H S T) (e : hid H S a = some o) (h1 : ∀ xs, o ≠ .lst xs) (h2 : ∀ ks, o ≠ .dK ks) : hid H T a = some o := by
  obtain ⟨n, e⟩ := hid_some.mp e
  refine hid_some.mpr ⟨fun t => ?_, e⟩
  rcases g a t with z | ⟨xs, z⟩ | ⟨ks, z⟩
  · exact n z
  · rw [e] at z; exact h1 xs (Option.some.inj z)
  · rw [e] at z; exact h2 ks (Option.some.inj z)
mutual
theorem DV.frz {K : PySem.W.Frag} {H : Hp} {S T : AS} (g : Grows H S T) : ∀ {v : V} {d : D}, DV K (hid H S) v d → frzD d = true → DV K (hid H T) v d
  | _, _, .non, _ => .non
  | _, _, .bl b, _ => .bl b
  | _, _, .int b, _ => .int b
  | _, _, .str b, _ => .str b
  | _, _, .op _, _ => .op _
  | _, _, .tup ⟨o, n, e⟩ h, f => .tup ⟨o, n, g.at_ e (fun _ z => nomatch z) fun _ z => nomatch z⟩ (DVs.frz g h (by simpa only [frzD] using f))
  | _, _, .ins e h, f => .ins (g.at_ e (fun _ z => nomatch z) fun _ z => nomatch z) (DKs.frz g h (by simpa only [frzD] using f))
  | _, _, .exc e e2 h, f => .exc (g.at_ e (fun _ z => by unfold exX at z; cases z) fun _ z => by unfold exX at z; cases z) (g.at_ e2 (fun _ z => nomatch z) fun _ z => nomatch z) (DKs.frz g h (by simpa only [frzD] using f))
  | _, _, .exc0 e, f => .exc0 (g.at_ e (fun _ z => by unfold exX at z; cases z) fun _ z => by unfold exX at z; cases z)
  | _, _, .sem _ _, f => by simp [frzD] at f
  | _, _, .lst _ _, f => by simp [frzD] at f
  | _, _, .dic _ _, f => by simp [frzD] at f
  | _, _, .dcf e h, f => .dcf (g.at_ e (fun _ z => nomatch z) fun _ z => nomatch z) (DKs.frz g h (by simpa only [frzD] using f))
  | _, _, .scr _, f => by simp [frzD] at f
theorem DVs.frz {K : PySem.W.Frag} {H : Hp} {S T : AS} (g : Grows H S T) : ∀ {vs : List V} {ds : List D}, DVs K (hid H S) vs ds → frzDs ds = true → DVs K (hid H T) vs ds
  | _, _, .nil, _ => .nil
  | _, _, .cons h t, f => by
    simp only [frzDs, Bool.and_eq_true] at f
    exact .cons (DV.frz g h f.1) (DVs.frz g t f.2)
theorem DKs.frz {K : PySem.W.Frag} {H : Hp} {S T : AS} (g : Grows H S T) : ∀ {vs : List (Key × V)} {ds : List (Key × D)}, DKs K (hid H S) vs ds → frzKs ds = true → DKs K (hid H T) vs ds
  | _, _, .nil, _ => .nil
  | _, _, .cons h t, f => by
    simp only [frzKs, Bool.and_eq_true] at f
    exact .cons (DV.frz g h f.1) (DKs.frz g t f.2)
end
theorem EnvR.grows {K : PySem.W.Frag} {C : Cf} {S0 : AS} {H0 H : Hp} {gs : Gs} {al : Nat → Addr} {ρ : Rho} {σ : L2.St} (r : EnvR K C S0 H0 gs al ρ σ H) : Grows H S0 (Vol S0 al ρ) := fun a h => by
  rcases h with h | ⟨i, ⟨s, e, q⟩, rfl⟩
  · exact .inl h
  · cases s with
    | own ds => obtain ⟨_, vs, z, _⟩ := r.own i ds e; exact .inr (.inl ⟨_, z⟩)
    | owd ds => obtain ⟨_, vs, z, _⟩ := r.owd i ds e; exact .inr (.inr ⟨_, z⟩)
    | no => cases q
    | dat d => cases q
def sSet (i : Nat) (t : TD) : TSd := fun Dn ρ => t (view ρ) fun d => Dn.nx (ρ.set i (.dat d))
def sSetF (i : Nat) (t : TD) : TSd := fun Dn ρ => t (frz ρ) fun d => frzD d = true ∧ Dn.nx (ρ.set i (.dat d))
def sSetZ (i : Nat) (t : TD) : TSd := fun Dn ρ => t (frz ρ) fun d => Dn.nx ((thaw ρ).set i (.dat d))
def sOwn (i : Nat) (t : TDs) : TSd := fun Dn ρ => t (view ρ) fun ds => ds.length ≤ 100000 ∧ Dn.nx (ρ.set i (.own ds))
def sApp (i : Nat) (t : TD) : TSd := fun Dn ρ => ∃ ds, ρ[i]? = some (.own ds) ∧ t (view ρ) fun d => ds.length < 100000 ∧ Dn.nx (ρ.set i (.own (ds ++ [d])))
def sAppF (i : Nat) (t : TD) : TSd := fun Dn ρ => ∃ ds, ρ[i]? = some (.own ds) ∧ t (frz ρ) fun d => frzD d = true ∧ ds.length < 100000 ∧ Dn.nx (ρ.set i (.own (ds ++ [d])))
def sIf (c : TDb) (t u : TSd) : TSd := fun Dn ρ => c (frz ρ) fun b => if b = true then t Dn ρ else u Dn ρ
def sRet (t : TD) : TSd := fun Dn ρ => t (frz ρ) Dn.rt
def sRetN : TSd := fun Dn _ => Dn.rt .non
def sExp (t : TD) : TSd := fun Dn ρ => t (view ρ) fun _ => Dn.nx ρ
section
variable {X : Cx} {C : Cf} {st : Stmt} {rest : List Stmt} {ts us : TSd} {e : Expr} {td : TD} {i : Nat} {x : Str} {pos pos' : Pos}
theorem dss_nil : DSs X C [] sNx := ⟨⟨_, pss_nil, fun S0 H0 gs al ρ σ H Dn D' r h g => g.nx al ρ σ H r h⟩⟩
theorem ds_pass : DS X C (.Pass pos) sNx := ⟨⟨_, ps_pass, fun S0 H0 gs al ρ σ H Dn D' r h g => g.nx al ρ σ H r h⟩⟩
theorem ds_brk : DS X C (.Break pos) sBk := ⟨⟨_, ps_break, fun S0 H0 gs al ρ σ H Dn D' r h g => g.bk al ρ σ H r h⟩⟩
theorem ds_cont : DS X C (.Continue pos) sCt := ⟨⟨_, ps_continue, fun S0 H0 gs al ρ σ H Dn D' r h g => g.ct al ρ σ H r h⟩⟩
theorem dss_one (h : DS X C st ts) : DSs X C [st] ts := let ⟨t, h1, h2⟩ := h.ex; ⟨⟨t, pss_one h1, h2⟩⟩
theorem dss_cons (h : DS X C st ts) (k : DSs X C rest us) : DSs X C (st :: rest) (sSeq ts us) := by
  obtain ⟨t, h1, h2⟩ := h.ex
  obtain ⟨u, k1, k2⟩ := k.ex
  exact ⟨⟨_, pss_cons h1 k1, fun S0 H0 gs al ρ σ H Dn D' r h g => h2 S0 H0 gs al ρ σ H _ _ r h ⟨fun al ρ σ H r h => k2 S0 H0 gs al ρ σ H Dn D' r h g, g.rt, g.bk, g.ct⟩⟩⟩
theorem ev_set {te : TE} (h : EvD X.K C te td) : EvS X.K C (tAsg te (gName i)) (sSet i td) := fun S0 H0 gs al ρ σ H Dn D' r hp g => by
  refine h _ σ H _ _ _ r.relA hp fun v d H1 g1 p1 v1 => ?_
  exact g.nx al _ _ H1 ((r.go g1).setDat i v1) p1
theorem ev_setF {te : TE} (h : EvD X.K C te td) : EvS X.K C (tAsg te (gName i)) (sSetF i td) := fun S0 H0 gs al ρ σ H Dn D' r hp g => by
  refine h _ σ H _ _ _ r.relB hp fun v d H1 g1 p1 v1 => ?_
  exact g.nx al _ _ H1 ((r.go g1).setDat i (v1.frz (r.go g1).grows p1.1)) p1.2
theorem ev_setZ {te : TE} (h : EvD X.K C te td) : EvS X.K C (tAsg te (gName i)) (sSetZ i td) := fun S0 H0 gs al ρ σ H Dn D' r hp g => by
  refine h _ σ H _ _ _ r.relB hp fun v d H1 g1 p1 v1 => ?_
  exact g.nx al _ _ H1 ((r.go g1).thaw.setDat i (v1.mono vol_thaw)) p1
/-- what a plain x = e asks of the text -/
structure NmOk (X : Cx) (i : Nat) (x : Str) : Prop where
  nd : X.N.Nodup
  at_ : X.N[i]? = some x
  loc : Loc X.env.scope x
  fn : X.fn x = true ∨ X.env.scope.names.lookup x = some .local
theorem ds_set (n : NmOk X i x) (h : DE X C e td) (hs : swapsWith e (some (.Name x pos')) pos.line X.env = pure false := by rfl) : DS X C (.Assign [.Name x pos'] e pos) (sSet i td) :=
  let ⟨te, h1, h2⟩ := h.ex; ⟨⟨_, ps_set n.nd n.at_ n.loc h1 hs n.fn, ev_set h2⟩⟩
theorem ds_setF (n : NmOk X i x) (h : DE X C e td) (hs : swapsWith e (some (.Name x pos')) pos.line X.env = pure false := by rfl) : DS X C (.Assign [.Name x pos'] e pos) (sSetF i td) :=
  let ⟨te, h1, h2⟩ := h.ex; ⟨⟨_, ps_set n.nd n.at_ n.loc h1 hs n.fn, ev_setF h2⟩⟩
theorem ds_setZ (n : NmOk X i x) (h : DE X C e td) (hs : swapsWith e (some (.Name x pos')) pos.line X.env = pure false := by rfl) : DS X C (.Assign [.Name x pos'] e pos) (sSetZ i td) :=
  let ⟨te, h1, h2⟩ := h.ex; ⟨⟨_, ps_set n.nd n.at_ n.loc h1 hs n.fn, ev_setZ h2⟩⟩
theorem ds_own {es : List Expr} {tds : TDs} {lpos : Pos} (n : NmOk X i x) (h : DA X C es tds) (hs : swapsWith (.List es lpos) (some (.Name x pos')) pos.line X.env = pure false := by rfl) : DS X C (.Assign [.Name x pos'] (.List es lpos) pos) (sOwn i tds) := by
  obtain ⟨ta, h1, h2⟩ := h.ex
  refine ⟨⟨_, ps_set n.nd n.at_ n.loc (pe_lst h1) hs n.fn, fun S0 H0 gs al ρ σ H Dn D' r hp g => ?_⟩⟩
  refine h2 _ σ H _ _ _ r.relA hp fun vs ds H1 g1 p1 v1 => ⟨small_line (by rw [v1.len]; exact p1.1), fun p np => ?_⟩
  exact g.nx _ _ _ _ ((r.go g1).setOwn i np v1) p1.2
theorem line_lt {n : Nat} (h : n < 100000) : n < sizeLine := Nat.lt_of_lt_of_le h (by decide)
theorem ds_app {o : Expr} {apos cpos : Pos} (ho : PE X o (tVar i)) (h : DE X C e td) (hbase : attributeBase o "append" X.env (eval o X.env) = eval o X.env := by rfl)
    (hfew : ((backTo cpos (starEach [e] X.env)).all (fun x => !x.1) && (backToKw cpos (keywordEach [] X.env)).all (fun x => x.1.isSome) && decide (([e] : List Expr).length + ([] : List Keyword).length + (if ([] : List Keyword).isEmpty then 0 else 1) < 30)) = true := by rfl)
    (hline : (apos.endLine == cpos.line) = true := by rfl) (hs : starEach [e] X.env = (false, eval e X.env) :: starEach [] X.env := by rfl) (hsw : swapsWith (.Call (.Attribute o "append" apos) [e] [] cpos) none pos.line X.env = pure false := by rfl) :
    DS X C (.Expr (.Call (.Attribute o "append" apos) [e] [] cpos) pos) (sApp i td) := by
  obtain ⟨te, h1, h2⟩ := h.ex
  refine ⟨⟨_, ps_expr (pe_bm PySem.F.plainAttrs_list PySem.F.slot_list_append PySem.F.type_list_append mt_append ho (pa_cons h1 pa_nil hs) hbase hfew hline hs rfl) hsw, fun S0 H0 gs al ρ σ H Dn D' r hp g => ?_⟩⟩
  obtain ⟨ds, e0, hp⟩ := hp
  obtain ⟨q1, vs, q2, q3⟩ := r.own i ds e0
  refine ⟨_, q1, .inl ⟨rfl, vs, .inl (.inl q2)⟩, ?_⟩
  refine h2 _ σ H _ _ _ r.relA hp fun v d H1 g1 p1 v1 => ?_
  have r1 := r.go g1
  obtain ⟨_, vs1, q4, q5⟩ := r1.own i ds e0
  refine ⟨al i, vs1, v, rfl, rfl, q4, line_lt (by rw [q5.len]; exact p1.1), ?_⟩
  exact g.nx _ _ _ _ (r1.wrOwn e0 (q5.app (.cons v1 .nil))) p1.2
theorem ds_appF {o : Expr} {apos cpos : Pos} (ho : PE X o (tVar i)) (h : DE X C e td) (hbase : attributeBase o "append" X.env (eval o X.env) = eval o X.env := by rfl)
    (hfew : ((backTo cpos (starEach [e] X.env)).all (fun x => !x.1) && (backToKw cpos (keywordEach [] X.env)).all (fun x => x.1.isSome) && decide (([e] : List Expr).length + ([] : List Keyword).length + (if ([] : List Keyword).isEmpty then 0 else 1) < 30)) = true := by rfl)
    (hline : (apos.endLine == cpos.line) = true := by rfl) (hs : starEach [e] X.env = (false, eval e X.env) :: starEach [] X.env := by rfl) (hsw : swapsWith (.Call (.Attribute o "append" apos) [e] [] cpos) none pos.line X.env = pure false := by rfl) :
    DS X C (.Expr (.Call (.Attribute o "append" apos) [e] [] cpos) pos) (sAppF i td) := by
  obtain ⟨te, h1, h2⟩ := h.ex
  refine ⟨⟨_, ps_expr (pe_bm PySem.F.plainAttrs_list PySem.F.slot_list_append PySem.F.type_list_append mt_append ho (pa_cons h1 pa_nil hs) hbase hfew hline hs rfl) hsw, fun S0 H0 gs al ρ σ H Dn D' r hp g => ?_⟩⟩
  obtain ⟨ds, e0, hp⟩ := hp
  obtain ⟨q1, vs, q2, q3⟩ := r.own i ds e0
  refine ⟨_, q1, .inl ⟨rfl, vs, .inl (.inl q2)⟩, ?_⟩
  refine h2 _ σ H _ _ _ r.relB hp fun v d H1 g1 p1 v1 => ?_
  have r1 := r.go g1
  obtain ⟨_, vs1, q4, q5⟩ := r1.own i ds e0
  refine ⟨al i, vs1, v, rfl, rfl, q4, line_lt (by rw [q5.len]; exact p1.2.1), ?_⟩
  exact g.nx _ _ _ _ (r1.wrOwn e0 (q5.app (.cons (v1.frz (r.go g1).grows p1.1) .nil))) p1.2.2
theorem ds_if {c : Expr} {a b : List Stmt} {uc : TDb} (hc : DT X C c uc) (ha : DSs X C a ts) (hb : DSs X C b us) : DS X C (.If c a b pos) (sIf uc ts us) := by
  obtain ⟨tc, c1, c2⟩ := hc.ex
  obtain ⟨ta, a1, a2⟩ := ha.ex
  obtain ⟨tb, b1, b2⟩ := hb.ex
  refine ⟨⟨_, ps_if c1 a1 b1, fun S0 H0 gs al ρ σ H Dn D' r hp g => ?_⟩⟩
  refine c2 _ σ H _ _ _ r.relB hp fun b H1 g1 p1 => ?_
  cases b with
  | true => rw [if_pos rfl] at p1 ⊢; exact a2 _ _ _ _ _ _ _ _ _ (r.go g1) p1 g
  | false => rw [if_neg Bool.false_ne_true] at p1 ⊢; exact b2 _ _ _ _ _ _ _ _ _ (r.go g1) p1 g
theorem ds_ret (h : DE X C e td) : DS X C (.Return (some e) pos) (sRet td) := by
  obtain ⟨te, h1, h2⟩ := h.ex
  refine ⟨⟨_, ps_ret h1, fun S0 H0 gs al ρ σ H Dn D' r hp g => ?_⟩⟩
  refine h2 _ σ H _ _ _ r.relB hp fun v d H1 g1 p1 v1 => ?_
  exact g.rt v d H1 (r.ext.trans g1.e) g1.i p1 v1
theorem ds_retN : DS X C (.Return none pos) sRetN := ⟨⟨_, ps_retN, fun S0 H0 gs al ρ σ H Dn D' r hp g => g.rt .non .non H r.ext r.ok.i hp .non⟩⟩
theorem ds_exp (h : DE X C e td) (hs : swapsWith e none pos.line X.env = pure false := by rfl) : DS X C (.Expr e pos) (sExp td) := by
  obtain ⟨te, h1, h2⟩ := h.ex
  refine ⟨⟨_, ps_expr h1 hs, fun S0 H0 gs al ρ σ H Dn D' r hp g => ?_⟩⟩
  exact h2 _ σ H _ _ _ r.relA hp fun v d H1 g1 p1 v1 => g.nx al ρ σ H1 (r.go g1) p1
end

/-! ### a def by its body -/
def startD (N : List Str) (ds : List D) : Rho := ds.map Sl.dat ++ List.replicate (N.length - ds.length) Sl.no
theorem startD_dat {N : List Str} {ds : List D} {i : Nat} {d : D} (h : (startD N ds)[i]? = some (.dat d)) : ds[i]? = some d := by
  unfold startD at h
  by_cases hi : i < ds.length
  · rw [List.getElem?_append_left (by simpa using hi), List.getElem?_map] at h
    cases e : ds[i]? with
    | none => rw [e] at h; cases h
    | some x => rw [e] at h; cases h; rfl
  · rw [List.getElem?_append_right (by simpa using hi), List.getElem?_replicate] at h
    split at h <;> cases h
theorem startD_not {N : List Str} {ds : List D} {i : Nat} (h : ownAt (startD N ds) i) : False := by
  obtain ⟨s, e, q⟩ := h
  unfold startD at e
  by_cases hi : i < ds.length
  · rw [List.getElem?_append_left (by simpa using hi), List.getElem?_map] at e
    cases z : ds[i]? with
    | none => rw [z] at e; cases e
    | some x => rw [z] at e; cases e; cases q
  · rw [List.getElem?_append_right (by simpa using hi), List.getElem?_replicate] at e
    split at e <;> cases e
    cases q
theorem env_start {K : PySem.W.Frag} {C : Cf} {S : AS} {H : Hp} {N : List Str} {vs : List V} {ds : List D} (ok : Ok C S H) (h : DVs K (hid H S) vs ds) (hl : vs.length ≤ N.length) : EnvR K C S H [] (fun _ => 0) (startD N ds) (L2.start N vs) H := by
  have hv : Same (hid H S) (hid H (Vol S (fun _ => 0) (startD N ds))) := same_hid_sub fun a q => by
    rcases q with q | ⟨j, q, _⟩
    · exact q
    · exact (startD_not q).elim
  refine ⟨?_, ok, Ext.refl, ok.l, fun i d e => ?_, fun i d e => (startD_not ⟨_, e, rfl⟩).elim, fun i d e => (startD_not ⟨_, e, rfl⟩).elim, fun i q => (startD_not q).elim, fun i j a => (startD_not a).elim, fun x hx => nomatch hx⟩
  · unfold L2.start startD
    simp [h.len]
  · obtain ⟨v, h1, h2⟩ := h.get (startD_dat e)
    refine ⟨v, ?_, h2.mono hv⟩
    unfold L2.start
    have hi : i < vs.length := (List.getElem?_eq_some_iff.mp h1).1
    rw [List.getElem?_append_left (by simpa using hi), List.getElem?_map, h1]
    rfl
theorem def_ok {P : Program} {w : World} {K : PySem.W.Frag} {mg : Str → Option Value} {base : Heap} {x qual : Str} {st : Stmt} {f : Addr} {fd : FuncData} {N ps : List Str} {k : Nat} {F : Cf → FN} (FF : Fun K x qual st f fd) (S : FnScope N ps (defScope st)) (len : ∀ C ds P, F C ds P → ds.length = ps.length)
    (body : ∀ (cdv : Value) (A : Around) (fr : List Env) (s : Shared) (H : Hp) (E : XK), A.guards = some [] → Room k (A.deeper (envOfC qual (defScope st) s.heap.objs.size f cdv)) → ∀ (C : Cf) (ds : List D) (R : D → Prop), F C ds R →
      ∃ ts, DSs (cxOf CX0 P w K mg base N qual (defScope st) f cdv A fr s H E).nox C (defBody st) ts ∧ ts { nx := fun _ => R .non, rt := R } (startD N ds)) : FnG P w K mg base CX0 (k + 1) f fd ps (spD K F) := by
  refine FF.okG S (fun vs H Q E h => ?_) fun cdv A fr s H vs Q E hgd hr h => ?_
  · obtain ⟨C, S, ds, P, _, hv, hf, _⟩ := h
    rw [hv.len]; exact len C ds P hf
  · obtain ⟨C, S1, ds, R, ok, hv, hf, q⟩ := h
    obtain ⟨ts, hd, ht⟩ := body cdv A fr s H E hgd hr C ds R hf
    obtain ⟨t, h1, h2⟩ := hd.ex
    have hl : vs.length ≤ N.length := by
      have := congrArg List.length S.pre
      rw [List.length_take] at this
      rw [hv.len, len C ds R hf]; omega
    refine ⟨t, h1.nox, ?_⟩
    refine h2 S1 H [] (fun _ => 0) (startD N ds) (L2.start N vs) H _ _ (env_start ok hv hl) ht ⟨fun al ρ σ H' r h => ?_, fun v d H' e i h hv => ?_, fun al ρ σ H' r h => h.elim, fun al ρ σ H' r h => h.elim⟩
    · exact q .non .non H' ⟨r.ext, r.ok.i⟩ h .non
    · exact q v d H' ⟨e, i⟩ h hv
end L3
namespace L3
open PySem PySem.Spec PyProof.Rows L2

/-! ### what a for walks -/
structure WalkD (K : PySem.W.Frag) (C : Cf) (J : It) (ys : List D) (gs : Gs) : Prop where
  goes : ∀ S i H, Ok C S H → GsOk K H S gs → i < ys.length → J.go i H
  stops : ∀ S H, Ok C S H → GsOk K H S gs → J.stop ys.length H
  ylds : ∀ S i H x H', Ok C S H → GsOk K H S gs → i < ys.length → J.yld i H x H' → ∃ d, ys[i]? = some d ∧ Go C H H' ∧ DV K (hid H' S) x d
def EvI (K : PySem.W.Frag) (C : Cf) (wi : TI) (ti : TDs) : Prop := ∀ (S : AS) (σ : L2.St) (H : Hp) (E : En) (P : List D → Prop) (R : It → Hp → Prop), Rel K C S E σ H → ti E P →
  (∀ J ys gs H', Go C H H' → P ys → GsOk K H' S gs → WalkD K C J ys gs → R J H') → wi σ H R
structure DI (X : Cx) (C : Cf) (tg iter : Expr) (ti : TDs) : Prop where
  ex : ∃ wi, PI X tg iter wi ∧ EvI X.K C wi ti
def dItems : D → Option (List D)
  | .lst ds => some ds
  | .tup ds => some ds
  | .scr ns => some (ns.map D.int)
  | _ => none
def iSq (t : TD) : TDs := fun E P => t E fun d => ∃ ds, d = .lst ds ∧ P ds
def iTp (t : TD) : TDs := fun E P => t E fun d => ∃ ds, d = .tup ds ∧ P ds
def chars (x : Str) : List D := x.cps.toList.map fun c => D.str ⟨#[c]⟩
def iTx (t : TD) : TDs := fun E P => t E fun d => ∃ x, d = .str x ∧ P (chars x)
def rngD (lo : Int) (n : Nat) : List D := (List.range n).map fun (i : Nat) => D.int (lo + i)
def iRg (t : TDs) : TDs := fun E P => t E fun ds => ∃ j : Int, ds = [.int j] ∧ -(2 ^ 62) ≤ j ∧ j < 2 ^ 62 ∧ P (rngD 0 j.toNat)
section
variable {X : Cx} {C : Cf} {tg e : Expr} {td : TD} {tds : TDs}
theorem walkD_list {K : PySem.W.Frag} {a : Addr} {ds : List D} : WalkD K C (Itl K a) ds [(.ref a, .lst ds)] := by
  have get : ∀ {S H}, GsOk K H S [(.ref a, .lst ds)] → ∃ vs, SqL K H a vs ∧ DVs K (hid H S) vs ds := fun g => by
    have h := g _ List.mem_cons_self
    cases h with
    | lst e h => exact ⟨_, .inl (.inl (same_hid _ _ e)), h⟩
  refine ⟨fun S i H ok g hi => ?_, fun S H ok g => ?_, fun S i H x H' ok g hi y => ?_⟩
  · obtain ⟨vs, h1, h2⟩ := get g
    have hv : i < vs.length := by rw [h2.len]; exact hi
    exact ⟨vs, vs[i], h1, by simp [hv]⟩
  · obtain ⟨vs, h1, h2⟩ := get g
    exact ⟨vs, h1, Nat.le_of_eq h2.len⟩
  · obtain ⟨vs, h1, h2⟩ := get g
    obtain ⟨e, y⟩ := y
    subst e
    obtain ⟨d, h3, h4⟩ := h2.getV (y vs h1)
    exact ⟨d, h3, Go.refl ok, h4⟩
theorem walkD_tup {K : PySem.W.Frag} {a : Addr} {ds : List D} : WalkD K C (Itt K a) ds [(.ref a, .tup ds)] := by
  have get : ∀ {S H}, GsOk K H S [(.ref a, .tup ds)] → ∃ vs, SqT K H a vs ∧ DVs K (hid H S) vs ds := fun g => by
    have h := g _ List.mem_cons_self
    cases h with
    | tup e h => exact ⟨_, (e.mono same_hid).sq, h⟩
  refine ⟨fun S i H ok g hi => ?_, fun S H ok g => ?_, fun S i H x H' ok g hi y => ?_⟩
  · obtain ⟨vs, h1, h2⟩ := get g
    have hv : i < vs.length := by rw [h2.len]; exact hi
    exact ⟨vs, vs[i], h1, by simp [hv]⟩
  · obtain ⟨vs, h1, h2⟩ := get g
    exact ⟨vs, h1, Nat.le_of_eq h2.len⟩
  · obtain ⟨vs, h1, h2⟩ := get g
    obtain ⟨e, y⟩ := y
    subst e
    obtain ⟨d, h3, h4⟩ := h2.getV (y vs h1)
    exact ⟨d, h3, Go.refl ok, h4⟩
theorem walkD_rng {K : PySem.W.Frag} {lo : Int} {n : Nat} : WalkD K C (Itr lo n) (rngD lo n) [] := by
  have hl : (rngD lo n).length = n := by simp [rngD]
  refine ⟨fun S i H ok g hi => by rw [hl] at hi; exact hi, fun S H ok g => by rw [hl]; exact Nat.le_refl _, fun S i H x H' ok g hi y => ?_⟩
  obtain ⟨e, y⟩ := y
  subst e
  subst y
  rw [hl] at hi
  exact ⟨.int (lo + i), by simp [rngD, hi], Go.refl ok, .int _⟩
theorem walkD_str {K : PySem.W.Frag} {z : Str} : WalkD K C (Its z) (chars z) [] := by
  have hl : (chars z).length = z.cps.size := by simp [chars]
  have w := @walk_str z
  refine ⟨fun S i H ok g hi => w.goes i H (by rw [← hl]; exact hi) trivial, fun S H ok g => by rw [hl]; exact w.stops H trivial, fun S i H x H' ok g hi y => ?_⟩
  obtain ⟨e, c, h1, rfl⟩ := w.yields i H x H' (by rw [← hl]; exact hi) trivial y
  subst e
  refine ⟨.str ⟨#[c]⟩, ?_, Go.refl ok, .str _⟩
  have h2 : z.cps.toList[i]? = some c := by rw [Array.getElem?_toList]; exact h1
  unfold chars
  rw [List.getElem?_map, h2]
  rfl
theorem di_list (h : DE X C e td) : DI X C tg e (iSq td) := by
  obtain ⟨te, h1, h2⟩ := h.ex
  refine ⟨⟨_, pi_list h1, fun S σ H E P R rl hp q => h2 S σ H E _ _ rl hp fun v d H1 g1 p1 v1 => ?_⟩⟩
  obtain ⟨ds, rfl, p2⟩ := p1
  cases v1 with
  | @lst a vs ds e1 h => exact ⟨a, rfl, ⟨vs, .inl (.inl (same_hid _ _ e1))⟩, q _ ds [(.ref a, .lst ds)] H1 g1 p2 (fun x hx => by rw [List.mem_singleton.mp hx]; exact .lst e1 h) walkD_list⟩
theorem di_tup (h : DE X C e td) : DI X C tg e (iTp td) := by
  obtain ⟨te, h1, h2⟩ := h.ex
  refine ⟨⟨_, pi_tup h1, fun S σ H E P R rl hp q => h2 S σ H E _ _ rl hp fun v d H1 g1 p1 v1 => ?_⟩⟩
  obtain ⟨ds, rfl, p2⟩ := p1
  cases v1 with
  | @tup a vs ds e1 h => exact ⟨a, rfl, ⟨vs, (e1.mono same_hid).sq⟩, q _ ds [(.ref a, .tup ds)] H1 g1 p2 (fun x hx => by rw [List.mem_singleton.mp hx]; exact .tup e1 h) walkD_tup⟩
theorem di_str (h : DE X C e td) : DI X C tg e (iTx td) := by
  obtain ⟨te, h1, h2⟩ := h.ex
  refine ⟨⟨_, pi_str h1, fun S σ H E P R rl hp q => h2 S σ H E _ _ rl hp fun v d H1 g1 p1 v1 => ?_⟩⟩
  obtain ⟨x, rfl, p2⟩ := p1
  exact ⟨x, v1.str_inv, q _ _ [] H1 g1 p2 (fun x hx => nomatch hx) walkD_str⟩
theorem di_rng {p pos : Pos} (hg : Gl X "range") (hm : X.mg "range" = none) (h : DA X C [e] tds) (hs : starEach [e] X.env = [(false, eval e X.env)] := by rfl) : DI X C tg (.Call (.Name "range" p) [e] [] pos) (iRg tds) := by
  obtain ⟨te, h1, h2⟩ := h.ex
  refine ⟨⟨_, pi_range1 hg hm h1 hs, fun S σ H E P R rl hp q => h2 S σ H E _ _ rl hp fun vs ds H1 g1 p1 v1 => ?_⟩⟩
  obtain ⟨j, rfl, q1, q2, p2⟩ := p1
  cases v1 with
  | cons a t =>
    cases t
    cases a
    exact ⟨j, rfl, q1, q2, q _ _ [] H1 g1 p2 (fun x hx => nomatch hx) walkD_rng⟩
end

/-! ### targets -/
abbrev TGd := D → Rho → (Rho → Prop) → Prop
def EvG (K : PySem.W.Frag) (C : Cf) (g : TG) (tg : TGd) : Prop := ∀ (S0 : AS) (H0 : Hp) (gs : Gs) (al : Nat → Addr) (ρ : Rho) (σ : L2.St) (H : Hp) (v : V) (d : D) (P : Rho → Prop) (Q : L2.St → Hp → Prop), EnvR K C S0 H0 gs al ρ σ H → DV K (hid H (Vol S0 al ρ)) v d → tg d ρ P →
  (∀ ρ' σ', EnvR K C S0 H0 gs al ρ' σ' H → P ρ' → Q σ' H) → g v σ H Q
structure DG (X : Cx) (C : Cf) (tg : Expr) (t : TGd) : Prop where
  ex : ∃ g, PG X tg g ∧ EvG X.K C g t
def gNm (i : Nat) : TGd := fun d ρ P => P (ρ.set i (.dat d))
/-- names in a row: a, b, c = .. -/
def gNms : List Nat → List D → Rho → (Rho → Prop) → Prop
  | [], [], ρ, P => P ρ
  | i :: r, d :: ds, ρ, P => gNms r ds (ρ.set i (.dat d)) P
  | _, _, _, _ => False
def gTp (is : List Nat) : TGd := fun d ρ P => ∃ ds, d = .tup ds ∧ gNms is ds ρ P
section
variable {X : Cx} {C : Cf} {i : Nat} {x : Str} {pos : Pos}
theorem dg_name (n : NmOk X i x) : DG X C (.Name x pos) (gNm i) := ⟨⟨_, pg_name n.nd n.at_ n.loc n.fn, fun S0 H0 gs al ρ σ H v d P Q r hv hp q => q _ _ (r.setDat i hv) hp⟩⟩
/-- the targets of a tuple, all names -/
structure DGs (X : Cx) (ts : List Expr) (is : List Nat) : Prop where
  ex : ∃ u, PGs X ts u ∧ ∀ (C : Cf) (S0 : AS) (H0 : Hp) (gs : Gs) (al : Nat → Addr) (ρ : Rho) (σ : L2.St) (H : Hp) (vs : List V) (ds : List D) (P : Rho → Prop) (Q : L2.St → Hp → Prop), EnvR X.K C S0 H0 gs al ρ σ H → DVs X.K (hid H (Vol S0 al ρ)) vs ds → gNms is ds ρ P →
    (∀ ρ' σ', EnvR X.K C S0 H0 gs al ρ' σ' H → P ρ' → Q σ' H) → u vs σ H Q
theorem vol_set {S0 : AS} {al : Nat → Addr} {ρ : Rho} {i : Nat} {d : D} {H : Hp} : Same (hid H (Vol S0 al ρ)) (hid H (Vol S0 al (ρ.set i (.dat d)))) := same_hid_sub fun a h => by
  rcases h with h | ⟨j, h, e⟩
  · exact .inl h
  · rcases ownAt_set h with ⟨_, z, _⟩ | ⟨_, z⟩
    · cases z
    · exact .inr ⟨j, z, e⟩
theorem dgs_nil : DGs X [] [] := ⟨⟨_, pgs_nil, fun C S0 H0 gs al ρ σ H vs ds P Q r hv hp q => by
  cases hv with
  | nil => exact ⟨rfl, q _ _ r hp⟩
  | cons _ _ => exact hp.elim⟩⟩
theorem dgs_cons {es : List Expr} {is : List Nat} (n : NmOk X i x) (t : DGs X es is) (hs : (assignEach (.Name x pos :: es) X.env).map (·.2) = assign (.Name x pos) X.env :: (assignEach es X.env).map (·.2) := by rfl) : DGs X (.Name x pos :: es) (i :: is) := by
  obtain ⟨u, h1, h2⟩ := t.ex
  refine ⟨⟨_, pgs_cons (pg_name n.nd n.at_ n.loc n.fn) h1 hs, fun C S0 H0 gs al ρ σ H vs ds P Q r hv hp q => ?_⟩⟩
  cases hv with
  | nil => exact hp.elim
  | cons h t => exact ⟨_, _, rfl, h2 C S0 H0 gs al _ _ H _ _ P Q (r.setDat i h) (t.mono vol_set) hp q⟩
theorem dg_tup {es : List Expr} {is : List Nat} {k : Nat} (hc : X.calm = true) (h : DGs X es is) (hl : es.length = is.length := by rfl) (hn : (assignEach es X.env).length = es.length := by rfl) (hst : (assignEach es X.env).findIdx? (·.1) = none := by rfl) : DG X C (.Tuple es k pos) (gTp is) := by
  obtain ⟨u, h1, h2⟩ := h.ex
  refine ⟨⟨_, pg_tup hc h1 hn hst, fun S0 H0 gs al ρ σ H v d P Q r hv hp q => ?_⟩⟩
  obtain ⟨ds, rfl, hp⟩ := hp
  have lens : ∀ (is : List Nat) (ds : List D) (ρ : Rho), gNms is ds ρ P → ds.length = is.length := by
    intro is
    induction is with
    | nil => intro ds ρ h; cases ds with | nil => rfl | cons _ _ => exact h.elim
    | cons i is ih => intro ds ρ h; cases ds with | nil => exact h.elim | cons d ds => simp [ih ds _ h]
  cases hv with
  | tup e hd =>
    refine ⟨_, _, rfl, (e.mono same_hid).sq, ?_, h2 C S0 H0 gs al ρ σ H _ ds P Q r hd hp q⟩
    rw [hd.len, lens is ds ρ hp, hl]
end

/-! ### for -/
def sFor (ti : TDs) (tg : TGd) (ts : TSd) : TSd := fun Dn ρ => ti (view ρ) fun ys => ∃ Iv : Nat → Rho → Prop, Iv 0 ρ ∧
  (∀ i d ρ', ys[i]? = some d → Iv i ρ' → tg d ρ' fun ρ'' => ts { Dn with nx := Iv (i + 1), ct := Iv (i + 1), bk := Dn.nx } ρ'') ∧ ∀ ρ', Iv ys.length ρ' → Dn.nx ρ'
/-- the walked list is one of the def's own, and stays as it is from here on -/
def sForZ (ti : TDs) (tg : TGd) (ts : TSd) : TSd := fun Dn ρ => ti (frz ρ) fun ys => ∃ Iv : Nat → Rho → Prop, Iv 0 (thaw ρ) ∧
  (∀ i d ρ', ys[i]? = some d → Iv i ρ' → tg d ρ' fun ρ'' => ts { Dn with nx := Iv (i + 1), ct := Iv (i + 1), bk := Dn.nx } ρ'') ∧ ∀ ρ', Iv ys.length ρ' → Dn.nx ρ'
section
variable {X : Cx} {C : Cf} {tg iter : Expr} {body : List Stmt} {ti : TDs} {tgd : TGd} {ts : TSd} {pos : Pos}
theorem EnvR.more {K : PySem.W.Frag} {S0 : AS} {H0 H : Hp} {gs gs' : Gs} {al : Nat → Addr} {ρ : Rho} {σ : L2.St} (r : EnvR K C S0 H0 gs al ρ σ H) (h : GsOk K H (Vol S0 al ρ) gs') : EnvR K C S0 H0 (gs' ++ gs) al ρ σ H :=
  ⟨r.len, r.ok, r.ext, r.old, r.dat, r.own, r.owd, r.new, r.inj, fun x hx => (List.mem_append.mp hx).elim (h x) (r.gh x)⟩
theorem EnvR.less {K : PySem.W.Frag} {S0 : AS} {H0 H : Hp} {gs gs' : Gs} {al : Nat → Addr} {ρ : Rho} {σ : L2.St} (r : EnvR K C S0 H0 (gs' ++ gs) al ρ σ H) : EnvR K C S0 H0 gs al ρ σ H :=
  ⟨r.len, r.ok, r.ext, r.old, r.dat, r.own, r.owd, r.new, r.inj, fun x hx => r.gh x (List.mem_append_right _ hx)⟩
theorem for_core {g : TG} {tb : TS} {K : PySem.W.Frag} (hg : EvG K C g tgd) (hb : EvS K C tb ts) {S0 : AS} {H0 : Hp} {gs gs' : Gs} {al : Nat → Addr} {ρ : Rho} {σ : L2.St} {H : Hp} {Dn : EndsD} {D' : Ends} {J : It} {ys : List D}
    (r : EnvR K C S0 H0 gs al ρ σ H) (w : WalkD K C J ys gs') (hgs : GsOk K H (Vol S0 al ρ) gs') (gd : Good K C S0 H0 gs Dn D') {Iv : Nat → Rho → Prop} (h0 : Iv 0 ρ)
    (hs : ∀ i d ρ', ys[i]? = some d → Iv i ρ' → tgd d ρ' fun ρ'' => ts { Dn with nx := Iv (i + 1), ct := Iv (i + 1), bk := Dn.nx } ρ'') (hd : ∀ ρ', Iv ys.length ρ' → Dn.nx ρ') :
    ∃ W : Nat → Nat → L2.St → Hp → Prop, (∃ m, W 0 m σ H) ∧ ∀ i m σ H, W i m σ H →
      (J.stop i H ∧ D'.nx σ H) ∨ (J.go i H ∧ ∃ N : L2.St → Hp → Prop, (∀ σ' H', N σ' H' → ∃ m', m' < m ∧ W (i + 1) m' σ' H') ∧ ∀ x H', J.yld i H x H' → g x σ H' fun σ2 H2 => tb { D' with nx := N, ct := N, bk := D'.nx } σ2 H2) := by
  refine ⟨fun i m σ H => m = ys.length - i ∧ i ≤ ys.length ∧ ∃ al ρ, EnvR K C S0 H0 (gs' ++ gs) al ρ σ H ∧ Iv i ρ, ⟨ys.length, by simp, Nat.zero_le _, al, ρ, r.more hgs, h0⟩, ?_⟩
  rintro i m σ H ⟨rfl, hi, al, ρ, r, iv⟩
  have ok := r.vok
  have hgs : GsOk K H (Vol S0 al ρ) gs' := fun x hx => r.gh x (List.mem_append_left _ hx)
  by_cases hlt : i < ys.length
  · refine .inr ⟨w.goes _ i H ok hgs hlt, fun σ' H' => ∃ al ρ, EnvR K C S0 H0 (gs' ++ gs) al ρ σ' H' ∧ Iv (i + 1) ρ, fun σ' H' p => ⟨ys.length - (i + 1), by omega, rfl, hlt, p⟩, fun x H' y => ?_⟩
    obtain ⟨d, h1, h2, h3⟩ := w.ylds _ i H x H' ok hgs hlt y
    refine hg S0 H0 _ al ρ σ H' x d _ _ (r.go h2) h3 (hs i d ρ h1 iv) fun ρ' σ' r' p' => ?_
    refine hb S0 H0 _ al ρ' σ' H' _ _ r' p' ⟨fun al ρ σ H r h => ⟨al, ρ, r, h⟩, gd.rt, fun al ρ σ H r h => gd.nx al ρ σ H r.less h, fun al ρ σ H r h => ⟨al, ρ, r, h⟩⟩
  · have e : i = ys.length := by omega
    subst e
    exact .inl ⟨w.stops _ H ok hgs, gd.nx al ρ σ H r.less (hd ρ iv)⟩
theorem ds_for (hp : PassesOwn (model X.prog X.w) X.A X.env X.xe) (hc : X.calm = true) (hi : DI X C tg iter ti) (hg : DG X C tg tgd) (hb : DSs X C body ts) (hs : ∀ x, foldedSetIterable iter X.env x = pure x := by intro _; rfl) : DS X C (.For tg iter body [] pos) (sFor ti tgd ts) := by
  obtain ⟨wi, i1, i2⟩ := hi.ex
  obtain ⟨g, g1, g2⟩ := hg.ex
  obtain ⟨tb, b1, b2⟩ := hb.ex
  refine ⟨⟨_, ps_for hp hc i1 g1 b1 hs, fun S0 H0 gs al ρ σ H Dn D' r hq gd => ?_⟩⟩
  refine i2 _ σ H _ _ _ r.relA hq fun J ys gs' H1 g3 p1 hgs w => ?_
  obtain ⟨Iv, h0, h1, h2⟩ := p1
  exact for_core g2 b2 (r.go g3) w hgs gd h0 h1 h2
theorem ds_forZ (hp : PassesOwn (model X.prog X.w) X.A X.env X.xe) (hc : X.calm = true) (hi : DI X C tg iter ti) (hg : DG X C tg tgd) (hb : DSs X C body ts) (hs : ∀ x, foldedSetIterable iter X.env x = pure x := by intro _; rfl) : DS X C (.For tg iter body [] pos) (sForZ ti tgd ts) := by
  obtain ⟨wi, i1, i2⟩ := hi.ex
  obtain ⟨g, g1, g2⟩ := hg.ex
  obtain ⟨tb, b1, b2⟩ := hb.ex
  refine ⟨⟨_, ps_for hp hc i1 g1 b1 hs, fun S0 H0 gs al ρ σ H Dn D' r hq gd => ?_⟩⟩
  refine i2 _ σ H _ _ _ r.relB hq fun J ys gs' H1 g3 p1 hgs w => ?_
  obtain ⟨Iv, h0, h1, h2⟩ := p1
  exact for_core g2 b2 (r.go g3).thaw w (fun x hx => (hgs x hx).mono vol_thaw) gd h0 h1 h2
end

/-! ### list comprehensions (one clause) -/
def wipeE (E : En) : List Nat → En
  | [] => E
  | v :: vs => (wipeE E vs).set v none
theorem wipeE_at {K : PySem.W.Frag} {C : Cf} {S : AS} {E : En} {σ : L2.St} {H : Hp} (r : Rel K C S E σ H) : ∀ vs : List Nat, Rel K C S (wipeE E vs) (wipe σ vs) H
  | [] => r
  | v :: vs => by
    have ih := wipeE_at r vs
    refine ⟨r.ok, by unfold wipeE wipe; rw [List.length_set, List.length_set]; exact ih.len, fun i d h => ?_⟩
    unfold wipeE at h
    rcases set_at h with ⟨_, _, z⟩ | ⟨ne, z⟩
    · cases z
    · obtain ⟨w, h1, h2⟩ := ih.at_ i d z
      exact ⟨w, by unfold wipe; rw [List.getElem?_set_ne ne]; exact h1, h2⟩
abbrev TGe := D → En → (En → Prop) → Prop
def EvGE (K : PySem.W.Frag) (C : Cf) (vs : List Nat) (g : TG) (tg : TGe) : Prop := ∀ (S : AS) (σ : L2.St) (H : Hp) (E : En) (v : V) (d : D) (P : En → Prop) (Q : L2.St → Hp → Prop), Rel K C S E σ H → DV K (hid H S) v d → tg d E P →
  (∀ E' σ', Rel K C S E' σ' H → wipe σ' vs = wipe σ vs → P E' → Q σ' H) → g v σ H Q
structure DGE (X : Cx) (C : Cf) (vs : List Nat) (tg : Expr) (t : TGe) : Prop where
  ex : ∃ g, PG X tg g ∧ EvGE X.K C vs g t
def geNm (i : Nat) : TGe := fun d E P => P (E.set i (some d))
def geNms : List Nat → List D → En → (En → Prop) → Prop
  | [], [], E, P => P E
  | i :: r, d :: ds, E, P => geNms r ds (E.set i (some d)) P
  | _, _, _, _ => False
def geTp (is : List Nat) : TGe := fun d E P => ∃ ds, d = .tup ds ∧ geNms is ds E P
theorem wipe_set (σ : L2.St) (x : Option V) : ∀ (vs : List Nat) (i : Nat), i ∈ vs → wipe (σ.set i x) vs = wipe σ vs
  | [], i, h => nomatch h
  | v :: vs, i, h => by
    unfold wipe
    by_cases e : i ∈ vs
    · rw [wipe_set σ x vs i e]
    · have z : i = v := by
        rcases List.mem_cons.mp h with z | z
        · exact z
        · exact absurd z e
      subst z
      have com : ∀ vs : List Nat, i ∉ vs → wipe (σ.set i x) vs = (wipe σ vs).set i x := by
        intro vs
        induction vs with
        | nil => intro _; rfl
        | cons w vs ih =>
          intro hn
          unfold wipe
          rw [ih (fun z => hn (List.mem_cons_of_mem _ z))]
          exact List.set_comm _ _ (fun z => hn (by rw [z]; exact List.mem_cons_self))
      rw [com vs e, List.set_set]
theorem Rel.set {K : PySem.W.Frag} {C : Cf} {S : AS} {E : En} {σ : L2.St} {H : Hp} (r : Rel K C S E σ H) (i : Nat) {v : V} {d : D} (h : DV K (hid H S) v d) : Rel K C S (E.set i (some d)) (σ.set i (some v)) H := ⟨r.ok, by rw [List.length_set, List.length_set]; exact r.len, fun j e q => by
  rcases set_at q with ⟨rfl, hi, z⟩ | ⟨ne, z⟩
  · cases z
    exact ⟨v, by rw [List.getElem?_set_self (Nat.lt_of_lt_of_le hi r.len)], h⟩
  · obtain ⟨w, h1, h2⟩ := r.at_ j e z
    exact ⟨w, by rw [List.getElem?_set_ne ne]; exact h1, h2⟩⟩
def lcRun (tg : TGe) (tt : TDb) (te : TD) (E : En) : List D → List D → (List D → Prop) → Prop
  | [], acc, P => P acc
  | d :: r, acc, P => tg d E fun E' => tt E' fun b => if b = true then te E' fun y => lcRun tg tt te E r (acc ++ [y]) P else lcRun tg tt te E r acc P
def dLc (vs : List Nat) (ti : TDs) (tg : TGe) (tt : TDb) (te : TD) : TD := fun E P => ti E fun ys => ys.length ≤ 100000 ∧ lcRun tg tt te (wipeE E vs) ys [] fun zs => P (.lst zs)
section
variable {X : Cx} {C : Cf} {i : Nat} {x : Str} {pos : Pos} {vs : List Nat}
theorem dge_name (n : NmOk X i x) (hv : i ∈ vs) : DGE X C vs (.Name x pos) (geNm i) := ⟨⟨_, pg_name n.nd n.at_ n.loc n.fn, fun S σ H E v d P Q r h hp q => q _ _ (r.set i h) (wipe_set σ _ vs i hv) hp⟩⟩
structure DGEs (X : Cx) (vs : List Nat) (ts : List Expr) (is : List Nat) : Prop where
  ex : ∃ u, PGs X ts u ∧ ∀ (C : Cf) (S : AS) (σ : L2.St) (H : Hp) (E : En) (ws : List V) (ds : List D) (P : En → Prop) (Q : L2.St → Hp → Prop), Rel X.K C S E σ H → DVs X.K (hid H S) ws ds → geNms is ds E P →
    (∀ E' σ', Rel X.K C S E' σ' H → wipe σ' vs = wipe σ vs → P E' → Q σ' H) → u ws σ H Q
theorem dges_nil : DGEs X vs [] [] := ⟨⟨_, pgs_nil, fun C S σ H E ws ds P Q r hv hp q => by
  cases hv with
  | nil => exact ⟨rfl, q _ _ r rfl hp⟩
  | cons _ _ => exact hp.elim⟩⟩
theorem dges_cons {es : List Expr} {is : List Nat} (n : NmOk X i x) (hi : i ∈ vs) (t : DGEs X vs es is) (hs : (assignEach (.Name x pos :: es) X.env).map (·.2) = assign (.Name x pos) X.env :: (assignEach es X.env).map (·.2) := by rfl) : DGEs X vs (.Name x pos :: es) (i :: is) := by
  obtain ⟨u, h1, h2⟩ := t.ex
  refine ⟨⟨_, pgs_cons (pg_name n.nd n.at_ n.loc n.fn) h1 hs, fun C S σ H E ws ds P Q r hv hp q => ?_⟩⟩
  cases hv with
  | nil => exact hp.elim
  | cons h t => exact ⟨_, _, rfl, h2 C S _ H _ _ _ P Q (r.set i h) t hp fun E' σ' r' w' p' => q E' σ' r' (w'.trans (wipe_set σ _ vs i hi)) p'⟩
theorem dge_tup {es : List Expr} {is : List Nat} {k : Nat} (hc : X.calm = true) (h : DGEs X vs es is) (hl : es.length = is.length := by rfl) (hn : (assignEach es X.env).length = es.length := by rfl) (hst : (assignEach es X.env).findIdx? (·.1) = none := by rfl) : DGE X C vs (.Tuple es k pos) (geTp is) := by
  obtain ⟨u, h1, h2⟩ := h.ex
  refine ⟨⟨_, pg_tup hc h1 hn hst, fun S σ H E v d P Q r hv hp q => ?_⟩⟩
  obtain ⟨ds, rfl, hp⟩ := hp
  have lens : ∀ (is : List Nat) (ds : List D) (E : En), geNms is ds E P → ds.length = is.length := by
    intro is
    induction is with
    | nil => intro ds ρ h; cases ds with | nil => rfl | cons _ _ => exact h.elim
    | cons i is ih => intro ds ρ h; cases ds with | nil => exact h.elim | cons d ds => simp [ih ds _ h]
  cases hv with
  | tup e hd => exact ⟨_, _, rfl, (e.mono same_hid).sq, by rw [hd.len, lens is ds E hp, hl], h2 C S σ H E _ ds P Q r hd hp q⟩

structure DTs (X : Cx) (C : Cf) (ifs : List Expr) (td : TDb) : Prop where
  ex : ∃ tt, PTs X ifs tt ∧ EvT X.K C tt td
def bYes : TDb := fun _ P => P true
theorem dts_nil : DTs X C [] bYes := ⟨⟨_, pts_nil, fun S σ H E P Q r h q => q true H (Go.refl r.ok) h⟩⟩
theorem dts_one {c : Expr} {td : TDb} (h : DT X C c td) : DTs X C [c] td := let ⟨tt, h1, h2⟩ := h.ex; ⟨⟨tt, pts_one h1, h2⟩⟩
end
theorem wipe_get (σ : L2.St) (i : Nat) : ∀ vs : List Nat, (wipe σ vs)[i]? = if i ∈ vs then (σ[i]?).map (fun _ => none) else σ[i]?
  | [] => by simp [wipe]
  | v :: vs => by
    unfold wipe
    rw [List.getElem?_set, wipe_length, wipe_get σ i vs]
    by_cases e : v = i
    · subst e
      by_cases hl : v < σ.length
      · simp [hl]
      · simp [hl]
    · have e' : ¬ i = v := fun z => e z.symm
      simp [e, e']
theorem wipe_wipe (σ : L2.St) (vs : List Nat) : wipe (wipe σ vs) vs = wipe σ vs := by
  apply List.ext_getElem?
  intro i
  rw [wipe_get, wipe_get]
  by_cases h : i ∈ vs
  · rw [if_pos h, if_pos h]
    cases σ[i]? <;> rfl
  · rw [if_neg h, if_neg h]
theorem hid_upd_in {H : Hp} {S : AS} {a : Addr} {o : HO} (h : S a) : hid (upd H a o) S = hid H S := by
  funext b
  unfold hid
  split
  · rfl
  · exact upd_ne (fun z => by subst z; exact absurd h ‹_›)
section
variable {X : Cx} {C : Cf} {elt tg iter : Expr} {ifs : List Expr} {scope : Scope} {own : List (Str × Nat)} {pos : Pos} {ti : TDs} {tge : TGe} {ttd : TDb} {ted : TD}
theorem lc_ev {K : PySem.W.Frag} {wi : TI} {g : TG} {tt : TT} {te : TE} {vs : List Nat} (hi : EvI K C wi ti) (hg : EvGE K C vs g tge) (ht : EvT K C tt ttd) (he : EvD K C te ted) : EvD K C (tLc wi g tt te vs) (dLc vs ti tge ttd ted) := by
  intro S σ H E P Q rl hp q
  refine hi S σ H E _ _ rl hp fun J ys gs H1 g1 p1 hgs w => ?_
  intro A nA
  obtain ⟨hlen, p1⟩ := p1
  have ok1 := rl.ok.go g1
  have nS : ¬ S A := ok1.fresh nA
  have nG : ¬ C.G A := fun z => nS (ok1.g A z)
  have nH : H A = none := by
    cases e : H A with
    | none => rfl
    | some o => rw [g1.e A o nG e] at nA; cases nA
  generalize hS : (fun a => S a ∨ a = A : AS) = S'
  have inS : S' A := by rw [← hS]; exact .inr rfl
  have sub : ∀ H2 : Hp, Same (hid H2 S') (hid H2 S) := fun H2 => same_hid_sub fun a h => by rw [← hS]; exact .inl h
  have up : ∀ {o : HO}, Same (hid H1 S) (hid (upd H1 A o) S') := fun a u e => by
    obtain ⟨e1, e2⟩ := hid_some.mp e
    have na : a ≠ A := ne_of_none e2 nA
    refine hid_some.mpr ⟨fun z => ?_, by rw [upd_ne na]; exact e2⟩
    rw [← hS] at z
    rcases z with z | z
    · exact e1 z
    · exact na z
  have wr : ∀ {H2 : Hp} {o : HO}, Ok C S' H2 → (∀ φ, H2 A ≠ some (.ext φ)) → Ok C S' (upd H2 A o) := fun {H2 o} ok nx => ⟨C.loc H2 _ (fun a ga => upd_ne (fun z => nG (z ▸ ga))) (upd_ext nx) ok.i, ok.g, fun a ha => by
    by_cases z : a = A
    · subst z; rw [upd_same]; intro z; cases z
    · rw [upd_ne z]; exact ok.l a ha⟩
  have gw : ∀ {H2 : Hp} {o : HO}, Go C H H2 → (∀ φ, H2 A ≠ some (.ext φ)) → Go C H (upd H2 A o) := fun {H2 o} g nx => ⟨fun a u ga e => by rw [upd_ne (ne_of_none e nH)]; exact g.e a u ga e, C.loc H2 _ (fun a ga => upd_ne (fun z => nG (z ▸ ga))) (upd_ext nx) g.i⟩
  have nA1 : ∀ φ, H1 A ≠ some (.ext φ) := fun φ z => by rw [nA] at z; cases z
  have okS : Ok C S' (upd H1 A (.lst [])) := ⟨(gw g1 nA1).i, fun a h => by rw [← hS]; exact .inl (ok1.g a h), fun a h => by
    rw [← hS] at h
    rcases h with h | rfl
    · have na : a ≠ A := fun z => nS (z ▸ h)
      rw [upd_ne na]; exact ok1.l a h
    · rw [upd_same]; intro z; cases z⟩
  have rw1 := wipeE_at (rl.go g1) vs
  refine ⟨fun i m H' => m = ys.length - i ∧ i ≤ ys.length ∧ ∃ acc as, H' A = some (.lst acc) ∧ as.length ≤ i ∧ DVs K (hid H' S') acc as ∧ Rel K C S' (wipeE E vs) (wipe σ vs) H' ∧ GsOk K H' S' gs ∧ Go C H H' ∧ lcRun tge ttd ted (wipeE E vs) (ys.drop i) as fun zs => P (.lst zs),
    ⟨ys.length, by simp, Nat.zero_le _, [], [], upd_same, Nat.zero_le _, .nil, ⟨okS, rw1.len, fun i d e => ?_⟩, fun x hx => (hgs x hx).mono up, gw g1 nA1, p1⟩, ?_⟩
  · obtain ⟨v, h1, h2⟩ := rw1.at_ i d e
    exact ⟨v, h1, h2.mono up⟩
  rintro i m H' ⟨rfl, hi, acc, as, hA, hla, hacc, rr, hgs', gH, run⟩
  by_cases hlt : i < ys.length
  · refine .inr ⟨w.goes S' i H' rr.ok hgs' hlt, fun H' => i + 1 ≤ ys.length ∧ ∃ acc as, H' A = some (.lst acc) ∧ as.length ≤ i + 1 ∧ DVs K (hid H' S') acc as ∧ Rel K C S' (wipeE E vs) (wipe σ vs) H' ∧ GsOk K H' S' gs ∧ Go C H H' ∧ lcRun tge ttd ted (wipeE E vs) (ys.drop (i + 1)) as fun zs => P (.lst zs),
      fun H' p => ⟨ys.length - (i + 1), by omega, rfl, p.1, p.2⟩, fun x H2 y => ?_⟩
    obtain ⟨d, h1, h2, h3⟩ := w.ylds S' i H' x H2 rr.ok hgs' hlt y
    have hd : ys.drop i = d :: ys.drop (i + 1) := by
      rw [List.drop_eq_getElem_cons hlt]
      rw [List.getElem?_eq_getElem hlt] at h1
      rw [Option.some.inj h1]
    rw [hd] at run
    have r2 := rr.go h2
    refine hg S' (wipe σ vs) H2 (wipeE E vs) x d _ _ r2 h3 run fun E' σ2 r3 hw run2 => ⟨?_, ?_⟩
    · rw [hw]; exact wipe_wipe σ vs
    · refine ht S' σ2 H2 E' _ _ r3 run2 fun b H3 g3 run3 => ?_
      have A2 := h2.e A _ nG hA
      have A3 := g3.e A _ nG A2
      have s2 := h2.vis rr.ok
      have s3 := g3.vis r2.ok
      cases b with
      | false =>
        rw [if_neg Bool.false_ne_true] at run3 ⊢
        exact ⟨hlt, acc, as, A3, Nat.le_succ_of_le hla, (hacc.mono s2).mono s3, r2.go g3, fun x hx => ((hgs' x hx).mono s2).mono s3, (gH.trans h2).trans g3, run3⟩
      | true =>
        rw [if_pos rfl] at run3 ⊢
        refine he S' σ2 H3 E' _ _ (r3.go g3) run3 fun v dv H4 g4 run4 hv => ?_
        have A4 := g4.e A _ nG A3
        have r4 := (r2.go g3).go g4
        have s4 := g4.vis (r2.ok.go g3)
        refine ⟨acc, A4, line_lt (by rw [hacc.len]; omega), hlt, acc ++ [v], as ++ [dv], upd_same, by simp; omega, ?_, ⟨wr r4.ok (fun φ z => by rw [A4] at z; cases z), r4.len, fun j e q => ?_⟩, fun x hx => ?_, gw (((gH.trans h2).trans g3).trans g4) (fun φ z => by rw [A4] at z; cases z), run4⟩
        · rw [hid_upd_in inS]; exact (((hacc.mono s2).mono s3).mono s4).app (.cons hv .nil)
        · obtain ⟨u, k1, k2⟩ := r4.at_ j e q
          exact ⟨u, k1, by rw [hid_upd_in inS]; exact k2⟩
        · rw [hid_upd_in inS]; exact ((((hgs' x hx).mono s2).mono s3).mono s4)
  · have e : i = ys.length := by omega
    subst e
    rw [List.drop_length] at run
    exact .inl ⟨w.stops S' H' rr.ok hgs', q _ _ H' gH run (.lst (hid_some.mpr ⟨nS, hA⟩) (hacc.mono (sub H')))⟩
/-- the contexts of a comprehension's block, as one kind -/
abbrev Bk := Shared × Hp × Addr × List (Str × Addr) × List Addr
abbrev xb (X : Cx) (scope : Scope) (b : Bk) : Cx := X.blk b.1 b.2.1 scope (compEnvC scope b.2.2.2.1 b.2.2.1 X.env) b.2.2.2.2
theorem lc_parts (hi : DI X C tg iter ti) (hg : ∀ b : Bk, DGE (xb X scope b) C (own.map (·.2)) tg tge) (ht : ∀ b : Bk, DTs (xb X scope b) C ifs ttd) (he : ∀ b : Bk, DE (xb X scope b) C elt ted) :
    ∃ wi g tt te, PI X tg iter wi ∧ (∀ b : Bk, PG (xb X scope b) tg g) ∧ (∀ b : Bk, PTs (xb X scope b) ifs tt) ∧ (∀ b : Bk, PE (xb X scope b) elt te) ∧ EvD X.K C (tLc wi g tt te (own.map (·.2))) (dLc (own.map (·.2)) ti tge ttd ted) := by
  obtain ⟨wi, i1, i2⟩ := hi.ex
  refine ⟨wi, fun v σ H Q => ∀ b, (hg b).ex.choose v σ H Q, fun σ H Q => ∀ b, (ht b).ex.choose σ H Q, fun σ H Q => ∀ b, (he b).ex.choose σ H Q, i1, fun b => ⟨fun pins s σ H v u Q I r h => (hg b).ex.choose_spec.1.run pins s σ H v u Q I r (h b)⟩, fun b => ⟨fun pins s σ H Q I h => (ht b).ex.choose_spec.1.run pins s σ H Q I (h b)⟩,
    fun b => ⟨fun pins s σ H Q I h => (he b).ex.choose_spec.1.run pins s σ H Q I (h b)⟩, lc_ev i2 (fun S σ H E v d P Q r h hp q b => (hg b).ex.choose_spec.2 S σ H E v d P Q r h hp q) (fun S σ H E P Q r hp q b => (ht b).ex.choose_spec.2 S σ H E P Q r hp q) fun S σ H E P Q r hp q b => (he b).ex.choose_spec.2 S σ H E P Q r hp q⟩
theorem de_lc (hc : X.calm = true) (hN : X.N.Nodup) (ok : BlkOk X.N X.env.scope scope own) (hi : DI X C tg iter ti) (hg : ∀ b : Bk, DGE (xb X scope b) C (own.map (·.2)) tg tge) (ht : ∀ b : Bk, DTs (xb X scope b) C ifs ttd) (he : ∀ b : Bk, DE (xb X scope b) C elt ted)
    (hs : ∀ x, foldedSetIterable iter X.env x = pure x := by intro _; rfl) : DE X C (.ListComp elt [⟨tg, iter, ifs, 0⟩] scope pos) (dLc (own.map (·.2)) ti tge ttd ted) := by
  obtain ⟨wi, g, tt, te, i1, g1, t1, e1, ev⟩ := lc_parts hi hg ht he
  exact ⟨⟨_, pe_lc hc hN i1 ok (fun s H A cl fp => g1 (s, H, A, cl, fp)) (fun s H A cl fp => t1 (s, H, A, cl, fp)) (fun s H A cl fp => e1 (s, H, A, cl, fp)) hs, ev⟩⟩
/-- x = [..] on one row -/
theorem ds_setLc {i : Nat} {y : Str} {py spos : Pos} (n : NmOk X i y) (hyl : X.env.scope.names.lookup y = some .local) (hsw : swapsWith (.ListComp elt [⟨tg, iter, ifs, 0⟩] scope pos) (some (.Name y py)) spos.line X.env = pure true)
    (hc : X.calm = true) (ok : BlkOk X.N X.env.scope scope own) (hi : DI X C tg iter ti) (hg : ∀ b : Bk, DGE (xb X scope b) C (own.map (·.2)) tg tge) (ht : ∀ b : Bk, DTs (xb X scope b) C ifs ttd) (he : ∀ b : Bk, DE (xb X scope b) C elt ted)
    (hs : ∀ x, foldedSetIterable iter X.env x = pure x := by intro _; rfl) : DS X C (.Assign [.Name y py] (.ListComp elt [⟨tg, iter, ifs, 0⟩] scope pos) spos) (sSet i (dLc (own.map (·.2)) ti tge ttd ted)) := by
  obtain ⟨wi, g, tt, te, i1, g1, t1, e1, ev⟩ := lc_parts hi hg ht he
  exact ⟨⟨_, ps_setLc hc n.nd n.at_ hyl hsw i1 ok (fun s H A cl fp => g1 (s, H, A, cl, fp)) (fun s H A cl fp => t1 (s, H, A, cl, fp)) (fun s H A cl fp => e1 (s, H, A, cl, fp)) hs, ev_set ev⟩⟩
end
end L3
namespace L3
open PySem PySem.Spec PyProof.Rows L2

/-! ### data as the library's data -/
def keyP : Key → PyData
  | .inl i => .int i
  | .inr x => .str x
mutual
def toP : D → PyData
  | .non => .none
  | .bl b => .bool b
  | .int i => .int i
  | .str x => .str x
  | .lst ds => .list (toPs ds)
  | .tup ds => .tuple (toPs ds)
  | .dic ks => .dict (toPk ks)
  | .dcf _ ks => .dict (toPk ks)
  | .scr ns => .list (ns.map PyData.int)
  | .op _ => .none
  | .ins _ _ => .none
  | .exc _ _ => .none
  | .sem _ _ => .none
def toPs : List D → List PyData
  | [] => []
  | d :: r => toP d :: toPs r
def toPk : List (Key × D) → List (PyData × PyData)
  | [] => []
  | (k, d) :: r => (keyP k, toP d) :: toPk r
end
mutual
/-- no dict, no object -/
def pl : D → Bool
  | .non => true
  | .bl _ => true
  | .int _ => true
  | .str _ => true
  | .lst ds => pls ds
  | .tup ds => pls ds
  | .dic _ => false
  | .dcf _ _ => false
  | .scr _ => false
  | .op _ => false
  | .ins _ _ => false
  | .exc _ _ => false
  | .sem _ _ => false
def pls : List D → Bool
  | [] => true
  | d :: r => pl d && pls r
end
mutual
theorem DV.dp {K : PySem.W.Frag} {H : Hp} : ∀ {v : V} {d : D}, DV K H v d → pl d = true → Dp K H v (toP d)
  | _, _, .non, _ => by simp only [toP]; exact .non
  | _, _, .bl b, _ => by simp only [toP]; exact .bl b
  | _, _, .int i, _ => by simp only [toP]; exact .int i
  | _, _, .str x, _ => by simp only [toP]; exact .str x
  | _, _, .lst e h, p => by simp only [toP]; exact .lst (.inl (.inl e)) (DVs.dp h (by simpa only [pl] using p))
  | _, _, .tup e h, p => by simp only [toP]; exact .tup e.sq (DVs.dp h (by simpa only [pl] using p))
  | _, _, .dic e h, p => by simp only [pl] at p; exact absurd p Bool.false_ne_true
  | _, _, .dcf e h, p => by simp only [pl] at p; exact absurd p Bool.false_ne_true
  | _, _, .scr e, p => by simp only [pl] at p; exact absurd p Bool.false_ne_true
  | _, _, .op v, p => by simp only [pl] at p; exact absurd p Bool.false_ne_true
  | _, _, .ins _ _, p => by simp only [pl] at p; exact absurd p Bool.false_ne_true
  | _, _, .exc _ _ _, p => by simp only [pl] at p; exact absurd p Bool.false_ne_true
  | _, _, .exc0 _, p => by simp only [pl] at p; exact absurd p Bool.false_ne_true
  | _, _, .sem _ _, p => by simp only [pl] at p; exact absurd p Bool.false_ne_true
theorem DVs.dp {K : PySem.W.Frag} {H : Hp} : ∀ {vs : List V} {ds : List D}, DVs K H vs ds → pls ds = true → DpAll K H vs (toPs ds)
  | _, _, .nil, _ => by simp only [toPs]; exact .nil
  | _, _, .cons h t, p => by
    simp only [pls, Bool.and_eq_true] at p
    simp only [toPs]
    exact .cons (DV.dp h p.1) (DVs.dp t p.2)
end

/-! ### operators -/
section
variable {K : PySem.W.Frag} {C : Cf}
theorem two_lists {S : AS} {H : Hp} (ok : Ok C S H) {x : V} {ds : List D} (h : DV K (hid H S) x (.lst ds)) : ∃ a vs, x = .ref a ∧ H a = some (.lst vs) ∧ DVs K (hid H S) vs ds := by
  cases h with
  | lst e h => exact ⟨_, _, rfl, same_hid _ _ e, h⟩
theorem two_tups {S : AS} {H : Hp} (ok : Ok C S H) {x : V} {ds : List D} (h : DV K (hid H S) x (.tup ds)) : ∃ a vs, x = .ref a ∧ SqT K H a vs ∧ DVs K (hid H S) vs ds := by
  cases h with
  | tup e h => exact ⟨_, _, rfl, (e.mono same_hid).sq, h⟩
theorem q_list {S : AS} {H : Hp} (ok : Ok C S H) {vs : List V} {ds : List D} {P : D → Prop} {Q : VK} (h : DVs K (hid H S) vs ds) (hp : P (.lst ds)) (q : ∀ v d H', Go C H H' → P d → DV K (hid H' S) v d → Q v H') : ∀ p, H p = none → Q (.ref p) (upd H p (.lst vs)) := fun p np => by
  have gn : Go C H (upd H p (.lst vs)) := Go.new ok np
  exact q _ _ _ gn hp (.lst (hid_new ok np) (h.mono (gn.vis ok)))
theorem q_tup {S : AS} {H : Hp} (ok : Ok C S H) {vs : List V} {ds : List D} {P : D → Prop} {Q : VK} (h : DVs K (hid H S) vs ds) (hp : P (.tup ds)) (q : ∀ v d H', Go C H H' → P d → DV K (hid H' S) v d → Q v H') : NewT H vs Q := fun p o np nd => by
  have gn : Go C H (upd H p (.frz o (.tup vs))) := Go.new ok np
  exact q _ _ _ gn hp (.tup ⟨o, nd, hid_new ok np⟩ (h.mono (gn.vis ok)))
def fAdd : F2
  | .int i, .int j, P => P (.int (i + j))
  | .str a, .str b, P => a.length + b.length ≤ 100000 ∧ P (.str (a ++ b))
  | .lst a, .lst b, P => a.length + b.length ≤ 100000 ∧ P (.lst (a ++ b))
  | .tup a, .tup b, P => a.length + b.length ≤ 100000 ∧ P (.tup (a ++ b))
  | _, _, _ => False
def rAdd (K : PySem.W.Frag) : R2 := fun x y H Q => rI0 (fun i j => .int (i + j)) x y H Q ∨ (∃ i j, x = .str i ∧ y = .str j ∧ i.length + j.length ≤ sizeLine ∧ Q (.str (i ++ j)) H) ∨ rCat x y H Q ∨ rCatN K x y H Q
theorem op_addD {X : Cx} : OpR X (binaryOp .Add) (rAdd X.K) := op_add.or (op_add_str.or (op_cat.or op_catN))
theorem od_add : OpD K C (rAdd K) fAdd := by
  intro S H x y a b P Q ok hx hy h q
  cases a with
  | int i => cases b with
    | int j => exact .inl ⟨i, j, hx.int_inv, hy.int_inv, q _ _ H (Go.refl ok) h (.int _)⟩
    | _ => exact h.elim
  | str i => cases b with
    | str j => exact .inr (.inl ⟨i, j, hx.str_inv, hy.str_inv, small_line h.1, q _ _ H (Go.refl ok) h.2 (.str _)⟩)
    | _ => exact h.elim
  | lst ds => cases b with
    | lst es =>
      obtain ⟨a1, v1, rfl, e1, h1⟩ := two_lists ok hx
      obtain ⟨a2, v2, rfl, e2, h2⟩ := two_lists ok hy
      exact .inr (.inr (.inl ⟨a1, a2, v1, v2, rfl, rfl, e1, e2, small_line (by rw [h1.len, h2.len]; exact h.1), q_list ok (h1.app h2) h.2 q⟩))
    | _ => exact h.elim
  | tup ds => cases b with
    | tup es =>
      obtain ⟨a1, v1, rfl, e1, h1⟩ := two_tups ok hx
      obtain ⟨a2, v2, rfl, e2, h2⟩ := two_tups ok hy
      exact .inr (.inr (.inr ⟨a1, a2, v1, v2, rfl, rfl, e1, e2, small_line (by rw [h1.len, h2.len]; exact h.1), fun e => by
          subst e
          cases h1
          exact q _ _ H (Go.refl ok) h.2 hy, fun _ e => by
          subst e
          cases h2
          have h2 := h.2
          rw [List.append_nil] at h2
          exact q _ _ H (Go.refl ok) h2 hx, fun _ _ => q_tup ok (h1.app h2) h.2 q⟩))
    | _ => exact h.elim
  | _ => exact h.elim
/-- two ints -/
def fI (c : Int → Int → Prop) (g : Int → Int → D) : F2
  | .int i, .int j, P => c i j ∧ P (g i j)
  | _, _, _ => False
theorem od_int {c c' : Int → Int → Prop} {g : Int → Int → D} {g' : Int → Int → V} (hc : ∀ i j, c i j → c' i j) (hg : ∀ H i j, DV K H (g' i j) (g i j)) : OpD K C (rI c' g') (fI c g) := by
  intro S H x y a b P Q ok hx hy h q
  cases a with
  | int i => cases b with
    | int j => exact ⟨i, j, hx.int_inv, hy.int_inv, hc i j h.1, q _ _ H (Go.refl ok) h.2 (hg _ i j)⟩
    | _ => exact h.elim
  | _ => exact h.elim
theorem od_int0 {g : Int → Int → D} {g' : Int → Int → V} (hg : ∀ H i j, DV K H (g' i j) (g i j)) : OpD K C (rI0 g') (fI (fun _ _ => True) g) := by
  intro S H x y a b P Q ok hx hy h q
  cases a with
  | int i => cases b with
    | int j => exact ⟨i, j, hx.int_inv, hy.int_inv, q _ _ H (Go.refl ok) h.2 (hg _ i j)⟩
    | _ => exact h.elim
  | _ => exact h.elim
def fSub : F2 := fI (fun _ _ => True) fun i j => .int (i - j)
theorem od_sub : OpD K C (rI0 fun i j => .int (i - j)) fSub := od_int0 fun _ i j => .int _
def fMod : F2 := fI (fun _ j => 0 < j) fun i j => .int (i % j)
theorem od_mod : OpD K C (rI (fun _ j => 0 < j) fun i j => .int (i % j)) fMod := od_int (fun _ _ h => h) fun _ i j => .int _
def fFdv : F2 := fI (fun _ j => 0 < j ∧ j < 1073741824) fun i j => .int (i / j)
theorem od_fdv : OpD K C (rI CDiv fun i j => .int (i / j)) fFdv := od_int (fun _ _ h => h) fun _ i j => .int _
/-- i * j, x * j, [..] * j -/
def fMul : F2
  | .int i, .int j, P => ((-(2 ^ 64) < i ∧ i < 2 ^ 64) ∨ (-(2 ^ 64) < j ∧ j < 2 ^ 64)) ∧ P (.int (i * j))
  | .str x, .int j, P => 2 ≤ j ∧ j ≤ 100000 ∧ 1 ≤ x.length ∧ x.length * j.toNat ≤ 100000 ∧ P (.str ⟨(List.replicate j.toNat x.cps).foldl (· ++ ·) #[]⟩)
  | .lst ds, .int j, P => 0 ≤ j ∧ j ≤ 100000 ∧ ds.length * j.toNat ≤ 100000 ∧ P (.lst (List.replicate j.toNat ds).flatten)
  | _, _, _ => False
def rMulS : R2 := fun x y H Q => ∃ (z : Str) (j : Int), x = .str z ∧ y = .int j ∧ 2 ≤ j ∧ j ≤ 100000 ∧ 1 ≤ z.length ∧ z.length * j.toNat ≤ 100000 ∧ Q (.str ⟨(List.replicate j.toNat z.cps).foldl (· ++ ·) #[]⟩) H
theorem op_mulS {X : Cx} : OpR X (binaryOp .Mult) rMulS := by
  intro pins s σ H x y v u Q I rx ry h
  obtain ⟨z, j, rfl, rfl, h1, h2, h3, h4, q⟩ := h
  obtain ⟨t, rfl⟩ := rx
  obtain ⟨t', rfl⟩ := ry
  refine SB.mul ⟨?_, fun _ _ => ?_, fun _ _ => ?_⟩ fun t' k => ⟨.str _, H, I.tok _, ⟨t', ?_⟩, q⟩
  · rw [decide_eq_false (by omega), decide_eq_false (by omega)]; rfl
  · have hz : (z.length : Int) ≤ 100000 := by
      have : z.length * 1 ≤ z.length * j.toNat := Nat.mul_le_mul_left _ (by omega)
      omega
    have hd : (100000 : Int) ≤ (2 ^ 63 - 1) / j := by
      refine Int.le_ediv_of_mul_le (by omega) ?_
      omega
    omega
  · unfold PySem.Builtin.Str.tooLong
    first
      | (apply decide_eq_false; omega)
      | (simp; omega)
      | (simp [sizeLine]; omega)
  · unfold Txt.mul
    rw [if_neg (by omega), if_neg ?_]
    have e1 : (j == 1) = false := beq_eq_false_iff_ne.mpr (by omega)
    have e2 : (z.length == 0) = false := beq_eq_false_iff_ne.mpr (by omega)
    rw [e1, e2]
    exact Bool.false_ne_true
def rMulD : R2 := fun x y H Q => rI CMul (fun i j => .int (i * j)) x y H Q ∨ rMulS x y H Q ∨ rRep x y H Q
theorem op_mulD {X : Cx} : OpR X (binaryOp .Mult) rMulD := op_mul.or (op_mulS.or op_rep)
theorem od_mul : OpD K C rMulD fMul := by
  intro S H x y a b P Q ok hx hy h q
  cases a with
  | int i => cases b with
    | int j => exact .inl ⟨i, j, hx.int_inv, hy.int_inv, h.1, q _ _ H (Go.refl ok) h.2 (.int _)⟩
    | _ => exact h.elim
  | str z => cases b with
    | int j => exact .inr (.inl ⟨z, j, hx.str_inv, hy.int_inv, h.1, h.2.1, h.2.2.1, h.2.2.2.1, q _ _ H (Go.refl ok) h.2.2.2.2 (.str _)⟩)
    | _ => exact h.elim
  | lst ds => cases b with
    | int j =>
      obtain ⟨a1, v1, rfl, e1, h1⟩ := two_lists ok hx
      obtain ⟨b1, b2, b3, b4⟩ := h
      have fl : ∀ n : Nat, DVs K (hid H S) (List.replicate n v1).flatten (List.replicate n ds).flatten := by
        intro n
        induction n with
        | zero => exact .nil
        | succ n ih => rw [List.replicate_succ, List.replicate_succ, List.flatten_cons, List.flatten_cons]; exact h1.app ih
      exact .inr (.inr ⟨a1, j, v1, rfl, hy.int_inv, e1, by omega, by omega, small_line (by rw [h1.len]; exact b3), q_list ok (fl _) b4 q⟩)
    | _ => exact h.elim
  | _ => exact h.elim
/-! order -/
def ordI (p : Int → Int → Bool) (s : List Nat → List Nat → Bool) : F2
  | .int i, .int j, P => P (.bl (p i j))
  | .str a, .str b, P => P (.bl (s a.cps.toList b.cps.toList))
  | _, _, _ => False
def rOrd (p : Int → Int → Bool) (s : List Nat → List Nat → Bool) : R2 := fun x y H Q => rI0 (fun i j => .bl (p i j)) x y H Q ∨ ∃ i j, x = .str i ∧ y = .str j ∧ Q (.bl (s i.cps.toList j.cps.toList)) H
theorem od_ord {p : Int → Int → Bool} {s : List Nat → List Nat → Bool} : OpD K C (rOrd p s) (ordI p s) := by
  intro S H x y a b P Q ok hx hy h q
  cases a with
  | int i => cases b with
    | int j => exact .inl ⟨i, j, hx.int_inv, hy.int_inv, q _ _ H (Go.refl ok) h (.bl _)⟩
    | _ => exact h.elim
  | str i => cases b with
    | str j => exact .inr ⟨i, j, hx.str_inv, hy.str_inv, q _ _ H (Go.refl ok) h (.bl _)⟩
    | _ => exact h.elim
  | _ => exact h.elim
abbrev fLt : F2 := ordI (fun i j => decide (i < j)) fun a b => decide (a < b)
abbrev fLe : F2 := ordI (fun i j => decide (i ≤ j)) fun a b => !decide (b < a)
abbrev fGt : F2 := ordI (fun i j => decide (j < i)) fun a b => decide (b < a)
abbrev fGe : F2 := ordI (fun i j => decide (j ≤ i)) fun a b => !decide (a < b)
theorem op_ltD {X : Cx} : OpR X (compareOp .Lt) (rOrd (fun i j => decide (i < j)) fun a b => decide (a < b)) := op_lt.or op_lt_str
theorem op_leD {X : Cx} : OpR X (compareOp .LtE) (rOrd (fun i j => decide (i ≤ j)) fun a b => !decide (b < a)) := op_le.or op_le_str
theorem op_gtD {X : Cx} : OpR X (compareOp .Gt) (rOrd (fun i j => decide (j < i)) fun a b => decide (b < a)) := op_gt.or op_gt_str
theorem op_geD {X : Cx} : OpR X (compareOp .GtE) (rOrd (fun i j => decide (j ≤ i)) fun a b => !decide (a < b)) := op_ge.or op_ge_str
/-! == -/
/-- what == asks of a datum: no dict, no object, depth and signs in order -/
def eqOk (d : D) : Bool := pl d && SeqAt.shaped (toP d)
def eqD (a b : D) : Bool := PyData.eqv (toP a) (toP b)
def fEqb (n : Bool) : F2 := fun a b P => match a, b with
  | .str x, .str y => P (.bl (n != decide (x = y)))
  | .int x, .int y => P (.bl (n != decide (x = y)))
  | a, b => eqOk a = true ∧ eqOk b = true ∧ P (.bl (n != eqD a b))
def rEqb (K : PySem.W.Frag) : R2 := fun x y H Q => rEq x y H Q ∨ rEqD K x y H Q
def rNeb (K : PySem.W.Frag) : R2 := fun x y H Q => rNe x y H Q ∨ rNeD K x y H Q
abbrev fEq : F2 := fEqb false
abbrev fNe : F2 := fEqb true
theorem op_eqb {X : Cx} (hu : X.A.units + 64 < cLine) : OpR X (compareOp .Eq) (rEqb X.K) := op_eq.or (op_eqD hu)
theorem op_neb {X : Cx} (hu : X.A.units + 64 < cLine) : OpR X (compareOp .NotEq) (rNeb X.K) := op_ne.or (op_neD hu)
theorem eq_parts {S : AS} {H : Hp} {x : V} {a : D} (h : DV K (hid H S) x a) (e : eqOk a = true) : Dp K H x (toP a) ∧ SeqAt.shaped (toP a) = true := by
  unfold eqOk at e
  rw [Bool.and_eq_true] at e
  exact ⟨(h.mono same_hid).dp e.1, e.2⟩
theorem od_eq : OpD K C (rEqb K) fEq := by
  intro S H x y a b P Q ok hx hy h q
  have gen : eqOk a = true ∧ eqOk b = true ∧ P (.bl (false != eqD a b)) → rEqb K x y H Q := fun ⟨h1, h2, h3⟩ => by
    obtain ⟨d1, s1⟩ := eq_parts hx h1
    obtain ⟨d2, s2⟩ := eq_parts hy h2
    refine .inr ⟨_, _, d1, d2, s1, s2, q _ _ H (Go.refl ok) ?_ (.bl _)⟩
    simpa [eqD] using h3
  cases a <;> cases b <;> first | exact gen h | skip
  · rename_i i j
    refine .inl ⟨by rw [hx.int_inv, hy.int_inv]; rfl, ?_⟩
    rw [hx.int_inv, hy.int_inv]
    refine q _ _ H (Go.refl ok) h ?_
    rw [show decide (V.int i = V.int j) = (false != decide (i = j)) by simp]
    exact .bl _
  · rename_i i j
    refine .inl ⟨by rw [hx.str_inv, hy.str_inv]; rfl, ?_⟩
    rw [hx.str_inv, hy.str_inv]
    refine q _ _ H (Go.refl ok) h ?_
    rw [show decide (V.str i = V.str j) = (false != decide (i = j)) by simp]
    exact .bl _
theorem od_ne : OpD K C (rNeb K) fNe := by
  intro S H x y a b P Q ok hx hy h q
  have gen : eqOk a = true ∧ eqOk b = true ∧ P (.bl (true != eqD a b)) → rNeb K x y H Q := fun ⟨h1, h2, h3⟩ => by
    obtain ⟨d1, s1⟩ := eq_parts hx h1
    obtain ⟨d2, s2⟩ := eq_parts hy h2
    refine .inr ⟨_, _, d1, d2, s1, s2, q _ _ H (Go.refl ok) ?_ (.bl _)⟩
    simpa [eqD] using h3
  cases a <;> cases b <;> first | exact gen h | skip
  · rename_i i j
    refine .inl ⟨by rw [hx.int_inv, hy.int_inv]; rfl, ?_⟩
    rw [hx.int_inv, hy.int_inv]
    refine q _ _ H (Go.refl ok) h ?_
    rw [show (!decide (V.int i = V.int j)) = (true != decide (i = j)) by simp]
    exact .bl _
  · rename_i i j
    refine .inl ⟨by rw [hx.str_inv, hy.str_inv]; rfl, ?_⟩
    rw [hx.str_inv, hy.str_inv]
    refine q _ _ H (Go.refl ok) h ?_
    rw [show (!decide (V.str i = V.str j)) = (true != decide (i = j)) by simp]
    exact .bl _
/-! one sign in a text -/
def fInS (n : Bool) : F2
  | .str x, .str z, P => ∃ c, x = ⟨#[c]⟩ ∧ P (.bl (n != decide (c ∈ z.cps.toList)))
  | _, _, _ => False
def rInSg (n : Bool) : R2 := fun x y H Q => ∃ (c : Nat) (z : Str), x = .str ⟨#[c]⟩ ∧ y = .str z ∧ Q (.bl (n != decide (c ∈ z.cps.toList))) H
theorem op_inSg {X : Cx} : OpR X (compareOp .In) (rInSg false) := fun pins s σ H x y v u Q I rx ry ⟨c, z, h1, h2, q⟩ => op_in_sign pins s σ H x y v u Q I rx ry ⟨c, z, h1, h2, by simpa using q⟩
theorem op_notInSg {X : Cx} : OpR X (compareOp .NotIn) (rInSg true) := fun pins s σ H x y v u Q I rx ry ⟨c, z, h1, h2, q⟩ => op_notIn_sign pins s σ H x y v u Q I rx ry ⟨c, z, h1, h2, by simpa using q⟩
theorem od_inS {n : Bool} : OpD K C (rInSg n) (fInS n) := by
  intro S H x y a b P Q ok hx hy h q
  cases a with
  | str i => cases b with
    | str j =>
      obtain ⟨c, rfl, h⟩ := h
      exact ⟨c, j, hx.str_inv, hy.str_inv, q _ _ H (Go.refl ok) h (.bl _)⟩
    | _ => exact h.elim
  | _ => exact h.elim
/-! items -/
def fIx : F2
  | .lst ds, .int i, P => ∃ d, atI ds i = some d ∧ P d
  | .tup ds, .int i, P => ∃ d, atI ds i = some d ∧ P d
  | .str z, .int i, P => z.length ≤ 100000 ∧ ∃ c, atI z.cps.toList i = some c ∧ P (.str ⟨#[c]⟩)
  | _, _, _ => False
theorem at_dv {S : AS} {H : Hp} {vs : List V} {ds : List D} {i : Int} {d : D} (h : DVs K (hid H S) vs ds) (e : atI ds i = some d) : ∃ v, atI vs i = some v ∧ DV K (hid H S) v d := by
  unfold atI at e ⊢
  rw [h.len]
  cases z : ixN ds.length i with
  | none => rw [z] at e; cases e
  | some j =>
    rw [z] at e
    exact h.get (i := j) e
theorem od_ix : OpD K C (rIx K) fIx := by
  intro S H x y a b P Q ok hx hy h q
  cases a with
  | lst ds => cases b with
    | int i =>
      obtain ⟨d, e, h⟩ := h
      obtain ⟨p, vs, rfl, e1, h1⟩ := two_lists ok hx
      obtain ⟨v, e2, hv⟩ := at_dv h1 e
      exact .inl ⟨p, vs, i, v, rfl, hy.int_inv, .inl (.inl e1), e2, q _ _ H (Go.refl ok) h hv⟩
    | _ => exact h.elim
  | tup ds => cases b with
    | int i =>
      obtain ⟨d, e, h⟩ := h
      obtain ⟨p, vs, rfl, e1, h1⟩ := two_tups ok hx
      obtain ⟨v, e2, hv⟩ := at_dv h1 e
      exact .inr (.inl ⟨p, vs, i, v, rfl, hy.int_inv, e1, e2, q _ _ H (Go.refl ok) h hv⟩)
    | _ => exact h.elim
  | str z => cases b with
    | int i =>
      obtain ⟨hz, c, e, h⟩ := h
      exact .inr (.inr ⟨z, i, c, hx.str_inv, hy.int_inv, small_line hz, e, q _ _ H (Go.refl ok) h (.str _)⟩)
    | _ => exact h.elim
  | _ => exact h.elim
end
end L3
namespace L3
open PySem PySem.Spec PyProof.Rows L2

/-! ### built-ins -/
def dLen : D → Option Nat
  | .str x => if x.length ≤ 100000 then some x.length else none
  | .lst ds => some ds.length
  | .tup ds => some ds.length
  | .scr ns => some ns.length
  | .dic ks => some ks.length
  | .dcf _ ks => some ks.length
  | _ => none
def fLen : FN
  | [d], P => ∃ n, dLen d = some n ∧ P (.int (n : Int))
  | _, _ => False
def rLenD (K : PySem.W.Frag) : List V → Hp → VK → Prop := fun xs H Q => (∃ x n, xs = [x] ∧ LenV K x H n ∧ Q (.int n) H) ∨ ∃ a kvs, xs = [V.ref a] ∧ Rd H a (.dK kvs) ∧ Q (.int kvs.length) H
theorem call_lenRd {X : Cx} : CallR X (.builtin "len") (fun xs H Q => ∃ a kvs, xs = [V.ref a] ∧ Rd H a (.dK kvs) ∧ Q (.int kvs.length) H) := by
  intro pins s σ H xs us Q I r h
  obtain ⟨a, kvs, rfl, ha, q⟩ := h
  obtain ⟨u, rfl, ru⟩ := vals1 r
  cases ru
  exact d_len I ha fun t s' I' => ⟨.int kvs.length, H, I', ⟨t, rfl⟩, q⟩
theorem call_lenAll {X : Cx} : CallR X (.builtin "len") (rLenD X.K) := call_len.or call_lenRd
section
variable {K : PySem.W.Frag} {C : Cf}
theorem one_dv {H : Hp} {vs : List V} {d : D} (h : DVs K H vs [d]) : ∃ v, vs = [v] ∧ DV K H v d := by
  cases h with
  | cons h t => cases t; exact ⟨_, rfl, h⟩
theorem two_dv {H : Hp} {vs : List V} {d e : D} (h : DVs K H vs [d, e]) : ∃ v w, vs = [v, w] ∧ DV K H v d ∧ DV K H w e := by
  cases h with
  | cons h t => obtain ⟨w, rfl, h2⟩ := one_dv t; exact ⟨_, _, rfl, h, h2⟩
theorem DKs.len {H : Hp} : ∀ {vs : List (Key × V)} {ds : List (Key × D)}, DKs K H vs ds → vs.length = ds.length
  | _, _, .nil => rfl
  | _, _, .cons _ t => by simp [DKs.len t]
theorem cd_len : CallD K C (rLenD K) fLen := by
  intro S H vs ds P Q ok hv h q
  match ds, h with
  | [d], h =>
    obtain ⟨n, e, h⟩ := h
    obtain ⟨v, rfl, hd⟩ := one_dv hv
    have fin : ∀ m : Nat, m = n → Q (.int (m : Int)) H := fun m e => by rw [e]; exact q _ _ H (Go.refl ok) h (.int _)
    cases hd with
    | str x =>
      have e : (if x.length ≤ 100000 then some x.length else Option.none) = some n := e
      split at e
      · exact .inl ⟨_, x.length, rfl, ⟨small_line ‹_›, rfl⟩, fin _ (Option.some.inj e)⟩
      · cases e
    | lst e1 h1 => exact .inl ⟨_, _, rfl, .inl ⟨_, .inl (.inl (same_hid _ _ e1)), rfl⟩, fin _ (h1.len.trans (Option.some.inj e))⟩
    | tup e1 h1 => exact .inl ⟨_, _, rfl, .inr ⟨_, (e1.mono same_hid).sq, rfl⟩, fin _ (h1.len.trans (Option.some.inj e))⟩
    | scr e1 => exact .inl ⟨_, _, rfl, .inl ⟨_, Same.seq same_hid e1, rfl⟩, fin _ ((List.length_map _).trans (Option.some.inj e))⟩
    | dic e1 h1 => exact .inr ⟨_, _, rfl, .inl (same_hid _ _ e1), fin _ (h1.len.trans (Option.some.inj e))⟩
    | dcf e1 h1 => exact .inr ⟨_, _, rfl, .inr ⟨_, same_hid _ _ e1⟩, fin _ (h1.len.trans (Option.some.inj e))⟩
    | non => cases e
    | bl _ => cases e
    | int _ => cases e
    | op _ => cases e
    | ins _ _ => cases e
    | exc _ _ _ => cases e
    | exc0 _ => cases e
    | sem _ _ => cases e
/-! isinstance -/
def tyOf : D → Option String
  | .non => some "NoneType"
  | .bl _ => some "bool"
  | .int _ => some "int"
  | .str _ => some "str"
  | .lst _ => some "list"
  | .tup _ => some "tuple"
  | .dic _ => some "dict"
  | .dcf _ _ => some "dict"
  | .scr _ => none
  | .op _ => none
  | .ins _ _ => none
  | .exc _ _ => none
  | .sem _ _ => none
def isTy (a b : String) : Bool := decide (a = b) || (decide (a = "bool") && decide (b = "int"))
def kinds7 : List String := ["NoneType", "bool", "int", "str", "list", "tuple", "dict"]
def asked6 : List String := ["bool", "int", "str", "list", "tuple", "dict"]
theorem kit_table : (kinds7.all fun a => asked6.all fun b => decide (kitB a b = some (isTy a b))) = true := by decide +kernel
theorem kit_is {a b : String} (ha : a ∈ kinds7) (hb : b ∈ asked6) : kitB a b = some (isTy a b) := by
  have h := List.all_eq_true.mp kit_table a ha
  exact of_decide_eq_true (List.all_eq_true.mp h b hb)
theorem tyX_of {S : AS} {H : Hp} {v : V} {d : D} {t : String} (h : DV K (hid H S) v d) (e : tyOf d = some t) : TyX K H v (.type t) ∧ t ∈ kinds7 := by
  cases h with
  | non => cases e; exact ⟨.base .non, by decide⟩
  | bl b => cases e; exact ⟨.base (.bl b), by decide⟩
  | int b => cases e; exact ⟨.base (.int b), by decide⟩
  | str b => cases e; exact ⟨.base (.str b), by decide⟩
  | lst e1 _ => cases e; exact ⟨.base (.lst (same_hid _ _ e1)), by decide⟩
  | tup e1 _ =>
    cases e
    obtain ⟨o, _, e2⟩ := e1.mono same_hid
    exact ⟨.fTuple e2, by decide⟩
  | dic e1 _ => cases e; exact ⟨.base (.dK (same_hid _ _ e1)), by decide⟩
  | dcf e1 _ => cases e; exact ⟨.fDict (same_hid _ _ e1), by decide⟩
  | scr _ => cases e
  | op _ => cases e
  | ins _ _ => cases e
  | exc _ _ _ => cases e
  | exc0 _ => cases e
  | sem _ _ => cases e
/-- isinstance(x, T) | isinstance(x, (T, U)) -/
def fIsi : FN
  | [d, .op (.ty b)], P => ∃ t, tyOf d = some t ∧ b ∈ asked6 ∧ P (.bl (isTy t b))
  | [d, .tup [.op (.ty b), .op (.ty c)]], P => ∃ t, tyOf d = some t ∧ b ∈ asked6 ∧ c ∈ asked6 ∧ P (.bl (isTy t b || isTy t c))
  | _, _ => False
def rIsiD (K : PySem.W.Frag) : List V → Hp → VK → Prop := fun xs H Q => rIsi K xs H Q ∨ rIsiN K xs H Q
theorem call_isiD {X : Cx} : CallR X (.builtin "isinstance") (rIsiD X.K) := call_isi.or call_isiN
theorem fIsi_inv {ds : List D} {P : D → Prop} (h : fIsi ds P) : (∃ d b t, ds = [d, .op (.ty b)] ∧ tyOf d = some t ∧ b ∈ asked6 ∧ P (.bl (isTy t b))) ∨
    ∃ d b c t, ds = [d, .tup [.op (.ty b), .op (.ty c)]] ∧ tyOf d = some t ∧ b ∈ asked6 ∧ c ∈ asked6 ∧ P (.bl (isTy t b || isTy t c)) := by
  unfold fIsi at h
  split at h
  · obtain ⟨t, h⟩ := h; exact .inl ⟨_, _, t, rfl, h⟩
  · obtain ⟨t, h⟩ := h; exact .inr ⟨_, _, _, t, rfl, h⟩
  · exact h.elim
theorem cd_isi : CallD K C (rIsiD K) fIsi := by
  intro S H vs ds P Q ok hv h q
  rcases fIsi_inv h with ⟨d, b, t, rfl, e, hb, h⟩ | ⟨d, b, c, t, rfl, e, hb, hc, h⟩
  · obtain ⟨v, w, rfl, hd, hw⟩ := two_dv hv
    have hw := hw.op_inv
    subst hw
    obtain ⟨ty, ht⟩ := tyX_of hd e
    exact .inl ⟨v, .ty b, .type t, .type b, isTy t b, rfl, .ty b, ty, kit_ty (kit_is ht hb), q _ _ H (Go.refl ok) h (.bl _)⟩
  · obtain ⟨v, w, rfl, hd, hw⟩ := two_dv hv
    obtain ⟨ty, ht⟩ := tyX_of hd e
    cases hw with
    | @tup a vs ds e1 h1 =>
      obtain ⟨x, y, rfl, hx, hy⟩ := two_dv h1
      have hx := hx.op_inv
      have hy := hy.op_inv
      subst hx
      subst hy
      have k1 := kit_ty (K := K) (kit_is ht hb)
      have k2 := kit_ty (K := K) (kit_is ht hc)
      refine .inr ⟨v, a, _, .type t, [.type b, .type c], isTy t b || isTy t c, rfl, e1.mono same_hid, .cons (.ty b) (.cons (.ty c) .nil), ty, ?_, q _ _ H (Go.refl ok) h (.bl _)⟩
      refine kitAny_cons k1 (fun e => ?_) (fun e => by rw [e]; rfl)
      rw [e, Bool.false_or]
      exact kitAny_cons k2 (fun e => by rw [e]; exact kitAny_nil) (fun e => e)
end
end L3
namespace L3
open PySem PySem.Spec PyProof.Rows L2

section
variable {K : PySem.W.Frag} {C : Cf}
def fAll : FN
  | [.lst ds], P => ∃ bs : List Bool, ds = bs.map D.bl ∧ P (.bl (bs.all id))
  | _, _ => False
theorem cd_all : CallD K C (rAll K) fAll := by
  intro S H vs ds P Q ok hv h q
  match ds, h with
  | [.lst ds], h =>
    obtain ⟨bs, rfl, h⟩ := h
    obtain ⟨v, rfl, hd⟩ := one_dv hv
    obtain ⟨a, ws, rfl, e, h1⟩ := two_lists ok hd
    have := h1.bls
    subst this
    exact ⟨a, bs, rfl, .inl (.inl e), q _ _ H (Go.refl ok) h (.bl _)⟩
def fAny : FN
  | [.lst ds], P => ∃ bs : List Bool, ds = bs.map D.bl ∧ P (.bl (bs.any id))
  | _, _ => False
theorem cd_any : CallD K C (rAny K) fAny := by
  intro S H vs ds P Q ok hv h q
  match ds, h with
  | [.lst ds], h =>
    obtain ⟨bs, rfl, h⟩ := h
    obtain ⟨v, rfl, hd⟩ := one_dv hv
    obtain ⟨a, ws, rfl, e, h1⟩ := two_lists ok hd
    have := h1.bls
    subst this
    exact ⟨a, bs, rfl, .inl (.inl e), q _ _ H (Go.refl ok) h (.bl _)⟩
/-- min(i, j), max(i, j) -/
def fMin : FN
  | [.int i, .int j], P => P (.int (if j < i then j else i))
  | _, _ => False
theorem cd_min : CallD K C (fun xs H Q => ∃ i j, xs = [.int i, .int j] ∧ Q (.int (if j < i then j else i)) H) fMin := by
  intro S H vs ds P Q ok hv h q
  match ds, h with
  | [.int i, .int j], h =>
    obtain ⟨v, w, rfl, hd, hw⟩ := two_dv hv
    exact ⟨i, j, by rw [hd.int_inv, hw.int_inv], q _ _ H (Go.refl ok) h (.int _)⟩
def fAbs : FN
  | [.int i], P => P (.int (if i < 0 then -i else i))
  | _, _ => False
theorem cd_abs : CallD K C (fun xs H Q => ∃ i, xs = [.int i] ∧ Q (.int (if i < 0 then -i else i)) H) fAbs := by
  intro S H vs ds P Q ok hv h q
  match ds, h with
  | [.int i], h =>
    obtain ⟨v, rfl, hd⟩ := one_dv hv
    exact ⟨i, by rw [hd.int_inv], q _ _ H (Go.refl ok) h (.int _)⟩
/-- tuple(x), list(x) of a list or a tuple -/
def fTupOf : FN
  | [.lst ds], P => P (.tup ds)
  | [.tup ds], P => P (.tup ds)
  | _, _ => False
theorem cd_tup : CallD K C (rTupOfN K) fTupOf := by
  intro S H vs ds P Q ok hv h q
  match ds, h with
  | [.lst ds], h =>
    obtain ⟨v, rfl, hd⟩ := one_dv hv
    obtain ⟨a, ws, rfl, e, h1⟩ := two_lists ok hd
    exact ⟨a, ws, rfl, .inl ⟨.inl (.inl e), q_tup ok h1 h q⟩⟩
  | [.tup ds], h =>
    obtain ⟨v, rfl, hd⟩ := one_dv hv
    obtain ⟨a, ws, rfl, e, h1⟩ := two_tups ok hd
    exact ⟨a, ws, rfl, .inr ⟨e, q _ _ H (Go.refl ok) h hd⟩⟩
def fLstOf : FN
  | [.lst ds], P => P (.lst ds)
  | [.tup ds], P => P (.lst ds)
  | _, _ => False
theorem cd_lst : CallD K C (fun xs H Q => ∃ p ys, xs = [.ref p] ∧ (SqL K H p ys ∨ SqT K H p ys) ∧ ∀ l, H l = none → Q (.ref l) (upd H l (.lst ys))) fLstOf := by
  intro S H vs ds P Q ok hv h q
  match ds, h with
  | [.lst ds], h =>
    obtain ⟨v, rfl, hd⟩ := one_dv hv
    obtain ⟨a, ws, rfl, e, h1⟩ := two_lists ok hd
    exact ⟨a, ws, rfl, .inl (.inl (.inl e)), q_list ok h1 h q⟩
  | [.tup ds], h =>
    obtain ⟨v, rfl, hd⟩ := one_dv hv
    obtain ⟨a, ws, rfl, e, h1⟩ := two_tups ok hd
    exact ⟨a, ws, rfl, .inr e, q_list ok h1 h q⟩
/-- sorted of texts: any order that is one -/
def fSortS : FN
  | [.lst ds], P => ∃ xs : List Str, ds = xs.map D.str ∧ xs.length < 64 ∧ ∀ ys : List Str, ys.Perm xs → sortedS ys = true → P (.lst (ys.map D.str))
  | _, _ => False
theorem cd_sortS : CallD K C (rSortedS K) fSortS := by
  intro S H vs ds P Q ok hv h q
  match ds, h with
  | [.lst ds], h =>
    obtain ⟨xs, rfl, hl, h⟩ := h
    obtain ⟨v, rfl, hd⟩ := one_dv hv
    obtain ⟨a, ws, rfl, e, h1⟩ := two_lists ok hd
    have := h1.strs
    subst this
    exact ⟨a, xs, rfl, .inl (.inl e), hl, fun ys p hp hs np => q_list ok (DVs.of_strs ys) (h ys hp hs) q p np⟩
end

/-! ### repr of data -/
mutual
/-- no object, and a dict at the outermost place alone -/
def noDic : D → Bool
  | .non => true
  | .bl _ => true
  | .int i => decide (i.natAbs.log2 < 1920)
  | .str _ => true
  | .lst ds => noDics ds
  | .tup ds => noDics ds
  | .dic _ => false
  | .dcf _ _ => false
  | .scr _ => false
  | .op _ => false
  | .ins _ _ => false
  | .exc _ _ => false
  | .sem _ _ => false
def noDics : List D → Bool
  | [] => true
  | d :: r => noDic d && noDics r
end
mutual
theorem noDic_show : ∀ d : D, noDic d = true → (toP d).showable = true ∧ (toP d).hasDict = false ∧ pl d = true
  | .non, _ => by simp only [toP, pl]; exact ⟨rfl, rfl, trivial⟩
  | .bl _, _ => by simp only [toP, pl]; exact ⟨rfl, rfl, trivial⟩
  | .int i, h => by simp only [noDic] at h; simp only [toP, pl]; exact ⟨h, rfl, trivial⟩
  | .str _, _ => by simp only [toP, pl]; exact ⟨rfl, rfl, trivial⟩
  | .lst ds, h => by
    simp only [noDic] at h
    obtain ⟨h1, h2, h3⟩ := noDics_show ds h
    simp only [toP, pl, PyData.showable, PyData.hasDict]
    exact ⟨h1, h2, h3⟩
  | .tup ds, h => by
    simp only [noDic] at h
    obtain ⟨h1, h2, h3⟩ := noDics_show ds h
    simp only [toP, pl, PyData.showable, PyData.hasDict]
    exact ⟨h1, h2, h3⟩
  | .dic _, h => by simp only [noDic] at h; exact absurd h Bool.false_ne_true
  | .dcf _ _, h => by simp only [noDic] at h; exact absurd h Bool.false_ne_true
  | .scr _, h => by simp only [noDic] at h; exact absurd h Bool.false_ne_true
  | .op _, h => by simp only [noDic] at h; exact absurd h Bool.false_ne_true
  | .ins _ _, h => by simp only [noDic] at h; exact absurd h Bool.false_ne_true
  | .exc _ _, h => by simp only [noDic] at h; exact absurd h Bool.false_ne_true
  | .sem _ _, h => by simp only [noDic] at h; exact absurd h Bool.false_ne_true
theorem noDics_show : ∀ ds : List D, noDics ds = true → PyData.showableAll (toPs ds) = true ∧ PyData.hasDictAll (toPs ds) = false ∧ pls ds = true
  | [], _ => by simp only [toPs, pls, PyData.showableAll, PyData.hasDictAll]; exact ⟨trivial, trivial, trivial⟩
  | d :: r, h => by
    simp only [noDics, Bool.and_eq_true] at h
    obtain ⟨a1, a2, a3⟩ := noDic_show d h.1
    obtain ⟨b1, b2, b3⟩ := noDics_show r h.2
    simp only [toPs, pls, PyData.showableAll, PyData.hasDictAll, a1, a2, a3, b1, b2, b3]
    exact ⟨rfl, rfl, rfl⟩
end
/-- flat items under keys -/
def flatKs : List (Key × D) → Bool
  | [] => true
  | (k, d) :: r => flatD d && noDic d && (match k with | .inl i => decide (i.natAbs.log2 < 1920) | .inr _ => true) && flatKs r
def reprOk : D → Bool
  | .dic ks => flatKs ks
  | d => noDic d
def showD (d : D) : Str := (toP d).shown
def fRepr : FN
  | [d], P => reprOk d = true ∧ (toP d).depth ≤ 60 ∧ (showD d).length ≤ 100000 ∧ P (.str (showD d))
  | _, _ => False
def rReprD (K : PySem.W.Frag) : List V → Hp → VK → Prop := fun xs H Q => ∃ v d, xs = [v] ∧ DV K H v d ∧ reprOk d = true ∧ (toP d).depth ≤ 60 ∧ (showD d).length ≤ 100000 ∧ Q (.str (showD d)) H
theorem flat_reads {h : Heap} {u : Value} {v : V} {d : D} {K : PySem.W.Frag} {H : Hp} (hv : DV K H v d) (r : RelV v u) (f : flatD d = true) (n : noDic d = true) : Reads h u (toP d) [] := by
  cases hv with
  | non => cases r; simp only [toP]; exact .none
  | bl b => cases r; simp only [toP]; exact .bool b
  | int i => obtain ⟨t, rfl⟩ := r; simp only [toP]; exact .int i t
  | str i => obtain ⟨t, rfl⟩ := r; simp only [toP]; exact .str i t
  | lst _ _ => cases f
  | tup _ _ => cases f
  | dic _ _ => cases f
  | dcf _ _ => cases f
  | scr _ => cases f
  | op v => simp only [noDic] at n; cases n
  | ins _ _ => simp only [noDic] at n; cases n
  | exc _ _ _ => simp only [noDic] at n; cases n
  | exc0 _ => simp only [noDic] at n; cases n
  | sem _ _ => simp only [noDic] at n; cases n
theorem keys_reads {h : Heap} {P : Program} {w : World} {K : PySem.W.Frag} {H : Hp} : ∀ {ks : List (Key × V)} {kvs : List (Key × D)} {vs : List (Key × Value)} {es : List DictEntry}, DKs K H ks kvs → KV ks vs → Pairs (mixKind P w) es vs → flatKs kvs = true →
    ReadsAll h (es.map (·.key)) ((toPk kvs).map (·.1)) [] ∧ ReadsAll h (es.map (·.val)) ((toPk kvs).map (·.2)) []
  | _, _, _, _, .nil, .nil, .nil, _ => by simp only [toPk]; exact ⟨.nil, .nil⟩
  | _, _, _, _, .cons hd ht, .cons r rt, .cons ke ve pt, f => by
    simp only [flatKs, Bool.and_eq_true] at f
    obtain ⟨⟨⟨f1, f2⟩, f3⟩, f4⟩ := f
    obtain ⟨q1, q2⟩ := keys_reads (h := h) ht rt pt f4
    simp only [toPk, List.map_cons]
    obtain ⟨e1, rv⟩ := r
    simp only at e1
    subst e1
    refine ⟨?_, ?_⟩
    · have z := keyIs_shape ke
      rcases z with ⟨i, t, e0, e⟩ | ⟨x, t, e0, e⟩
      · rw [e, e0]; exact ReadsAll.cons (as := []) (.int i t) q1
      · rw [e, e0]; exact ReadsAll.cons (as := []) (.str x t) q1
    · rw [ve]
      exact ReadsAll.cons (as := []) (flat_reads hd rv f1 f2) q2
theorem keys_show : ∀ {kvs : List (Key × D)}, flatKs kvs = true → PyData.showableKv (toPk kvs) = true
  | [], _ => by simp only [toPk, PyData.showableKv]
  | (k, d) :: r, f => by
    simp only [flatKs, Bool.and_eq_true] at f
    obtain ⟨⟨⟨f1, f2⟩, f3⟩, f4⟩ := f
    have h1 := (noDic_show d f2).1
    have h2 := keys_show f4
    simp only [toPk, PyData.showableKv, h1, h2, Bool.and_true]
    cases k with
    | inl i => exact f3
    | inr x => rfl
theorem call_reprD {X : Cx} (hgd : X.A.guards = some []) (hu : X.A.units + 64 < cLine) : CallR X (.builtin "repr") (rReprD X.K) := by
  intro pins s σ H xs us Q I r h
  obtain ⟨v, d, rfl, hv, ho, hdp, hz, q⟩ := h
  cases r with
  | cons rv rt =>
    cases rt
    rename_i u
    have fin : ∀ (h' : Heap) (tk tk' : Nat), (∀ b o, s.heap.get? b = some o → h'.get? b = some o) → EP X pins σ Q (.str (showD d) tk) { s with heap := h', toks := tk' } := fun h' tk tk' hk => ⟨.str _, H, I.kept hk, ⟨tk, rfl⟩, q⟩
    have hz' : (toP d).shown.length ≤ sizeLine := small_line hz
    have keep0 : ∀ b o, s.heap.get? b = some o → s.heap.get? b = some o := fun _ _ e => e
    by_cases isd : ∃ ks, d = .dic ks
    · obtain ⟨ks, rfl⟩ := isd
      cases hv with
      | @dic a kv ks e hk =>
        cases rv
        obtain ⟨_, hsys, vs, rel, o, es, ep, ho1, hex, hd1, _, prs, _⟩ := I.hok a _ e
        have ho : flatKs ks = true := ho
        obtain ⟨q1, q2⟩ := keys_reads (h := s.heap) hk rel prs ho
        have rd : Reads s.heap (.ref a) (toP (.dic ks)) [a] := by
          simp only [toP]
          exact Reads.dict (as := []) (bs := []) ho1 hex.1 hd1 q1 q2
        refine repr_of_reads' rd (by simp only [toP, PyData.showable]; exact keys_show ho) (fun _ hm => ?_) hgd (by omega) keep0 (fun h' u tk hk => fin h' u tk hk) hz'
        have z : sysModules = a := by simpa using hm
        rw [← z] at hsys
        exact absurd hsys (by simp)
    · have ho : noDic d = true := by
        cases d <;> first | exact ho | exact absurd ⟨_, rfl⟩ isd
      obtain ⟨s1, s2, s3⟩ := noDic_show d ho
      obtain ⟨as, rd⟩ := Dp.reads I (toP d) v u (hv.dp s3) rv
      cases hv with
      | non => cases rv; exact PySem.P.repr_of_none (fin s.heap _ _ keep0)
      | bl b => cases rv; exact PySem.P.repr_of_bool (by have z := fin s.heap s.toks (s.toks + 1) keep0; unfold showD at z; simp only [toP, PyData.shown] at z; exact z)
      | int i =>
        obtain ⟨t, rfl⟩ := rv
        simp only [noDic, decide_eq_true_eq] at ho
        exact PySem.P.repr_of_int ho (by have z := fin s.heap s.toks (s.toks + 1) keep0; unfold showD at z; simp only [toP, PyData.shown] at z; exact z)
      | str x =>
        obtain ⟨t, rfl⟩ := rv
        simp only [toP, PyData.shown] at hz'
        exact PySem.P.repr_of_str (by have z := fin s.heap s.toks (s.toks + 1) keep0; unfold showD at z; simp only [toP, PyData.shown] at z; exact z) hz'
      | lst _ _ => cases rv; exact repr_of_reads' rd s1 (PyData.noDict_hsm s2) hgd (by omega) keep0 (fun h' u tk hk => fin h' u tk hk) hz'
      | tup _ _ => cases rv; exact repr_of_reads' rd s1 (PyData.noDict_hsm s2) hgd (by omega) keep0 (fun h' u tk hk => fin h' u tk hk) hz'
      | dic _ _ => exact absurd ⟨_, rfl⟩ isd
      | dcf _ _ => simp only [noDic] at ho; cases ho
      | scr _ => simp only [noDic] at ho; cases ho
      | op _ => simp only [noDic] at ho; cases ho
      | ins _ _ => simp only [noDic] at ho; cases ho
      | exc _ _ _ => simp only [noDic] at ho; cases ho
      | exc0 _ => simp only [noDic] at ho; cases ho
      | sem _ _ => simp only [noDic] at ho; cases ho
theorem cd_repr {K : PySem.W.Frag} {C : Cf} : CallD K C (rReprD K) fRepr := by
  intro S H vs ds P Q ok hv h q
  match ds, h with
  | [d], h =>
    obtain ⟨v, rfl, hd⟩ := one_dv hv
    exact ⟨v, d, rfl, hd.mono same_hid, h.1, h.2.1, h.2.2.1, q _ _ H (Go.refl ok) h.2.2.2 (.str _)⟩
end L3
namespace L3
open PySem PySem.Spec PyProof.Rows L2

/-! ### a def by its name -/
structure Dfn (K : PySem.W.Frag) (mg : Str → Option Value) (x : Str) (st : Stmt) (ps : List Str) : Prop where
  ex : ∃ f fd, Fun K x x st f fd ∧ mg x = some (.ref f) ∧ L2.Binds K fd ps []
structure Cal (P : Program) (w : World) (K : PySem.W.Frag) (mg : Str → Option Value) (base : Heap) (x : Str) (k : Nat) (ps : List Str) (F : Cf → FN) : Prop where
  ex : ∃ f fd, FnG P w K mg base CX0 k f fd ps (spD K F) ∧ mg x = some (.ref f) ∧ PySem.W.keepIn K (.ref f) = true ∧ L2.Binds K fd ps []
section
variable {P : Program} {w : World} {K : PySem.W.Frag} {mg : Str → Option Value} {base : Heap}
theorem cal_of {x : Str} {st : Stmt} {N ps : List Str} {k : Nat} {F : Cf → FN} (d : Dfn K mg x st ps) (S : FnScope N ps (defScope st)) (len : ∀ C ds R, F C ds R → ds.length = ps.length)
    (body : ∀ (f : Addr) (cdv : Value) (A : Around) (fr : List Env) (s : Shared) (H : Hp) (E : XK), A.guards = some [] → Room k (A.deeper (envOfC x (defScope st) s.heap.objs.size f cdv)) → ∀ (C : Cf) (ds : List D) (R : D → Prop), F C ds R →
      ∃ ts, DSs (cxOf CX0 P w K mg base N x (defScope st) f cdv A fr s H E).nox C (defBody st) ts ∧ ts { nx := fun _ => R .non, rt := R } (startD N ds)) : Cal P w K mg base x (k + 1) ps F := by
  obtain ⟨f, fd, FF, hm, hb⟩ := d.ex
  exact ⟨f, fd, def_ok FF S len (body f), hm, FF.kp, hb⟩
theorem Cal.imp {x : Str} {k : Nat} {ps : List Str} {F F' : Cf → FN} (c : Cal P w K mg base x k ps F) (h : ∀ C ds R, F' C ds R → F C ds R) : Cal P w K mg base x k ps F' := by
  obtain ⟨f, fd, G, r⟩ := c.ex
  refine ⟨f, fd, ⟨fun vs H Q E z => G.len vs H Q E ?_, fun A fr s H ar us vs Q E hg hr e0 hb hv z => G.go A fr s H ar us vs Q E hg hr e0 hb hv ?_⟩, r⟩ <;>
  · obtain ⟨C, S, ds, R, ok, hv, hf, q⟩ := z
    exact ⟨C, S, ds, R, ok, hv, h C ds R hf, q⟩
end
section
variable {X : Cx} {C : Cf} {e : Expr} {es : List Expr} {td : TDs} {x : Str} {p pos : Pos} {k j : Nat} {ps : List Str} {F : Cf → FN}
theorem de_cal (c : Cal X.prog X.w X.K X.mg X.base x k ps F) (hgd : X.A.guards = some []) (hr : Room j X.A) (hk : k ≤ j) (hg : Gl X x) (ha : DA X C (e :: es) td) (hdb : (x == ("__debug__" : Str)) = false := by decide)
    (he : starEach (e :: es) X.env = (false, eval e X.env) :: starEach es X.env := by rfl) (hpl : (backTo pos (starEach es X.env)).any (·.1) = false := by rfl) : DE X C (.Call (.Name x p) (e :: es) [] pos) (dCall (F C) td) := by
  obtain ⟨f, fd, G, hm, hkp, hb⟩ := c.ex
  exact de_fn G hgd (hr.mono hk) hm hkp hb hg ha hdb he hpl
/-- the keywords' values -/
structure DK (X : Cx) (C : Cf) (kws : List Keyword) (td : TDs) : Prop where
  ex : ∃ ta, PK X kws ta ∧ EvA X.K C ta td
theorem dk_nil : DK X C [] dNil := ⟨⟨_, pk_nil, fun S σ H E P Q r h q => q [] [] H (Go.refl r.ok) h .nil⟩⟩
theorem dk_cons {nm : Option Str} {kpos : Pos} {kws : List Keyword} {t : TD} {tr : TDs} (h : DE X C e t) (k : DK X C kws tr) : DK X C (⟨nm, e, kpos⟩ :: kws) (dCons t tr) := by
  obtain ⟨te, h1, h2⟩ := h.ex
  obtain ⟨ta, t1, t2⟩ := k.ex
  refine ⟨⟨_, pk_cons h1 t1, fun S σ H E P Q r hp q => ?_⟩⟩
  refine h2 S σ H E _ _ r hp fun v d H1 g1 p1 v1 => ?_
  refine t2 S σ H1 E _ _ (r.go g1) p1 fun vs ds H2 g2 p2 v2 => ?_
  exact q _ _ H2 (g1.trans g2) p2 (.cons (v1.mono (g2.vis (r.ok.go g1))) v2)
/-- f(k = v, ..), the names in any order: each parameter once -/
theorem pe_goK0 {CX : CXT} {f : Addr} {fd : FuncData} {ks : List Str} {sp : Sp} {E : XK} {kws : List Keyword} {tk : TA} {g : List Value → List Value → List Value} {gV : List V → List V → List V}
    (F : FnG X.prog X.w X.K X.mg X.base CX k f fd ps sp) (hgd : X.A.guards = some []) (hr : Room k X.A) (hg : Gl X x) (hm : X.mg x = some (.ref f)) (hk : PySem.W.keepIn X.K (.ref f) = true) (hb : KBinds X.K fd ps ks g gV) (hx : Passes CX X E)
    (hkw : PK X kws tk) (hall : (backToKw pos (keywordEach kws X.env)).all (·.1.isSome) = true := by rfl) (hks : (backToKw pos (keywordEach kws X.env)).filterMap (·.1) = ks := by rfl)
    (hdb : (x == ("__debug__" : Str)) = false := by decide) (hpl : ((backTo pos (starEach [] X.env)).any (·.1) || (backToKw pos (keywordEach kws X.env)).any (·.1.isNone)) = false := by rfl) :
    PE X (.Call (.Name x p) [] kws pos) (fun σ H Q => tk σ H fun zs H2 => sp (gV [] zs) H2 Q E) := by
  refine ⟨fun pins s σ H Q I h => wpAny_Call_Name_kw (ld_glob I hg hm ?_ hdb)⟩
  refine PySem.W.callWith_KW0 (h₀ := X.base) I.ok.mod.kin hk hall (thn (hkw.run pos pins s σ H _ I h) fun ws s2 ⟨zs, H2, I2, rz, q2⟩ => ⟨I2.kIn, ?_⟩) hpl
  rw [hks]; exact go_fnK F hgd hr hb hx I2 .nil rz q2
end
/-- how a def takes its arguments by name -/
structure CalK (P : Program) (w : World) (K : PySem.W.Frag) (mg : Str → Option Value) (base : Heap) (x : Str) (k : Nat) (ps ks : List Str) (gD : List D → List D → List D) (F : Cf → FN) : Prop where
  ex : ∃ f fd g gV, FnG P w K mg base CX0 k f fd ps (spD K F) ∧ mg x = some (.ref f) ∧ PySem.W.keepIn K (.ref f) = true ∧ KBinds K fd ps ks g gV ∧ ∀ (H : Hp) (vs zs : List V) (ds es : List D), DVs K H vs ds → DVs K H zs es → DVs K H (gV vs zs) (gD ds es)
section
variable {X : Cx} {C : Cf} {x : Str} {p pos : Pos} {k j : Nat} {ps ks : List Str} {F : Cf → FN} {gD : List D → List D → List D} {kws : List Keyword} {tk td : TDs} {e : Expr} {es : List Expr}
theorem de_calK0 (c : CalK X.prog X.w X.K X.mg X.base x k ps ks gD F) (hgd : X.A.guards = some []) (hr : Room j X.A) (hk : k ≤ j) (hg : Gl X x) (h : DK X C kws tk) (hall : (backToKw pos (keywordEach kws X.env)).all (·.1.isSome) = true := by rfl) (hks : (backToKw pos (keywordEach kws X.env)).filterMap (·.1) = ks := by rfl)
    (hdb : (x == ("__debug__" : Str)) = false := by decide) (hpl : ((backTo pos (starEach [] X.env)).any (·.1) || (backToKw pos (keywordEach kws X.env)).any (·.1.isNone)) = false := by rfl) : DE X C (.Call (.Name x p) [] kws pos) (fun E P => tk E fun zs => F C (gD [] zs) P) := by
  obtain ⟨f, fd, g, gV, G, hm, hkp, hb, hd⟩ := c.ex
  obtain ⟨ta, a1, a2⟩ := h.ex
  refine ⟨⟨_, pe_goK0 G hgd (hr.mono hk) hg hm hkp hb pass0 a1 hall hks hdb hpl, fun S σ H E P Q rl hp q => ?_⟩⟩
  refine a2 S σ H E _ _ rl hp fun vs ds H1 g1 p1 v1 => ?_
  exact ⟨C, S, _, P, rl.ok.go g1, hd _ [] vs [] ds .nil v1, p1, fun v d H' g => q v d H' (g1.trans g)⟩
end

/-! ### the laws' own draws -/
def drwI (da ca : Addr) (H : Hp) : Prop := ∃ (cs : List Int) (k m : Int), H da = some (.lst [.ref ca, .int k, .int m]) ∧ H ca = some (.lst (cs.map V.int)) ∧ da ≠ ca ∧ cs ≠ [] ∧ cs.length ≤ 63 ∧ 0 ≤ k ∧ 0 ≤ m ∧ m < 2147483647 ∧ ∀ c ∈ cs, 0 ≤ c
/-- where the cells stand, and the tables of code objects that lambdas are made by -/
structure CA where
  a : Addr
  T : List (Addr × Str)
def drw (da : Addr) (ca : CA) : Cf where
  G := fun a => a = da ∨ a = ca.a ∨ ∃ p ∈ ca.T, p.1 = a
  I := fun H => drwI da ca.a H ∧ LamX.Tabs ca.T H
  loc := fun H H' h hx ⟨⟨cs, k, m, h1, h2, r⟩, ht⟩ => ⟨⟨cs, k, m, by rw [h da (.inl rfl)]; exact h1, by rw [h ca.a (.inr (.inl rfl))]; exact h2, r⟩, fun p hp => by
    obtain ⟨ps, a1, a2, a3⟩ := ht p hp
    refine ⟨ps, by rw [h p.1 (.inr (.inr ⟨p, hp, rfl⟩))]; exact a1, a2, fun pos cv hc => ?_⟩
    obtain ⟨c, e1, e2⟩ := a3 pos cv hc
    exact ⟨c, e1, hx _ _ e2 ⟨_, _, rfl⟩⟩⟩
  liv := fun H a ⟨⟨cs, k, m, h1, h2, _⟩, ht⟩ h => by
    rcases h with rfl | rfl | ⟨p, hp, rfl⟩
    · rw [h1]; intro z; cases z
    · rw [h2]; intro z; cases z
    · obtain ⟨ps, a1, _⟩ := ht p hp
      rw [a1]; intro z; cases z
theorem _root_.LamX.Tabs.ext' {T : List (Addr × Str)} {H H' : Hp} (t : LamX.Tabs T H) (e : ∀ b o, H b = some o → (∀ xs, o ≠ .lst xs) → H' b = some o) : LamX.Tabs T H' := fun p hp => by
  obtain ⟨ps, h1, h2, h3⟩ := t p hp
  refine ⟨ps, e _ _ h1 (fun xs z => nomatch z), h2, fun pos cv hc => ?_⟩
  obtain ⟨c, e1, e2⟩ := h3 pos cv hc
  exact ⟨c, e1, e _ _ e2 fun xs z => by unfold LamX.CodeO at z; cases z⟩
/-- _law_draw(draws, many): any number from 0 on below many -/
def fDraw : Cf → FN := fun C ds P => ∃ da ca many, C = drw da ca ∧ ds = [.op (.ref da), .int many] ∧ 0 < many ∧ many < 1073741824 ∧ ∀ r : Int, 0 ≤ r → r < many → P (.int r)
theorem drw_go {da : Addr} {ca : CA} {H H' : Hp} (i0 : (drw da ca).I H) (k : ∀ a, a ≠ da → a ≠ ca.a → H' a = H a) (i : drwI da ca.a H') : Go (drw da ca) H H' :=
  ⟨fun a o g e => by
    have h1 : a ≠ da := fun z => g (.inl z)
    have h2 : a ≠ ca.a := fun z => g (.inr (.inl z))
    rw [k a h1 h2]; exact e, i, i0.2.ext' fun a o e n1 => by
      obtain ⟨⟨cs, k0, m, b1, b2, _⟩, _⟩ := i0
      have h1 : a ≠ da := fun z => by rw [z, b1] at e; exact n1 _ (Option.some.inj e).symm
      have h2 : a ≠ ca.a := fun z => by rw [z, b2] at e; exact n1 _ (Option.some.inj e).symm
      rw [k a h1 h2]; exact e⟩
theorem set_nonneg {cs : List Int} {j : Nat} {z : Int} (h : ∀ c ∈ cs, 0 ≤ c) (hz : 0 ≤ z) : ∀ c ∈ cs.set j z, 0 ≤ c := fun c hc => by
  rcases List.mem_or_eq_of_mem_set hc with h1 | h1
  · exact h c h1
  · rw [h1]; exact hz
section
variable {P : Program} {w : World} {K : PySem.W.Frag} {mg : Str → Option Value} {base : Heap}
/-- the text of _law_draw, by its shape -/
theorem ok_draw {st : Stmt} (d : Dfn K mg "_law_draw" st ["draws", "many"]) (S : FnScope ["draws", "many", "cells", "spot", "cell", "mixed"] ["draws", "many"] (defScope st))
    (body : ∀ (f : Addr) (cdv : Value) (A : Around) (fr : List Env) (s : Shared) (H : Hp) (E : XK), Room 0 (A.deeper (envOfC "_law_draw" (defScope st) s.heap.objs.size f cdv)) →
      ∀ (da ca : Addr) (many : Int) (H1 : Hp) (D' : Ends), drwI da ca H1 → 0 < many → many < 1073741824 → (∀ r H2, (∀ a, a ≠ da → a ≠ ca → H2 a = H1 a) → drwI da ca H2 → 0 ≤ r → r < many → D'.rt (.int r) H2) →
      ∃ t, PSs (cxOf CX0 P w K mg base ["draws", "many", "cells", "spot", "cell", "mixed"] "_law_draw" (defScope st) f cdv A fr s H E).nox (defBody st) t ∧ t D' [some (.ref da), some (.int many), none, none, none, none] H1) :
    Cal P w K mg base "_law_draw" 1 ["draws", "many"] fDraw := by
  obtain ⟨f, fd, FF, hm, hb⟩ := d.ex
  refine ⟨f, fd, FF.okG S (fun vs H Q E h => ?_) (fun cdv A fr s H vs Q E hgd hr h => ?_), hm, FF.kp, hb⟩
  · obtain ⟨C, S, ds, R, _, hv, ⟨da, ca, many, _, rfl, _⟩, _⟩ := h
    rw [hv.len]; rfl
  · obtain ⟨C, S1, ds, R, ok, hv, ⟨da, ca, many, rfl, rfl, m0, m1, hR⟩, q⟩ := h
    obtain ⟨v, u, rfl, h1, h2⟩ := two_dv hv
    have h1 := h1.op_inv
    have h2 := h2.int_inv
    subst h1
    subst h2
    obtain ⟨t, t1, t2⟩ := body f cdv A fr s H E hr da ca.a many H { nx := fun _ H' => Q .non H', rt := Q } ok.i.1 m0 m1 fun r H2 hk hi r0 r1 => q _ _ H2 (drw_go ok.i hk hi) (hR r r0 r1) (.int r)
    exact ⟨t, t1.nox, t2⟩
end
/-! ### a def called by position and by name -/
structure Cal0 (P : Program) (w : World) (K : PySem.W.Frag) (mg : Str → Option Value) (base : Heap) (x : Str) (st : Stmt) (k : Nat) (ps : List Str) (F : Cf → FN) : Prop where
  ex : ∃ f fd, Fun K x x st f fd ∧ FnG P w K mg base CX0 k f fd ps (spD K F) ∧ mg x = some (.ref f) ∧ L2.Binds K fd ps []
section
variable {P : Program} {w : World} {K : PySem.W.Frag} {mg : Str → Option Value} {base : Heap} {x : Str} {st : Stmt} {k : Nat} {ps : List Str} {F : Cf → FN}
theorem cal0_of {N : List Str} (d : Dfn K mg x st ps) (S : FnScope N ps (defScope st)) (len : ∀ C ds R, F C ds R → ds.length = ps.length)
    (body : ∀ (f : Addr) (cdv : Value) (A : Around) (fr : List Env) (s : Shared) (H : Hp) (E : XK), A.guards = some [] → Room k (A.deeper (envOfC x (defScope st) s.heap.objs.size f cdv)) → ∀ (C : Cf) (ds : List D) (R : D → Prop), F C ds R →
      ∃ ts, DSs (cxOf CX0 P w K mg base N x (defScope st) f cdv A fr s H E).nox C (defBody st) ts ∧ ts { nx := fun _ => R .non, rt := R } (startD N ds)) : Cal0 P w K mg base x st (k + 1) ps F := by
  obtain ⟨f, fd, FF, hm, hb⟩ := d.ex
  exact ⟨f, fd, FF, def_ok FF S len (body f), hm, hb⟩
theorem Cal0.cal (c : Cal0 P w K mg base x st k ps F) : Cal P w K mg base x k ps F := by
  obtain ⟨f, fd, FF, G, hm, hb⟩ := c.ex
  exact ⟨f, fd, G, hm, FF.kp, hb⟩
/-- the positional arguments, then the named ones in the parameters' order -/
theorem Cal0.calK (c : Cal0 P w K mg base x st k ps F) (ks : List Str)
    (h : ∀ (kV doc pm : Value) (an : Option Addr) (cdv ct : Value) (us ws : List Value), (us ++ ws).length = ps.length → bindArgs (PySem.W.fnOf x x (defArgs st) (defBody st) (defScope st) .none kV doc pm an cdv ct) ⟨us, ks.zip ws⟩ = pure (ps.zip (us ++ ws))) :
    CalK P w K mg base x k ps ks (fun a b => a ++ b) F := by
  obtain ⟨f, fd, FF, G, hm, hb⟩ := c.ex
  have kp := FF.kp
  obtain ⟨oc, od, kV, doc, pm, an, cdv, ct, osl, rfl, lk, hcd⟩ := FF.ex
  exact ⟨f, _, fun a b => a ++ b, fun a b => a ++ b, G, hm, kp, ⟨fun s us ws _ hl => .of_eq (h kV doc pm an cdv ct us ws hl), fun r1 r2 => r1.append r2⟩, fun H vs zs ds es h1 h2 => h1.app h2⟩
end
end L3
namespace LW
open PySem PySem.Spec PyProof.Rows L2 L3
def topS (i : Nat) : Stmt := PySem.Challenge.pw_halfbuilt_k10_words_of_slots.main.body.getD i (.Pass ⟨0, 0, 0, 0⟩)
abbrev sDraw : Stmt := topS 37
theorem scDraw : FnScope ["draws", "many", "cells", "spot", "cell", "mixed"] ["draws", "many"] (defScope sDraw) := ⟨rfl, rfl, rfl, by decide +kernel, rfl, by decide +kernel, by decide +kernel⟩
section
variable {P : Program} {w : World} {K : PySem.W.Frag} {mg : Str → Option Value} {base : Heap}
theorem mx_pos (i j : Int) (h : 0 < j) : 0 ≤ i % j ∧ i % j < j := ⟨Int.emod_nonneg _ (by omega), Int.emod_lt_of_pos _ h⟩
theorem ix_of {cs : List Int} {i : Int} (h0 : 0 ≤ i) (h1 : i < cs.length) : ∃ c, cs[i.toNat]? = some c ∧ atI (cs.map V.int) i = some (.int c) ∧ ixN (cs.map V.int).length i = some i.toNat := by
  obtain ⟨n, rfl⟩ : ∃ n : Nat, i = (n : Int) := ⟨i.toNat, by omega⟩
  have hn : n < cs.length := by omega
  refine ⟨cs[n], by simp [hn], atI_nat (by simp [hn]), ?_⟩
  unfold ixN
  rw [if_pos h0, if_pos (by simpa using h1)]
theorem draw_cal (d : Dfn K mg "_law_draw" sDraw ["draws", "many"]) (mi : mg "int" = none) (ml : mg "len" = none) : Cal P w K mg base "_law_draw" 1 ["draws", "many"] fDraw := by
  refine ok_draw d scDraw fun f cdv A fr s H E hr da ca many H1 D' hi m0 m1 q => ?_
  obtain ⟨cs, k, m, e1, e2, ne, hne, hl, k0, z0, z1, hc⟩ := hi
  refine ⟨_, pss_cons (ps_set (i := 2) scDraw.nd rfl (.inl rfl) (pe_ix ix_list (pv 0) pe_int (fun _ _ => rfl)))
    (pss_cons (ps_set (i := 3) scDraw.nd rfl (.inl rfl) (pe_op op_mod (pe_callTy call_int1 rfl mi boot_int (pa_cons (pe_ix ix_list (pv 0) pe_int (fun _ _ => rfl)) pa_nil)) (pe_callB call_len_seq (by rfl) ml PySem.boot_len (pa_cons (pv 2) pa_nil))))
    (pss_cons (ps_set (i := 4) scDraw.nd rfl (.inl rfl) (pe_ix ix_list (pv 2) (pv 3) (fun _ _ => rfl)))
    (pss_cons (ps_if (pt_cmpR op_ge (pv 4) (pe_op op_pow pe_int pe_int) (nomark _))
      (pss_cons (ps_asg (pe_op op_fdiv (pv 4) (pv 1)) (pg_sub (pv 2) (pv 3) set_list))
        (pss_one (ps_ret (pe_op op_mod (pe_callTy call_int1 rfl mi boot_int (pa_cons (pv 4) pa_nil)) (pv 1))))) pss_nil)
    (pss_cons (ps_asg (pe_op op_add (pe_ix ix_list (pv 0) pe_int (fun _ _ => rfl)) pe_int) (pg_sub (pv 0) pe_int set_list))
    (pss_cons (ps_asg (pe_op op_mod (pe_callTy call_int1 rfl mi boot_int (pa_cons (pe_op op_add (pe_op op_add (pe_op op_add (pe_op op_mul (pe_ix ix_list (pv 0) pe_int (fun _ _ => rfl)) pe_int) (pv 4)) (pe_op op_mul pe_int (pe_ix ix_list (pv 0) pe_int (fun _ _ => rfl)))) pe_int) pa_nil)) pe_int) (pg_sub (pv 0) pe_int set_list))
    (pss_cons (ps_set (i := 5) scDraw.nd rfl (.inl rfl) (pe_op op_mod (pe_callTy call_int1 rfl mi boot_int (pa_cons (pe_op op_mul (pe_ix ix_list (pv 0) pe_int (fun _ _ => rfl)) (pe_ix ix_list (pv 0) pe_int (fun _ _ => rfl))) pa_nil)) pe_int))
    (pss_one (ps_ret (pe_op op_mod (pe_callTy call_int1 rfl mi boot_int (pa_cons (pe_op op_fdiv (pv 5) pe_int) pa_nil)) (pv 1))))))))))
    , ?_⟩
  have lpos : 0 < (cs.length : Int) := by
    cases cs with
    | nil => exact absurd rfl hne
    | cons _ _ => rw [List.length_cons]; omega
  have sd : SqL K H1 da [.ref ca, .int k, .int m] := .inl (.inl e1)
  have sc : SqL K H1 ca (cs.map V.int) := .inl (.inl e2)
  -- cells
  refine ⟨.ref da, rfl, da, _, 0, .ref ca, rfl, rfl, sd, rfl, ?_⟩
  -- spot
  refine ⟨.ref da, rfl, da, _, 1, .int k, rfl, rfl, sd, rfl, .inl ⟨k, rfl, .ref ca, rfl, ca, _, rfl, .inl sc, ?_⟩⟩
  refine ⟨k, _, rfl, rfl, by rw [List.length_map]; exact lpos, ?_⟩
  rw [List.length_map]
  obtain ⟨s0, s1⟩ := mx_pos k cs.length lpos
  obtain ⟨c, g1, g2, g3⟩ := ix_of s0 s1
  have c0 := hc c (List.mem_of_getElem? g1)
  -- cell
  refine ⟨.ref ca, rfl, _, rfl, ca, _, _, _, rfl, rfl, sc, g2, ?_⟩
  -- if
  refine ⟨_, rfl, 10, 18, rfl, rfl, ⟨by decide, by decide, by decide⟩, c, _, rfl, rfl, _, rfl, ?_⟩
  refine ite2 (fun e => ?_) (fun e => ?_)
  · -- cells[spot] = cell // many
    refine ⟨_, rfl, _, rfl, c, many, rfl, rfl, ⟨m0, m1⟩, _, rfl, _, rfl, ca, _, _, _, rfl, rfl, e2, g3, ?_⟩
    refine ⟨_, rfl, .inl ⟨c, rfl, _, rfl, c, many, rfl, rfl, m0, ?_⟩⟩
    obtain ⟨r0, r1⟩ := mx_pos c many m0
    refine q _ _ (fun a n1 n2 => upd_ne n2) ⟨cs.set (k % cs.length).toNat (c / many), k, m, by rw [upd_ne ne]; exact e1, by rw [upd_same, List.map_set], ne, ?_, by rw [List.length_set]; exact hl, k0, z0, z1, set_nonneg hc (Int.ediv_nonneg c0 (by omega))⟩ r0 r1
    intro z
    have := congrArg List.length z
    rw [List.length_set] at this
    simp at this
    exact hne this
  · -- draws[1] = draws[1] + 1
    refine ⟨.ref da, rfl, da, _, 1, .int k, rfl, rfl, sd, rfl, k, 1, rfl, rfl, .ref da, rfl, da, _, 1, 1, rfl, rfl, e1, rfl, ?_⟩
    generalize hH2 : upd H1 da (.lst ([V.ref ca, .int k, .int m].set 1 (.int (k + 1)))) = H2
    have f1 : H2 da = some (.lst [.ref ca, .int (k + 1), .int m]) := by rw [← hH2, upd_same]; rfl
    have fo : ∀ a, a ≠ da → H2 a = H1 a := fun a n => by rw [← hH2, upd_ne n]
    have sd2 : SqL K H2 da [.ref ca, .int (k + 1), .int m] := .inl (.inl f1)
    -- draws[2] = ..
    refine ⟨.ref da, rfl, da, _, 2, .int m, rfl, rfl, sd2, rfl, m, 48271, rfl, rfl, .inr (by decide), _, rfl, _, c, rfl, rfl, .ref da, rfl, da, _, 1, .int (k + 1), rfl, rfl, sd2, rfl, 7919, k + 1, rfl, rfl, .inl (by decide), _, _, rfl, rfl, _, 12345, rfl, rfl, .inl ⟨_, rfl, _, 2147483647, rfl, rfl, (by show (0 : Int) < 2147483647; decide), ?_⟩⟩
    dsimp only
    generalize hm2 : (m * 48271 + c + 7919 * (k + 1) + 12345) % 2147483647 = m2
    have b0 : 0 ≤ m2 ∧ m2 < 2147483647 := by rw [← hm2]; exact mx_pos _ _ (by decide)
    refine ⟨.ref da, rfl, da, _, 2, 2, rfl, rfl, f1, rfl, ?_⟩
    generalize hH3 : upd H2 da (.lst ([V.ref ca, .int (k + 1), .int m].set 2 (.int m2))) = H3
    have h1 : H3 da = some (.lst [.ref ca, .int (k + 1), .int m2]) := by rw [← hH3, upd_same]; rfl
    have ho : ∀ a, a ≠ da → H3 a = H1 a := fun a n => by rw [← hH3, upd_ne n, fo a n]
    have sd3 : SqL K H3 da [.ref ca, .int (k + 1), .int m2] := .inl (.inl h1)
    -- mixed
    refine ⟨.ref da, rfl, da, _, 2, .int m2, rfl, rfl, sd3, rfl, .ref da, rfl, da, _, 2, .int m2, rfl, rfl, sd3, rfl, m2, m2, rfl, rfl, .inl (by omega), .inl ⟨_, rfl, _, 2147483629, rfl, rfl, (by show (0 : Int) < 2147483629; decide), ?_⟩⟩
    dsimp only
    refine ⟨_, rfl, _, 16, rfl, rfl, ⟨by decide, by decide⟩, .inl ⟨_, rfl, _, rfl, _, many, rfl, rfl, m0, ?_⟩⟩
    obtain ⟨r0, r1⟩ := mx_pos (m2 * m2 % 2147483629 / 16) many m0
    exact q _ H3 (fun a n1 n2 => ho a n1) ⟨cs, k + 1, m2, h1, by rw [ho ca (Ne.symm ne)]; exact e2, ne, hne, hl, by omega, b0.1, b0.2, hc⟩ r0 r1
end
end LW
namespace L3
open PySem PySem.Spec PyProof.Rows L2

/-! ### slices -/
def cutL {α : Type} (xs : List α) (lo hi : Option Int) : List α := (xs.drop (HT.sIx xs.length 0 lo)).take (HT.sIx xs.length xs.length hi - HT.sIx xs.length 0 lo)
abbrev TDo := En → (Option Int → Prop) → Prop
def EvO (K : PySem.W.Frag) (C : Cf) (to : TO) (td : TDo) : Prop := ∀ (S : AS) (σ : L2.St) (H : Hp) (E : En) (P : Option Int → Prop) (Q : Option Int → Hp → Prop), Rel K C S E σ H → td E P → (∀ o H', Go C H H' → P o → Q o H') → to σ H Q
structure DO (X : Cx) (C : Cf) (e : Option Expr) (td : TDo) : Prop where
  ex : ∃ to, PO X e to ∧ EvO X.K C to td
def oNone : TDo := fun _ P => P none
def oSome (t : TD) : TDo := fun E P => t E fun d => ∃ i, d = .int i ∧ P (some i)
def fSl (x : D) (lo hi : Option Int) (P : D → Prop) : Prop := match x with
  | .lst ds => P (.lst (cutL ds lo hi))
  | .scr ns => P (.lst ((cutL ns lo hi).map D.int))
  | .tup ds => P (.tup (cutL ds lo hi))
  | .str z => z.length ≤ 100000 ∧ P (.str (cutS z lo hi))
  | _ => False
def dSl (t : TD) (lo hi : TDo) : TD := fun E P => t E fun x => lo E fun l => hi E fun u => fSl x l u P
section
variable {X : Cx} {C : Cf} {e : Expr} {td : TD} {lo hi : Option Expr} {tl th : TDo} {pos p2 : Pos}
theorem do_none : DO X C none oNone := ⟨⟨_, po_none, fun S σ H E P Q r h q => q none H (Go.refl r.ok) h⟩⟩
theorem do_some (h : DE X C e td) : DO X C (some e) (oSome td) := by
  obtain ⟨te, h1, h2⟩ := h.ex
  refine ⟨⟨_, po_some h1, fun S σ H E P Q r hp q => h2 S σ H E _ _ r hp fun v d H1 g1 p1 v1 => ?_⟩⟩
  obtain ⟨i, rfl, p1⟩ := p1
  exact ⟨i, v1.int_inv, q _ H1 g1 p1⟩
def rSlD (K : PySem.W.Frag) : V → Option Int → Option Int → Hp → VK → Prop := fun x lo hi H Q => rSlL K x lo hi H Q ∨ rSlN K x lo hi H Q ∨ rSlS x lo hi H Q
theorem sl_D : SlR X (rSlD X.K) := sl_list.or (sl_tupN.or sl_str)
theorem cutL_dv {K : PySem.W.Frag} {H : Hp} {vs : List V} {ds : List D} (h : DVs K H vs ds) (lo hi : Option Int) : DVs K H (cutV vs lo hi) (cutL ds lo hi) := by
  unfold cutV cutL
  rw [h.len]
  exact (h.drop _).take _
theorem cutL_whole {α : Type} {xs : List α} {lo hi : Option Int} (h1 : HT.sIx xs.length 0 lo = 0) (h2 : HT.sIx xs.length xs.length hi = xs.length) : cutL xs lo hi = xs := by
  unfold cutL
  rw [h1, h2]
  simp
theorem cutV_ints (ns : List Int) (lo hi : Option Int) : cutV (ns.map V.int) lo hi = (cutL ns lo hi).map V.int := by
  unfold cutV cutL
  simp [List.map_drop, List.map_take]
theorem de_slice (h : DE X C e td) (hl : DO X C lo tl) (hu : DO X C hi th) : DE X C (.Subscript e (.Slice lo hi none p2) pos) (dSl td tl th) := by
  obtain ⟨te, e1, e2⟩ := h.ex
  obtain ⟨ta, a1, a2⟩ := hl.ex
  obtain ⟨tb, b1, b2⟩ := hu.ex
  refine ⟨⟨_, pe_slice sl_D e1 a1 b1, fun S σ H E P Q r hp q => ?_⟩⟩
  refine e2 S σ H E _ _ r hp fun v d H1 g1 p1 v1 => ?_
  have r1 := r.go g1
  refine a2 S σ H1 E _ _ r1 p1 fun l H2 g2 p2 => ?_
  have r2 := r1.go g2
  refine b2 S σ H2 E _ _ r2 p2 fun u H3 g3 p3 => ?_
  have r3 := r2.go g3
  have v3 := (v1.mono (g2.vis r1.ok)).mono (g3.vis r2.ok)
  have q3 : ∀ v d H', Go C H3 H' → P d → DV X.K (hid H' S) v d → Q v H' := fun v d H' g => q v d H' (((g1.trans g2).trans g3).trans g)
  cases v3 with
  | @lst a vs ds e0 h0 => exact .inl ⟨a, vs, rfl, .inl (.inl (same_hid _ _ e0)), q_list r3.ok (cutL_dv h0 l u) p3 q3⟩
  | @scr a ns e0 =>
    refine .inl ⟨a, _, rfl, Same.seq same_hid e0, fun p np => ?_⟩
    rw [cutV_ints]
    exact q_list r3.ok (DVs.of_ints _) p3 q3 p np
  | @tup a vs ds e0 h0 =>
    refine .inr (.inl ⟨a, vs, rfl, (e0.mono same_hid).sq, fun z => ?_, fun z => q_tup r3.ok (cutL_dv h0 l u) p3 q3⟩)
    have z1 := z.1
    have z2 := z.2
    rw [h0.len] at z1 z2
    have p3 : P (.tup (cutL ds l u)) := p3
    rw [cutL_whole z1 z2] at p3
    exact q3 _ _ H3 (Go.refl r3.ok) p3 (.tup e0 h0)
  | str z => exact .inr (.inr ⟨z, rfl, small_line p3.1, q3 _ _ H3 (Go.refl r3.ok) p3.2 (.str _)⟩)
  | non => exact p3.elim
  | bl _ => exact p3.elim
  | int _ => exact p3.elim
  | dic _ _ => exact p3.elim
  | dcf _ _ => exact p3.elim
  | op _ => exact p3.elim
  | ins _ _ => exact p3.elim
  | exc _ _ _ => exact p3.elim
  | exc0 _ => exact p3.elim
  | sem _ _ => exact p3.elim
end

/-! ### dicts displayed -/
def dDnew : TD := fun _ P => P (.dic [])
def putD (c : List (Key × D)) (k : Key) (x : D) : List (Key × D) := if c.any (fun kv => decide (kv.1 = k)) then c.map (fun kv => if kv.1 = k then (kv.1, x) else kv) else c ++ [(k, x)]
def keyD : D → Option Key
  | .int i => some (.inl i)
  | .str x => some (.inr x)
  | _ => none
def dPairs : List (TD × TD) → En → (List (Key × D) → Prop) → Prop
  | [], _, P => P []
  | (tk, tv) :: r, E, P => tk E fun x => tv E fun y => ∃ k, keyD x = some k ∧ dPairs r E fun ps => P ((k, y) :: ps)
def dDisp (ts : List (TD × TD)) : TD := fun E P => dPairs ts E fun kvs => kvs.length ≤ 15 ∧ P (.dic (kvs.foldl (fun acc kv => putD acc kv.1 kv.2) []))
section
variable {X : Cx} {C : Cf} {pos : Pos}
theorem de_dnew : DE X C (.Dict [] [] pos) dDnew := ⟨⟨_, pe_dnewK, fun S σ H E P Q r h q p np => by
  have gn : Go C H (upd H p (.dK [])) := Go.new r.ok np
  exact q _ _ _ gn h (.dic (hid_new r.ok np) .nil)⟩⟩
structure DP (X : Cx) (C : Cf) (pos : Pos) (keys : List (Option Expr)) (values : List Expr) (ts : List (TD × TD)) : Prop where
  ex : ∃ trs, PPs X pos keys values trs ∧ ∀ (S : AS) (σ : L2.St) (H : Hp) (E : En) (P : List (Key × D) → Prop) (Q : List (V × V) → Hp → Prop), Rel X.K C S E σ H → dPairs ts E P →
    (∀ kvs ks H', Go C H H' → P ks → DKs X.K (hid H' S) kvs ks → Q (kvs.map fun kv => (kV kv.1, kv.2)) H') → tPairs trs σ H Q
theorem dps_nil : DP X C pos [] [] [] := ⟨⟨_, pps_nil, fun S σ H E P Q r h q => q [] [] H (Go.refl r.ok) h .nil⟩⟩
theorem key_inv {K : PySem.W.Frag} {H : Hp} {v : V} {d : D} {k : Key} (h : DV K H v d) (e : keyD d = some k) : v = kV k := by
  cases h <;> first | (cases e; rfl) | cases e
theorem dps_cons {k v : Expr} {ks : List (Option Expr)} {vs : List Expr} {tk tv : TD} {ts : List (TD × TD)} (hk : DE X C k tk) (hv : DE X C v tv) (hr : DP X C pos ks vs ts) : DP X C pos (some k :: ks) (v :: vs) ((tk, tv) :: ts) := by
  obtain ⟨uk, k1, k2⟩ := hk.ex
  obtain ⟨uv, v1, v2⟩ := hv.ex
  obtain ⟨trs, r1, r2⟩ := hr.ex
  refine ⟨⟨_, pps_cons k1 v1 r1, fun S σ H E P Q r hp q => ?_⟩⟩
  refine k2 S σ H E _ _ r hp fun x dx H1 g1 p1 hx => ?_
  refine v2 S σ H1 E _ _ (r.go g1) p1 fun y dy H2 g2 p2 hy => ?_
  obtain ⟨key, e, p2⟩ := p2
  have rr := (r.go g1).go g2
  refine r2 S σ H2 E _ _ rr p2 fun kvs ks H3 g3 p3 h3 => ?_
  have z := q ((key, y) :: kvs) ((key, dy) :: ks) H3 ((g1.trans g2).trans g3) p3 (.cons (hy.mono (g3.vis rr.ok)) h3)
  rw [key_inv hx e]
  exact z
theorem dks_any {K : PySem.W.Frag} {H : Hp} (k : Key) : ∀ {vs : List (Key × V)} {ds : List (Key × D)}, DKs K H vs ds → vs.any (fun kv => decide (kv.1 = k)) = ds.any (fun kv => decide (kv.1 = k))
  | _, _, .nil => rfl
  | _, _, .cons _ t => by rw [List.any_cons, List.any_cons, dks_any k t]
theorem dks_map {K : PySem.W.Frag} {H : Hp} {v : V} {d : D} (h : DV K H v d) (k : Key) : ∀ {vs : List (Key × V)} {ds : List (Key × D)}, DKs K H vs ds → DKs K H (vs.map (fun kv => if kv.1 = k then (kv.1, v) else kv)) (ds.map (fun kv => if kv.1 = k then (kv.1, d) else kv))
  | _, _, .nil => .nil
  | _, _, .cons (k := k') h1 t => by
    rw [List.map_cons, List.map_cons]
    by_cases e : k' = k
    · rw [if_pos e, if_pos e]; exact .cons h (dks_map h k t)
    · rw [if_neg e, if_neg e]; exact .cons h1 (dks_map h k t)
theorem dks_app {K : PySem.W.Frag} {H : Hp} {v : V} {d : D} (h : DV K H v d) (k : Key) : ∀ {vs : List (Key × V)} {ds : List (Key × D)}, DKs K H vs ds → DKs K H (vs ++ [(k, v)]) (ds ++ [(k, d)])
  | _, _, .nil => .cons h .nil
  | _, _, .cons h1 t => .cons h1 (dks_app h k t)
theorem putK_dk {K : PySem.W.Frag} {H : Hp} {v : V} {d : D} (h : DV K H v d) (k : Key) {vs : List (Key × V)} {ds : List (Key × D)} (hs : DKs K H vs ds) : DKs K H (putK vs k v) (putD ds k d) := by
  unfold putK putD
  rw [dks_any k hs]
  split
  · exact dks_map h k hs
  · exact dks_app h k hs
theorem merge_dk {K : PySem.W.Frag} {H : Hp} : ∀ {ks : List (Key × V)} {kd : List (Key × D)} {vs : List (Key × V)} {ds : List (Key × D)}, DKs K H ks kd → DKs K H vs ds → DKs K H (mergeK vs ks) (kd.foldl (fun acc kv => putD acc kv.1 kv.2) ds)
  | _, _, _, _, .nil, h => h
  | _, _, _, _, .cons (k := k) (v := v) (vs := rs) (d := d) (ds := es) h1 t, h => by
    show DKs K H (mergeK (putK _ k v) rs) (es.foldl (fun acc kv => putD acc kv.1 kv.2) (putD _ k d))
    exact merge_dk t (putK_dk h1 k h)
theorem de_disp {keys : List (Option Expr)} {values : List Expr} {ts : List (TD × TD)} (h : DP X C pos keys values ts) (hall : keys.all (·.isSome) = true) (hl : keys.length = values.length) (h0 : keys ≠ []) (h15 : keys.length ≤ 15) : DE X C (.Dict keys values pos) (dDisp ts) := by
  obtain ⟨trs, p1, p2⟩ := h.ex
  refine ⟨⟨_, pe_disp p1 hall hl h0 h15, fun S σ H E P Q r hp q => ?_⟩⟩
  intro p np
  have nS : ¬ S p := r.ok.fresh np
  have nG : ¬ C.G p := fun z => nS (r.ok.g p z)
  have gn : Go C H (upd H p (.dK [])) := Go.new r.ok np
  have ok1 := r.ok.go gn
  generalize hS : (fun a => S a ∨ a = p : AS) = S'
  have inS : S' p := by rw [← hS]; exact .inr rfl
  have sub : ∀ H2 : Hp, Same (hid H2 S') (hid H2 S) := fun H2 => same_hid_sub fun a h => by rw [← hS]; exact .inl h
  have up : Same (hid H S) (hid (upd H p (.dK [])) S') := fun a u e => by
    obtain ⟨e1, e2⟩ := hid_some.mp e
    have na : a ≠ p := ne_of_none e2 np
    refine hid_some.mpr ⟨fun z => ?_, by rw [upd_ne na]; exact e2⟩
    rw [← hS] at z
    rcases z with z | z
    · exact e1 z
    · exact na z
  have okS : Ok C S' (upd H p (.dK [])) := ⟨gn.i, fun a h => by rw [← hS]; exact .inl (r.ok.g a h), fun a h => by
    rw [← hS] at h
    rcases h with h | rfl
    · exact ok1.l a h
    · rw [upd_same]; intro z; cases z⟩
  refine p2 S' σ _ E _ _ ⟨okS, r.len, fun i d e => ?_⟩ hp fun kvs ks H2 g2 h2 hk => ?_
  · obtain ⟨v, a1, a2⟩ := r.at_ i d e
    exact ⟨v, a1, a2.mono up⟩
  · have e2 : H2 p = some (.dK []) := g2.e p _ nG upd_same
    obtain ⟨h2, h3⟩ := h2
    refine ⟨e2, kvs, rfl, by rw [hk.len]; exact h2, ?_⟩
    have g3 : Go C H (upd H2 p (.dK (mergeK [] kvs))) := by
      have g := gn.trans g2
      exact ⟨fun a u ga e => by rw [upd_ne (ne_of_none e np)]; exact g.e a u ga e, C.loc H2 _ (fun a ga => upd_ne (fun z => nG (z ▸ ga))) (upd_ext fun φ z => by rw [e2] at z; cases z) g.i⟩
    refine q _ _ _ g3 h3 (.dic (hid_some.mpr ⟨nS, upd_same⟩) ?_)
    have hk2 : DKs X.K (hid (upd H2 p (.dK (mergeK [] kvs))) S) kvs ks := by
      refine hk.mono fun a u e => ?_
      have e' : hid (upd H2 p (.dK (mergeK [] kvs))) S' a = some u := by rw [hid_upd_in inS]; exact e
      exact sub _ a u e'
    exact merge_dk hk2 .nil
end

/-! ### s.join(list of texts) -/
def dJoin (ta tb : TD) : TD := fun E P => ta E fun s => ∃ a, s = .str a ∧ tb E fun d => ∃ ys : List Str, d = .lst (ys.map D.str) ∧ (ys.map (·.length)).sum + ys.length * a.length ≤ 16777216 ∧ P (.str (Txt.join a ys))
section
variable {X : Cx} {C : Cf} {o e : Expr} {ta tb : TD} {apos pos : Pos}
theorem de_join (ho : DE X C o ta) (he : DE X C e tb) (hs : starEach [e] X.env = [(false, eval e X.env)] := by rfl) (hbase : attributeBase o "join" X.env (eval o X.env) = eval o X.env := by rfl) (hline : (apos.endLine == pos.line) = true := by rfl) :
    DE X C (.Call (.Attribute o "join" apos) [e] [] pos) (dJoin ta tb) := by
  obtain ⟨ua, a1, a2⟩ := ho.ex
  obtain ⟨ub, b1, b2⟩ := he.ex
  refine ⟨⟨_, pe_join a1 b1 hs hbase hline, fun S σ H E P Q r hp q => ?_⟩⟩
  refine a2 S σ H E _ _ r hp fun v d H1 g1 p1 v1 => ?_
  obtain ⟨a, rfl, p1⟩ := p1
  refine ⟨⟨a, v1.str_inv⟩, b2 S σ H1 E _ _ (r.go g1) p1 fun u d2 H2 g2 p2 v2 => ?_⟩
  obtain ⟨ys, rfl, p2, p3⟩ := p2
  obtain ⟨p, ws, rfl, e0, h0⟩ := two_lists ((r.ok.go g1).go g2) v2
  have := h0.strs
  subst this
  exact ⟨a, p, ys, v1.str_inv, rfl, .inl (.inl (.inl e0)), p2, q _ _ H2 (g1.trans g2) p3 (.str _)⟩
end

/-! ### a, b = x, y -/
def sPar (i j : Nat) (t : TDs) : TSd := fun Dn ρ => t (view ρ) fun ds => ∃ a b, ds = [a, b] ∧ Dn.nx ((ρ.set i (.dat a)).set j (.dat b))
section
variable {X : Cx} {C : Cf} {a b : Expr} {tds : TDs} {i j : Nat} {x y : Str} {px py pt pos : Pos} {kt k2 : Nat} {pt2 : Pos}
theorem ds_par (ni : NmOk X i x) (nj : NmOk X j y) (hij : i ≠ j) (hx : X.env.scope.names.lookup x = some .local) (hy : X.env.scope.names.lookup y = some .local) (hc : X.calm = true) (h : DA X C [a, b] tds)
    (hw : swappedStores [.Tuple [.Name x px, .Name y py] kt pt] (.Tuple [a, b] k2 pt2) X.env = pure (some [x, y]) := by rfl) (hs : swapsWithSole [.Tuple [.Name x px, .Name y py] kt pt] (.Tuple [a, b] k2 pt2) pos.line X.env = pure false := by rfl) :
    DS X C (.Assign [.Tuple [.Name x px, .Name y py] kt pt] (.Tuple [a, b] k2 pt2) pos) (sPar i j tds) := by
  obtain ⟨ta, a1, a2⟩ := h.ex
  refine ⟨⟨_, ps_par hc ni.nd ni.at_ nj.at_ hij hx hy a1 hw hs, fun S0 H0 gs al ρ σ H Dn D' r hp g => ?_⟩⟩
  refine a2 _ σ H _ _ _ r.relA hp fun vs ds H1 g1 p1 v1 => ?_
  obtain ⟨d, e, rfl, p1⟩ := p1
  obtain ⟨v, w, rfl, hv, hw⟩ := two_dv v1
  exact ⟨v, w, rfl, g.nx _ _ _ H1 (((r.go g1).setDat i hv).setDat j (hw.mono vol_set)) p1⟩
end
def fPow : F2 := fI (fun i j => 0 ≤ j ∧ j ≤ 1000000 ∧ i.natAbs < 2 ^ 64) fun i j => .int (i ^ j.toNat)
theorem od_pow {K : PySem.W.Frag} {C : Cf} : OpD K C (rI CPow fun i j => .int (i ^ j.toNat)) fPow := od_int (fun _ _ h => h) fun _ i j => .int _
def fInt : FN
  | [.int i], P => P (.int i)
  | [.bl b], P => P (.int (if b then 1 else 0))
  | _, _ => False
theorem cd_int {K : PySem.W.Frag} {C : Cf} : CallD K C (fun xs H Q => (∃ i, xs = [.int i] ∧ Q (.int i) H) ∨ ∃ k, xs = [.bl k] ∧ Q (.int (if k then 1 else 0)) H) fInt := by
  intro S H vs ds P Q ok hv h q
  match ds, h with
  | [.int i], h =>
    obtain ⟨v, rfl, hd⟩ := one_dv hv
    exact .inl ⟨i, by rw [hd.int_inv], q _ _ H (Go.refl ok) h (.int _)⟩
  | [.bl b], h =>
    obtain ⟨v, rfl, hd⟩ := one_dv hv
    exact .inr ⟨b, by rw [hd.bl_inv], q _ _ H (Go.refl ok) h (.int _)⟩
end L3
namespace L3
open PySem PySem.Spec PyProof.Rows L2

/-! ### runs of comprehensions -/
theorem lc_map {tg : TGe} {te : TD} {E : En} (f : D → D) : ∀ (ys acc : List D) (P : List D → Prop), (∀ d ∈ ys, ∀ Q : D → Prop, Q (f d) → tg d E fun E' => te E' Q) → (∀ d E (P Q : En → Prop), (∀ E', P E' → Q E') → tg d E P → tg d E Q) → P (acc ++ ys.map f) → lcRun tg bYes te E ys acc P
  | [], acc, P, _, _, hp => by simpa [lcRun] using hp
  | d :: r, acc, P, h, mono, hp => by
    refine mono d E _ _ (fun E' z => ?_) (h d List.mem_cons_self (fun y => lcRun tg bYes te E r (acc ++ [y]) P) (lc_map f r _ P (fun d hd => h d (List.mem_cons_of_mem _ hd)) mono (by simpa using hp)))
    show (if true = true then te E' (fun y => lcRun tg bYes te E r (acc ++ [y]) P) else lcRun tg bYes te E r acc P)
    rw [if_pos rfl]
    exact z
/-- with a test -/
theorem lc_flt {tg : TGe} {tt : TDb} {te : TD} {E : En} (c : D → Bool) (f : D → D) : ∀ (ys acc : List D) (P : List D → Prop), (∀ d ∈ ys, ∀ Q : D → Prop, ∀ R : Prop, (c d = true → Q (f d)) → (c d = false → R) → tg d E fun E' => tt E' fun b => if b = true then te E' Q else R) → P (acc ++ (ys.filter c).map f) → lcRun tg tt te E ys acc P
  | [], acc, P, _, hp => by simpa [lcRun] using hp
  | d :: r, acc, P, h, hp => by
    refine h d List.mem_cons_self (fun y => lcRun tg tt te E r (acc ++ [y]) P) _ (fun e => ?_) (fun e => ?_)
    · exact lc_flt c f r _ P (fun d hd => h d (List.mem_cons_of_mem _ hd)) (by simpa [List.filter_cons, e] using hp)
    · exact lc_flt c f r _ P (fun d hd => h d (List.mem_cons_of_mem _ hd)) (by simpa [List.filter_cons, e] using hp)
/-- whatever each turn gives, R of it -/
theorem lc_any {tg : TGe} {te : TD} {E : En} (R : D → Prop) : ∀ (ys acc : List D) (P : List D → Prop), (∀ d ∈ ys, ∀ Q : D → Prop, (∀ y, R y → Q y) → tg d E fun E' => te E' Q) → (∀ d E (P Q : En → Prop), (∀ E', P E' → Q E') → tg d E P → tg d E Q) → (∀ zs : List D, zs.length = ys.length → (∀ z ∈ zs, R z) → P (acc ++ zs)) → lcRun tg bYes te E ys acc P
  | [], acc, P, _, _, hp => by
    have := hp [] rfl (fun _ h => nomatch h)
    simpa [lcRun] using this
  | d :: r, acc, P, h, mono, hp => by
    refine mono d E _ _ (fun E' z => ?_) (h d List.mem_cons_self (fun y => lcRun tg bYes te E r (acc ++ [y]) P) fun y hy => lc_any R r _ P (fun d hd => h d (List.mem_cons_of_mem _ hd)) mono fun zs hl hz => ?_)
    · show (if true = true then te E' (fun y => lcRun tg bYes te E r (acc ++ [y]) P) else lcRun tg bYes te E r acc P)
      rw [if_pos rfl]
      exact z
    · have := hp (y :: zs) (by simp [hl]) (fun x hx => by
        rcases List.mem_cons.mp hx with rfl | hx
        · exact hy
        · exact hz x hx)
      simpa using this
theorem ge_mono (i : Nat) : ∀ (d : D) (E : En) (P Q : En → Prop), (∀ E', P E' → Q E') → geNm i d E P → geNm i d E Q := fun d E P Q h z => h _ z

/-! ### the source of draws -/
def cf0 : Cf := ⟨fun _ => False, fun _ => True, fun _ _ _ _ _ => trivial, fun _ _ _ h => h.elim⟩
def fState : Cf → FN := fun C ds P => ∃ ns : List Int, ds = [.scr ns] ∧ ∀ cs : List Int, cs ≠ [] → cs.length ≤ 63 → (∀ c ∈ cs, 0 ≤ c) → P (.lst [.lst (cs.map D.int), .int 0, .int 1])
/-- _law_pick(draws, some) -/
def fPick : Cf → FN := fun C ds P => ∃ da ca, C = drw da ca ∧ ((∃ ys : List D, (ds = [.op (.ref da), .lst ys] ∨ ds = [.op (.ref da), .tup ys]) ∧ ys ≠ [] ∧ ys.length ≤ 100000 ∧ ∀ y ∈ ys, P y) ∨
  ∃ z : Str, ds = [.op (.ref da), .str z] ∧ z.length ≠ 0 ∧ z.length ≤ 100000 ∧ ∀ c ∈ z.cps.toList, P (.str ⟨#[c]⟩))
theorem atI_some {α : Type} {l : List α} {r : Int} (h0 : 0 ≤ r) (h1 : r < l.length) : ∃ y, atI l r = some y ∧ y ∈ l := by
  obtain ⟨n, rfl⟩ : ∃ n : Nat, r = (n : Int) := ⟨r.toNat, by omega⟩
  have hn : n < l.length := by omega
  refine ⟨l[n], ?_, List.getElem_mem hn⟩
  unfold atI ixN
  rw [if_pos h0, if_pos h1]
  show l[((n : Int)).toNat]? = _
  simp [hn]

theorem ds1 {X : Cx} {C : Cf} {i : Nat} {x : Str} {e : Expr} {td : TD} {pos' pos : Pos} (n : NmOk X i x) (h : DE X C e td) (hs : swapsWith e (some (.Name x pos')) pos.line X.env = pure false := by rfl) : ∃ te, PS X (.Assign [.Name x pos'] e pos) (tAsg te (gName i)) ∧ EvD X.K C te td :=
  let ⟨te, h1, h2⟩ := h.ex; ⟨te, ps_set n.nd n.at_ n.loc h1 hs n.fn, h2⟩

/-! ### the law's own head -/
/-- nothing is followed but lists that stay as they are and tables -/
def OnlyT (H : Hp) : Prop := ∀ b, H b = none ∨ (∃ o xs, H b = some (.frz o (.lst xs))) ∨ ∃ ps, H b = some (.tbl ps)
def spLawT (T : List (Addr × Str)) (K : PySem.W.Frag) : Sp := fun vs H Q _ => ∃ (a : Addr) (ns : List Int), vs = [.ref a] ∧ SqL K H a (ns.map V.int) ∧ ns.length ≤ 63 ∧ OnlyT H ∧ (∀ p ∈ T, H p.1 = some (.tbl #[])) ∧ ∀ H', Q (.bl true) H'
abbrev spLaw (K : PySem.W.Frag) : Sp := spLawT [] K
section
variable {P : Program} {w : World} {K : PySem.W.Frag} {mg : Str → Option Value} {base : Heap}
/-- law(script): the draws are made, and then all is done with them -/
theorem law_ofT {T : List (Addr × Str)} {st : Stmt} {N : List Str} {k : Nat} {f : Addr} {fd : FuncData} (FF : Fun K "law" "law" st f fd) (S : FnScope N ["script"] (defScope st)) (hN1 : 2 ≤ N.length)
    (body : ∀ (f : Addr) (cdv : Value) (A : Around) (fr : List Env) (s : Shared) (H : Hp) (E : XK), A.guards = some [] → Room k (A.deeper (envOfC "law" (defScope st) s.heap.objs.size f cdv)) →
      ∃ (st1 : Stmt) (rest : List Stmt) (td : TD), defBody st = st1 :: rest ∧ (∃ te, PS (cxOf CX0 P w K mg base N "law" (defScope st) f cdv A fr s H E).nox st1 (tAsg te (gName 1)) ∧ EvD K cf0 te td) ∧
        (∀ (ns : List Int) (R : D → Prop), ns.length ≤ 63 → (∀ cs : List Int, cs ≠ [] → cs.length ≤ 63 → (∀ c ∈ cs, 0 ≤ c) → R (.lst [.lst (cs.map D.int), .int 0, .int 1])) → td (some (.scr ns) :: List.replicate (N.length - 1) none) R) ∧
        ∀ (da : Addr) (ca : CA), ca.T = T → ∃ ts, DSs (cxOf CX0 P w K mg base N "law" (defScope st) f cdv A fr s H E).nox (drw da ca) rest ts ∧
          ∀ ns : List Int, ns.length ≤ 63 → ts { nx := fun _ => False, rt := fun d => d = .bl true } (.dat (.scr ns) :: .dat (.op (.ref da)) :: List.replicate (N.length - 2) .no)) : FnG P w K mg base CX0 (k + 1) f fd ["script"] (spLawT T K) := by
  refine FF.okG S (fun vs H Q E h => ?_) fun cdv A fr s H vs Q E hgd hr h => ?_
  · obtain ⟨a, ns, rfl, _⟩ := h
    rfl
  · obtain ⟨a, ns, rfl, hS, hl, hO, hT, q⟩ := h
    obtain ⟨st1, rest, td, hb, ⟨te, p1, p2⟩, h1, h2⟩ := body f cdv A fr s H E hgd hr
    rw [hb]
    -- what follows, for any addresses of the draws
    have hrest : ∃ u, PSs (cxOf CX0 P w K mg base N "law" (defScope st) f cdv A fr s H E).nox rest u ∧ ∀ (da : Addr) (ca : CA) (e : ca.T = T), ∀ (S0 : AS) (H0 : Hp) (al : Nat → Addr) (ρ : Rho) (σ : L2.St) (H1 : Hp) (Dn : EndsD) (D' : Ends), EnvR K (drw da ca) S0 H0 [] al ρ σ H1 → (h2 da ca e).choose Dn ρ → Good K (drw da ca) S0 H0 [] Dn D' → u D' σ H1 := by
      refine ⟨fun D' σ H1 => ∃ (z : Addr × CA) (e : z.2.T = T), ((h2 z.1 z.2 e).choose_spec.1.ex).choose D' σ H1, ⟨fun pins s σ H1 D' I hu => ?_⟩, fun da ca e S0 H0 al ρ σ H1 Dn D' r hd g => ⟨(da, ca), e, ((h2 da ca e).choose_spec.1.ex).choose_spec.2 S0 H0 [] al ρ σ H1 Dn D' r hd g⟩⟩
      obtain ⟨z, e, hz⟩ := hu
      exact ((h2 z.1 z.2 e).choose_spec.1.ex).choose_spec.1.run pins s σ H1 D' I hz
    obtain ⟨u, u1, u2⟩ := hrest
    refine ⟨_, (pss_cons p1 u1).nox, ?_⟩
    have ok0 : Ok cf0 (fun _ => False) H := ⟨trivial, fun a h => h, fun a h => h.elim⟩
    have hid0 : ∀ H1 : Hp, hid H1 (fun _ => False) = H1 := fun H1 => by funext b; unfold hid; rw [if_neg id]
    have sEq : L2.start N [V.ref a] = some (.ref a) :: List.replicate (N.length - 1) none := rfl
    rw [sEq]
    refine p2 (fun _ => False) _ H (some (.scr ns) :: List.replicate (N.length - 1) none) _ _ ⟨ok0, by simp, fun i d e => ?_⟩ (h1 ns (fun d => ∃ cs : List Int, cs ≠ [] ∧ cs.length ≤ 63 ∧ (∀ c ∈ cs, 0 ≤ c) ∧ d = .lst [.lst (cs.map D.int), .int 0, .int 1]) hl fun cs c1 c2 c3 => ⟨cs, c1, c2, c3, rfl⟩) fun v d H1 g1 p1 v1 => ?_
    · cases i with
      | zero =>
        have e' : some (some (D.scr ns)) = some (some d) := e
        cases e'
        exact ⟨.ref a, rfl, by rw [hid0]; exact .scr hS⟩
      | succ i =>
        have e' : (List.replicate (N.length - 1) (none : Option D))[i]? = some (some d) := e
        rw [List.getElem?_replicate] at e'
        split at e' <;> cases e'
    · obtain ⟨cs, c1, c2, c3, rfl⟩ := p1
      rw [hid0] at v1
      cases v1 with
      | @lst da vs ds e0 h0 =>
        cases h0 with
        | cons hc0 t0 =>
          obtain ⟨x, y, rfl, hx, hy⟩ := two_dv t0
          have hx := hx.int_inv
          have hy := hy.int_inv
          subst hx
          subst hy
          cases hc0 with
          | @lst ca ws ds e2 h2' =>
            have := h2'.ints
            subst this
            have ne : da ≠ ca := fun z => by
              rw [z, e2] at e0
              have := Option.some.inj e0
              injection this with this
              cases cs with
              | nil => exact c1 rfl
              | cons c r => rw [List.map_cons] at this; injection this with z1 z2; cases z1
            have di : (drw da ⟨ca, T⟩).I H1 := ⟨⟨cs, 0, 1, e0, e2, ne, c1, c2, by decide, by decide, by decide, c3⟩, fun p hp => LamX.TabS.nil (g1.e p.1 _ (fun n => n) (hT p hp))⟩
            have ok1 : Ok (drw da ⟨ca, T⟩) (fun b => b = da ∨ b = ca ∨ ∃ p ∈ T, p.1 = b) H1 := ⟨di, fun b h => h, fun b h => (drw da ⟨ca, T⟩).liv H1 b di h⟩
            show u _ ((some (.ref a) :: List.replicate (N.length - 1) none).set 1 (some (.ref da))) H1
            have hset : (some (V.ref a) :: List.replicate (N.length - 1) (none : Option V)).set 1 (some (.ref da)) = some (.ref a) :: some (.ref da) :: List.replicate (N.length - 2) none := by
              obtain ⟨n, hn⟩ : ∃ n, N.length = n + 2 := ⟨N.length - 2, by omega⟩
              rw [hn]
              rfl
            rw [hset]
            have notOwn : ∀ i, ¬ ownAt (Sl.dat (.scr ns) :: Sl.dat (.op (.ref da)) :: List.replicate (N.length - 2) Sl.no) i := fun i ⟨s, e, q⟩ => by
              match i with
              | 0 => cases (show some (Sl.dat (.scr ns)) = some s from e); cases q
              | 1 => cases (show some (Sl.dat (.op (.ref da))) = some s from e); cases q
              | i + 2 =>
                have e' : (List.replicate (N.length - 2) Sl.no)[i]? = some s := e
                rw [List.getElem?_replicate] at e'
                split at e' <;> cases e'
                cases q
            have hvol : Same (hid H1 (fun b => b = da ∨ b = ca ∨ ∃ p ∈ T, p.1 = b)) (hid H1 (Vol (fun b => b = da ∨ b = ca ∨ ∃ p ∈ T, p.1 = b) (fun _ => 0) (Sl.dat (.scr ns) :: Sl.dat (.op (.ref da)) :: List.replicate (N.length - 2) Sl.no))) := same_hid_sub fun b h => by
              rcases h with h | ⟨i, h, _⟩
              · exact h
              · exact (notOwn i h).elim
            have hscr : SqL K (hid H1 (fun b => b = da ∨ b = ca ∨ ∃ p ∈ T, p.1 = b)) a (ns.map V.int) := by
              rcases hS with (z | ⟨o, z⟩) | z
              · rcases hO a with n | ⟨o, xs, n⟩ | ⟨ps, n⟩
                · rw [z] at n; cases n
                · rw [z] at n; cases n
                · rw [z] at n; cases n
              · refine .inl (.inr ⟨o, hid_some.mpr ⟨fun n => ?_, g1.e a _ (fun n => n) z⟩⟩)
                have z1 := g1.e a _ (fun n => n) z
                rcases n with n | n | ⟨p, hp, n⟩
                · rw [n, e0] at z1; cases z1
                · rw [n, e2] at z1; cases z1
                · rw [← n, hT p hp] at z; cases z
              · exact .inr z
            refine u2 da ⟨ca, T⟩ rfl (fun b => b = da ∨ b = ca ∨ ∃ p ∈ T, p.1 = b) H1 (fun _ => 0) _ _ H1 { nx := fun _ => False, rt := fun d => d = .bl true } _ ⟨by simp, ok1, Ext.refl, ok1.l, fun i d e => ?_, fun i d e => (notOwn i ⟨_, e, rfl⟩).elim, fun i d e => (notOwn i ⟨_, e, rfl⟩).elim, fun i h => (notOwn i h).elim, fun i j h => (notOwn i h).elim, fun x hx => nomatch hx⟩ ((h2 da ⟨ca, T⟩ rfl).choose_spec.2 ns hl) ⟨fun al ρ σ H' r h => h.elim, fun v d H' e i h hv => ?_, fun al ρ σ H' r h => h.elim, fun al ρ σ H' r h => h.elim⟩
            · match i with
              | 0 =>
                cases (show some (Sl.dat (.scr ns)) = some (Sl.dat d) from e)
                exact ⟨.ref a, rfl, (DV.scr hscr).mono hvol⟩
              | 1 =>
                cases (show some (Sl.dat (.op (.ref da))) = some (Sl.dat d) from e)
                exact ⟨.ref da, rfl, .op _⟩
              | i + 2 =>
                have e' : (List.replicate (N.length - 2) Sl.no)[i]? = some (Sl.dat d) := e
                rw [List.getElem?_replicate] at e'
                split at e' <;> cases e'
            · have h : d = .bl true := h
              subst h
              rw [hv.bl_inv]
              exact q H'
/-- .. where no lambda is made -/
theorem law_of {st : Stmt} {N : List Str} {k : Nat} {f : Addr} {fd : FuncData} (FF : Fun K "law" "law" st f fd) (S : FnScope N ["script"] (defScope st)) (hN1 : 2 ≤ N.length)
    (body : ∀ (f : Addr) (cdv : Value) (A : Around) (fr : List Env) (s : Shared) (H : Hp) (E : XK), A.guards = some [] → Room k (A.deeper (envOfC "law" (defScope st) s.heap.objs.size f cdv)) →
      ∃ (st1 : Stmt) (rest : List Stmt) (td : TD), defBody st = st1 :: rest ∧ (∃ te, PS (cxOf CX0 P w K mg base N "law" (defScope st) f cdv A fr s H E).nox st1 (tAsg te (gName 1)) ∧ EvD K cf0 te td) ∧
        (∀ (ns : List Int) (R : D → Prop), ns.length ≤ 63 → (∀ cs : List Int, cs ≠ [] → cs.length ≤ 63 → (∀ c ∈ cs, 0 ≤ c) → R (.lst [.lst (cs.map D.int), .int 0, .int 1])) → td (some (.scr ns) :: List.replicate (N.length - 1) none) R) ∧
        ∀ (da : Addr) (ca : CA), ∃ ts, DSs (cxOf CX0 P w K mg base N "law" (defScope st) f cdv A fr s H E).nox (drw da ca) rest ts ∧
          ∀ ns : List Int, ns.length ≤ 63 → ts { nx := fun _ => False, rt := fun d => d = .bl true } (.dat (.scr ns) :: .dat (.op (.ref da)) :: List.replicate (N.length - 2) .no)) : FnG P w K mg base CX0 (k + 1) f fd ["script"] (spLaw K) := by
  refine law_ofT FF S hN1 fun f cdv A fr s H E hgd hr => ?_
  obtain ⟨st1, rest, td, h1, h2, h3, h4⟩ := body f cdv A fr s H E hgd hr
  exact ⟨st1, rest, td, h1, h2, h3, fun da ca _ => h4 da ca⟩
end
end L3
namespace L3
open PySem PySem.Spec PyProof.Rows L2

/-! ### a law's row, from what its def is worth -/
section
variable {P : Program} {w : World} {K : PySem.W.Frag} {mg mb : Str → Option Value} {k : Nat} {fa a : Addr} {fd : FuncData} {x : Str} {s1 : Shared} {vs : List Value} {ns : List Int}
/-- the script as an object that is only read -/
def scrO (vs : List Value) : Obj := { cls := .type "list", data := .seq vs.toArray }
open Classical in
/-- what is followed at the law's entry: the script, if the text's own part doesn't hold it -/
noncomputable def entH (K : PySem.W.Frag) (a : Addr) (vs : List Value) (ns : List Int) : Hp := fun b => if b = a ∧ K.lookup a = none then some (.frz (scrO vs) (.lst (ns.map V.int))) else none
theorem entH_some {b : Addr} {o : HO} (h : entH K a vs ns b = some o) : b = a ∧ K.lookup a = none ∧ o = .frz (scrO vs) (.lst (ns.map V.int)) := by
  unfold entH at h
  split at h
  · rename_i z; exact ⟨z.1, z.2, (Option.some.inj h).symm⟩
  · cases h
theorem law_go (KX : K.In s1.heap) (hns : s1.heap.Ns mainGlobals mg) (hb : s1.heap.Ns builtinsNs mb) (hbb : ∀ x : Str, x ≠ "__name__" → mb x = bootBuiltins x) (hlim : s1.heap.NoLimit) (hg : s1.gens = #[])
    (ha : s1.heap.get? a = some (scrO vs)) (hi : IntsAre vs ns) (hl : ns.length ≤ 63) (hr : Room k callerA) (hgd : callerA.guards = some [])
    (F : ∀ base : Heap, K.In base → base.Ns mainGlobals mg → FnG P w K mg base CX0 k fa fd [x] (spLaw K)) (hbind : ∀ (s : Shared) (u : Value), BindsTo s fd ⟨[u], []⟩ [(x, u)]) :
    codeAny (model P w) callerA (.call (.ref fa) ⟨[.ref a], []⟩) (fun r s' => r = .ok (.ret (.bool true)) ∧ OldK s1.heap s'.heap ∧ s'.os = s1.os ∧ AllBare s'.gens) s1 := by
  have rv := vals_ints hi
  have hsz : (ns.map V.int).length ≤ sizeLine := by rw [List.length_map]; exact Nat.le_trans hl (by decide)
  generalize hH : entH K a vs ns = H
  have Hs : ∀ {b : Addr} {o : HO}, H b = some o → b = a ∧ K.lookup a = none ∧ o = .frz (scrO vs) (.lst (ns.map V.int)) := fun h => entH_some (by rw [hH]; exact h)
  have hS : SqL K H a (ns.map V.int) := by
    cases e : K.lookup a with
    | none =>
      refine .inl (.inr ⟨scrO vs, ?_⟩)
      rw [← hH]
      exact if_pos ⟨rfl, e⟩
    | some o =>
      have z := KX a o e
      rw [ha] at z
      cases z
      exact .inr ⟨_, vs.toArray, _, e, rfl, rfl, rfl, by rw [List.size_toArray, ← rv.length]; exact hsz, by simpa using rv⟩
  have hok : HOk P w H s1.heap := fun b o e => by
    obtain ⟨rfl, _, rfl⟩ := Hs e
    exact ⟨ha, hsz, vs, _, rv, ha⟩
  have hO : OnlyT H := fun b => by
    cases e : H b with
    | none => exact .inl rfl
    | some o => obtain ⟨_, _, rfl⟩ := Hs e; exact .inr (.inl ⟨_, _, rfl⟩)
  have noA : ∀ {b : Addr} {o : Obj} {es : Array DictEntry} {ep : Nat}, s1.heap.get? b = some o → o.data = .dict es ep → H b = none := fun {b o es ep} e d => by
    cases q : H b with
    | none => rfl
    | some u =>
      obtain ⟨rfl, _⟩ := Hs q
      rw [ha] at e
      cases e
      cases d
  have nsK : ∀ {b : Addr} {m : Str → Option Value}, s1.heap.Ns b m → (hidT s1.heap H).Ns b m := fun {b m} ⟨o, es, ep, e, d, r⟩ => ⟨o, es, ep, hidT_get e (noA e d), d, r⟩
  have hKb : K.In (hidT s1.heap H) := fun b o e => hidT_get (KX b o e) (by
    cases q : H b with
    | none => rfl
    | some u => obtain ⟨rfl, z, _⟩ := Hs q; rw [z] at e; cases e)
  have hM : Mod K mg (hidT s1.heap H) := ⟨hKb, nsK hns, ⟨mb, nsK hb, hbb⟩, let ⟨mc, h1, h2⟩ := hlim; ⟨mc, nsK h1, h2⟩⟩
  have e0 : Env0 P w K mg (hidT s1.heap H) callerA [] s1 H := ⟨rfl, hM, fun b o e => of_hidT e, Nat.le_of_eq (hidT_size _ _), trivial, (fun b hb => nomatch hb), hok, .of_eq hg⟩
  have run := (F _ hKb (nsK hns)).go callerA [] s1 H ⟨[.ref a], []⟩ [.ref a] [.ref a] (fun v _ => v = .bl true) (fun _ _ _ => False) hgd hr e0 (hbind s1 (.ref a)) (.cons rfl .nil) ⟨a, ns, rfl, hS, hl, hO, (fun _ h => nomatch h), fun _ => rfl⟩
  refine codeAny_mono run fun r s' h => ?_
  rcases r with e | (_ | _ | _ | u)
  · exact h.elim
  · exact h.elim
  · exact h.elim
  · exact h.elim
  · obtain ⟨v, H', os, bare, un, hok', r', q⟩ := h
    have q : v = .bl true := q
    subst q
    cases r'
    refine ⟨rfl, OldK.of_keep fun b o e => ?_, os, bare⟩
    cases q : H b with
    | none => exact un.keep b o e q (fun z => nomatch z) (fun z => nomatch z)
    | some u =>
      obtain ⟨rfl, _, rfl⟩ := Hs q
      obtain ⟨e1, _⟩ := hok' b _ (un.frzs b _ _ q)
      rw [ha] at e
      cases e
      exact e1
end
theorem walk_law {l : PySem.W.OpenLaw} {k : Nat} {q : Program} {loose : List Str} {XP : (Str → Option Value) → Heap → Prop} {YP : World → Heap → Prop} {d : DefRec} {K : Params → PySem.W.Frag} {x : Str}
    (hn : l.most = some 63) (hdf : d.params.defaults = []) (hr : Room k callerA) (hY : ∀ (w : World) (h : Heap), YP w h → (K w.params).In h)
    (F : ∀ (w : World) (mg : Str → Option Value) (fa : Addr) (h : Heap), (K w.params).In h → h.Ns mainGlobals mg → mg d.name = some (.ref fa) →
      ∃ fd : FuncData, (∀ (s : Shared) (u : Value), BindsTo s fd ⟨[u], []⟩ [(x, u)]) ∧ ∀ base : Heap, (K w.params).In base → base.Ns mainGlobals mg → FnG l.prog w (K w.params) mg base CX0 k fa fd [x] (spLaw (K w.params))) :
    PySem.W.WalkO q loose XP YP l.row.toRowW d [] (fun f vs => PySem.call f vs) := by
  refine Att.attach_call hn hdf fun w s0 s1 mg mb fa o pm cd doc a vs ns G Y ho hd hcd hmg hobj hints hlen hg => ?_
  have KX := hY w _ Y
  obtain ⟨fd, hb, hF⟩ := F w mg fa _ KX G.T.g hmg
  exact law_go KX G.T.g G.T.b G.T.builtins G.T.nolimit hg hobj hints hlen hr rfl hF hb
end L3
namespace L3
open PySem PySem.Spec PyProof.Rows L2

/-! ### values that become lists or dicts of the def's own -/
/-- what stands at p, all hidden objects left out -/
def OwnOk (K : PySem.W.Frag) (S : AS) (p : Addr) (s : Sl) (H : Hp) : Prop := match s with
  | .own ds => ∃ ws, H p = some (.lst ws) ∧ DVs K (hid H S) ws ds
  | .owd ks => ∃ ws, H p = some (.dK ws) ∧ DKs K (hid H S) ws ks
  | _ => False
def ext1 (S : AS) (p : Addr) : AS := fun a => S a ∨ a = p
abbrev TSl := En → (Sl → Prop) → Prop
abbrev TSls := En → (List Sl → Prop) → Prop
def EvF (K : PySem.W.Frag) (C : Cf) (te : TE) (tf : TSl) : Prop := ∀ (S : AS) (σ : L2.St) (H : Hp) (E : En) (P : Sl → Prop) (Q : VK), Rel K C S E σ H → tf E P →
  (∀ p s H', Go C H H' → P s → H p = none → OwnOk K (ext1 S p) p s H' → Q (.ref p) H') → te σ H Q
/-- an expression that makes a new list, a new dict -/
structure DF (X : Cx) (C : Cf) (e : Expr) (tf : TSl) : Prop where
  ex : ∃ te, PE X e te ∧ EvF X.K C te tf
theorem same_ext1 {C : Cf} {S : AS} {H H' : Hp} {p : Addr} (ok : Ok C S H) (np : H p = none) (g : Go C H H') : Same (hid H S) (hid H' (ext1 S p)) := fun a o e => by
  obtain ⟨e1, e2⟩ := hid_some.mp e
  refine hid_some.mpr ⟨fun z => ?_, g.e a o (fun z => e1 (ok.g a z)) e2⟩
  rcases z with z | z
  · exact e1 z
  · exact ne_of_none e2 np z
theorem OwnOk.some {K : PySem.W.Frag} {S : AS} {p : Addr} {s : Sl} {H : Hp} (h : OwnOk K S p s H) : ∃ o, H p = Option.some o := by
  cases s with
  | own ds => obtain ⟨ws, e, _⟩ := h; exact ⟨_, e⟩
  | owd ds => obtain ⟨ws, e, _⟩ := h; exact ⟨_, e⟩
  | no => exact h.elim
  | dat d => exact h.elim
theorem OwnOk.isOwn {K : PySem.W.Frag} {S : AS} {p : Addr} {s : Sl} {H : Hp} (h : OwnOk K S p s H) : s.isOwn = true := by
  cases s with
  | own ds => rfl
  | owd ds => rfl
  | no => exact h.elim
  | dat d => exact h.elim
theorem OwnOk.mono {K : PySem.W.Frag} {S S' : AS} {p : Addr} {s : Sl} {H H' : Hp} (h : OwnOk K S p s H) (e : ∀ o, H p = Option.some o → H' p = Option.some o) (m : Same (hid H S) (hid H' S')) : OwnOk K S' p s H' := by
  cases s with
  | own ds => obtain ⟨ws, e1, e2⟩ := h; exact ⟨ws, e _ e1, e2.mono m⟩
  | owd ds => obtain ⟨ws, e1, e2⟩ := h; exact ⟨ws, e _ e1, e2.mono m⟩
  | no => exact h.elim
  | dat d => exact h.elim
section
variable {X : Cx} {C : Cf} {e : Expr} {es : List Expr} {td : TD} {tds : TDs} {pos : Pos}
/-- [a, b, ..] -/
def oLst (t : TDs) : TSl := fun E P => t E fun ds => ds.length ≤ 100000 ∧ P (.own ds)
theorem df_lst (h : DA X C es tds) : DF X C (.List es pos) (oLst tds) := by
  obtain ⟨ta, h1, h2⟩ := h.ex
  refine ⟨⟨_, pe_lst h1, fun S σ H E P Q r hp q => ?_⟩⟩
  refine h2 S σ H E _ _ r hp fun vs ds H1 g1 p1 v1 => ⟨small_line (by rw [v1.len]; exact p1.1), fun p np => ?_⟩
  have ok1 := r.ok.go g1
  have gn : Go C H1 (upd H1 p (.lst vs)) := Go.new ok1 np
  have np0 : H p = none := by
    cases e : H p with
    | none => rfl
    | some o => rw [g1.e p o (fun z => ok1.fresh np (ok1.g p z)) e] at np; cases np
  exact q p _ _ (g1.trans gn) p1.2 np0 ⟨vs, upd_same, v1.mono (same_ext1 ok1 np gn)⟩
def oDic : TSl := fun _ P => P (.owd [])
theorem df_dic : DF X C (.Dict [] [] pos) oDic := by
  refine ⟨⟨_, pe_dnewK, fun S σ H E P Q r hp q p np => ?_⟩⟩
  have gn : Go C H (upd H p (.dK [])) := Go.new r.ok np
  exact q p _ _ gn hp np ⟨[], upd_same, .nil⟩
/-- list(x) -/
def oLstOf (t : TDs) : TSl := fun E P => t E fun ds => match ds with
  | [.lst ds] => P (.own ds)
  | [.tup ds] => P (.own ds)
  | _ => False
theorem df_listOf {p' : Pos} (hg : Gl X "list") (hm : X.mg "list" = none) (ha : DA X C [e] tds) (he : starEach [e] X.env = (false, eval e X.env) :: starEach [] X.env := by rfl) (hpl : (backTo pos (starEach [] X.env)).any (·.1) = false := by rfl) :
    DF X C (.Call (.Name "list" p') [e] [] pos) (oLstOf tds) := by
  obtain ⟨ta, h1, h2⟩ := ha.ex
  refine ⟨⟨_, pe_callTy call_list_of hg hm boot_list h1 (by decide) (by decide) he hpl, fun S σ H E P Q r hp q => ?_⟩⟩
  refine h2 S σ H E _ _ r hp fun vs ds H1 g1 p1 v1 => ?_
  have ok1 := r.ok.go g1
  have fin : ∀ (ws : List V) (es : List D), DVs X.K (hid H1 S) ws es → P (.own es) → ∀ l, H1 l = none → Q (.ref l) (upd H1 l (.lst ws)) := fun ws es hw hP l nl => by
    have gn : Go C H1 (upd H1 l (.lst ws)) := Go.new ok1 nl
    have nl0 : H l = none := by
      cases e : H l with
      | none => rfl
      | some o => rw [g1.e l o (fun z => ok1.fresh nl (ok1.g l z)) e] at nl; cases nl
    exact q l _ _ (g1.trans gn) hP nl0 ⟨ws, upd_same, hw.mono (same_ext1 ok1 nl gn)⟩
  match ds, p1 with
  | [.lst ds], p1 =>
    obtain ⟨v, rfl, hd⟩ := one_dv v1
    obtain ⟨a, ws, rfl, e, hw⟩ := two_lists ok1 hd
    exact ⟨a, ws, rfl, .inl (.inl (.inl e)), fin ws ds hw p1⟩
  | [.tup ds], p1 =>
    obtain ⟨v, rfl, hd⟩ := one_dv v1
    obtain ⟨a, ws, rfl, e, hw⟩ := two_tups ok1 hd
    exact ⟨a, ws, rfl, .inr e, fin ws ds hw p1⟩
end

/-! ### several at once -/
/-- values and slots, side by side; N: the new objects among them -/
structure SlsR (K : PySem.W.Frag) (S : AS) (H0 H : Hp) (al : Nat → Addr) (vs : List V) (ss : List Sl) : Prop where
  len : vs.length = ss.length
  dat : ∀ (i : Nat) (d : D), ss[i]? = some (.dat d) → ∃ v, vs[i]? = some v ∧ DV K (hid H (fun a => S a ∨ ∃ j, ownAt ss j ∧ al j = a)) v d
  own : ∀ (i : Nat) (s : Sl), ss[i]? = some s → s.isOwn = true → vs[i]? = some (.ref (al i)) ∧ H0 (al i) = none ∧ OwnOk K (fun a => S a ∨ ∃ j, ownAt ss j ∧ al j = a) (al i) s H
  inj : ∀ i j, ownAt ss i → ownAt ss j → al i = al j → i = j
def EvK (K : PySem.W.Frag) (C : Cf) (ta : TA) (tk : TSls) : Prop := ∀ (S : AS) (σ : L2.St) (H : Hp) (E : En) (P : List Sl → Prop) (Q : List V → Hp → Prop), Rel K C S E σ H → tk E P →
  (∀ vs ss H' al, Go C H H' → P ss → SlsR K S H H' al vs ss → Q vs H') → ta σ H Q
structure DKa (X : Cx) (C : Cf) (es : List Expr) (tk : TSls) : Prop where
  ex : ∃ ta, PA X es ta ∧ EvK X.K C ta tk
theorem ownAt_cons {s : Sl} {ss : List Sl} {i : Nat} : ownAt (s :: ss) i ↔ (i = 0 ∧ s.isOwn = true) ∨ ∃ j, i = j + 1 ∧ ownAt ss j := by
  constructor
  · rintro ⟨t, e, q⟩
    cases i with
    | zero => cases (show some s = some t from e); exact .inl ⟨rfl, q⟩
    | succ j => exact .inr ⟨j, rfl, t, e, q⟩
  · rintro (⟨rfl, q⟩ | ⟨j, rfl, t, e, q⟩)
    · exact ⟨s, rfl, q⟩
    · exact ⟨t, e, q⟩
def kNil : TSls := fun _ P => P []
def kDat (t : TD) (r : TSls) : TSls := fun E P => t E fun d => r E fun ss => P (.dat d :: ss)
def kOwn (t : TSl) (r : TSls) : TSls := fun E P => t E fun s => r E fun ss => P (s :: ss)
section
variable {X : Cx} {C : Cf} {e : Expr} {es : List Expr} {td : TD} {tf : TSl} {tk : TSls}
theorem dka_nil : DKa X C [] kNil := ⟨⟨_, pa_nil, fun S σ H E P Q r h q => q [] [] H (fun _ => 0) (Go.refl r.ok) h ⟨rfl, (fun i d e => nomatch e), (fun i s e => nomatch e), (fun i j h => by obtain ⟨s, e, _⟩ := h; cases e)⟩⟩⟩
theorem dka_dat (h : DE X C e td) (t : DKa X C es tk) (hs : starEach (e :: es) X.env = (false, eval e X.env) :: starEach es X.env := by rfl) : DKa X C (e :: es) (kDat td tk) := by
  obtain ⟨te, h1, h2⟩ := h.ex
  obtain ⟨ta, t1, t2⟩ := t.ex
  refine ⟨⟨_, pa_cons h1 t1 hs, fun S σ H E P Q r hp q => ?_⟩⟩
  refine h2 S σ H E _ _ r hp fun v d H1 g1 p1 v1 => ?_
  refine t2 S σ H1 E _ _ (r.go g1) p1 fun vs ss H2 al g2 p2 R => ?_
  have ok1 := r.ok.go g1
  have hN : ∀ a, (S a ∨ ∃ j, ownAt (Sl.dat d :: ss) j ∧ (fun i => al (i - 1)) j = a) ↔ (S a ∨ ∃ j, ownAt ss j ∧ al j = a) := fun a => by
    constructor
    · rintro (z | ⟨j, z, e⟩)
      · exact .inl z
      · rcases ownAt_cons.mp z with ⟨_, z⟩ | ⟨k, rfl, z⟩
        · cases z
        · exact .inr ⟨k, z, e⟩
    · rintro (z | ⟨j, z, e⟩)
      · exact .inl z
      · exact .inr ⟨j + 1, ownAt_cons.mpr (.inr ⟨j, rfl, z⟩), e⟩
  have hNe : (fun a => S a ∨ ∃ j, ownAt (Sl.dat d :: ss) j ∧ (fun i => al (i - 1)) j = a) = fun a => S a ∨ ∃ j, ownAt ss j ∧ al j = a := funext fun a => propext (hN a)
  have keep : Same (hid H1 S) (hid H2 (fun a => S a ∨ ∃ j, ownAt ss j ∧ al j = a)) := fun a o e => by
    obtain ⟨e1, e2⟩ := hid_some.mp e
    refine hid_some.mpr ⟨fun z => ?_, g2.e a o (fun z => e1 (ok1.g a z)) e2⟩
    rcases z with z | ⟨j, ⟨s, ej, oj⟩, rfl⟩
    · exact e1 z
    · rw [(R.own j s ej oj).2.1] at e2; cases e2
  refine q _ _ H2 (fun i => al (i - 1)) (g1.trans g2) p2 ⟨by simp [R.len], fun i d' e => ?_, fun i s e o => ?_, fun i j a b e => ?_⟩
  · rw [hNe]
    cases i with
    | zero => cases (show some (Sl.dat d) = some (Sl.dat d') from e); exact ⟨v, rfl, v1.mono keep⟩
    | succ i => exact R.dat i d' e
  · rw [hNe]
    cases i with
    | zero => cases (show some (Sl.dat d) = some s from e); cases o
    | succ i =>
      obtain ⟨a1, a2, a3⟩ := R.own i s e o
      refine ⟨a1, ?_, a3⟩
      show H (al i) = none
      cases e : H (al i) with
      | none => rfl
      | some o' =>
        have ng : ¬ C.G (al i) := fun z => ok1.l _ (ok1.g _ z) a2
        rw [g1.e _ o' ng e] at a2; cases a2
  · rcases ownAt_cons.mp a with ⟨_, z⟩ | ⟨k, rfl, a⟩
    · cases z
    · rcases ownAt_cons.mp b with ⟨_, z⟩ | ⟨l, rfl, b⟩
      · cases z
      · exact congrArg (· + 1) (R.inj k l a b e)
theorem dka_own (h : DF X C e tf) (t : DKa X C es tk) (hs : starEach (e :: es) X.env = (false, eval e X.env) :: starEach es X.env := by rfl) : DKa X C (e :: es) (kOwn tf tk) := by
  obtain ⟨te, h1, h2⟩ := h.ex
  obtain ⟨ta, t1, t2⟩ := t.ex
  refine ⟨⟨_, pa_cons h1 t1 hs, fun S σ H E P Q r hp q => ?_⟩⟩
  refine h2 S σ H E _ _ r hp fun p s H1 g1 p1 np o1 => ?_
  have ok1 := r.ok.go g1
  have nSp : ¬ S p := r.ok.fresh np
  have nGp : ¬ C.G p := fun z => nSp (r.ok.g p z)
  have okS : Ok C (ext1 S p) H1 := ⟨g1.i, fun a z => .inl (r.ok.g a z), fun a z => by
    rcases z with z | rfl
    · exact ok1.l a z
    · obtain ⟨o, e⟩ := o1.some; rw [e]; intro z; cases z⟩
  have rel1 : Rel X.K C (ext1 S p) E σ H1 := ⟨okS, r.len, fun i d e => by
    obtain ⟨v, a1, a2⟩ := r.at_ i d e
    exact ⟨v, a1, a2.mono (same_ext1 r.ok np g1)⟩⟩
  refine t2 (ext1 S p) σ H1 E _ _ rel1 p1 fun vs ss H2 al g2 p2 R => ?_
  have so := o1.isOwn
  have nal : ∀ {j}, ownAt ss j → al j ≠ p := fun ⟨s', ej, oj⟩ z => by
    obtain ⟨_, a2, _⟩ := R.own _ s' ej oj
    obtain ⟨o, e⟩ := o1.some
    rw [z, e] at a2; cases a2
  have hNe : (fun a => S a ∨ ∃ j, ownAt (s :: ss) j ∧ (fun i => if i = 0 then p else al (i - 1)) j = a) = fun a => ext1 S p a ∨ ∃ j, ownAt ss j ∧ al j = a := funext fun a => propext (by
    constructor
    · rintro (z | ⟨j, z, e⟩)
      · exact .inl (.inl z)
      · rcases ownAt_cons.mp z with ⟨rfl, _⟩ | ⟨k, rfl, z⟩
        · exact .inl (.inr e.symm)
        · exact .inr ⟨k, z, e⟩
    · rintro ((z | z) | ⟨j, z, e⟩)
      · exact .inl z
      · exact .inr ⟨0, ownAt_cons.mpr (.inl ⟨rfl, so⟩), z.symm⟩
      · exact .inr ⟨j + 1, ownAt_cons.mpr (.inr ⟨j, rfl, z⟩), e⟩)
  have keep : Same (hid H1 (ext1 S p)) (hid H2 (fun a => ext1 S p a ∨ ∃ j, ownAt ss j ∧ al j = a)) := fun a o e => by
    obtain ⟨e1, e2⟩ := hid_some.mp e
    refine hid_some.mpr ⟨fun z => ?_, g2.e a o (fun z => e1 (okS.g a z)) e2⟩
    rcases z with z | ⟨j, ⟨s, ej, oj⟩, rfl⟩
    · exact e1 z
    · rw [(R.own j s ej oj).2.1] at e2; cases e2
  refine q _ _ H2 (fun i => if i = 0 then p else al (i - 1)) (g1.trans g2) p2 ⟨by simp [R.len], fun i d' e => ?_, fun i s' e o => ?_, fun i j a b e => ?_⟩
  · rw [hNe]
    cases i with
    | zero => cases (show some s = some (Sl.dat d') from e); cases so
    | succ i => exact R.dat i d' e
  · rw [hNe]
    cases i with
    | zero =>
      cases (show some s = some s' from e)
      exact ⟨rfl, np, o1.mono (fun o e => g2.e p o nGp e) keep⟩
    | succ i =>
      obtain ⟨a1, a2, a3⟩ := R.own i s' e o
      refine ⟨a1, ?_, a3⟩
      show H (al i) = none
      cases e : H (al i) with
      | none => rfl
      | some o' =>
        have ng : ¬ C.G (al i) := fun z => okS.l _ (okS.g _ z) a2
        rw [g1.e _ o' ng e] at a2; cases a2
  · have e : (if i = 0 then p else al (i - 1)) = (if j = 0 then p else al (j - 1)) := e
    rcases ownAt_cons.mp a with ⟨rfl, _⟩ | ⟨k, rfl, a⟩ <;> rcases ownAt_cons.mp b with ⟨rfl, _⟩ | ⟨l, rfl, b⟩
    · rfl
    · rw [if_pos rfl, if_neg (by omega)] at e
      exact absurd e.symm (nal b)
    · rw [if_pos rfl, if_neg (by omega)] at e
      exact absurd e (nal a)
    · rw [if_neg (by omega), if_neg (by omega)] at e
      exact congrArg (· + 1) (R.inj k l a b e)
end
/-! ### slots set, one after another -/
def sets {α : Type} (l : List α) : List (Nat × α) → List α
  | [] => l
  | (i, x) :: r => sets (l.set i x) r
def setRho (ρ : Rho) : List Nat → List Sl → Rho
  | i :: is, s :: ss => setRho (ρ.set i s) is ss
  | _, _ => ρ
def setSt (σ : L2.St) : List Nat → List V → L2.St
  | i :: is, v :: vs => setSt (σ.set i (some v)) is vs
  | _, _ => σ
/-- the new objects of a row of values are put into slots -/
theorem EnvR.setAll {K : PySem.W.Frag} {C : Cf} {S0 : AS} {H0 : Hp} {gs : Gs} : ∀ (is : List Nat) (vs : List V) (ss : List Sl) {al al2 : Nat → Addr} {ρ : Rho} {σ : L2.St} {H H2 : Hp} {T : AS}, is.length = ss.length → (∀ i ∈ is, i < ρ.length) → is.Nodup →
    EnvR K C S0 H0 gs al ρ σ H → Go C H H2 → (∀ a, T a ↔ (Vol S0 al ρ a)) → SlsR K T H H2 al2 vs ss → ∃ al3, EnvR K C S0 H0 gs al3 (setRho ρ is ss) (setSt σ is vs) H2 := by
  intro is vs ss al al2 ρ σ H H2 T hlen hin hnd r g hT R
  have hTe : T = Vol S0 al ρ := funext fun a => propext (hT a)
  subst hTe
  have r2 := r.go g
  -- which place of the row a slot takes
  have get : ∀ (is : List Nat) (ss : List Sl) (ρ : Rho), is.Nodup → is.length = ss.length → (∀ i ∈ is, i < ρ.length) → ∀ (j : Nat), (setRho ρ is ss)[j]? = (match is.idxOf? j with | some k => ss[k]? | none => ρ[j]?) := by
    intro is
    induction is with
    | nil => intro ss ρ _ _ _ j; cases ss <;> rfl
    | cons i is ih =>
      intro ss ρ hnd hl hi j
      cases ss with
      | nil => cases hl
      | cons s ss =>
        show (setRho (ρ.set i s) is ss)[j]? = _
        rw [ih ss (ρ.set i s) (List.nodup_cons.mp hnd).2 (Nat.succ.inj hl) (fun x hx => by rw [List.length_set]; exact hi x (List.mem_cons_of_mem _ hx)) j]
        rw [List.idxOf?_cons]
        by_cases e : i = j
        · subst e
          have hn : is.idxOf? i = none := by rw [List.idxOf?_eq_none_iff]; exact (List.nodup_cons.mp hnd).1
          rw [hn]
          simp [hi i List.mem_cons_self]
        · have e' : (i == j) = false := beq_eq_false_iff_ne.mpr e
          rw [e']
          cases is.idxOf? j with
          | none => simp [List.getElem?_set_ne e]
          | some k => simp
  have getS : ∀ (is : List Nat) (vs : List V) (σ : L2.St), is.Nodup → is.length = vs.length → (∀ i ∈ is, i < σ.length) → ∀ (j : Nat), (setSt σ is vs)[j]? = (match is.idxOf? j with | some k => (vs[k]?).map some | none => σ[j]?) := by
    intro is
    induction is with
    | nil => intro vs σ _ _ _ j; cases vs <;> rfl
    | cons i is ih =>
      intro vs σ hnd hl hi j
      cases vs with
      | nil => cases hl
      | cons v vs =>
        show (setSt (σ.set i (some v)) is vs)[j]? = _
        rw [ih vs (σ.set i (some v)) (List.nodup_cons.mp hnd).2 (Nat.succ.inj hl) (fun x hx => by rw [List.length_set]; exact hi x (List.mem_cons_of_mem _ hx)) j]
        rw [List.idxOf?_cons]
        by_cases e : i = j
        · subst e
          have hn : is.idxOf? i = none := by rw [List.idxOf?_eq_none_iff]; exact (List.nodup_cons.mp hnd).1
          rw [hn]
          simp [hi i List.mem_cons_self]
        · have e' : (i == j) = false := beq_eq_false_iff_ne.mpr e
          rw [e']
          cases is.idxOf? j with
          | none => simp [List.getElem?_set_ne e]
          | some k => simp
  have lenR : ∀ (is : List Nat) (ss : List Sl) (ρ : Rho), (setRho ρ is ss).length = ρ.length := by
    intro is
    induction is with
    | nil => intro ss ρ; cases ss <;> rfl
    | cons i is ih => intro ss ρ; cases ss with | nil => rfl | cons s ss => show (setRho (ρ.set i s) is ss).length = _; rw [ih, List.length_set]
  have lenS : ∀ (is : List Nat) (vs : List V) (σ : L2.St), (setSt σ is vs).length = σ.length := by
    intro is
    induction is with
    | nil => intro ss ρ; cases ss <;> rfl
    | cons i is ih => intro vs σ; cases vs with | nil => rfl | cons s ss => show (setSt (σ.set i (some s)) is ss).length = _; rw [ih, List.length_set]
  have gR := get is ss ρ hnd hlen hin
  have gS := getS is vs σ hnd (hlen.trans R.len.symm) (fun i hi => by rw [r.len]; exact hin i hi)
  generalize hal : (fun j => match is.idxOf? j with | some k => al2 k | none => al j) = al3
  have a3some : ∀ {j k}, is.idxOf? j = some k → al3 j = al2 k := fun e => by rw [← hal]; simp only [e]
  have a3none : ∀ {j}, is.idxOf? j = none → al3 j = al j := fun e => by rw [← hal]; simp only [e]
  have own3 : ∀ {j}, ownAt (setRho ρ is ss) j → (∃ k, is.idxOf? j = some k ∧ ownAt ss k) ∨ (is.idxOf? j = none ∧ ownAt ρ j) := fun {j} ⟨s, e, q⟩ => by
    rw [gR j] at e
    cases h : is.idxOf? j with
    | none => rw [h] at e; exact .inr ⟨rfl, s, e, q⟩
    | some k => rw [h] at e; exact .inl ⟨k, rfl, s, e, q⟩
  have newH : ∀ {k}, ownAt ss k → H (al2 k) = none := fun ⟨s, e, q⟩ => (R.own _ s e q).2.1
  have sub : Same (hid H2 (fun a => Vol S0 al ρ a ∨ ∃ j, ownAt ss j ∧ al2 j = a)) (hid H2 (Vol S0 al3 (setRho ρ is ss))) := same_hid_sub fun a h => by
    rcases h with h | ⟨j, h, e⟩
    · exact .inl (.inl h)
    · rcases own3 h with ⟨k, h1, h2⟩ | ⟨h1, h2⟩
      · exact .inr ⟨k, h2, (a3some h1).symm.trans e⟩
      · exact .inl (.inr ⟨j, h2, (a3none h1).symm.trans e⟩)
  have oldS : Same (hid H (Vol S0 al ρ)) (hid H2 (fun a => Vol S0 al ρ a ∨ ∃ j, ownAt ss j ∧ al2 j = a)) := fun a o e => by
    obtain ⟨e1, e2⟩ := hid_some.mp e
    refine hid_some.mpr ⟨fun z => ?_, g.e a o (fun z => e1 (r.vok.g a z)) e2⟩
    rcases z with z | ⟨j, z, rfl⟩
    · exact e1 z
    · rw [newH z] at e2; cases e2
  have nG : ∀ {k}, ownAt ss k → ¬ C.G (al2 k) := fun h z => C.liv H _ r.ok.i z (newH h)
  refine ⟨al3, by rw [lenS, lenR]; exact r.len, r2.ok, r2.ext, r.old, fun j d e => ?_, fun j d e => ?_, fun j d e => ?_, fun j h => ?_, fun i j a b e => ?_, fun x hx => ((r.gh x hx).mono oldS).mono sub⟩
  · rw [gR j] at e
    rw [gS j]
    cases h : is.idxOf? j with
    | none =>
      rw [h] at e
      obtain ⟨v, h1, h2⟩ := r.dat j d e
      exact ⟨v, h1, (h2.mono oldS).mono sub⟩
    | some k =>
      rw [h] at e
      obtain ⟨v, h1, h2⟩ := R.dat k d e
      exact ⟨v, by show (vs[k]?).map some = _; rw [h1]; rfl, h2.mono sub⟩
  · rw [gR j] at e
    rw [gS j]
    cases h : is.idxOf? j with
    | none =>
      rw [h] at e
      obtain ⟨h1, ws, h2, h3⟩ := r.own j d e
      rw [a3none h]
      exact ⟨h1, ws, g.e _ _ (r.notG ⟨_, e, rfl⟩) h2, (h3.mono oldS).mono sub⟩
    | some k =>
      rw [h] at e
      obtain ⟨h1, _, ws, h2, h3⟩ := R.own k _ e rfl
      rw [a3some h]
      exact ⟨by show (vs[k]?).map some = _; rw [h1]; rfl, ws, h2, h3.mono sub⟩
  · rw [gR j] at e
    rw [gS j]
    cases h : is.idxOf? j with
    | none =>
      rw [h] at e
      obtain ⟨h1, ws, h2, h3⟩ := r.owd j d e
      rw [a3none h]
      exact ⟨h1, ws, g.e _ _ (r.notG ⟨_, e, rfl⟩) h2, (h3.mono oldS).mono sub⟩
    | some k =>
      rw [h] at e
      obtain ⟨h1, _, ws, h2, h3⟩ := R.own k _ e rfl
      rw [a3some h]
      exact ⟨by show (vs[k]?).map some = _; rw [h1]; rfl, ws, h2, h3.mono sub⟩
  · rcases own3 h with ⟨k, h1, h2⟩ | ⟨h1, h2⟩
    · rw [a3some h1]
      cases e : H0 (al2 k) with
      | none => rfl
      | some o =>
        have z := r.ext _ o (nG h2) e
        rw [newH h2] at z; cases z
    · rw [a3none h1]; exact r.new j h2
  · rcases own3 a with ⟨k, h1, h2⟩ | ⟨h1, h2⟩ <;> rcases own3 b with ⟨l, h3, h4⟩ | ⟨h3, h4⟩
    · rw [a3some h1, a3some h3] at e
      have := R.inj k l h2 h4 e
      subst this
      rw [List.idxOf?_eq_some_iff] at h1 h3
      exact h1.2.1.symm.trans h3.2.1
    · rw [a3some h1, a3none h3] at e
      obtain ⟨o, z⟩ := r.alive h4
      rw [← e, newH h2] at z; cases z
    · rw [a3none h1, a3some h3] at e
      obtain ⟨o, z⟩ := r.alive h2
      rw [e, newH h4] at z; cases z
    · rw [a3none h1, a3none h3] at e
      exact r.inj i j h2 h4 e
end L3
namespace L3
open PySem PySem.Spec PyProof.Rows L2

def fitsR (is : List Nat) (ρ : Rho) : Bool := is.all fun i => decide (i < ρ.length)
def sPars (is : List Nat) (tk : TSls) : TSd := fun Dn ρ => tk (view ρ) fun ss => ss.length = is.length ∧ fitsR is ρ = true ∧ Dn.nx (setRho ρ is ss)
theorem fits_mem {is : List Nat} {ρ : Rho} (h : fitsR is ρ = true) : ∀ i ∈ is, i < ρ.length := fun i hi => of_decide_eq_true (List.all_eq_true.mp h i hi)
section
variable {X : Cx} {C : Cf} {es : List Expr} {tk : TSls}
theorem ev_pars {ta : TA} {is : List Nat} (hnd : is.Nodup) (h : EvK X.K C ta tk) {t : TS} (ht : ∀ (σ : L2.St) (H : Hp) (D' : Ends), (∀ Q : List V → Hp → Prop, (∀ vs H1, vs.length = is.length → D'.nx (setSt σ is vs) H1 → Q vs H1) → ta σ H Q) → t D' σ H) : EvS X.K C t (sPars is tk) := fun S0 H0 gs al ρ σ H Dn D' r hp g => by
  refine ht σ H D' fun Q q => h _ σ H _ _ _ r.relA hp fun vs ss H1 al2 g1 p1 R => ?_
  obtain ⟨h1, h2, h3⟩ := p1
  obtain ⟨al3, r3⟩ := EnvR.setAll is vs ss h1.symm (fits_mem h2) hnd r g1 (fun a => Iff.rfl) R
  exact q vs H1 (R.len.trans h1) (g.nx al3 _ _ H1 r3 h3)
theorem two_of {α : Type} {l : List α} (h : l.length = 2) : ∃ a b, l = [a, b] := match l, h with | [a, b], _ => ⟨a, b, rfl⟩
theorem three_of {α : Type} {l : List α} (h : l.length = 3) : ∃ a b c, l = [a, b, c] := match l, h with | [a, b, c], _ => ⟨a, b, c, rfl⟩
variable {x y z : Str} {i j l : Nat} {a b c : Expr} {px py pz pt pos : Pos} {kt k2 : Nat} {pt2 : Pos}
theorem ds_pars2 (ni : NmOk X i x) (nj : NmOk X j y) (hij : [i, j].Nodup) (hx : X.env.scope.names.lookup x = some .local) (hy : X.env.scope.names.lookup y = some .local) (hc : X.calm = true) (h : DKa X C [a, b] tk)
    (hw : swappedStores [.Tuple [.Name x px, .Name y py] kt pt] (.Tuple [a, b] k2 pt2) X.env = pure (some [x, y]) := by rfl) (hs : swapsWithSole [.Tuple [.Name x px, .Name y py] kt pt] (.Tuple [a, b] k2 pt2) pos.line X.env = pure false := by rfl) :
    DS X C (.Assign [.Tuple [.Name x px, .Name y py] kt pt] (.Tuple [a, b] k2 pt2) pos) (sPars [i, j] tk) := by
  obtain ⟨ta, a1, a2⟩ := h.ex
  have hne : i ≠ j := fun z => by subst z; simp at hij
  refine ⟨⟨_, ps_par hc ni.nd ni.at_ nj.at_ hne hx hy a1 hw hs, ev_pars hij a2 fun σ H D' q => q _ fun vs H1 hl hn => ?_⟩⟩
  obtain ⟨v, w, rfl⟩ := two_of hl
  exact ⟨v, w, rfl, hn⟩
theorem nodup3 {i j l : Nat} (h : [i, j, l].Nodup) : i ≠ j ∧ i ≠ l ∧ j ≠ l := by
  simp at h
  exact ⟨fun z => h.1.1 z, fun z => h.1.2 z, fun z => h.2 z⟩
theorem ds_pars3 (ni : NmOk X i x) (nj : NmOk X j y) (nl : NmOk X l z) (hij : [i, j, l].Nodup) (hx : X.env.scope.names.lookup x = some .local) (hy : X.env.scope.names.lookup y = some .local) (hz : X.env.scope.names.lookup z = some .local) (hc : X.calm = true) (h : DKa X C [a, b, c] tk)
    (hw : swappedStores [.Tuple [.Name x px, .Name y py, .Name z pz] kt pt] (.Tuple [a, b, c] k2 pt2) X.env = pure (some [x, y, z]) := by rfl) (hs : swapsWithSole [.Tuple [.Name x px, .Name y py, .Name z pz] kt pt] (.Tuple [a, b, c] k2 pt2) pos.line X.env = pure false := by rfl) :
    DS X C (.Assign [.Tuple [.Name x px, .Name y py, .Name z pz] kt pt] (.Tuple [a, b, c] k2 pt2) pos) (sPars [i, j, l] tk) := by
  obtain ⟨ta, a1, a2⟩ := h.ex
  obtain ⟨n1, n2, n3⟩ := nodup3 hij
  refine ⟨⟨_, ps_par3 hc ni.nd ni.at_ nj.at_ nl.at_ n1 n2 n3 hx hy hz a1 hw hs, ev_pars hij a2 fun σ H D' q => q _ fun vs H1 hl hn => ?_⟩⟩
  obtain ⟨u, v, w, rfl⟩ := three_of hl
  exact ⟨u, v, w, rfl, hn⟩
theorem same_at_tup {K : PySem.W.Frag} {T : Addr} {xs : List V} {H : Hp} : SqT K (upd H T (.tup xs)) T xs := .inl (.inl upd_same)
/-- the same by way of a tuple: a name is a cell -/
theorem ds_parsT2 (ni : NmOk X i x) (nj : NmOk X j y) (hij : [i, j].Nodup) (hc : X.calm = true) (h : DKa X C [a, b] tk)
    (hs : swapsWithSole [.Tuple [.Name x px, .Name y py] kt pt] (.Tuple [a, b] k2 pt2) pos.line X.env = pure false := by rfl) (hw : swappedStores [.Tuple [.Name x px, .Name y py] kt pt] (.Tuple [a, b] k2 pt2) X.env = pure none := by rfl)
    (h1 : (assignEach [.Tuple [.Name x px, .Name y py] kt pt] X.env).map (·.2) = [assign (.Tuple [.Name x px, .Name y py] kt pt) X.env] := by rfl)
    (hs1 : (assignEach [.Name x px, .Name y py] X.env).map (·.2) = assign (.Name x px) X.env :: (assignEach [.Name y py] X.env).map (·.2) := by rfl) (hs2 : (assignEach [.Name y py] X.env).map (·.2) = assign (.Name y py) X.env :: (assignEach [] X.env).map (·.2) := by rfl)
    (hn : (assignEach [.Name x px, .Name y py] X.env).length = 2 := by rfl) (hst : (assignEach [.Name x px, .Name y py] X.env).findIdx? (·.1) = none := by rfl) :
    DS X C (.Assign [.Tuple [.Name x px, .Name y py] kt pt] (.Tuple [a, b] k2 pt2) pos) (sPars [i, j] tk) := by
  obtain ⟨ta, a1, a2⟩ := h.ex
  refine ⟨⟨_, ps_asg (pe_tup a1) (pg_tup hc (pgs_cons (pg_name ni.nd ni.at_ ni.loc ni.fn) (pgs_cons (pg_name nj.nd nj.at_ nj.loc nj.fn) pgs_nil hs2) hs1) hn hst) hs hw h1, fun S0 H0 gs al ρ σ H Dn D' r hp g => ?_⟩⟩
  refine a2 _ σ H _ _ _ r.relA hp fun vs ss H1 al2 g1 p1 R => ?_
  obtain ⟨l1, l2, l3⟩ := p1
  obtain ⟨al3, r3⟩ := EnvR.setAll [i, j] vs ss l1.symm (fits_mem l2) hij r g1 (fun a => Iff.rfl) R
  obtain ⟨v, w, rfl⟩ := two_of (R.len.trans l1)
  refine ⟨by show 2 ≤ sizeLine; decide, fun T nT => ?_⟩
  exact ⟨T, [v, w], rfl, same_at_tup, rfl, v, [w], rfl, w, [], rfl, rfl, g.nx al3 _ _ _ (r3.go (Go.new r3.vok nT)) l3⟩
theorem ds_parsT3 (ni : NmOk X i x) (nj : NmOk X j y) (nl : NmOk X l z) (hij : [i, j, l].Nodup) (hc : X.calm = true) (h : DKa X C [a, b, c] tk)
    (hs : swapsWithSole [.Tuple [.Name x px, .Name y py, .Name z pz] kt pt] (.Tuple [a, b, c] k2 pt2) pos.line X.env = pure false := by rfl) (hw : swappedStores [.Tuple [.Name x px, .Name y py, .Name z pz] kt pt] (.Tuple [a, b, c] k2 pt2) X.env = pure none := by rfl)
    (h1 : (assignEach [.Tuple [.Name x px, .Name y py, .Name z pz] kt pt] X.env).map (·.2) = [assign (.Tuple [.Name x px, .Name y py, .Name z pz] kt pt) X.env] := by rfl)
    (hs1 : (assignEach [.Name x px, .Name y py, .Name z pz] X.env).map (·.2) = assign (.Name x px) X.env :: (assignEach [.Name y py, .Name z pz] X.env).map (·.2) := by rfl) (hs2 : (assignEach [.Name y py, .Name z pz] X.env).map (·.2) = assign (.Name y py) X.env :: (assignEach [.Name z pz] X.env).map (·.2) := by rfl)
    (hs3 : (assignEach [.Name z pz] X.env).map (·.2) = assign (.Name z pz) X.env :: (assignEach [] X.env).map (·.2) := by rfl)
    (hn : (assignEach [.Name x px, .Name y py, .Name z pz] X.env).length = 3 := by rfl) (hst : (assignEach [.Name x px, .Name y py, .Name z pz] X.env).findIdx? (·.1) = none := by rfl) :
    DS X C (.Assign [.Tuple [.Name x px, .Name y py, .Name z pz] kt pt] (.Tuple [a, b, c] k2 pt2) pos) (sPars [i, j, l] tk) := by
  obtain ⟨ta, a1, a2⟩ := h.ex
  refine ⟨⟨_, ps_asg (pe_tup a1) (pg_tup hc (pgs_cons (pg_name ni.nd ni.at_ ni.loc ni.fn) (pgs_cons (pg_name nj.nd nj.at_ nj.loc nj.fn) (pgs_cons (pg_name nl.nd nl.at_ nl.loc nl.fn) pgs_nil hs3) hs2) hs1) hn hst) hs hw h1, fun S0 H0 gs al ρ σ H Dn D' r hp g => ?_⟩⟩
  refine a2 _ σ H _ _ _ r.relA hp fun vs ss H1 al2 g1 p1 R => ?_
  obtain ⟨l1, l2, l3⟩ := p1
  obtain ⟨al3, r3⟩ := EnvR.setAll [i, j, l] vs ss l1.symm (fits_mem l2) hij r g1 (fun a => Iff.rfl) R
  obtain ⟨u, v, w, rfl⟩ := three_of (R.len.trans l1)
  refine ⟨by show 3 ≤ sizeLine; decide, fun T nT => ?_⟩
  exact ⟨T, [u, v, w], rfl, same_at_tup, rfl, u, [v, w], rfl, v, [w], rfl, w, [], rfl, rfl, g.nx al3 _ _ _ (r3.go (Go.new r3.vok nT)) l3⟩
/-- x = a new list | dict of its own -/
def sOwnF (i : Nat) (tf : TSl) : TSd := fun Dn ρ => tf (view ρ) fun s => fitsR [i] ρ = true ∧ Dn.nx (ρ.set i s)
theorem ds_ownF {e : Expr} {tf : TSl} (n : NmOk X i x) (h : DF X C e tf) (hs : swapsWith e (some (.Name x px)) pos.line X.env = pure false := by rfl) : DS X C (.Assign [.Name x px] e pos) (sOwnF i tf) := by
  obtain ⟨te, h1, h2⟩ := h.ex
  refine ⟨⟨_, ps_set n.nd n.at_ n.loc h1 hs n.fn, fun S0 H0 gs al ρ σ H Dn D' r hp g => ?_⟩⟩
  refine h2 _ σ H _ _ _ r.relA hp fun p s H1 g1 p1 np o1 => ?_
  have so := o1.isOwn
  have R : SlsR X.K (Vol S0 al ρ) H H1 (fun _ => p) [V.ref p] [s] := by
    have hN : (fun a => Vol S0 al ρ a ∨ ∃ j, ownAt [s] j ∧ (fun _ : Nat => p) j = a) = ext1 (Vol S0 al ρ) p := funext fun a => propext (by
      constructor
      · rintro (z | ⟨j, _, e⟩)
        · exact .inl z
        · exact .inr e.symm
      · rintro (z | z)
        · exact .inl z
        · exact .inr ⟨0, ⟨s, rfl, so⟩, z.symm⟩)
    refine ⟨rfl, fun i d e => ?_, fun i s' e o => ?_, fun i j a b _ => ?_⟩
    · cases i with
      | zero => cases (show some s = some (Sl.dat d) from e); cases so
      | succ i => cases e
    · cases i with
      | zero =>
        cases (show some s = some s' from e)
        exact ⟨rfl, np, by rw [hN]; exact o1⟩
      | succ i => cases e
    · obtain ⟨_, e1, _⟩ := a
      obtain ⟨_, e2, _⟩ := b
      cases i with
      | zero => cases j with | zero => rfl | succ j => cases e2
      | succ i => cases e1
  obtain ⟨al3, r3⟩ := EnvR.setAll [i] [V.ref p] [s] rfl (fits_mem p1.1) (by simp) r g1 (fun a => Iff.rfl) R
  exact g.nx al3 _ _ H1 r3 p1.2
end
end L3
namespace L3
open PySem PySem.Spec PyProof.Rows L2

/-! ### a text among texts -/
def fInQ (n : Bool) : F2
  | .str x, .lst ds, P => ∃ xs : List Str, ds = xs.map D.str ∧ P (.bl (n != decide (x ∈ xs)))
  | .str x, .tup ds, P => ∃ xs : List Str, ds = xs.map D.str ∧ P (.bl (n != decide (x ∈ xs)))
  | _, _, _ => False
theorem inV_strs (x : Str) : ∀ xs : List Str, inV (.str x) (xs.map V.str) = decide (x ∈ xs)
  | [] => rfl
  | y :: r => by
    have ih := inV_strs x r
    unfold inV at ih ⊢
    rw [List.map_cons, List.any_cons, ih]
    show ((y == x) || decide (x ∈ r)) = decide (x ∈ y :: r)
    by_cases e : y = x
    · subst e; simp
    · have e' : (y == x) = false := beq_eq_false_iff_ne.mpr e
      have e'' : ¬ x = y := fun z => e z.symm
      rw [e']
      simp [e'']
theorem flat_strs : ∀ xs : List Str, (xs.map V.str).all flatV = true
  | [] => rfl
  | x :: r => by rw [List.map_cons, List.all_cons, flat_strs r]; rfl
def rInQ (K : PySem.W.Frag) (n : Bool) : R2 := rIn K n
theorem op_inQ {X : Cx} : OpR X (compareOp .In) (rIn X.K false) := op_in_seq
theorem op_notInQ {X : Cx} : OpR X (compareOp .NotIn) (rIn X.K true) := op_notIn_seq
section
variable {K : PySem.W.Frag} {C : Cf}
theorem od_inQ {n : Bool} : OpD K C (rIn K n) (fInQ n) := by
  intro S H x y a b P Q ok hx hy h q
  have fin : ∀ (z : Str) (xs : List Str), P (.bl (n != decide (z ∈ xs))) → Q (.bl (if n then !inV (.str z) (xs.map V.str) else inV (.str z) (xs.map V.str))) H := fun z xs hp => by
    have e : (if n then !inV (.str z) (xs.map V.str) else inV (.str z) (xs.map V.str)) = (n != decide (z ∈ xs)) := by
      rw [inV_strs]
      cases n <;> simp
    rw [e]
    exact q _ _ H (Go.refl ok) hp (.bl _)
  cases a with
  | str z => cases b with
    | lst ds =>
      obtain ⟨xs, rfl, h⟩ := h
      obtain ⟨p, vs, rfl, e, hv⟩ := two_lists ok hy
      have := hv.strs
      subst this
      rw [hx.str_inv]
      exact ⟨p, _, rfl, .inl (.inl (.inl e)), rfl, flat_strs xs, fin z xs h⟩
    | tup ds =>
      obtain ⟨xs, rfl, h⟩ := h
      obtain ⟨p, vs, rfl, e, hv⟩ := two_tups ok hy
      have := hv.strs
      subst this
      rw [hx.str_inv]
      exact ⟨p, _, rfl, .inr e, rfl, flat_strs xs, fin z xs h⟩
    | _ => exact h.elim
  | _ => exact h.elim
end
/-! ### comprehensions whose test is drawn; whose turns are told apart -/
theorem lc_sub {tg : TGe} {tt : TDb} {te : TD} {E : En} (f : D → D) : ∀ (ys acc : List D) (P : List D → Prop), (∀ d ∈ ys, ∀ (Q : D → Prop) (R : Prop), Q (f d) → R → tg d E fun E' => tt E' fun b => if b = true then te E' Q else R) → (∀ zs : List D, zs.Sublist ys → P (acc ++ zs.map f)) → lcRun tg tt te E ys acc P
  | [], acc, P, _, hp => by
    have := hp [] (List.Sublist.refl _)
    simpa [lcRun] using this
  | d :: r, acc, P, h, hp => by
    refine h d List.mem_cons_self (fun y => lcRun tg tt te E r (acc ++ [y]) P) _ ?_ ?_
    · refine lc_sub f r _ P (fun d hd => h d (List.mem_cons_of_mem _ hd)) fun zs hz => ?_
      have := hp (d :: zs) (hz.cons_cons d)
      simpa using this
    · exact lc_sub f r _ P (fun d hd => h d (List.mem_cons_of_mem _ hd)) fun zs hz => hp zs (hz.cons d)
theorem lc_rel {tg : TGe} {te : TD} {E : En} (R : D → D → Prop) : ∀ (ys acc : List D) (P : List D → Prop), (∀ d ∈ ys, ∀ Q : D → Prop, (∀ y, R d y → Q y) → tg d E fun E' => te E' Q) → (∀ d E (P Q : En → Prop), (∀ E', P E' → Q E') → tg d E P → tg d E Q) → (∀ zs : List D, Paired R ys zs → P (acc ++ zs)) → lcRun tg bYes te E ys acc P
  | [], acc, P, _, _, hp => by
    have := hp [] .nil
    simpa [lcRun] using this
  | d :: r, acc, P, h, mono, hp => by
    refine mono d E _ _ (fun E' z => ?_) (h d List.mem_cons_self (fun y => lcRun tg bYes te E r (acc ++ [y]) P) fun y hy => lc_rel R r _ P (fun d hd => h d (List.mem_cons_of_mem _ hd)) mono fun zs hz => ?_)
    · show (if true = true then te E' (fun y => lcRun tg bYes te E r (acc ++ [y]) P) else lcRun tg bYes te E r acc P)
      rw [if_pos rfl]
      exact z
    · have := hp (y :: zs) (.cons hy hz)
      simpa using this
/-! ### sorted texts without twins rise -/
def ltS (a b : Str) : Prop := a.cps.toList < b.cps.toList
instance (a b : Str) : Decidable (ltS a b) := inferInstanceAs (Decidable (a.cps.toList < b.cps.toList))
def Rising (xs : List Str) : Prop := xs.Pairwise ltS
end L3
namespace L3
open PySem PySem.Spec PyProof.Rows L2

/-! ### texts in order -/
theorem ltS_irrefl (a : Str) : ¬ ltS a a := List.lt_irrefl _
theorem ltS_trans {a b c : Str} (h : ltS a b) (k : ltS b c) : ltS a c := List.lt_trans h k
theorem ltS_asymm {a b : Str} (h : ltS a b) (k : ltS b a) : False := ltS_irrefl a (ltS_trans h k)
theorem ltS_tri (a b : Str) : ltS a b ∨ a = b ∨ ltS b a := by
  by_cases h : ltS a b
  · exact .inl h
  by_cases k : ltS b a
  · exact .inr (.inr k)
  · have e : a.cps.toList = b.cps.toList := List.le_antisymm (List.not_lt.mp k) (List.not_lt.mp h)
    exact .inr (.inl (Str.ext' (Array.toList_inj.mp e)))
theorem rs_pair : ∀ (p : Str) (l : List Str), risingS p l = true → (p :: l).Pairwise (fun a b => ¬ ltS b a)
  | p, [], _ => List.pairwise_singleton ..
  | p, x :: r, h => by
    have h' : (!ltCps x.cps.toList p.cps.toList && risingS x r) = true := h
    rw [Bool.and_eq_true, ltCps_eq, Bool.not_eq_true'] at h'
    have h1 : ¬ ltS x p := of_decide_eq_false h'.1
    have ih := rs_pair x r h'.2
    refine List.pairwise_cons.mpr ⟨fun y hy => ?_, ih⟩
    rcases List.mem_cons.mp hy with rfl | hy
    · exact h1
    · intro k
      have h2 : ¬ ltS y x := (List.pairwise_cons.mp ih).1 y hy
      rcases ltS_tri x p with z | z | z
      · exact h1 z
      · exact h2 (z ▸ k)
      · exact h2 (ltS_trans k z)
theorem sorted_pair : ∀ l : List Str, sortedS l = true → l.Pairwise (fun a b => ¬ ltS b a)
  | [], _ => .nil
  | x :: r, h => rs_pair x r h
theorem rising_of {l : List Str} (h : sortedS l = true) (n : l.Nodup) : Rising l := by
  refine List.Pairwise.imp₂ ?_ (sorted_pair l h) n
  intro a b h1 h2
  rcases ltS_tri a b with z | z | z
  · exact z
  · exact (h2 z).elim
  · exact (h1 z).elim
theorem Rising.nodup {l : List Str} (h : Rising l) : l.Nodup := by
  refine List.Pairwise.imp ?_ h
  intro a b z e
  subst e
  exact ltS_irrefl a z
theorem Rising.sub {l k : List Str} (h : Rising l) (s : k.Sublist l) : Rising k := List.Pairwise.sublist s h
theorem sorted_rising {ys xs : List Str} (p : ys.Perm xs) (h : sortedS ys = true) (n : xs.Nodup) : Rising ys := rising_of h (p.nodup_iff.mpr n)
theorem rising_eq : ∀ {xs ys : List Str}, Rising xs → Rising ys → xs.Perm ys → xs = ys
  | [], ys, _, _, p => (List.nil_perm.mp p).symm
  | x :: r, [], _, _, p => (List.perm_nil.mp p)
  | x :: r, y :: t, h, k, p => by
    have e : x = y := by
      rcases List.mem_cons.mp (p.mem_iff.mp List.mem_cons_self) with z | z
      · exact z
      rcases List.mem_cons.mp (p.mem_iff.mpr (List.mem_cons_self (a := y) (l := t))) with w | w
      · exact w.symm
      · exact (ltS_asymm ((List.pairwise_cons.mp h).1 y w) ((List.pairwise_cons.mp k).1 x z)).elim
    subst e
    rw [rising_eq (List.pairwise_cons.mp h).2 (List.pairwise_cons.mp k).2 (p.cons_inv)]

/-! ### names, and the sheets of schemas -/
def nmC (c : Nat) : Prop := 97 ≤ c ∧ c ≤ 122
structure NmS (x : Str) : Prop where
  pos : 1 ≤ x.length
  le : x.length ≤ 6
  az : ∀ c ∈ x.cps.toList, nmC c
theorem NmS.ne {x : Str} (h : NmS x) : x ≠ "" := by
  rintro rfl
  exact absurd h.pos (by decide)
theorem NmS.lt {x : Str} (h : NmS x) : ltS "" x := by
  have h1 : x.cps.toList.length = x.length := by simp [Str.length]
  have := h.pos
  unfold ltS
  match e : x.cps.toList with
  | [] => rw [e] at h1; simp at h1; omega
  | c :: r => exact List.nil_lt_cons ..
structure Hole where
  nm : Str
  whn : Str
  form : Str
  goals : List Str
structure Sheet where
  lb : Str
  holes : List Hole
  seen : Option (List Str)
def Hole.d (h : Hole) : D := .tup [.str h.nm, .str h.whn, .str h.form, .tup (h.goals.map D.str)]
def seenD : Option (List Str) → D
  | none => .str "own"
  | some xs => .tup (xs.map D.str)
def Sheet.d (s : Sheet) : D := .tup [.str s.lb, .tup (s.holes.map Hole.d), seenD s.seen]
structure OkHole (crew : List Str) (h : Hole) : Prop where
  nm : NmS h.nm
  whn : h.whn = "first" ∨ h.whn = "later"
  form : h.form = "one" ∨ h.form = "row" ∨ h.form = "set"
  ne : h.goals ≠ []
  up : Rising h.goals
  mem : ∀ g ∈ h.goals, g = "" ∨ g ∈ crew
structure OkSheet (crew : List Str) (s : Sheet) : Prop where
  lb : NmS s.lb
  few : s.holes.length ≤ 4
  nd : (s.holes.map Hole.nm).Nodup
  hole : ∀ h ∈ s.holes, OkHole crew h
  seen : ∀ xs, s.seen = some xs → Rising xs ∧ ∀ x ∈ xs, x ∈ s.holes.map Hole.nm
structure OkSheets (ss : List Sheet) : Prop where
  pos : 1 ≤ ss.length
  few : ss.length ≤ 4
  up : Rising (ss.map Sheet.lb)
  sheet : ∀ s ∈ ss, OkSheet (ss.map Sheet.lb) s
/-- the crew that a hole may aim at -/
structure Crew (xs : List Str) : Prop where
  few : xs.length ≤ 16
  nm : ∀ x ∈ xs, NmS x
  nd : xs.Nodup
theorem Crew.zero {xs ys : List Str} (c : Crew xs) (p : ys.Perm xs) (h : sortedS ys = true) : Rising ("" :: ys) :=
  List.pairwise_cons.mpr ⟨fun y hy => (c.nm y (p.mem_iff.mp hy)).lt, sorted_rising p h c.nd⟩
end L3
namespace L3
open PySem PySem.Spec PyProof.Rows L2

/-! ### a minus in front -/
def dNeg (t : TD) : TD := fun E P => t E fun d => ∃ i, d = .int i ∧ P (.int (-i))
section
variable {X : Cx} {C : Cf} {a : Expr} {ta : TD} {pos : Pos}
theorem de_neg (h : DE X C a ta) : DE X C (.UnaryOp .USub a pos) (dNeg ta) := by
  obtain ⟨te, h1, h2⟩ := h.ex
  refine ⟨⟨_, pe_un un_neg h1, fun S σ H E P Q r hp q => h2 S σ H E _ _ r hp fun v d H1 g1 p1 v1 => ?_⟩⟩
  obtain ⟨i, rfl, p1⟩ := p1
  rw [v1.int_inv]
  exact ⟨i, rfl, q _ _ H1 g1 p1 (.int _)⟩
end

/-! ### who is left -/
/-- among n + 1 different candidates one is not in a list of n -/
theorem nodup_le {α : Type} [DecidableEq α] : ∀ (cs xs : List α), cs.Nodup → (∀ c ∈ cs, c ∈ xs) → cs.length ≤ xs.length
  | [], _, _, _ => Nat.zero_le _
  | c :: r, xs, nd, h => by
    have hc : c ∈ xs := h c List.mem_cons_self
    have ⟨h1, h2⟩ := List.nodup_cons.mp nd
    have ih := nodup_le r (xs.erase c) h2 fun d hd => (List.mem_erase_of_ne (show d ≠ c from fun z => by subst z; exact h1 hd)).mpr (h d (List.mem_cons_of_mem _ hd))
    rw [List.length_erase_of_mem hc] at ih
    have : 0 < xs.length := List.length_pos_of_mem hc
    rw [List.length_cons]
    omega
theorem fresh_of {α : Type} [DecidableEq α] (cs xs : List α) (nd : cs.Nodup) (hl : xs.length < cs.length) : ∃ c ∈ cs, c ∉ xs := by
  apply Classical.byContradiction
  intro h
  have sub : ∀ c ∈ cs, c ∈ xs := fun c hc => Classical.byContradiction fun n => h ⟨c, hc, n⟩
  have := nodup_le cs xs nd sub
  omega
theorem head_flt {α : Type} [DecidableEq α] (l xs : List α) (h : ∃ c ∈ l, c ∉ xs) : ∃ c r, l.filter (fun c => !decide (c ∈ xs)) = c :: r ∧ c ∈ l ∧ c ∉ xs := by
  obtain ⟨c, hc, hn⟩ := h
  cases e : l.filter (fun c => !decide (c ∈ xs)) with
  | nil =>
    have : c ∈ l.filter (fun c => !decide (c ∈ xs)) := List.mem_filter.mpr ⟨hc, by rw [decide_eq_false hn]; rfl⟩
    rw [e] at this
    cases this
  | cons d r =>
    have : d ∈ l.filter (fun c => !decide (c ∈ xs)) := by rw [e]; exact List.mem_cons_self
    obtain ⟨h1, h2⟩ := List.mem_filter.mp this
    refine ⟨d, r, rfl, h1, fun z => ?_⟩
    rw [decide_eq_true z] at h2
    cases h2
end L3
namespace L3
open PySem PySem.Spec PyProof.Rows L2
theorem NmS.ok {x : Str} (h : NmS x) : PyData.strOk x = true := by
  unfold PyData.strOk
  rw [← Array.all_toList, List.all_eq_true]
  intro c hc
  have := (h.az c hc).2
  simp
  omega
theorem nm0_ok {x : Str} (h : x = "" ∨ NmS x) : PyData.strOk x = true := by
  rcases h with rfl | h
  · decide +kernel
  · exact h.ok
/-- a list of texts is in order for == -/
theorem eqOk_txts {l : List Str} (h : ∀ x ∈ l, PyData.strOk x = true) : eqOk (.lst (l.map D.str)) = true ∧ eqOk (.tup (l.map D.str)) = true := by
  have a : ∀ l : List Str, (∀ x ∈ l, PyData.strOk x = true) → pls (l.map D.str) = true ∧ PyData.canLayAll0 (toPs (l.map D.str)) = true ∧ PyData.depthAll (toPs (l.map D.str)) ≤ 1 := by
    intro l
    induction l with
    | nil => intro _; simp only [List.map_nil, pls, toPs, PyData.canLayAll0, PyData.depthAll]; exact ⟨trivial, trivial, by decide⟩
    | cons x r ih =>
      intro h
      have hx := h x List.mem_cons_self
      obtain ⟨h1, h2, h3⟩ := ih fun d hd => h d (List.mem_cons_of_mem _ hd)
      simp only [List.map_cons, pls, pl, toPs, toP, PyData.canLayAll0, PyData.canLay0, PyData.depthAll, PyData.depth, h1, h2, hx, Bool.and_self]
      refine ⟨trivial, trivial, ?_⟩
      omega
  obtain ⟨h1, h2, h3⟩ := a l h
  constructor
  · unfold eqOk SeqAt.shaped
    simp only [pl, toP, PyData.canLay0, PyData.depth, h1, h2, Bool.true_and, decide_eq_true_eq]
    omega
  · unfold eqOk SeqAt.shaped
    simp only [pl, toP, PyData.canLay0, PyData.depth, h1, h2, Bool.true_and, decide_eq_true_eq]
    omega
theorem eqD_nil : eqD (.lst []) (.lst []) = true := by decide +kernel
theorem eqD_cons_nil {d : D} {r : List D} : eqD (.lst (d :: r)) (.lst []) = false := by
  unfold eqD
  simp only [toP, toPs]
  unfold PyData.eqv
  rfl
theorem eqD_tcons_nil {d : D} {r : List D} : eqD (.tup (d :: r)) (.tup []) = false := by
  unfold eqD
  simp only [toP, toPs]
  unfold PyData.eqv
  rfl
theorem eqD_tup_str {l : List D} {x : Str} : eqD (.tup l) (.str x) = false := by
  unfold eqD
  simp only [toP]
  unfold PyData.eqv
  rfl
theorem eqOk_nil : eqOk (.lst []) = true := by decide +kernel
/-- sublists of texts -/
theorem sub_txts {zs : List D} {xs : List Str} (h : zs.Sublist (xs.map D.str)) : ∃ ys : List Str, zs = ys.map D.str ∧ ys.Sublist xs := by
  obtain ⟨ys, h1, h2⟩ := List.sublist_map_iff.mp h
  exact ⟨ys, h2, h1⟩
end L3
namespace LW
open PySem PySem.Spec PyProof.Rows L2 L3
local macro_rules | `(tactic| walk_at "vc") => `(tactic| simp only [sSeq, sNx, sBk, sCt, sSet, sIf, sRet, sRetN, sPar, sFor, sExp, dVar, dC, dOp, dCall, dCons, dNil, dTup, dLst, bOr, bNot, bAnd, bYes, dB, dTru, dOrT, dAndT, dNotT, dIf, dChain, view, frz, view1, frz1, startD, List.map_cons, List.map_nil, List.map_append, List.cons_append, List.nil_append, List.length_cons, List.length_nil, List.replicate, List.getElem?_cons_zero, List.getElem?_cons_succ, Option.some.injEq, exists_eq_left', exists_eq_left, gNm, geNm, iTx, iSq, iRg, dLc, List.set_cons_zero, List.set_cons_succ, wipeE, dSl, oNone, oSome, D.int.injEq, D.str.injEq, dJoin, dDnew, dDisp, dPairs, dNeg, sPars, kNil, kDat, kOwn, oLst, oDic, oLstOf, setRho, sApp, sAppF])
/-- the names of the language are the language's -/
structure Txg (mg : Str → Option Value) : Prop where
  m_len : mg "len" = none
  m_abs : mg "abs" = none
  m_int : mg "int" = none
  m_range : mg "range" = none
  m_min : mg "min" = none
  m_sorted : mg "sorted" = none
  m_tuple : mg "tuple" = none
abbrev s_law_state : Stmt := topS 36
theorem sc_law_state : FnScope ["script", "cell"] ["script"] (defScope s_law_state) := ⟨rfl, rfl, rfl, by decide +kernel, rfl, by decide +kernel, by decide +kernel⟩
abbrev s_law_pick : Stmt := topS 38
theorem sc_law_pick : FnScope ["draws", "some"] ["draws", "some"] (defScope s_law_pick) := ⟨rfl, rfl, rfl, by decide +kernel, rfl, by decide +kernel, by decide +kernel⟩
abbrev s_law_labels : Stmt := topS 40
theorem sc_law_labels : FnScope ["draws", "many", "letters", "found", "own", "k", "label", "j", "others", "sign", "one"] ["draws", "many"] (defScope s_law_labels) := ⟨rfl, rfl, rfl, by decide +kernel, rfl, by decide +kernel, by decide +kernel⟩
abbrev s_law_hole : Stmt := topS 41
theorem sc_law_hole : FnScope ["draws", "crew", "label", "goals", "goal", "when"] ["draws", "crew", "label"] (defScope s_law_hole) := ⟨rfl, rfl, rfl, by decide +kernel, rfl, by decide +kernel, by decide +kernel⟩
abbrev s_law_sheet : Stmt := topS 42
theorem sc_law_sheet : FnScope ["draws", "crew", "label", "most", "some", "holes", "one", "seen", "hole"] ["draws", "crew", "label", "most"] (defScope s_law_sheet) := ⟨rfl, rfl, rfl, by decide +kernel, rfl, by decide +kernel, by decide +kernel⟩
abbrev s_law_sheets : Stmt := topS 43
theorem sc_law_sheets : FnScope ["draws", "many", "most", "crew", "found", "left", "label"] ["draws", "many", "most"] (defScope s_law_sheets) := ⟨rfl, rfl, rfl, by decide +kernel, rfl, by decide +kernel, by decide +kernel⟩
section
variable {P : Program} {w : World} {K : PySem.W.Frag} {mg : Str → Option Value} {base : Heap}
theorem cal_law_state (T : Txg mg) (d : Dfn K mg "_law_state" s_law_state ["script"]) : Cal P w K mg base "_law_state" 1 ["script"] fState := by
  refine cal_of d sc_law_state (fun C ds R h => by obtain ⟨_, rfl, _⟩ := h; rfl) fun f cdv A fr s H E hgd hr C ds R h => ⟨_, (dss_one (ds_ret (de_lst (da_cons (de_orT (de_lc (own := [("cell", 1)]) rfl sc_law_state.nd (blkOk_by (N := ["script", "cell"]) (sc := defScope s_law_state) (by decide +kernel)) (di_list (de_slice (de_of (pv 0)) do_none (do_some de_int))) (fun b => dge_name (i := 1) ⟨sc_law_state.nd, rfl, by first | exact .inl rfl | exact .inr rfl, by first | exact .inr rfl | exact .inl rfl⟩ (by decide)) (fun b => dts_nil) (fun b => (de_blt cd_abs call_abs rfl T.m_abs boot_abs (da_cons (de_of (pv 1)) da_nil)))) (de_one (de_lst (da_cons de_int da_nil)))) (da_cons de_int (da_cons de_int da_nil)))))), ?_⟩
  obtain ⟨ns, rfl, h⟩ := h
  walk_at "vc"
  have hl : (cutL ns none (some 63)).length ≤ 63 := by
    unfold cutL
    rw [List.length_take]
    have : HT.sIx ns.length ns.length (some 63) ≤ 63 := by
      show HT.sIx ns.length ns.length (some ((63 : Nat) : Int)) ≤ 63
      rw [HT.sIx_nat]
      exact Nat.min_le_left _ _
    omega
  refine ⟨_, rfl, by rw [List.length_map]; omega, ?_⟩
  refine lc_map (fun d => match d with | .int i => .int (if i < 0 then -i else i) | d => d) _ [] _ (fun d hd Q q => ?_) (ge_mono 1) ?_
  · obtain ⟨i, _, rfl⟩ := List.mem_map.mp hd
    exact ⟨_, rfl, q⟩
  · have e : (([] : List D) ++ ((cutL ns none (some 63)).map D.int).map (fun d => match d with | .int i => .int (if i < 0 then -i else i) | d => d)) = ((cutL ns none (some 63)).map fun i => if i < 0 then -i else i).map D.int := by
      rw [List.nil_append, List.map_map, List.map_map]; rfl
    rw [e]
    generalize hcs : (cutL ns none (some 63)).map (fun i : Int => if i < 0 then -i else i) = cs
    have hcl : cs.length ≤ 63 := by rw [← hcs, List.length_map]; exact hl
    have hc0 : ∀ c ∈ cs, 0 ≤ c := fun c hc => by
      rw [← hcs] at hc
      obtain ⟨i, _, rfl⟩ := List.mem_map.mp hc
      split <;> omega
    refine ⟨!(cs.map D.int).isEmpty, rfl, ?_⟩
    cases cs with
    | nil => 
      rw [if_neg (by decide)]
      exact ⟨by decide, by decide, h [1] (by decide) (by decide) (by decide)⟩
    | cons c r =>
      rw [if_pos (by rfl)]
      exact ⟨by show 3 ≤ 100000; decide, h (c :: r) (by intro z; cases z) hcl hc0⟩
theorem cal_law_pick (T : Txg mg) (C_law_draw : Cal P w K mg base "_law_draw" 1 ["draws", "many"] fDraw) (d : Dfn K mg "_law_pick" s_law_pick ["draws", "some"]) : Cal P w K mg base "_law_pick" 2 ["draws", "some"] fPick := by
  refine cal_of d sc_law_pick (fun C ds R h => by
    obtain ⟨da, ca, _, ⟨ys, rfl | rfl, _⟩ | ⟨z, rfl, _⟩⟩ := h <;> rfl) fun f cdv A fr s H E hgd hr C ds R h => ⟨_, (dss_one (ds_ret (de_ix od_ix ix_seq (de_of (pv 1)) (de_cal C_law_draw hgd hr (by decide) rfl (da_cons (de_of (pv 0)) (da_cons (de_blt cd_len call_lenAll rfl T.m_len boot_len (da_cons (de_of (pv 1)) da_nil)) da_nil)))))), ?_⟩
  obtain ⟨da, ca, rfl, ⟨ys, e, ne, hl, h⟩ | ⟨z, rfl, ne, hl, h⟩⟩ := h
  · have hpos : 0 < ys.length := List.length_pos_iff.mpr ne
    rcases e with rfl | rfl
    · walk_at "vc"
      refine ⟨ys.length, rfl, da, ca, ys.length, rfl, rfl, by omega, by omega, fun r r0 r1 => ?_⟩
      obtain ⟨y, e1, e2⟩ := atI_some (l := ys) r0 r1
      exact ⟨y, e1, h y e2⟩
    · walk_at "vc"
      refine ⟨ys.length, rfl, da, ca, ys.length, rfl, rfl, by omega, by omega, fun r r0 r1 => ?_⟩
      obtain ⟨y, e1, e2⟩ := atI_some (l := ys) r0 r1
      exact ⟨y, e1, h y e2⟩
  · walk_at "vc"
    refine ⟨z.length, if_pos hl, da, ca, z.length, rfl, rfl, by omega, by omega, fun r r0 r1 => ?_⟩
    have zl : z.cps.toList.length = z.length := Array.length_toList
    obtain ⟨y, e1, e2⟩ := atI_some (l := z.cps.toList) r0 (by rw [zl]; exact r1)
    exact ⟨hl, y, e1, h y e2⟩
/-! ### labels -/
abbrev lbOwn : List Str := ["a", "b", "own", "reads", "class", "first", "one", "set", "make", "ready", "root", "zzzzzz"]
theorem nmS_dec {x : Str} (h : (decide (1 ≤ x.length) && decide (x.length ≤ 6) && x.cps.toList.all fun c => decide (97 ≤ c) && decide (c ≤ 122)) = true) : NmS x := by
  simp only [Bool.and_eq_true, decide_eq_true_eq, List.all_eq_true] at h
  exact ⟨h.1.1, h.1.2, fun c hc => h.2 c hc⟩
theorem lb_own : ∀ y ∈ lbOwn.map D.str, ∃ lab, NmS lab ∧ y = .str lab := fun y hy => by
  obtain ⟨x, hx, rfl⟩ := List.mem_map.mp hy
  refine ⟨x, ?_, rfl⟩
  have a : lbOwn.all (fun x => decide (1 ≤ x.length) && decide (x.length ≤ 6) && x.cps.toList.all fun c => decide (97 ≤ c) && decide (c ≤ 122)) = true := by decide +kernel
  exact nmS_dec (List.all_eq_true.mp a x hx)
theorem lb_few : ∀ y ∈ [D.int 1, D.int 1, D.int 2, D.int 6], ∃ m : Nat, 1 ≤ m ∧ m ≤ 6 ∧ y = .int m := fun y hy => by
  simp only [List.mem_cons, List.not_mem_nil, or_false] at hy
  rcases hy with rfl | rfl | rfl | rfl
  · exact ⟨1, by decide, by decide, rfl⟩
  · exact ⟨1, by decide, by decide, rfl⟩
  · exact ⟨2, by decide, by decide, rfl⟩
  · exact ⟨6, by decide, by decide, rfl⟩
abbrev lbSigns : Str := "abcdefghijklmnopqrstuvwxyz"
theorem lb_letter : ∀ c ∈ lbSigns.cps.toList, nmC c := fun c hc => by
  have a : lbSigns.cps.toList.all (fun c => decide (97 ≤ c) && decide (c ≤ 122)) = true := by decide +kernel
  have := List.all_eq_true.mp a c hc
  simp only [Bool.and_eq_true, decide_eq_true_eq] at this
  exact this
theorem lb_join : ∀ zs : List D, (∀ z ∈ zs, ∃ c, nmC c ∧ z = .str ⟨#[c]⟩) → ∃ ys : List Str, zs = ys.map D.str ∧ (∀ y ∈ ys, ∃ c, nmC c ∧ y = ⟨#[c]⟩) ∧ (ys.map (·.length)).sum + ys.length * ("" : Str).length = ys.length ∧ ys.length = zs.length := by
  intro zs
  induction zs with
  | nil => intro _; exact ⟨[], rfl, (fun _ h => nomatch h), rfl, rfl⟩
  | cons z r ih =>
    intro h
    obtain ⟨c, hc, rfl⟩ := h z List.mem_cons_self
    obtain ⟨ys, rfl, h1, h2, h3⟩ := ih fun z hz => h z (List.mem_cons_of_mem _ hz)
    refine ⟨⟨#[c]⟩ :: ys, rfl, fun y hy => ?_, ?_, by simp⟩
    · rcases List.mem_cons.mp hy with rfl | hy
      · exact ⟨c, hc, rfl⟩
      · exact h1 y hy
    · have e0 : ("" : Str).length = 0 := rfl
      have e1 : (⟨#[c]⟩ : Str).length = 1 := rfl
      rw [e0] at h2 ⊢
      simp only [List.map_cons, List.sum_cons, List.length_cons, e1]
      omega
theorem lb_nm (ys : List Str) (h : ∀ y ∈ ys, ∃ c, nmC c ∧ y = ⟨#[c]⟩) (h1 : 1 ≤ ys.length) (h2 : ys.length ≤ 6) : NmS (Txt.join "" ys) := by
  have e : ∃ cs : List Nat, (Txt.join "" ys).cps.toList = cs ∧ cs.length = ys.length ∧ ∀ c ∈ cs, nmC c := by
    have st : ∀ ys : List Str, (∀ y ∈ ys, ∃ c, nmC c ∧ y = ⟨#[c]⟩) → (Str.join "" ys).cps.toList.length = ys.length ∧ ∀ c ∈ (Str.join "" ys).cps.toList, nmC c := by
      intro ys
      induction ys with
      | nil => intro _; exact ⟨rfl, fun c hc => nomatch hc⟩
      | cons y r ih =>
        intro h
        obtain ⟨c, hc, rfl⟩ := h y List.mem_cons_self
        obtain ⟨h1, h2⟩ := ih fun z hz => h z (List.mem_cons_of_mem _ hz)
        cases r with
        | nil => exact ⟨rfl, fun d hd => by
            have hd : d ∈ [c] := hd
            rw [List.mem_singleton.mp hd]; exact hc⟩
        | cons z r =>
          have e : (Str.join "" ((⟨#[c]⟩ : Str) :: z :: r)).cps.toList = c :: (Str.join "" (z :: r)).cps.toList := by
            show ((#[c] ++ (#[] : Array Nat)) ++ (Str.join "" (z :: r)).cps).toList = _
            simp
          rw [e]
          refine ⟨by simp only [List.length_cons] at h1 ⊢; omega, fun d hd => ?_⟩
          rcases List.mem_cons.mp hd with rfl | hd
          · exact hc
          · exact h2 d hd
    refine ⟨_, rfl, ?_⟩
    have e : Txt.join "" ys = Str.join "" ys := StrLaws.glued_eq_join _ _
    rw [e]
    exact st ys h
  obtain ⟨cs, e1, e2, e3⟩ := e
  have hl : (Txt.join "" ys).length = cs.length := by rw [← e1]; exact Array.length_toList.symm
  exact ⟨by omega, by omega, fun c hc => e3 c (e1 ▸ hc)⟩
def fLabels : Cf → FN := fun C ds P => ∃ da ca, ∃ n : Nat, C = drw da ca ∧ ds = [.op (.ref da), .int n] ∧ n ≤ 16 ∧ ∀ xs : List Str, xs.length = n → xs.Nodup → (∀ x ∈ xs, NmS x) → P (.lst (xs.map D.str))
theorem lb_cut {lab : Str} (h : NmS lab) : (cutS lab none (some 5)).length ≤ 5 := by
  unfold cutS
  show ((List.take _ (List.drop _ _)).toArray).size ≤ 5
  rw [List.size_toArray, List.length_take]
  have : HT.sIx lab.length lab.length (some 5) ≤ 5 := by
    show HT.sIx lab.length lab.length (some ((5 : Nat) : Int)) ≤ 5
    rw [HT.sIx_nat]
    exact Nat.min_le_left _ _
  omega
theorem atI0 {α : Type} {x : α} {r : List α} : atI (x :: r) (0 : Int) = some x := by
  unfold atI ixN
  rw [if_pos (by decide), if_pos (by rw [List.length_cons]; omega)]
  rfl
def lbOthers (lab : Str) : List Str := lbSigns.cps.toList.map fun c => cutS lab none (some 5) ++ ⟨#[c]⟩
theorem lb_others (lab : Str) : (chars lbSigns).map (fun d => match d with | .str z => D.str (cutS lab none (some 5) ++ z) | d => d) = (lbOthers lab).map D.str := by
  unfold chars lbOthers
  rw [List.map_map, List.map_map]
  rfl
theorem lb_nd (lab : Str) : (lbOthers lab).Nodup := by
  unfold lbOthers
  refine List.pairwise_map.mpr ?_
  have h : lbSigns.cps.toList.Nodup := by decide +kernel
  refine List.Pairwise.imp ?_ h
  intro a b n z
  refine n ?_
  have z2 : ((cutS lab none (some 5)).cps ++ #[a]).toList = ((cutS lab none (some 5)).cps ++ #[b]).toList := congrArg (fun x : Str => x.cps.toList) z
  simpa using z2
theorem lb_onm {lab : Str} (h : NmS lab) : ∀ x ∈ lbOthers lab, NmS x := fun x hx => by
  unfold lbOthers at hx
  obtain ⟨c, hc, rfl⟩ := List.mem_map.mp hx
  have h5 := lb_cut h
  have el : (cutS lab none (some 5) ++ ⟨#[c]⟩ : Str).length = (cutS lab none (some 5)).length + 1 := by
    show ((cutS lab none (some 5)).cps ++ #[c]).size = _
    rw [Array.size_append]
    rfl
  refine ⟨by omega, by omega, fun d hd => ?_⟩
  have hd : d ∈ ((cutS lab none (some 5)).cps ++ #[c]).toList := hd
  rw [Array.toList_append] at hd
  rcases List.mem_append.mp hd with hd | hd
  · refine h.az d ?_
    unfold cutS at hd
    exact List.mem_of_mem_drop (List.mem_of_mem_take (by simpa using hd))
  · have hd : d ∈ [c] := hd
    rw [List.mem_singleton.mp hd]
    exact lb_letter c hc
def lbC (xs : List Str) : D → Bool
  | .str z => !decide (z ∈ xs)
  | _ => false
theorem lb_first {lab : Str} (h : NmS lab) (xs : List Str) (hl : xs.length ≤ 16) : ∃ x r, ([] ++ (List.filter (lbC xs) ([D.str lab] ++ List.map D.str (lbOthers lab))).map fun d => d) = .str x :: r ∧ NmS x ∧ x ∉ xs := by
  have lo : (lbOthers lab).length = 26 := by unfold lbOthers; rw [List.length_map]; rfl
  obtain ⟨c, hc, hn⟩ := fresh_of (lbOthers lab) xs (lb_nd lab) (by omega)
  obtain ⟨x, r, e, hx, hxn⟩ := head_flt (lab :: lbOthers lab) xs ⟨c, List.mem_cons_of_mem _ hc, hn⟩
  refine ⟨x, r.map D.str, ?_, ?_, hxn⟩
  · rw [List.nil_append, List.map_id']
    have e1 : [D.str lab] ++ List.map D.str (lbOthers lab) = (lab :: lbOthers lab).map D.str := rfl
    have e2 : lbC xs ∘ D.str = fun c => !decide (c ∈ xs) := rfl
    rw [e1, List.filter_map, e2, e]
    rfl
  · rcases List.mem_cons.mp hx with rfl | hx
    · exact h
    · exact lb_onm h x hx
set_option hygiene false in
local macro_rules | `(tactic| walk_at "lb tail") => `(tactic| (
  refine ⟨by decide, ?_⟩
  refine lc_map (fun d => match d with | .str z => .str (cutS lab none (some 5) ++ z) | d => d) _ [] _ (fun d hd Q q => ?_) (ge_mono 9) ?_
  · unfold chars at hd
    obtain ⟨c, hc, rfl⟩ := List.mem_map.mp hd
    walk_at "vc"
    refine ⟨by have := hlab.le; omega, ?_⟩
    refine ⟨?_, q⟩
    have h5 := lb_cut hlab
    have e1 : (⟨#[c]⟩ : Str).length = 1 := rfl
    omega
  · rw [List.nil_append, lb_others lab]
    have lo : (lbOthers lab).length = 26 := by unfold lbOthers; rw [List.length_map]; rfl
    obtain ⟨x, r, e, hx, hxn⟩ := lb_first hlab xs (by omega)
    refine ⟨_, rfl, by decide, ?_⟩
    refine ⟨by rw [List.length_map, lo]; show 1 + 26 ≤ 100000; decide, ?_⟩
    refine ⟨_, rfl, by rw [List.length_append, List.length_map, lo]; show 1 + 26 ≤ 100000; decide, ?_⟩
    refine lc_flt (lbC xs) (fun d => d) _ [] _ (fun d hd Q R0 q q0 => ?_) ?_
    · obtain ⟨z, rfl⟩ : ∃ z, d = .str z := by
        rcases List.mem_append.mp hd with hd | hd
        · exact ⟨_, List.mem_singleton.mp hd⟩
        · obtain ⟨z, _, rfl⟩ := List.mem_map.mp hd; exact ⟨z, rfl⟩
      walk_at "vc"
      refine ⟨xs, rfl, (true != decide (z ∈ xs)), rfl, ?_⟩
      have eb : (true != decide (z ∈ xs)) = lbC xs (.str z) := by
        show (true != decide (z ∈ xs)) = !decide (z ∈ xs)
        cases decide (z ∈ xs) <;> rfl
      rw [eb]
      cases hc : lbC xs (.str z) with
      | true => rw [if_pos rfl]; exact q hc
      | false => rw [if_neg Bool.false_ne_true]; exact q0 hc
    · have e2 : ([] ++ (List.filter (lbC xs) ([D.str lab] ++ List.map D.str (lbOthers lab))).map fun d => d) = .str x :: r := e
      rw [e2]
      refine ⟨.str x, atI0, rfl, by rw [List.length_map]; omega, ?_⟩
      refine ⟨xs ++ [x], .dat d, .dat (.str lab), s7, .dat (.lst ((lbOthers lab).map D.str)), s9, s10, by rw [List.length_append]; simp [hl], ?_, ?_, ?_⟩
      · exact List.nodup_append.mpr ⟨hnd, List.nodup_cons.mpr ⟨(fun z => nomatch z), .nil⟩, fun a ha b hb z => by
          rw [List.mem_singleton.mp hb] at z; rw [z] at ha; exact hxn ha⟩
      · intro a ha
        rcases List.mem_append.mp ha with ha | ha
        · exact hnm a ha
        · rw [List.mem_singleton.mp ha]; exact hx
      · rw [List.map_append]
        rfl))
theorem cal_law_labels (T : Txg mg) (C_law_draw : Cal P w K mg base "_law_draw" 1 ["draws", "many"] fDraw) (C_law_pick : Cal P w K mg base "_law_pick" 2 ["draws", "some"] fPick) (d : Dfn K mg "_law_labels" s_law_labels ["draws", "many"]) : Cal P w K mg base "_law_labels" 3 ["draws", "many"] fLabels := by
  refine cal_of d sc_law_labels (fun C ds R h => by
    obtain ⟨da, ca, n, _, rfl, _⟩ := h; rfl) fun f cdv A fr s H E hgd hr C ds R h => ⟨_, (dss_cons (ds_parsT2 (i := 2) (j := 3) ⟨sc_law_labels.nd, rfl, by first | exact .inl rfl | exact .inr rfl, .inl rfl⟩ ⟨sc_law_labels.nd, rfl, by first | exact .inl rfl | exact .inr rfl, .inl rfl⟩ (by decide) rfl (dka_dat de_str (dka_own (df_lst da_nil) dka_nil)))
      (dss_cons (ds_set (i := 4) ⟨sc_law_labels.nd, rfl, by first | exact .inl rfl | exact .inr rfl, .inl rfl⟩ (de_lst (da_cons de_str (da_cons de_str (da_cons de_str (da_cons de_str (da_cons de_str (da_cons de_str (da_cons de_str (da_cons de_str (da_cons de_str (da_cons de_str (da_cons de_str (da_cons de_str da_nil))))))))))))))
      (dss_cons (ds_for PassesOwn.never rfl (di_rng rfl T.m_range (da_cons (de_of (pv 1)) da_nil)) (dg_name (i := 5) ⟨sc_law_labels.nd, rfl, by first | exact .inl rfl | exact .inr rfl, .inl rfl⟩) (dss_cons (ds_set (i := 6) ⟨sc_law_labels.nd, rfl, by first | exact .inl rfl | exact .inr rfl, .inl rfl⟩ (de_cal C_law_pick hgd hr (by decide) rfl (da_cons (de_of (pv 0)) (da_cons (de_of (pv 4)) da_nil))))
      (dss_cons (ds_if (dt_cmp od_ord op_gtD (nomark _) (de_cal C_law_draw hgd hr (by decide) rfl (da_cons (de_of (pv 0)) (da_cons de_int da_nil))) de_int) (dss_one (ds_set (i := 6) ⟨sc_law_labels.nd, rfl, by first | exact .inl rfl | exact .inr rfl, .inl rfl⟩ (de_join de_str (de_lc (own := [("j", 7)]) rfl sc_law_labels.nd (blkOk_by (N := ["draws", "many", "letters", "found", "own", "k", "label", "j", "others", "sign", "one"]) (sc := defScope s_law_labels) (by decide +kernel)) (di_rng rfl T.m_range (da_cons (de_cal C_law_pick hgd hr (by decide) rfl (da_cons (de_of (pv 0)) (da_cons (de_lst (da_cons de_int (da_cons de_int (da_cons de_int (da_cons de_int da_nil))))) da_nil))) da_nil)) (fun b => dge_name (i := 7) ⟨sc_law_labels.nd, rfl, by first | exact .inl rfl | exact .inr rfl, by first | exact .inr rfl | exact .inl rfl⟩ (by decide)) (fun b => dts_nil) (fun b => (de_cal C_law_pick hgd hr (by decide) rfl (da_cons (de_of (pv 0)) (da_cons (de_of (pv 2)) da_nil)))))))) dss_nil)
      (dss_cons (ds_setLc (i := 8) (own := [("sign", 9)]) ⟨sc_law_labels.nd, rfl, by first | exact .inl rfl | exact .inr rfl, .inl rfl⟩ rfl rfl rfl (blkOk_by (N := ["draws", "many", "letters", "found", "own", "k", "label", "j", "others", "sign", "one"]) (sc := defScope s_law_labels) (by decide +kernel)) (di_str (de_of (pv 2))) (fun b => dge_name (i := 9) ⟨sc_law_labels.nd, rfl, by first | exact .inl rfl | exact .inr rfl, by first | exact .inr rfl | exact .inl rfl⟩ (by decide)) (fun b => dts_nil) (fun b => (de_op od_add op_addD (de_slice (de_of (pv 6)) do_none (do_some de_int)) (de_of (pv 9)))))
      (dss_one (ds_appF (pv 3) (de_ix od_ix ix_seq (de_lc (own := [("one", 10)]) rfl sc_law_labels.nd (blkOk_by (N := ["draws", "many", "letters", "found", "own", "k", "label", "j", "others", "sign", "one"]) (sc := defScope s_law_labels) (by decide +kernel)) (di_list (de_op od_add op_addD (de_lst (da_cons (de_of (pv 6)) da_nil)) (de_of (pv 8)))) (fun b => dge_name (i := 10) ⟨sc_law_labels.nd, rfl, by first | exact .inl rfl | exact .inr rfl, by first | exact .inr rfl | exact .inl rfl⟩ (by decide)) (fun b => dts_one (dt_cmp od_inQ op_notInQ (by with_unfolding_all rfl) (de_of (pv 10)) (de_of (pv 3)))) (fun b => (de_of (pv 10)))) de_int)))))))
      (dss_one (ds_ret (de_of (pv 3))))))), ?_⟩
  obtain ⟨da, ca, n, rfl, rfl, hn, h⟩ := h
  walk_at "vc"
  refine ⟨by decide, trivial, rfl, by decide, n, rfl, by omega, by omega, ?_⟩
  refine ⟨fun k ρ => ∃ xs : List Str, ∃ s5 s6 s7 s8 s9 s10 : Sl, xs.length = k ∧ xs.Nodup ∧ (∀ x ∈ xs, NmS x) ∧ ρ = [.dat (.op (.ref da)), .dat (.int n), .dat (.str "abcdefghijklmnopqrstuvwxyz"), .own (xs.map D.str), .dat (.lst (lbOwn.map D.str)), s5, s6, s7, s8, s9, s10],
    ⟨[], _, _, _, _, _, _, rfl, .nil, (fun x hx => nomatch hx), rfl⟩, fun i d ρ' hd hI => ?_, fun ρ' hI => ?_⟩
  · obtain ⟨xs, s5, s6, s7, s8, s9, s10, hl, hnd, hnm, rfl⟩ := hI
    have hi : i < n := by
      have := (List.getElem?_eq_some_iff.mp hd).1
      simpa [rngD] using this
    walk_at "vc"
    refine ⟨da, ca, rfl, .inl ⟨_, .inl rfl, (by intro z; cases z), by decide, fun y hy => ?_⟩⟩
    obtain ⟨lab, hlab, rfl⟩ : ∃ lab, NmS lab ∧ y = .str lab := lb_own y hy
    clear hy
    refine ⟨da, ca, 3, rfl, rfl, by decide, by decide, fun r r0 r1 => ?_⟩
    refine ⟨decide (0 < r), rfl, ?_⟩
    by_cases hb : 0 < r
    · rw [decide_eq_true hb, if_pos rfl]
      refine ⟨by decide, da, ca, rfl, .inl ⟨_, .inl rfl, (by intro z; cases z), by decide, fun y hy => ?_⟩⟩
      obtain ⟨m, hm1, hm2, rfl⟩ : ∃ m : Nat, 1 ≤ m ∧ m ≤ 6 ∧ y = .int m := lb_few y hy
      refine ⟨m, rfl, by omega, by omega, by simp [rngD]; omega, ?_⟩
      refine lc_any (fun d => ∃ c, nmC c ∧ d = .str ⟨#[c]⟩) _ [] _ (fun d hd Q q => ?_) (ge_mono 7) fun zs hzl hz => ?_
      · walk_at "vc"
        refine ⟨da, ca, rfl, .inr ⟨_, rfl, by decide, by decide, fun c hc => q _ ⟨c, lb_letter c hc, rfl⟩⟩⟩
      · obtain ⟨ys, rfl, hy1, hy2, hy3⟩ := lb_join zs hz
        have hyl : ys.length = m := by simpa [rngD] using hzl
        refine ⟨ys, rfl, by rw [hy2]; omega, ?_⟩
        have hlab2 : NmS (Txt.join "" ys) := lb_nm ys hy1 (by omega) (by omega)
        generalize Txt.join "" ys = lab at hlab2 ⊢
        have hlab := hlab2
        walk_at "lb tail"
    · rw [decide_eq_false hb, if_neg Bool.false_ne_true]
      walk_at "lb tail"
  · obtain ⟨xs, s5, s6, s7, s8, s9, s10, hl, hnd, hnm, rfl⟩ := hI
    walk_at "vc"
    exact h xs (by simpa [rngD] using hl) hnd hnm
end
end LW
namespace LW
open PySem PySem.Spec PyProof.Rows L2 L3
local macro_rules | `(tactic| walk_at "vc") => `(tactic| simp only [sSeq, sNx, sBk, sCt, sSet, sIf, sRet, sRetN, sPar, sFor, sExp, dVar, dC, dOp, dCall, dCons, dNil, dTup, dLst, bOr, bNot, bAnd, bYes, dB, dTru, dOrT, dAndT, dNotT, dIf, dChain, view, frz, view1, frz1, startD, List.map_cons, List.map_nil, List.map_append, List.cons_append, List.nil_append, List.length_cons, List.length_nil, List.replicate, List.getElem?_cons_zero, List.getElem?_cons_succ, Option.some.injEq, exists_eq_left', exists_eq_left, gNm, geNm, iTx, iSq, iRg, dLc, List.set_cons_zero, List.set_cons_succ, wipeE, dSl, oNone, oSome, D.int.injEq, D.str.injEq, dJoin, dDnew, dDisp, dPairs, dNeg, sPars, kNil, kDat, kOwn, oLst, oDic, oLstOf, setRho, sApp, sAppF])
section
variable {P : Program} {w : World} {K : PySem.W.Frag} {mg : Str → Option Value} {base : Heap}
/-! ### a hole -/
def fHole : Cf → FN := fun C ds P => ∃ da ca crew lb, C = drw da ca ∧ ds = [.op (.ref da), .lst (crew.map D.str), .str lb] ∧ Crew crew ∧ NmS lb ∧ ∀ h : Hole, OkHole crew h → h.nm = lb → P h.d
theorem of2 {a b : Str} : ∀ y ∈ [D.str a, D.str b], ∃ x, (x = a ∨ x = b) ∧ y = .str x := fun y hy => by
  simp only [List.mem_cons, List.not_mem_nil, or_false] at hy
  rcases hy with rfl | rfl
  · exact ⟨_, .inl rfl, rfl⟩
  · exact ⟨_, .inr rfl, rfl⟩
theorem of3 {a b c : Str} : ∀ y ∈ [D.str a, D.str b, D.str c], ∃ x, (x = a ∨ x = b ∨ x = c) ∧ y = .str x := fun y hy => by
  simp only [List.mem_cons, List.not_mem_nil, or_false] at hy
  rcases hy with rfl | rfl | rfl
  · exact ⟨_, .inl rfl, rfl⟩
  · exact ⟨_, .inr (.inl rfl), rfl⟩
  · exact ⟨_, .inr (.inr rfl), rfl⟩
set_option hygiene false in
local macro_rules | `(tactic| walk_at "hole tail") => `(tactic| (
  refine ⟨by decide, da, ca, rfl, .inl ⟨_, .inl rfl, (by intro z; cases z), by decide, fun y hy => ?_⟩⟩
  obtain ⟨wh, hwh, rfl⟩ := of2 y hy
  refine ⟨by decide, da, ca, rfl, .inl ⟨_, .inl rfl, (by intro z; cases z), by decide, fun y hy => ?_⟩⟩
  obtain ⟨fo, hfo, rfl⟩ := of3 y hy
  refine ⟨by decide, ?_⟩
  exact h ⟨lb, wh, fo, gs⟩ ⟨hlb, hwh, hfo, g0, g1, g2⟩ rfl))
theorem cal_law_hole (T : Txg mg) (C_law_draw : Cal P w K mg base "_law_draw" 1 ["draws", "many"] fDraw) (C_law_pick : Cal P w K mg base "_law_pick" 2 ["draws", "some"] fPick) (d : Dfn K mg "_law_hole" s_law_hole ["draws", "crew", "label"]) : Cal P w K mg base "_law_hole" 3 ["draws", "crew", "label"] fHole := by
  refine cal_of d sc_law_hole (fun C ds R h => by
    obtain ⟨da, ca, _, _, _, rfl, _⟩ := h; rfl) fun f cdv A fr s H E hgd hr C ds R h => ⟨_, (dss_cons (ds_setLc (i := 3) (own := [("goal", 4)]) ⟨sc_law_hole.nd, rfl, by first | exact .inl rfl | exact .inr rfl, .inl rfl⟩ rfl rfl rfl (blkOk_by (N := ["draws", "crew", "label", "goals", "goal", "when"]) (sc := defScope s_law_hole) (by decide +kernel)) (di_list (de_op od_add op_addD (de_lst (da_cons de_str da_nil)) (de_blt cd_sortS cr_sortedS rfl T.m_sorted boot_sorted (da_cons (de_of (pv 1)) da_nil)))) (fun b => dge_name (i := 4) ⟨sc_law_hole.nd, rfl, by first | exact .inl rfl | exact .inr rfl, by first | exact .inr rfl | exact .inl rfl⟩ (by decide)) (fun b => dts_one (dt_cmp od_eq (op_eqb hr.units) (nomark _) (de_cal C_law_draw hgd hr (by decide) rfl (da_cons (de_of (pv 0)) (da_cons de_int da_nil))) de_int)) (fun b => (de_of (pv 4))))
      (dss_cons (ds_set (i := 3) ⟨sc_law_hole.nd, rfl, by first | exact .inl rfl | exact .inr rfl, .inl rfl⟩ (de_if (dt_cmp od_ne (op_neb hr.units) (nomark _) (de_of (pv 3)) (de_lst da_nil)) (de_of (pv 3)) (de_lst (da_cons (de_cal C_law_pick hgd hr (by decide) rfl (da_cons (de_of (pv 0)) (da_cons (de_op od_add op_addD (de_lst (da_cons de_str da_nil)) (de_blt cd_sortS cr_sortedS rfl T.m_sorted boot_sorted (da_cons (de_of (pv 1)) da_nil))) da_nil))) da_nil))))
      (dss_cons (ds_set (i := 5) ⟨sc_law_hole.nd, rfl, by first | exact .inl rfl | exact .inr rfl, .inl rfl⟩ (de_cal C_law_pick hgd hr (by decide) rfl (da_cons (de_of (pv 0)) (da_cons (de_lst (da_cons de_str (da_cons de_str da_nil))) da_nil))))
      (dss_one (ds_ret (de_tup (da_cons (de_of (pv 2)) (da_cons (de_of (pv 5)) (da_cons (de_cal C_law_pick hgd hr (by decide) rfl (da_cons (de_of (pv 0)) (da_cons (de_lst (da_cons de_str (da_cons de_str (da_cons de_str da_nil)))) da_nil))) (da_cons (de_typ cd_tup call_tuple_ofN rfl T.m_tuple boot_tuple (da_cons (de_of (pv 3)) da_nil)) da_nil)))))))))), ?_⟩
  obtain ⟨da, ca, crew, lb, rfl, rfl, hc, hlb, h⟩ := h
  walk_at "vc"
  refine ⟨by decide, crew, rfl, by have := hc.few; omega, fun ys hp hs => ?_⟩
  have hup := hc.zero hp hs
  have hmem : ∀ g ∈ (("" : Str) :: ys), g = "" ∨ g ∈ crew := fun g hg => (List.mem_cons.mp hg).imp id fun z => hp.mem_iff.mp z
  have hyl : ys.length ≤ 16 := by rw [hp.length_eq]; exact hc.few
  refine ⟨by simp; omega, ?_⟩
  refine ⟨_, rfl, by simp; omega, ?_⟩
  refine lc_sub (fun d => d) _ [] _ (fun d hd Q R0 q q0 => ?_) fun zs hz => ?_
  · obtain ⟨z, rfl⟩ : ∃ z, d = .str z := by
      obtain ⟨z, _, rfl⟩ := List.mem_map.mp (show d ∈ (("" : Str) :: ys).map D.str from hd)
      exact ⟨z, rfl⟩
    walk_at "vc"
    refine ⟨da, ca, 2, rfl, rfl, by decide, by decide, fun r r0 r1 => ⟨_, rfl, ?_⟩⟩
    split
    · exact q
    · exact q0
  · obtain ⟨gs, rfl, hg⟩ := sub_txts (xs := ("" : Str) :: ys) hz
    have g1 : Rising gs := hup.sub hg
    have g2 : ∀ g ∈ gs, g = "" ∨ g ∈ crew := fun g h => hmem g (hg.subset h)
    have g3 : gs.length ≤ 17 := by have := hg.length_le; rw [List.length_cons] at this; omega
    have e0 : ([] ++ (gs.map D.str).map fun d => d) = gs.map D.str := by rw [List.nil_append, List.map_id']
    rw [e0]
    refine ⟨by decide, ?_⟩
    have ok1 := (eqOk_txts (l := gs) fun g h => nm0_ok ((g2 g h).imp id (hc.nm g))).1
    refine ⟨ok1, eqOk_nil, _, rfl, ?_⟩
    cases gs with
    | cons g r =>
      rw [show List.map D.str (g :: r) = D.str g :: r.map D.str from rfl, eqD_cons_nil, if_pos (by decide)]
      have g0 : g :: r ≠ [] := fun z => nomatch z
      rw [show D.str g :: r.map D.str = List.map D.str (g :: r) from rfl]
      generalize g :: r = gs at g0 g1 g2 g3
      walk_at "hole tail"
    | nil =>
      rw [show List.map D.str [] = [] from rfl, eqD_nil, if_neg (by decide)]
      refine ⟨by decide, crew, rfl, by have := hc.few; omega, fun ys hp hs => ?_⟩
      have hup := hc.zero hp hs
      have hmem : ∀ g ∈ (("" : Str) :: ys), g = "" ∨ g ∈ crew := fun g hg => (List.mem_cons.mp hg).imp id fun z => hp.mem_iff.mp z
      have hyl : ys.length ≤ 16 := by rw [hp.length_eq]; exact hc.few
      refine ⟨by simp; omega, da, ca, rfl, .inl ⟨_, .inl rfl, (by intro z; cases z), by simp; omega, fun y hy => ?_⟩⟩
      obtain ⟨g, hg, rfl⟩ := List.mem_map.mp (show y ∈ (("" : Str) :: ys).map D.str from hy)
      refine ⟨by decide, ?_⟩
      have g0 : [g] ≠ [] := fun z => nomatch z
      have g1 : Rising [g] := List.pairwise_singleton ..
      have g2 : ∀ x ∈ [g], x = "" ∨ x ∈ crew := fun x hx => by rw [List.mem_singleton.mp hx]; exact hmem g hg
      have g3 : [g].length ≤ 17 := by show 1 ≤ 17; decide
      have e1 : [D.str g] = [g].map D.str := rfl
      revert e1
      generalize [D.str g] = gd
      generalize [g] = gs at g0 g1 g2 g3
      intro e1
      subst e1
      walk_at "hole tail"
end
end LW
namespace LW
open PySem PySem.Spec PyProof.Rows L2 L3
local macro_rules | `(tactic| walk_at "vc") => `(tactic| simp only [sSeq, sNx, sBk, sCt, sSet, sIf, sRet, sRetN, sPar, sFor, sExp, dVar, dC, dOp, dCall, dCons, dNil, dTup, dLst, bOr, bNot, bAnd, bYes, dB, dTru, dOrT, dAndT, dNotT, dIf, dChain, view, frz, view1, frz1, startD, List.map_cons, List.map_nil, List.map_append, List.cons_append, List.nil_append, List.length_cons, List.length_nil, List.replicate, List.getElem?_cons_zero, List.getElem?_cons_succ, Option.some.injEq, exists_eq_left', exists_eq_left, gNm, geNm, iTx, iSq, iRg, dLc, List.set_cons_zero, List.set_cons_succ, wipeE, dSl, oNone, oSome, D.int.injEq, D.str.injEq, dJoin, dDnew, dDisp, dPairs, dNeg, sPars, kNil, kDat, kOwn, oLst, oDic, oLstOf, setRho, sApp, sAppF, sSetF])
section
variable {P : Program} {w : World} {K : PySem.W.Frag} {mg : Str → Option Value} {base : Heap}
/-! ### a sheet -/
def fSheet : Cf → FN := fun C ds P => ∃ da ca crew lb, ∃ n : Nat, C = drw da ca ∧ ds = [.op (.ref da), .lst (crew.map D.str), .str lb, .int n] ∧ Crew crew ∧ NmS lb ∧ n ≤ 4 ∧ ∀ s : Sheet, OkSheet crew s → s.lb = lb → s.holes.length ≤ n → P s.d
def hd0 : D → D
  | .tup (x :: _) => x
  | d => d
theorem holes_of {crew : List Str} : ∀ (xs : List Str) (zs : List D), Paired (fun d y => ∃ x h, d = .str x ∧ y = Hole.d h ∧ OkHole crew h ∧ h.nm = x) (xs.map D.str) zs → ∃ hs : List Hole, zs = hs.map Hole.d ∧ hs.map Hole.nm = xs ∧ ∀ h ∈ hs, OkHole crew h
  | [], _, .nil => ⟨[], rfl, rfl, fun _ h => nomatch h⟩
  | x :: r, _, .cons ⟨x', h, e, e2, h1, h2⟩ t => by
    obtain ⟨hs, rfl, q1, q2⟩ := holes_of r _ t
    cases e
    subst e2
    refine ⟨h :: hs, rfl, by rw [List.map_cons, h2, q1], fun o ho => ?_⟩
    rcases List.mem_cons.mp ho with rfl | ho
    · exact h1
    · exact q2 o ho
theorem cal_law_sheet (T : Txg mg) (C_law_draw : Cal P w K mg base "_law_draw" 1 ["draws", "many"] fDraw) (C_law_labels : Cal P w K mg base "_law_labels" 3 ["draws", "many"] fLabels) (C_law_hole : Cal P w K mg base "_law_hole" 3 ["draws", "crew", "label"] fHole) (d : Dfn K mg "_law_sheet" s_law_sheet ["draws", "crew", "label", "most"]) : Cal P w K mg base "_law_sheet" 4 ["draws", "crew", "label", "most"] fSheet := by
  refine cal_of d sc_law_sheet (fun C ds R h => by
    obtain ⟨da, ca, _, _, _, _, rfl, _⟩ := h; rfl) fun f cdv A fr s H E hgd hr C ds R h => ⟨_, (dss_cons (ds_set (i := 4) ⟨sc_law_sheet.nd, rfl, by first | exact .inl rfl | exact .inr rfl, .inl rfl⟩ (de_cal C_law_labels hgd hr (by decide) rfl (da_cons (de_of (pv 0)) (da_cons (de_cal C_law_draw hgd hr (by decide) rfl (da_cons (de_of (pv 0)) (da_cons (de_op od_add op_addD (de_of (pv 3)) de_int) da_nil))) da_nil))))
      (dss_cons (ds_setLc (i := 5) (own := [("one", 6)]) ⟨sc_law_sheet.nd, rfl, by first | exact .inl rfl | exact .inr rfl, .inl rfl⟩ rfl rfl rfl (blkOk_by (N := ["draws", "crew", "label", "most", "some", "holes", "one", "seen", "hole"]) (sc := defScope s_law_sheet) (by decide +kernel)) (di_list (de_of (pv 4))) (fun b => dge_name (i := 6) ⟨sc_law_sheet.nd, rfl, by first | exact .inl rfl | exact .inr rfl, by first | exact .inr rfl | exact .inl rfl⟩ (by decide)) (fun b => dts_nil) (fun b => (de_cal C_law_hole hgd hr (by decide) rfl (da_cons (de_of (pv 0)) (da_cons (de_of (pv 1)) (da_cons (de_of (pv 6)) da_nil))))))
      (dss_cons (ds_set (i := 7) ⟨sc_law_sheet.nd, rfl, by first | exact .inl rfl | exact .inr rfl, .inl rfl⟩ (de_typ cd_tup call_tuple_ofN rfl T.m_tuple boot_tuple (da_cons (de_blt cd_sortS cr_sortedS rfl T.m_sorted boot_sorted (da_cons (de_lc (own := [("hole", 8)]) rfl sc_law_sheet.nd (blkOk_by (N := ["draws", "crew", "label", "most", "some", "holes", "one", "seen", "hole"]) (sc := defScope s_law_sheet) (by decide +kernel)) (di_list (de_of (pv 5))) (fun b => dge_name (i := 8) ⟨sc_law_sheet.nd, rfl, by first | exact .inl rfl | exact .inr rfl, by first | exact .inr rfl | exact .inl rfl⟩ (by decide)) (fun b => dts_one (dt_cmp od_eq (op_eqb hr.units) (nomark _) (de_cal C_law_draw hgd hr (by decide) rfl (da_cons (de_of (pv 0)) (da_cons de_int da_nil))) de_int)) (fun b => (de_ix od_ix ix_seq (de_of (pv 8)) de_int))) da_nil)) da_nil)))
      (dss_one (ds_ret (de_tup (da_cons (de_of (pv 2)) (da_cons (de_typ cd_tup call_tuple_ofN rfl T.m_tuple boot_tuple (da_cons (de_of (pv 5)) da_nil)) (da_cons (de_if (dt_cmp od_eq (op_eqb hr.units) (nomark _) (de_cal C_law_draw hgd hr (by decide) rfl (da_cons (de_of (pv 0)) (da_cons de_int da_nil))) de_int) de_str (de_of (pv 7))) da_nil))))))))), ?_⟩
  obtain ⟨da, ca, crew, lb, n, rfl, rfl, hc, hlb, hn, h⟩ := h
  walk_at "vc"
  refine ⟨da, ca, n + 1, rfl, rfl, by omega, by omega, fun r r0 r1 => ?_⟩
  obtain ⟨k, rfl⟩ : ∃ k : Nat, r = k := ⟨r.toNat, by omega⟩
  refine ⟨da, ca, k, rfl, rfl, by omega, fun xs xl xnd xnm => ?_⟩
  refine ⟨_, rfl, by rw [List.length_map]; omega, ?_⟩
  refine lc_rel (fun d y => ∃ x h, d = .str x ∧ y = Hole.d h ∧ OkHole crew h ∧ h.nm = x) _ [] _ (fun d hd Q q => ?_) (ge_mono 6) fun zs hz => ?_
  · obtain ⟨x, hx, rfl⟩ := List.mem_map.mp hd
    walk_at "vc"
    exact ⟨da, ca, crew, x, rfl, rfl, hc, xnm x hx, fun h h1 h2 => q _ ⟨x, h, rfl, rfl, h1, h2⟩⟩
  · obtain ⟨hs, rfl, h1, h2⟩ := holes_of xs zs hz
    have hsl : hs.length = k := by rw [← xl, ← h1, List.length_map]
    rw [List.nil_append]
    refine ⟨_, rfl, by rw [List.length_map]; omega, ?_⟩
    refine lc_sub hd0 _ [] _ (fun d hd Q R0 q q0 => ?_) fun zs hz => ?_
    · obtain ⟨o, ho, rfl⟩ := List.mem_map.mp hd
      walk_at "vc"
      refine ⟨da, ca, 2, rfl, rfl, by decide, by decide, fun r r0 r1 => ⟨_, rfl, ?_⟩⟩
      split
      · exact ⟨_, atI0, q⟩
      · exact q0
    · obtain ⟨os, ho, rfl⟩ := List.sublist_map_iff.mp hz
      have e0 : [] ++ (os.map Hole.d).map hd0 = (os.map Hole.nm).map D.str := by
        rw [List.nil_append, List.map_map, List.map_map]
        rfl
      rw [e0]
      have sub : (os.map Hole.nm).Sublist xs := by rw [← h1]; exact ho.map _
      refine ⟨_, rfl, by have := sub.length_le; omega, fun ys hp hs1 => ?_⟩
      have hup : Rising ys := sorted_rising hp hs1 (xnd.sublist sub)
      have hmem : ∀ x ∈ ys, x ∈ hs.map Hole.nm := fun x hx => by rw [h1]; exact sub.subset (hp.mem_iff.mp hx)
      refine ⟨da, ca, 3, rfl, rfl, by decide, by decide, fun r r0 r1 => ⟨_, rfl, ?_⟩⟩
      have nd : (hs.map Hole.nm).Nodup := by rw [h1]; exact xnd
      split
      · exact ⟨by decide, h ⟨lb, hs, none⟩ ⟨hlb, by show hs.length ≤ 4; omega, nd, h2, fun xs e => nomatch e⟩ rfl (by show hs.length ≤ n; omega)⟩
      · exact ⟨by decide, h ⟨lb, hs, some ys⟩ ⟨hlb, by show hs.length ≤ 4; omega, nd, h2, fun xs e => by cases e; exact ⟨hup, hmem⟩⟩ rfl (by show hs.length ≤ n; omega)⟩
/-! ### the sheets -/
def fSheets : Cf → FN := fun C ds P => ∃ da ca, ∃ m n : Nat, C = drw da ca ∧ ds = [.op (.ref da), .int m, .int n] ∧ 1 ≤ m ∧ m ≤ 4 ∧ n ≤ 4 ∧ ∀ ss : List Sheet, OkSheets ss → ss.length ≤ m → (∀ s ∈ ss, s.holes.length ≤ n) → P (.lst (ss.map Sheet.d))
theorem atI_last {α : Type} {l : List α} {x : α} : atI (l ++ [x]) (-1) = some x := by
  unfold atI ixN
  rw [if_neg (by decide)]
  have e : (l ++ [x]).length = l.length + 1 := by rw [List.length_append]; rfl
  rw [e, if_pos (by omega)]
  have e2 : ((-1 : Int) + ((l.length + 1 : Nat) : Int)).toNat = l.length := by omega
  rw [e2]
  simp
theorem cal_law_sheets (T : Txg mg) (C_law_draw : Cal P w K mg base "_law_draw" 1 ["draws", "many"] fDraw) (C_law_labels : Cal P w K mg base "_law_labels" 3 ["draws", "many"] fLabels) (C_law_sheet : Cal P w K mg base "_law_sheet" 4 ["draws", "crew", "label", "most"] fSheet) (d : Dfn K mg "_law_sheets" s_law_sheets ["draws", "many", "most"]) : Cal P w K mg base "_law_sheets" 5 ["draws", "many", "most"] fSheets := by
  refine cal_of d sc_law_sheets (fun C ds R h => by
    obtain ⟨da, ca, _, _, _, rfl, _⟩ := h; rfl) fun f cdv A fr s H E hgd hr C ds R h => ⟨_, (dss_cons (ds_pars3 (i := 3) (j := 4) (l := 5) ⟨sc_law_sheets.nd, rfl, by first | exact .inl rfl | exact .inr rfl, .inl rfl⟩ ⟨sc_law_sheets.nd, rfl, by first | exact .inl rfl | exact .inr rfl, .inl rfl⟩ ⟨sc_law_sheets.nd, rfl, by first | exact .inl rfl | exact .inr rfl, .inl rfl⟩ (by decide) rfl rfl rfl rfl (dka_dat (de_blt cd_sortS cr_sortedS rfl T.m_sorted boot_sorted (da_cons (de_cal C_law_labels hgd hr (by decide) rfl (da_cons (de_of (pv 0)) (da_cons (de_op od_add op_addD de_int (de_cal C_law_draw hgd hr (by decide) rfl (da_cons (de_of (pv 0)) (da_cons (de_of (pv 1)) da_nil)))) da_nil))) da_nil)) (dka_own (df_lst da_nil) (dka_dat de_int dka_nil))))
      (dss_cons (ds_for PassesOwn.never rfl (di_list (de_of (pv 3))) (dg_name (i := 6) ⟨sc_law_sheets.nd, rfl, by first | exact .inl rfl | exact .inr rfl, .inl rfl⟩) (dss_cons (ds_app (pv 4) (de_cal C_law_sheet hgd hr (by decide) rfl (da_cons (de_of (pv 0)) (da_cons (de_of (pv 3)) (da_cons (de_of (pv 6)) (da_cons (de_blt cd_min (call_min2 rfl) rfl T.m_min boot_min (da_cons (de_of (pv 2)) (da_cons (de_of (pv 5)) da_nil))) da_nil))))))
      (dss_one (ds_setF (i := 5) ⟨sc_law_sheets.nd, rfl, by first | exact .inl rfl | exact .inr rfl, .inl rfl⟩ (de_op od_sub op_sub (de_of (pv 5)) (de_blt cd_len call_lenAll rfl T.m_len boot_len (da_cons (de_ix od_ix ix_seq (de_ix od_ix ix_seq (de_of (pv 4)) (de_neg de_int)) de_int) da_nil)))))))
      (dss_one (ds_ret (de_of (pv 4)))))), ?_⟩
  obtain ⟨da, ca, m, n, rfl, rfl, hm1, hm4, hn, h⟩ := h
  walk_at "vc"
  refine ⟨da, ca, m, rfl, rfl, by omega, by omega, fun r r0 r1 => ?_⟩
  refine ⟨da, ca, r.toNat + 1, rfl, by rw [show ((r.toNat + 1 : Nat) : Int) = 1 + r by omega], by omega, fun xs xl xnd xnm => ?_⟩
  refine ⟨xs, rfl, by omega, fun crew hp hs => ?_⟩
  have hup : Rising crew := sorted_rising hp hs xnd
  have hcl : crew.length ≤ m := by rw [hp.length_eq]; omega
  have hcl1 : 1 ≤ crew.length := by rw [hp.length_eq]; omega
  have hC : Crew crew := ⟨by omega, fun x hx => xnm x (hp.mem_iff.mp hx), hup.nodup⟩
  refine ⟨by decide, trivial, rfl, _, rfl, ?_⟩
  refine ⟨fun i ρ => ∃ ss : List Sheet, ∃ lf : Nat, ∃ s6 : Sl, ss.map Sheet.lb = crew.take i ∧ (∀ s ∈ ss, OkSheet crew s ∧ s.holes.length ≤ n) ∧ ρ = [.dat (.op (.ref da)), .dat (.int m), .dat (.int n), .dat (.lst (crew.map D.str)), .own (ss.map Sheet.d), .dat (.int lf), s6],
    ⟨[], 12, _, rfl, (fun s hs => nomatch hs), rfl⟩, fun i d ρ' hd hI => ?_, fun ρ' hI => ?_⟩
  · obtain ⟨ss, lf, s6, h1, h2, rfl⟩ := hI
    rw [List.getElem?_map] at hd
    cases hx : crew[i]? with
    | none => rw [hx] at hd; cases hd
    | some x =>
      rw [hx] at hd
      cases hd
      have hi : i < crew.length := (List.getElem?_eq_some_iff.mp hx).1
      have hxm : x ∈ crew := List.mem_of_getElem? hx
      have hsl : ss.length = i := by
        have := congrArg List.length h1
        rw [List.length_map, List.length_take] at this
        omega
      walk_at "vc"
      refine ⟨_, rfl, ?_⟩
      have em : ∃ k : Nat, (if (lf : Int) < (n : Int) then (lf : Int) else (n : Int)) = k ∧ k ≤ n ∧ k ≤ lf := by
        split
        · exact ⟨lf, rfl, by omega, by omega⟩
        · exact ⟨n, rfl, by omega, by omega⟩
      obtain ⟨k, ek, k1, k2⟩ := em
      simp only [fMin]
      rw [ek]
      refine ⟨da, ca, crew, x, k, rfl, rfl, hC, hC.nm x hxm, by omega, fun s o1 o2 o3 => ?_⟩
      refine ⟨by rw [List.length_map]; omega, ?_⟩
      refine ⟨s.d, atI_last, ?_⟩
      refine ⟨.tup (s.holes.map Hole.d), rfl, ?_⟩
      refine ⟨s.holes.length, by show some (s.holes.map Hole.d).length = _; rw [List.length_map], ?_⟩
      refine ⟨trivial, rfl, ss ++ [s], lf - s.holes.length, .dat (.str x), ?_, fun o ho => ?_, ?_⟩
      · rw [List.map_append, h1, List.take_add_one, hx]
        rw [show List.map Sheet.lb [s] = [s.lb] from rfl, o2]
        rfl
      · rcases List.mem_append.mp ho with ho | ho
        · exact h2 o ho
        · rw [List.mem_singleton.mp ho]; exact ⟨o1, by omega⟩
      · rw [List.map_append, show ((lf - s.holes.length : Nat) : Int) = (lf : Int) - (s.holes.length : Int) by omega]
        rfl
  · obtain ⟨ss, lf, s6, h1, h2, rfl⟩ := hI
    walk_at "vc"
    have e1 : ss.map Sheet.lb = crew := by
      rw [h1, List.length_map, List.take_length]
    have e2 : ss.length = crew.length := by rw [← e1, List.length_map]
    exact h ss ⟨by omega, by omega, by rw [e1]; exact hup, fun s hs => by rw [e1]; exact (h2 s hs).1⟩ (by omega) fun s hs => (h2 s hs).2
end
end LW
namespace L3
open PySem PySem.Spec PyProof.Rows L2 Builtin

theorem on_slot : Slot "object" "__ne__" "object.__ne__" := Slot.of (T := "object") (name := "__ne__") (owner := "object") (n := "__ne__") (by rw [typeLookup_type, builtinLookup_eq_fast]; kernel_rfl) (by decide +kernel) (by decide +kernel) (by decide +kernel)
    (.inl (by decide +kernel)) (by rw [isSubtype_type]; kernel_rfl)
section
variable {prog : Program} {w : World} {A : Around} {E : Value → Shared → Prop} {s : Shared} {K : PySem.W.Frag} {x C L f : Addr} {h₀ : Heap} {m : Str → Option Value} {ox : Obj} {od : Option Obj} {b tb : Value}
theorem ifBound_ne {args : List Value} {Q : Option Value → Shared → Prop} (X : K.In s.heap) (I : PySem.W.InstAt s.heap x ox C od) (hs : PySem.W.findIn K (.ref C) "__ne__" = some (some (.builtin "object.__ne__")))
    (h : wpAny (model prog w) A (call (.builtin "object.__ne__") (.ref x :: args)) (fun v => Q (some v)) E s) : wpAny (model prog w) A (callSpecialIfBound? (.ref x) "__ne__" args) Q E s := by
  simp only [callSpecialIfBound?, bindSpecialIfBound?]
  refine wpAny_holding (wpAny_bind (wpAny_bind (wpAny_bind (I.type.here ((PySem.W.looks_findIn X hs).here ?_)))))
  refine wpAny_bind (wpAny_askSetting (wpAny_ite ?_))
  have fin : wpAny (model prog w) A (call (.builtin "object.__ne__") ([.ref x] ++ args) >>= fun v => pure (some v)) Q E s := wpAny_bind (wpAny_mono h (fun v s' h' => wpAny_pure h') fun _ _ h' => h')
  have bnd : PySem.W.Looks (model prog w) s.heap (bindSpecial (.builtin "object.__ne__") (.ref x)) (.builtin "object.__ne__", [.ref x]) := PySem.W.Looks.of_pure (on_slot.bind _)
  split
  · exact wpAny_bind (bnd.here (wpAny_pure (by exact fin)))
  · exact wpAny_tryCatch (wpAny_bind (bnd.here (wpAny_pure (by exact fin))))
theorem run_ne {Q : Value → Shared → Prop} (hu : A.in1.units < cLine) (X : K.In s.heap) (I : PySem.W.InstAt s.heap x ox C od) (he : PySem.W.findIn K (.ref C) "__eq__" = some (some (.ref f))) (hf : PySem.W.isFn K (.ref f) = true) (hm : PySem.W.mroIn K C (.type "object") = some true)
    (h : wpAny (model prog w) A.in1 (call (.ref f) [.ref x, b]) (fun v s' => ∃ c, v = .bool c ∧ Q (.bool (!c)) s') E s) :
    wpAny (model prog w) A (call (.builtin "object.__ne__") [.ref x, b]) Q E s := by
  have sub : PySem.W.Looks (model prog w) s.heap (isInstance (.ref x) (.type "object")) true := I.type.andThen (PySem.W.looks_mroIn X hm)
  refine wpAny_call (codeAny_call_builtin on_slot.plain F.cmpEntry_ne (PySem.W.check_slot F.cmpKind_ne F.cmpSplit_ne sub (F.cmpArgs_ne _ _) ?_))
  unfold Builtin.«object.__ne__»
  repeat (first
    | with_reducible refine wpAny_cRoomFor hu ?_
    | (refine wpAny_bind (m := callSpecialIfBound? (.ref x) (Str.ofString "__eq__") [b])
        (PySem.W.ifBound_K X I he hf (wpAny_mono h (fun r s' hr => by
          obtain ⟨c, rfl, hq⟩ := hr
          repeat (first | exact hq | exact wpAny_pure hq | exact wpAny_truthy_bool hq | (refine wpAny_bind (m := truthy (.bool _)) (wpAny_truthy_bool ?_)) | wp_step)) fun _ _ e => e)))
    | wp_step)
theorem ne_K {Q : Value → Shared → Prop} (hu : A.units < cLine) (hu1 : A.in1.units < cLine) (X : K.In s.heap) (I : PySem.W.InstAt s.heap x ox C od) (hb : PySem.W.Looks (model prog w) s.heap (typeOf b) tb) (hn : PySem.W.notFirst K C tb = true)
    (hs : PySem.W.findIn K (.ref C) "__ne__" = some (some (.builtin "object.__ne__"))) (he : PySem.W.findIn K (.ref C) "__eq__" = some (some (.ref f))) (hf : PySem.W.isFn K (.ref f) = true) (hm : PySem.W.mroIn K C (.type "object") = some true)
    (h : wpAny (model prog w) A.in1 (call (.ref f) [.ref x, b]) (fun v s' => ∃ c, v = .bool c ∧ Q (.bool (!c)) s') E s) : wpAny (model prog w) A (richCompare .NotEq (.ref x) b) Q E s := by
  have one : wpAny (model prog w) A (tryCompare (.ref x) (cmpInfo .NotEq).2.1 b) (fun r s' => ∃ v, r = some v ∧ Q v s') E s := by
    unfold tryCompare
    refine wpAny_bind (ifBound_ne X I hs (wpAny_mono (run_ne (Q := fun v s' => ∃ c, v = .bool c ∧ Q (.bool c) s') hu1 X I he hf hm (wpAny_mono h (fun v s' z => ?_) fun _ _ e => e)) (fun v s' hv => ?_) fun _ _ e => e))
    · obtain ⟨c, rfl, q⟩ := z
      exact ⟨c, rfl, _, rfl, q⟩
    · obtain ⟨c, rfl, q⟩ := hv
      exact wpAny_pure ⟨_, rfl, q⟩
  unfold richCompare
  simp only [oneThing_ref]
  refine wpAny_holding (wpAny_bind (wpAny_cRoomFor hu ?_))
  refine wpAny_bind (I.type.here (wpAny_bind (hb.here ?_)))
  split
  · rename_i q
    have e : PySem.W.subIn K tb (.ref C) = some false := by
      rcases Bool.or_eq_true_iff.mp hn with e | e
      · rw [beq_iff_eq.mp e] at q; simp at q
      · exact beq_iff_eq.mp e
    refine wpAny_bind ((PySem.W.looks_subIn X e).here ?_)
    simp only [Bool.false_eq_true, if_false]
    refine wpAny_bind (wpAny_mono one (fun r s' z => ?_) fun _ _ e => e)
    obtain ⟨v, rfl, hq⟩ := z
    exact wpAny_pure hq
  · refine wpAny_bind (wpAny_pure ?_)
    simp only [Bool.false_eq_true, if_false]
    refine wpAny_bind (wpAny_mono one (fun r s' z => ?_) fun _ _ e => e)
    obtain ⟨v, rfl, hq⟩ := z
    exact wpAny_pure hq
end
end L3
namespace L3
open PySem PySem.Spec PyProof.Rows L2

/-! ### what a datum's class is -/
def tyA : D → Option Value
  | .non => some (.type "NoneType")
  | .bl _ => some (.type "bool")
  | .int _ => some (.type "int")
  | .str _ => some (.type "str")
  | .lst _ => some (.type "list")
  | .tup _ => some (.type "tuple")
  | .dic _ => some (.type "dict")
  | .dcf _ _ => some (.type "dict")
  | .ins C _ => some (.ref C)
  | _ => none
theorem looks_ty {X : Cx} {pins : List (Addr × Obj)} {σ : L2.St} {H : Hp} {s : Shared} {S : AS} {v : V} {u t : Value} {d : D} (I : Inv X pins σ H s) (r : RelV v u) (h : DV X.K (hid H S) v d) (e : tyA d = some t) :
    PySem.W.Looks (model X.prog X.w) s.heap (typeOf u) t := by
  cases h with
  | non => cases r; cases e; exact .now
  | bl b => cases r; cases e; exact .now
  | int b => obtain ⟨t, rfl⟩ := r; cases e; exact .now
  | str b => obtain ⟨t, rfl⟩ := r; cases e; exact .now
  | lst e1 _ =>
    cases r; cases e
    obtain ⟨_, its, n, _, g⟩ := (show ObjOk X.prog X.w H s.heap _ (.lst _) from I.hok _ _ (same_hid _ _ e1))
    exact (PySem.W.Looks.ld g).andThen .now
  | tup e1 _ =>
    cases r; cases e
    obtain ⟨ob, _, e2⟩ := e1.mono same_hid
    obtain ⟨_, _, its, _, o, g, g2, _⟩ := (show ObjOk X.prog X.w H s.heap _ (.frz _ (.tup _)) from I.hok _ _ e2)
    refine (PySem.W.Looks.ld g).andThen ?_
    rw [← g2]
    exact .now
  | dcf e1 _ =>
    cases r; cases e
    obtain ⟨_, _, _, vs, _, o, es, ep, g, g2, _⟩ := (show ObjOk X.prog X.w H s.heap _ (.frz _ (.dK _)) from I.hok _ _ (same_hid _ _ e1))
    refine (PySem.W.Looks.ld g).andThen ?_
    rw [← g2.1]
    exact .now
  | dic e1 _ =>
    cases r; cases e
    obtain ⟨_, _, vs, _, o, es, ep, g, g2, _⟩ := (show ObjOk X.prog X.w H s.heap _ (.dK _) from I.hok _ _ (same_hid _ _ e1))
    refine (PySem.W.Looks.ld g).andThen ?_
    rw [← g2.1]
    exact .now
  | @ins a C dx fs kvs e1 _ =>
    cases r; cases e
    obtain ⟨mA, J, _⟩ := ins_get I.hok (same_hid _ _ e1)
    exact (PySem.W.Looks.ld J.obj).andThen .now
  | scr _ => cases e
  | op _ => cases e
  | exc _ _ _ => cases e
  | exc0 _ => cases e
  | sem _ _ => cases e

/-! ### what of the text an own class must have -/
structure ClsI (K : PySem.W.Frag) (C : Addr) : Prop where
  cl : Cls K C
  ca : PySem.W.findIn K (.ref C) "__class__" = some (some (.builtin "object.__class__"))
  cn : PySem.W.specialIn K (.builtin "object.__class__") "__get__" = some (some (.builtin "getset_descriptor.__get__"))
  ct : PySem.W.takesIn K (.builtin "object.__class__") = some true
  cm : PySem.W.mroIn K C (.type "object") = some true
/-- isinstance(x, C), C an own class -/
def fIsiC (K : PySem.W.Frag) (C : Addr) : FN
  | [d, .op (.ref C')], P => C' = C ∧ ∃ t b, tyA d = some t ∧ (∀ C2 ks, d = .ins C2 ks → ClsI K C2) ∧ PySem.W.kitOne K t (.ref C) = some b ∧ P (.bl b)
  | _, _ => False
section
variable {K : PySem.W.Frag} {Cf0 : Cf} {C : Addr}
theorem tyx_of {S : AS} {H : Hp} {v : V} {d : D} {t : Value} (h : DV K (hid H S) v d) (e : tyA d = some t) (hc : ∀ C2 ks, d = .ins C2 ks → ClsI K C2) : TyX K H v t := by
  cases h with
  | non => cases e; exact .base .non
  | bl b => cases e; exact .base (.bl b)
  | int b => cases e; exact .base (.int b)
  | str b => cases e; exact .base (.str b)
  | lst e1 _ => cases e; exact .base (.lst (same_hid _ _ e1))
  | tup e1 _ =>
    cases e
    obtain ⟨ob, _, e2⟩ := e1.mono same_hid
    exact .fTuple e2
  | dic e1 _ => cases e; exact .base (.dK (same_hid _ _ e1))
  | dcf e1 _ => cases e; exact .fDict (same_hid _ _ e1)
  | ins e1 _ => cases e; have c := hc _ _ rfl; exact .base (.ins (same_hid _ _ e1) c.cl c.ca c.cn c.ct c.cm)
  | scr _ => cases e
  | op _ => cases e
  | exc _ _ _ => cases e
  | exc0 _ => cases e
  | sem _ _ => cases e
theorem cd_isiC : CallD K Cf0 (rIsi K) (fIsiC K C) := by
  intro S H vs ds P Q ok hv h q
  match ds, h with
  | [d, .op (.ref C')], h =>
    obtain ⟨rfl, t, b, h1, h2, h3, p⟩ := h
    obtain ⟨v, w, rfl, hd, hw⟩ := two_dv hv
    have := hw.op_inv
    subst this
    exact ⟨v, _, t, _, b, rfl, .own C', tyx_of hd h1 h2, h3, q _ _ H (Go.refl ok) p (.bl _)⟩
end

/-! ### == and != by an own __eq__ -/
section
variable {X : Cx} {k : Nat} {C f : Addr} {fd : FuncData} {F : Cf → FN}
/-- how == of the class is found -/
structure EqI (P : Program) (w : World) (K : PySem.W.Frag) (mg : Str → Option Value) (base : Heap) (k : Nat) (C : Addr) (F : Cf → FN) : Prop where
  ex : ∃ (f : Addr) (fd : FuncData) (ps : List Str), FnG P w K mg base CX0 k f fd ps (spD K F) ∧ L2.Binds K fd ps [] ∧ PySem.W.findIn K (.ref C) "__eq__" = some (some (.ref f)) ∧ PySem.W.isFn K (.ref f) = true
def rEqI (K : PySem.W.Frag) (C : Addr) (F : Cf → FN) : R2 := fun x y H Q => ∃ a dx fs S d t, x = .ref a ∧ H a = some (.ins C dx fs) ∧ DV K (hid H S) y d ∧ tyA d = some t ∧ PySem.W.notFirst K C t = true ∧ spD K F [x, y] H Q E0
def rNeI (K : PySem.W.Frag) (C : Addr) (F : Cf → FN) : R2 := fun x y H Q => ∃ a dx fs S d t, x = .ref a ∧ H a = some (.ins C dx fs) ∧ DV K (hid H S) y d ∧ tyA d = some t ∧ PySem.W.notFirst K C t = true ∧ spD K F [x, y] H (fun z H' => ∃ c, z = .bl c ∧ Q (.bl (!c)) H') E0
theorem op_eqI (c : EqI X.prog X.w X.K X.mg X.base k C F) (hgd : X.A.guards = some []) (hr : Room k X.A) : OpR X (compareOp .Eq) (rEqI X.K C F) := by
  intro pins s σ H x y v u Q I rx ry h
  obtain ⟨a, dx, fs, S, d, t, rfl, ha, hd, ht, hn, q⟩ := h
  obtain ⟨f, fd, ps, G, hb, hs, hf⟩ := c.ex
  cases (show v = Value.ref a from rx)
  obtain ⟨mA, J, _⟩ := ins_get I.hok ha
  obtain ⟨od, J, _⟩ := J.look
  obtain ⟨m, hF⟩ := I.fr
  show wpAny (model X.prog X.w) X.A (richCompare .Eq (.ref a) u) (EP X pins σ Q) X.xe s
  refine PySem.W.cmp_K (op := .Eq) (tb := t) hr.units0 hF I.ok.mod.kin J (looks_ty I ry hd ht) hn hs hf ?_
  refine wpAny_mono (go_fn (us := [.ref a, u]) (vs := [.ref a, y]) G hgd hr hb pass0 I (.cons rfl (.cons ry .nil)) q) (fun w s' z => ?_) fun _ _ x => x
  obtain ⟨z', H', I', rz, qz⟩ := z
  exact SlX.cmpback rz ⟨z', H', I', rz, qz⟩
theorem op_neI (c : EqI X.prog X.w X.K X.mg X.base k C F) (hgd : X.A.guards = some []) (hr : Room (k + 1) X.A) (hne : PySem.W.findIn X.K (.ref C) "__ne__" = some (some (.builtin "object.__ne__"))) (hm : PySem.W.mroIn X.K C (.type "object") = some true) :
    OpR X (compareOp .NotEq) (rNeI X.K C F) := by
  intro pins s σ H x y v u Q I rx ry h
  obtain ⟨a, dx, fs, S, d, t, rfl, ha, hd, ht, hn, q⟩ := h
  obtain ⟨f, fd, ps, G, hb, hs, hf⟩ := c.ex
  cases (show v = Value.ref a from rx)
  obtain ⟨mA, J, _⟩ := ins_get I.hok ha
  obtain ⟨od, J, _⟩ := J.look
  show wpAny (model X.prog X.w) X.A (richCompare .NotEq (.ref a) u) (EP X pins σ Q) X.xe s
  refine ne_K (tb := t) hr.units0 hr.in1.units0 I.kIn J (looks_ty I ry hd ht) hn hne hs hf hm ?_
  have hl := G.len _ _ _ _ q
  have hb' := hb s [.ref a, u] I.kIn (by simpa using hl)
  rw [List.append_nil] at hb'
  refine wpAny_call (codeAny_mono (G.go X.A.in1 X.stack s H ⟨[.ref a, u], []⟩ [.ref a, u] [.ref a, y] _ E0 hgd hr.in1 I.env0.in1 hb' (.cons rfl (.cons ry .nil)) q) fun r s' hq => ?_)
  match r, hq with
  | .error e, hq => exact go_end (pass0 (X := X)) I (r := .error e) hq
  | .ok (.ret w), hq =>
    obtain ⟨z, H', I', rz, c, rfl, qz⟩ := go_end (pass0 (X := X)) I (r := .ok (.ret w)) hq
    cases (show w = Value.bool c from rz)
    exact ⟨c, rfl, .bl (!c), H', I', rfl, qz⟩
  | .ok .next, hq => exact False.elim hq
  | .ok .brk, hq => exact False.elim hq
  | .ok .cont, hq => exact False.elim hq
def fEqI (K : PySem.W.Frag) (C : Addr) (F : FN) : F2 := fun a b P => ∃ ks t, a = .ins C ks ∧ tyA b = some t ∧ PySem.W.notFirst K C t = true ∧ F [a, b] P
def fNeI (K : PySem.W.Frag) (C : Addr) (F : FN) : F2 := fun a b P => ∃ ks t, a = .ins C ks ∧ tyA b = some t ∧ PySem.W.notFirst K C t = true ∧ F [a, b] fun d => ∃ c, d = .bl c ∧ P (.bl (!c))
theorem od_eqI {K : PySem.W.Frag} {Cf0 : Cf} : OpD K Cf0 (rEqI K C F) (fEqI K C (F Cf0)) := by
  intro S H x y a b P Q ok hx hy h q
  obtain ⟨ks, t, rfl, h1, h2, h3⟩ := h
  cases hx with
  | ins e1 k1 => exact ⟨_, _, _, S, b, t, rfl, same_hid _ _ e1, hy, h1, h2, Cf0, S, _, P, ok, .cons (.ins e1 k1) (.cons hy .nil), h3, q⟩
theorem od_neI {K : PySem.W.Frag} {Cf0 : Cf} : OpD K Cf0 (rNeI K C F) (fNeI K C (F Cf0)) := by
  intro S H x y a b P Q ok hx hy h q
  obtain ⟨ks, t, rfl, h1, h2, h3⟩ := h
  cases hx with
  | ins e1 k1 =>
    refine ⟨_, _, _, S, b, t, rfl, same_hid _ _ e1, hy, h1, h2, Cf0, S, _, _, ok, .cons (.ins e1 k1) (.cons hy .nil), h3, fun v d H' g p hv => ?_⟩
    obtain ⟨c, rfl, p⟩ := p
    exact ⟨c, hv.bl_inv, q _ _ H' g p (.bl _)⟩
end

/-! ### attributes, properties, methods -/
def fldOf (f : Str) : List (Key × D) → Option D
  | [] => none
  | (.inr g, d) :: r => if f = g then some d else fldOf f r
  | (.inl _, _) :: r => fldOf f r
def dFld (C : Addr) (f : Str) (t : TD) : TD := fun E P => t E fun d => ∃ ks x, d = .ins C ks ∧ fldOf f ks = some x ∧ P x
theorem dk_look {K : PySem.W.Frag} {H : Hp} {f : Str} {x : D} : ∀ {fs : List (Str × V)} {ks : List (Key × D)}, DKs K H (fs.map fun p => (.inr p.1, p.2)) ks → fldOf f ks = some x → ∃ v, fs.lookup f = some v ∧ DV K H v x
  | [], _, .nil, e => by cases e
  | (g, v) :: r, _, .cons (d := d) (ds := ds) h t, e => by
    have e : (if f = g then some d else fldOf f ds) = some x := e
    by_cases hg : f = g
    · subst hg
      rw [if_pos rfl] at e
      cases e
      exact ⟨v, List.lookup_cons_self, h⟩
    · have n2 : (f == g) = false := by rw [beq_eq_false_iff_ne]; exact hg
      rw [if_neg hg] at e
      obtain ⟨v', h1, h2⟩ := dk_look t e
      exact ⟨v', by rw [List.lookup_cons, n2]; exact h1, h2⟩
theorem dk_miss {K : PySem.W.Frag} {H : Hp} {f : Str} : ∀ {fs : List (Str × V)} {ks : List (Key × D)}, DKs K H (fs.map fun p => (.inr p.1, p.2)) ks → fldOf f ks = none → fs.lookup f = none
  | [], _, .nil, e => rfl
  | (g, v) :: r, _, .cons (d := d) (ds := ds) h t, e => by
    have e : (if f = g then some d else fldOf f ds) = none := e
    by_cases hg : f = g
    · subst hg
      rw [if_pos rfl] at e
      cases e
    · have n2 : (f == g) = false := by rw [beq_eq_false_iff_ne]; exact hg
      rw [if_neg hg] at e
      rw [List.lookup_cons, n2]
      exact dk_miss t e
section
variable {X : Cx} {Cf0 : Cf} {C : Addr} {o e : Expr} {es : List Expr} {td : TD} {ta : TDs} {f m : Str} {pos apos : Pos} {k j : Nat} {F : Cf → FN}
theorem de_fld (c : Cls X.K C) (n : NoAttr X.K C f) (h : DE X Cf0 o td) (hb : attributeBase o f X.env (eval o X.env) = eval o X.env := by rfl) : DE X Cf0 (.Attribute o f pos) (dFld C f td) := by
  obtain ⟨te, h1, h2⟩ := h.ex
  refine ⟨⟨_, pe_fld h1 hb, fun S σ H E P Q r hp q => h2 S σ H E _ _ r hp fun v d H1 g1 p1 v1 => ?_⟩⟩
  obtain ⟨ks, x, rfl, l, p1⟩ := p1
  cases v1 with
  | ins e1 k1 =>
    obtain ⟨w, l2, hw⟩ := dk_look k1 l
    exact ⟨_, C, _, _, w, rfl, same_hid _ _ e1, c, n, l2, q _ _ H1 g1 p1 hw⟩
/-- a property whose getter returns an attribute -/
structure PropI (P : Program) (w : World) (K : PySem.W.Frag) (mg : Str → Option Value) (base : Heap) (k : Nat) (C : Addr) (f f' : Str) : Prop where
  ex : ∃ (p g : Addr) (fd : FuncData) (ps : List Str), Cls K C ∧ PropOf K C f p g ∧ FnOk P w K mg base CX0 k g fd ps (getSp C f') ∧ L2.Binds K fd ps []
theorem de_prop {f' : Str} (c : PropI X.prog X.w X.K X.mg X.base k C f f') (hr : Room j X.A) (hk : k + 1 ≤ j) (h : DE X Cf0 o td) (hb : attributeBase o f X.env (eval o X.env) = eval o X.env := by rfl) : DE X Cf0 (.Attribute o f pos) (dFld C f' td) := by
  obtain ⟨p, g, fd, ps, cl, hp, G, hbd⟩ := c.ex
  obtain ⟨te, h1, h2⟩ := h.ex
  refine ⟨⟨_, pe_prop h1 cl hp G (hr.mono hk) hbd .nil pass0 hb, fun S σ H E P Q r hp q => h2 S σ H E _ _ r hp fun v d H1 g1 p1 v1 => ?_⟩⟩
  obtain ⟨ks, x, rfl, l, p1⟩ := p1
  cases v1 with
  | ins e1 k1 =>
    obtain ⟨w, l2, hw⟩ := dk_look k1 l
    exact ⟨_, _, _, rfl, same_hid _ _ e1, _, _, _, w, rfl, same_hid _ _ e1, l2, q _ _ H1 g1 p1 hw⟩
/-- a method -/
structure MetI (P : Program) (w : World) (K : PySem.W.Frag) (mg : Str → Option Value) (base : Heap) (k : Nat) (C : Addr) (m : Str) (F : Cf → FN) : Prop where
  ex : ∃ (f : Addr) (fd : FuncData) (ps : List Str), Cls K C ∧ Meth K C m f ∧ FnG P w K mg base CX0 k f fd ps (spD K F) ∧ L2.Binds K fd ps []
def dMeth (C : Addr) (m : Str) (F : FN) (to : TD) (ta : TDs) : TD := fun E P => to E fun d => ∃ ks, d = .ins C ks ∧ fldOf m ks = none ∧ ta E fun ds => F (d :: ds) P
theorem de_met {pl : Sem Bool} (c : MetI X.prog X.w X.K X.mg X.base k C m F) (hgd : X.A.guards = some []) (hr : Room j X.A) (hk : k ≤ j) (h : DE X Cf0 o td) (ha : DA X Cf0 (e :: es) ta)
    (hst : starEach (e :: es) X.env = (false, eval e X.env) :: starEach es X.env := by rfl) (hpl : (backTo pos (starEach es X.env)).any (·.1) = false := by rfl)
    (ht : eval (.Call (.Attribute o m apos) (e :: es) [] pos) X.env = (do
      let ov ← eval o X.env
      standAt apos.atName
      let (f, first) ← holding [ov] (getMethod ov m pl)
      callWith pos f first (backTo pos (starEach (e :: es) X.env)) (backToKw pos (keywordEach [] X.env))) := by rfl) : DE X Cf0 (.Call (.Attribute o m apos) (e :: es) [] pos) (dMeth C m (F Cf0) td ta) := by
  obtain ⟨f, fd, ps, cl, hm, G, hbd⟩ := c.ex
  obtain ⟨te, h1, h2⟩ := h.ex
  obtain ⟨tr, r1, r2⟩ := ha.ex
  have pe : PE X (.Call (.Attribute o m apos) (e :: es) [] pos) (fun σ H Q => te σ H fun x H1 => ∃ a dx fs, x = .ref a ∧ H1 a = some (.ins C dx fs) ∧ fs.lookup m = none ∧ tr σ H1 fun vs H2 => spD X.K F (x :: vs) H2 Q E0) := by
    refine ⟨fun pins s σ H Q I h => ?_⟩
    refine PySem.W.methodCall_KW (pl := pl) (thn (h1.run pins s σ H _ I h) fun u s1 ⟨x, H1, I1, rx, a, dx, fs, ex, ea, l, q⟩ => ?_) ht
    subst ex
    obtain rfl : u = Value.ref a := rx
    refine getmeth_ok I1 ea cl hm l ?_
    refine PySem.W.callWith_K (first := [.ref a]) (h₀ := X.base) I.ok.mod.kin hm.kp (thn (r1.run pos pins s1 σ H1 _ I1 q) fun us s2 ⟨vs, H2, I2, r, q2⟩ => ⟨I2.kIn, ?_⟩) hst hpl
    exact go_fn (us := .ref a :: us) (vs := .ref a :: vs) G hgd (hr.mono hk) hbd pass0 I2 (.cons rfl r) q2
  refine ⟨⟨_, pe, fun S σ H E P Q rl hp q => h2 S σ H E _ _ rl hp fun v d H1 g1 p1 v1 => ?_⟩⟩
  obtain ⟨ks, rfl, l, p1⟩ := p1
  cases v1 with
  | ins e1 k1 =>
    refine ⟨_, _, _, rfl, same_hid _ _ e1, dk_miss k1 l, r2 S σ H1 E _ _ (rl.go g1) p1 fun vs ds H2 g2 p2 v2 => ?_⟩
    have ok1 := rl.ok.go g1
    exact ⟨Cf0, S, _, P, ok1.go g2, .cons (DV.mono (g2.vis ok1) (.ins e1 k1)) v2, p2, fun v d H' g => q v d H' (g1.trans (g2.trans g))⟩
theorem de_met0 {pl : Sem Bool} (c : MetI X.prog X.w X.K X.mg X.base k C m F) (hgd : X.A.guards = some []) (hr : Room j X.A) (hk : k ≤ j) (h : DE X Cf0 o td)
    (ht : eval (.Call (.Attribute o m apos) [] [] pos) X.env = (do
      let ov ← eval o X.env
      standAt apos.atName
      let (f, first) ← holding [ov] (getMethod ov m pl)
      callWith pos f first (backTo pos (starEach [] X.env)) (backToKw pos (keywordEach [] X.env))) := by rfl) : DE X Cf0 (.Call (.Attribute o m apos) [] [] pos) (dMeth C m (F Cf0) td dNil) := by
  obtain ⟨f, fd, ps, cl, hm, G, hbd⟩ := c.ex
  obtain ⟨te, h1, h2⟩ := h.ex
  have pe : PE X (.Call (.Attribute o m apos) [] [] pos) (fun σ H Q => te σ H fun x H1 => ∃ a dx fs, x = .ref a ∧ H1 a = some (.ins C dx fs) ∧ fs.lookup m = none ∧ spD X.K F [x] H1 Q E0) := by
    refine ⟨fun pins s σ H Q I h => ?_⟩
    refine PySem.W.methodCall_KW (pl := pl) (thn (h1.run pins s σ H _ I h) fun u s1 ⟨x, H1, I1, rx, a, dx, fs, ex, ea, l, q⟩ => ?_) ht
    subst ex
    obtain rfl : u = Value.ref a := rx
    refine getmeth_ok I1 ea cl hm l ?_
    exact PySem.W.callWith_K0 (first := [.ref a]) I1.kIn hm.kp (go_fn (us := [.ref a]) (vs := [.ref a]) G hgd (hr.mono hk) hbd pass0 I1 (.cons rfl .nil) q)
  refine ⟨⟨_, pe, fun S σ H E P Q rl hp q => h2 S σ H E _ _ rl hp fun v d H1 g1 p1 v1 => ?_⟩⟩
  obtain ⟨ks, rfl, l, p1⟩ := p1
  cases v1 with
  | ins e1 k1 =>
    exact ⟨_, _, _, rfl, same_hid _ _ e1, dk_miss k1 l, Cf0, S, _, P, rl.ok.go g1, .cons (.ins e1 k1) .nil, p1, fun v d H' g => q v d H' (g1.trans g)⟩
end
end L3
namespace L3
open PySem PySem.Spec PyProof.Rows L2

/-! ### an instance that is being made -/
def insC (C0 : Cf) (x Cl dx : Addr) (fs : List (Str × V)) : Cf where
  G := fun a => C0.G a ∨ a = x
  I := fun H => C0.I H ∧ H x = some (.ins Cl dx fs)
  loc := fun H H' h hx i => ⟨C0.loc H H' (fun a g => h a (.inl g)) hx i.1, by rw [h x (.inr rfl)]; exact i.2⟩
  liv := fun H a i g => by
    rcases g with g | rfl
    · exact C0.liv H a i.1 g
    · rw [i.2]; intro z; cases z
/-- what __init__ promises: for data ds of the arguments, the instance is a datum for which P holds -/
def spI (K : PySem.W.Frag) (Cl : Addr) (F : Cf → FN) : Sp := fun vs H Q _ => ∃ (C0 : Cf) (S : AS) (x dx : Addr) (ws : List V) (ds : List D) (P : D → Prop), vs = .ref x :: ws ∧ H x = some (.ins Cl dx []) ∧ S x ∧ ¬ C0.G x ∧ C0.I H ∧ (∀ a, C0.G a → S a) ∧ (∀ a, S a → H a ≠ none) ∧
  DVs K (hid H S) ws ds ∧ F C0 ds P ∧ ∀ (H' : Hp) (fs : List (Str × V)) (kvs : List (Key × D)), Ext (fun a => C0.G a ∨ a = x) H H' → C0.I H' → H' x = some (.ins Cl dx fs) → DKs K (hid H' S) (fs.map fun p => (.inr p.1, p.2)) kvs → P (.ins Cl kvs) → Q .non H'
abbrev TF := En → List (Key × D) → (List (Key × D) → Prop) → Prop
def tfEnd : TF := fun _ ks P => P ks
def tfFld (f : Str) (t : TD) (r : TF) : TF := fun E ks P => t E fun d => fldOf f ks = none ∧ ks.length < 100 ∧ r E (ks ++ [(.inr f, d)]) P
def EvTf (K : PySem.W.Frag) (Cl : Addr) (u : TS) (tf : TF) : Prop := ∀ (C0 : Cf) (x dx : Addr) (fs : List (Str × V)) (kvs : List (Key × D)) (S0 : AS) (H0 : Hp) (gs : Gs) (al : Nat → Addr) (ρ : Rho) (σ : L2.St) (H : Hp) (P : List (Key × D) → Prop) (D' : Ends),
  ¬ C0.G x → EnvR K (insC C0 x Cl dx fs) S0 H0 gs al ρ σ H → ρ[0]? = some (.dat (.op (.ref x))) → DKs K (hid H S0) (fs.map fun p => (.inr p.1, p.2)) kvs → tf (frz ρ) kvs P →
  (∀ (σ' : L2.St) (H' : Hp) (fs' : List (Str × V)) (kvs' : List (Key × D)), Ext (fun a => C0.G a ∨ a = x) H0 H' → C0.I H' → H' x = some (.ins Cl dx fs') → DKs K (hid H' S0) (fs'.map fun p => (.inr p.1, p.2)) kvs' → P kvs' → D'.nx σ' H') → u D' σ H
structure TIn (X : Cx) (Cl : Addr) (st : List Stmt) (tf : TF) : Prop where
  ex : ∃ u, PSs X st u ∧ EvTf X.K Cl u tf
theorem DKs.snoc {K : PySem.W.Frag} {H : Hp} {k : Key} {v : V} {d : D} (hv : DV K H v d) : ∀ {vs : List (Key × V)} {ds : List (Key × D)}, DKs K H vs ds → DKs K H (vs ++ [(k, v)]) (ds ++ [(k, d)])
  | _, _, .nil => .cons hv .nil
  | _, _, .cons h t => .cons h (DKs.snoc hv t)
theorem putF_new {f : Str} {v : V} : ∀ {fs : List (Str × V)}, fs.lookup f = none → putF f v fs = fs ++ [(f, v)]
  | [], _ => rfl
  | (g, w) :: r, e => by
    by_cases h : f = g
    · subst h
      rw [List.lookup_cons_self] at e
      cases e
    · have n2 : (f == g) = false := by rw [beq_eq_false_iff_ne]; exact h
      rw [List.lookup_cons, n2] at e
      show (if g = f then (g, v) :: r else (g, w) :: putF f v r) = _
      rw [if_neg (fun z => h z.symm), putF_new e]
      rfl
section
variable {X : Cx} {Cl : Addr} {rest : List Stmt} {e : Expr} {td : TD} {tf : TF} {f self : Str} {p pos pos' : Pos}
/-- one reading for all that may be carried -/
theorem de_all (h : ∀ C : Cf, DE X C e td) : ∃ te, PE X e te ∧ ∀ C, EvD X.K C te td := by
  refine ⟨fun σ H Q => ∃ C : Cf, (h C).ex.choose σ H Q, ⟨fun pins s σ H Q I q => ?_⟩, fun C S σ H E P Q r hp q => ⟨C, (h C).ex.choose_spec.2 S σ H E P Q r hp q⟩⟩
  obtain ⟨C, q⟩ := q
  exact (h C).ex.choose_spec.1.run pins s σ H Q I q
theorem ti_nil : TIn X Cl [] tfEnd := ⟨⟨_, pss_nil, fun C0 x dx fs kvs S0 H0 gs al ρ σ H P D' hx r h0 hk hp q => q σ H fs kvs r.ext r.ok.i.1 r.ok.i.2 hk hp⟩⟩
theorem ti_cons (c : Cls X.K Cl) (n : NoAttr X.K Cl f) (hs : PE X (.Name self p) (tVar 0)) (h : ∀ C : Cf, DE X C e td) (t : TIn X Cl rest tf) (hsw : swapsWith e (some (.Attribute (.Name self p) f pos')) pos.line X.env = pure false := by rfl) :
    TIn X Cl (.Assign [.Attribute (.Name self p) f pos'] e pos :: rest) (tfFld f td tf) := by
  obtain ⟨te, h1, h2⟩ := de_all h
  obtain ⟨u, u1, u2⟩ := t.ex
  refine ⟨⟨_, pss_cons (ps_fld hs h1 hsw) u1, fun C0 x dx fs kvs S0 H0 gs al ρ σ H P D' hx r h0 hk hp q => ?_⟩⟩
  refine h2 _ S0 σ H _ _ _ r.relB hp fun v d H1 g1 p1 v1 => ?_
  obtain ⟨p1, p2, p3⟩ := p1
  have r1 := r.go g1
  obtain ⟨sv, s1, s2⟩ := r1.dat 0 _ h0
  have := s2.op_inv
  subst this
  have hk1 : DKs X.K (hid H1 S0) (fs.map fun p => (.inr p.1, p.2)) kvs := hk.mono (g1.vis r.ok)
  have hnew := dk_miss hk1 p1
  have hlen : fs.length < 1000 := by
    have := hk1.len
    rw [List.length_map] at this
    omega
  refine ⟨.ref x, s1, x, Cl, dx, fs, rfl, r1.ok.i.2, c, n, hlen, ?_⟩
  have hSx : S0 x := r1.ok.g x (.inr rfl)
  have hH0x : H0 x ≠ none := r1.old x hSx
  have same : ∀ T : AS, T x → Same (hid H1 T) (hid (upd H1 x (.ins Cl dx (putF f v fs))) T) := fun T hT a o z => by
    obtain ⟨z1, z2⟩ := hid_some.mp z
    refine hid_some.mpr ⟨z1, ?_⟩
    rw [upd_ne (show a ≠ x from fun y => z1 (by rw [y]; exact hT))]
    exact z2
  have alx : ∀ i, ownAt ρ i → al i ≠ x := fun i h z => hH0x (z ▸ r1.new i h)
  have r2 : EnvR X.K (insC C0 x Cl dx (putF f v fs)) S0 H0 gs al ρ σ (upd H1 x (.ins Cl dx (putF f v fs))) := by
    have vx : Vol S0 al ρ x := .inl hSx
    refine ⟨r1.len, ⟨⟨C0.loc H1 _ (fun a g => upd_ne (fun z => hx (z ▸ g))) (upd_ext fun φ z => by rw [r1.ok.i.2] at z; cases z) r1.ok.i.1, upd_same⟩, r1.ok.g, fun a ha => ?_⟩, fun a o g z => ?_, r1.old, fun i d z => ?_, fun i ds z => ?_, fun i ds z => ?_, r1.new, r1.inj, fun y hy => (r1.gh y hy).mono (same _ vx)⟩
    · by_cases z : a = x
      · rw [z, upd_same]; intro y; cases y
      · rw [upd_ne z]; exact r1.ok.l a ha
    · rw [upd_ne (fun y => g (.inr y))]
      exact r1.ext a o g z
    · obtain ⟨w, w1, w2⟩ := r1.dat i d z
      exact ⟨w, w1, w2.mono (same _ vx)⟩
    · obtain ⟨w1, vs, w2, w3⟩ := r1.own i ds z
      exact ⟨w1, vs, by rw [upd_ne (alx i ⟨_, z, rfl⟩)]; exact w2, w3.mono (same _ vx)⟩
    · obtain ⟨w1, vs, w2, w3⟩ := r1.owd i ds z
      exact ⟨w1, vs, by rw [upd_ne (alx i ⟨_, z, rfl⟩)]; exact w2, w3.mono (same _ vx)⟩
  refine u2 C0 x dx _ (kvs ++ [(.inr f, d)]) S0 H0 gs al ρ σ _ P D' hx r2 h0 ?_ p3 q
  have e1 : (putF f v fs).map (fun p : Str × L2.V => ((.inr p.1 : Key), p.2)) = fs.map (fun p => (.inr p.1, p.2)) ++ [(.inr f, v)] := by
    rw [putF_new hnew, List.map_append]
    rfl
  rw [e1]
  exact ((hk1.mono (same _ hSx)).snoc (v1.mono (same _ hSx)))
end
/-- the statements of __init__ ahead of its attributes, then these -/
def EvIn (K : PySem.W.Frag) (C0 : Cf) (x Cl dx : Addr) (u : TS) (ti : (List (Key × D) → Prop) → Rho → Prop) : Prop := ∀ (S0 : AS) (H0 : Hp) (gs : Gs) (al : Nat → Addr) (ρ : Rho) (σ : L2.St) (H : Hp) (P : List (Key × D) → Prop) (D' : Ends),
  ¬ C0.G x → EnvR K (insC C0 x Cl dx []) S0 H0 gs al ρ σ H → ti P ρ →
  (∀ (σ' : L2.St) (H' : Hp) (fs' : List (Str × V)) (kvs' : List (Key × D)), Ext (fun a => C0.G a ∨ a = x) H0 H' → C0.I H' → H' x = some (.ins Cl dx fs') → DKs K (hid H' S0) (fs'.map fun p => (.inr p.1, p.2)) kvs' → P kvs' → D'.nx σ' H') → u D' σ H
structure DSi (X : Cx) (C0 : Cf) (x Cl dx : Addr) (st : List Stmt) (ti : (List (Key × D) → Prop) → Rho → Prop) : Prop where
  ex : ∃ u, PSs X st u ∧ EvIn X.K C0 x Cl dx u ti
def siSeq (t : TSd) (r : (List (Key × D) → Prop) → Rho → Prop) : (List (Key × D) → Prop) → Rho → Prop := fun P ρ => t { nx := r P, rt := fun _ => False } ρ
def siEnd (x : Addr) (tf : TF) : (List (Key × D) → Prop) → Rho → Prop := fun P ρ => ρ[0]? = some (.dat (.op (.ref x))) ∧ tf (frz ρ) [] P
section
variable {X : Cx} {C0 : Cf} {x Cl dx : Addr} {st : Stmt} {rest : List Stmt} {ts : TSd} {ti : (List (Key × D) → Prop) → Rho → Prop} {tf : TF}
theorem dsi_end (h : TIn X Cl rest tf) : DSi X C0 x Cl dx rest (siEnd x tf) := by
  obtain ⟨u, h1, h2⟩ := h.ex
  exact ⟨⟨u, h1, fun S0 H0 gs al ρ σ H P D' hx r hp q => h2 C0 x dx [] [] S0 H0 gs al ρ σ H P D' hx r hp.1 .nil hp.2 q⟩⟩
theorem dsi_cons (h : DS X (insC C0 x Cl dx []) st ts) (k : DSi X C0 x Cl dx rest ti) : DSi X C0 x Cl dx (st :: rest) (siSeq ts ti) := by
  obtain ⟨t, h1, h2⟩ := h.ex
  obtain ⟨u, k1, k2⟩ := k.ex
  refine ⟨⟨_, pss_cons h1 k1, fun S0 H0 gs al ρ σ H P D' hx r hp q => ?_⟩⟩
  exact h2 S0 H0 gs al ρ σ H _ _ r hp ⟨fun al ρ σ H r h => k2 S0 H0 gs al ρ σ H P D' hx r h q, fun v d H e i h => h.elim, fun al ρ σ H r h => h.elim, fun al ρ σ H r h => h.elim⟩
end
/-- __init__ keeps its promise, by its body -/
theorem init_ok {P : Program} {w : World} {K : PySem.W.Frag} {mg : Str → Option Value} {base : Heap} {x qual : Str} {st : Stmt} {f Cl : Addr} {fd : FuncData} {N ps : List Str} {k : Nat} {F : Cf → FN} (FF : Fun K x qual st f fd) (S : FnScope N ps (defScope st)) (len : ∀ C ds P, F C ds P → ds.length + 1 = ps.length)
    (body : ∀ (cdv : Value) (A : Around) (fr : List Env) (s : Shared) (H : Hp) (E : XK), A.guards = some [] → Room k (A.deeper (envOfC qual (defScope st) s.heap.objs.size f cdv)) → ∀ (C0 : Cf) (ds : List D) (R : D → Prop), F C0 ds R → ∀ (y dx : Addr),
      ∃ ti, DSi (cxOf CX0 P w K mg base N qual (defScope st) f cdv A fr s H E).nox C0 y Cl dx (defBody st) ti ∧ ti (fun kvs => R (.ins Cl kvs)) (startD N (.op (.ref y) :: ds))) : FnG P w K mg base CX0 (k + 1) f fd ps (spI K Cl F) := by
  refine FF.okG S (fun vs H Q E h => ?_) fun cdv A fr s H vs Q E hgd hr h => ?_
  · obtain ⟨C0, S1, y, dx, ws, ds, R, rfl, _, _, _, _, _, _, hv, hf, _⟩ := h
    rw [List.length_cons, hv.len]; exact len C0 ds R hf
  · obtain ⟨C0, S1, y, dx, ws, ds, R, rfl, hy, hSy, hGy, hI, hG, hS, hv, hf, q⟩ := h
    obtain ⟨ti, hd, ht⟩ := body cdv A fr s H E hgd hr C0 ds R hf y dx
    obtain ⟨t, h1, h2⟩ := hd.ex
    have hl : (V.ref y :: ws).length ≤ N.length := by
      have := congrArg List.length S.pre
      rw [List.length_take] at this
      rw [List.length_cons, hv.len, len C0 ds R hf]; omega
    refine ⟨t, h1.nox, ?_⟩
    have ok : Ok (insC C0 y Cl dx []) S1 H := ⟨⟨hI, hy⟩, fun a g => by
      rcases g with g | rfl
      · exact hG a g
      · exact hSy, hS⟩
    exact h2 S1 H [] (fun _ => 0) (startD N (.op (.ref y) :: ds)) (L2.start N (.ref y :: ws)) H _ _ hGy (env_start ok (.cons (.op _) hv) hl) ht fun σ' H' fs' kvs' e i hx hk p => q H' fs' kvs' e i hx hk p

/-! ### the call of a class -/
theorem make_guards {A : Around} {C : Addr} {us : List Value} {kw : List (Str × Value)} : (A.under (.builtin "type.__call__" ⟨.ref C :: us, kw⟩)).guards = A.guards := by
  first | rfl | simp [Around.under, Code.weight, Code.isCreation, Code.isGuard, Code.isCaller, Code.frames, Code.isFrame, guardIds]
section
variable {X : Cx} {Cf0 : Cf} {C : Addr} {e : Expr} {es : List Expr} {ta : TDs} {x : Str} {p pos : Pos} {k j : Nat} {F : Cf → FN} {kws : List Keyword} {tk : TDs} {ks : List Str}
/-- a class that is made by its name -/
structure MakI (P : Program) (w : World) (K : PySem.W.Frag) (mg : Str → Option Value) (base : Heap) (k : Nat) (x : Str) (C : Addr) (F : Cf → FN) : Prop where
  ex : ∃ (f : Addr) (fd : FuncData) (ps : List Str), Mk K C f ∧ FnG P w K mg base CX0 k f fd ps (spI K C F) ∧ mg x = some (.ref C) ∧ L2.Binds K fd ps []
/-- .. with keywords alone -/
structure MakK (P : Program) (w : World) (K : PySem.W.Frag) (mg : Str → Option Value) (base : Heap) (k : Nat) (x : Str) (C : Addr) (ks : List Str) (gD : List D → List D → List D) (F : Cf → FN) : Prop where
  ex : ∃ (f : Addr) (fd : FuncData) (ps : List Str) (g : List Value → List Value → List Value) (gV : List V → List V → List V), Mk K C f ∧ FnG P w K mg base CX0 k f fd ps (spI K C F) ∧ mg x = some (.ref C) ∧ KBinds K fd ps ks g gV ∧
    (∀ zs : List V, ∃ ws, (∀ y : V, gV [y] zs = y :: ws) ∧ ∀ (H : Hp) (es : List D), DVs K H zs es → DVs K H ws (gD [] es))
theorem run_mk {f : Addr} {fd : FuncData} {ps : List Str} {sp : Sp} {pins : List (Addr × Obj)} {σ : L2.St} {H : Hp} {s : Shared} {Q : VK} {us : List Value} {kw : List (Str × Value)} {vs' : V → List V} (M : Mk X.K C f) (G : FnG X.prog X.w X.K X.mg X.base CX0 k f fd ps sp) (hgd : X.A.guards = some []) (hr : Room (k + 1) X.A) (I : Inv X pins σ H s)
    (hb : ∀ (y : Addr) (s : Shared), X.K.In s.heap → ∃ us', BindsTo s fd ⟨.ref y :: us, kw⟩ (ps.zip us') ∧ Vals (vs' (.ref y)) us')
    (h : ∀ y dx, H y = none → H dx = none → dx ≠ y → sp (vs' (.ref y)) (upd (upd H dx (.own y)) y (.ins C dx [])) (fun v H2 => v = .non ∧ Q (.ref y) H2) E0) :
    wpAny (model X.prog X.w) X.A (call (.ref C) us kw) (EP X pins σ Q) X.xe s := by
  have hq := h (s.heap.objs.size + 1) s.heap.objs.size (I.hok.fresh (Nat.le_succ _)) (I.hok.fresh (Nat.le_refl _)) (Nat.ne_of_lt (Nat.lt_succ_self _))
  have I2 := Inv.made (C := C) I
  obtain ⟨us', b1, b2⟩ := hb (s.heap.objs.size + 1) _ I2.kIn
  refine wpAny_call (make_map (f := f) I.kIn M.makes M.init (beq_iff_eq.mp M.fn) (codeAny_mono (G.go _ X.stack _ _ ⟨Value.ref (s.heap.objs.size + 1) :: us, kw⟩ us' _ _ E0 (make_guards.trans hgd) (hr.make C us kw) (I2.env0.make C us kw) b1 b2 hq) fun r s' hq' => ?_))
  cases r with
  | error e => exact (go_end (pass0 (X := X)) I2 (r := .error e) hq')
  | ok fl =>
    cases fl with
    | ret u =>
      obtain ⟨v, H', I3, rv, ev, q3⟩ := I2.after hq'
      subst ev
      exact ⟨rv, ⟨V.ref (s.heap.objs.size + 1), H', I3, rfl, q3⟩⟩
    | next => exact False.elim hq'
    | brk => exact False.elim hq'
    | cont => exact False.elim hq'
theorem spI_of {K : PySem.W.Frag} {S : AS} {H : Hp} {ws : List V} {ds : List D} {P : D → Prop} {Q : VK} (ok : Ok Cf0 S H) (hv : DVs K (hid H S) ws ds) (hf : F Cf0 ds P) (q : ∀ v d H', Go Cf0 H H' → P d → DV K (hid H' S) v d → Q v H') :
    ∀ y dx, H y = none → H dx = none → dx ≠ y → spI K C F (.ref y :: ws) (upd (upd H dx (.own y)) y (.ins C dx [])) (fun v H2 => v = .non ∧ Q (.ref y) H2) E0 := fun y dx hy hdx ne => by
  have g1 : Go Cf0 H (upd H dx (.own y)) := Go.new ok hdx
  have ok1 := ok.go g1
  have hy1 : (upd H dx (.own y)) y = none := by rw [upd_ne (fun z => ne z.symm)]; exact hy
  have g2 : Go Cf0 (upd H dx (.own y)) (upd (upd H dx (.own y)) y (.ins C dx [])) := Go.new ok1 hy1
  have ok2 := ok1.go g2
  have nSy : ¬ S y := ok.fresh hy
  have nGy : ¬ Cf0.G y := fun z => nSy (ok.g y z)
  refine ⟨Cf0, fun a => S a ∨ a = y, y, dx, ws, ds, P, rfl, upd_same, .inr rfl, nGy, g2.i, fun a z => .inl (ok.g a z), fun a z => ?_, ?_, hf, fun H' fs kvs e i hx hk p => ⟨rfl, ?_⟩⟩
  · rcases z with z | rfl
    · exact ok2.l a z
    · rw [upd_same]; intro z; cases z
  · refine hv.mono fun a o z => ?_
    obtain ⟨z1, z2⟩ := hid_some.mp z
    have n1 : a ≠ y := fun w => by rw [w, hy] at z2; cases z2
    have n2 : a ≠ dx := fun w => by rw [w, hdx] at z2; cases z2
    exact hid_some.mpr ⟨fun w => w.elim z1 n1, by rw [upd_ne n1, upd_ne n2]; exact z2⟩
  · refine q (.ref y) _ H' ⟨fun a o g z => ?_, i⟩ p ?_
    · have n1 : a ≠ y := fun w => by rw [w, hy] at z; cases z
      have n2 : a ≠ dx := fun w => by rw [w, hdx] at z; cases z
      exact e a o (fun w => w.elim g n1) (by rw [upd_ne n1, upd_ne n2]; exact z)
    · exact .ins (hid_some.mpr ⟨nSy, hx⟩) (hk.mono (same_hid_sub fun a z => .inl z))
theorem de_mk (c : MakI X.prog X.w X.K X.mg X.base k x C F) (hgd : X.A.guards = some []) (hr : Room j X.A) (hk : k + 1 ≤ j) (hg : Gl X x) (ha : DA X Cf0 (e :: es) ta) (hdb : (x == ("__debug__" : Str)) = false := by decide)
    (he : starEach (e :: es) X.env = (false, eval e X.env) :: starEach es X.env := by rfl) (hpl : (backTo pos (starEach es X.env)).any (·.1) = false := by rfl) : DE X Cf0 (.Call (.Name x p) (e :: es) [] pos) (dCall (F Cf0) ta) := by
  obtain ⟨f, fd, ps, M, G, hm, hb⟩ := c.ex
  obtain ⟨tr, r1, r2⟩ := ha.ex
  have pe : PE X (.Call (.Name x p) (e :: es) [] pos) (fun σ H Q => tr σ H fun vs H1 => ∀ y dx, H1 y = none → H1 dx = none → dx ≠ y → spI X.K C F (.ref y :: vs) (upd (upd H1 dx (.own y)) y (.ins C dx [])) (fun v H2 => v = .non ∧ Q (.ref y) H2) E0) := by
    refine ⟨fun pins s σ H Q I h => ?_⟩
    refine wpAny_Call_Name_kw (ld_glob I hg hm ?_ hdb)
    refine PySem.W.callWith_K (h₀ := X.base) I.ok.mod.kin M.kp (thn (r1.run pos pins s σ H _ I h) fun us s1 ⟨vs, H1, I1, r, q⟩ => ⟨I1.kIn, ?_⟩) he hpl
    refine run_mk (vs' := fun y => y :: vs) M G hgd (hr.mono hk) I1 (fun y s KX => ⟨.ref y :: us, ?_, .cons rfl r⟩) q
    have q0 := q (s1.heap.objs.size + 1) s1.heap.objs.size (I1.hok.fresh (Nat.le_succ _)) (I1.hok.fresh (Nat.le_refl _)) (Nat.ne_of_lt (Nat.lt_succ_self _))
    have hl := G.len _ _ _ _ q0
    have hb' := hb s (.ref y :: us) KX (by rw [List.append_nil, List.length_cons, ← r.length, ← hl, List.length_cons])
    rw [List.append_nil] at hb'
    exact hb'
  refine ⟨⟨_, pe, fun S σ H E P Q rl hp q => r2 S σ H E _ _ rl hp fun vs ds H1 g1 p1 v1 => spI_of (rl.ok.go g1) v1 p1 fun v d H' g => q v d H' (g1.trans g)⟩⟩
theorem de_mkK {gD : List D → List D → List D} (c : MakK X.prog X.w X.K X.mg X.base k x C ks gD F) (hgd : X.A.guards = some []) (hr : Room j X.A) (hk : k + 1 ≤ j) (hg : Gl X x) (h : DK X Cf0 kws tk) (hall : (backToKw pos (keywordEach kws X.env)).all (·.1.isSome) = true := by rfl) (hks : (backToKw pos (keywordEach kws X.env)).filterMap (·.1) = ks := by rfl)
    (hdb : (x == ("__debug__" : Str)) = false := by decide) (hpl : ((backTo pos (starEach [] X.env)).any (·.1) || (backToKw pos (keywordEach kws X.env)).any (·.1.isNone)) = false := by rfl) :
    DE X Cf0 (.Call (.Name x p) [] kws pos) (fun E P => tk E fun zs => F Cf0 (gD [] zs) P) := by
  obtain ⟨f, fd, ps, g, gV, M, G, hm, hb, hd⟩ := c.ex
  obtain ⟨tr, r1, r2⟩ := h.ex
  have pe : PE X (.Call (.Name x p) [] kws pos) (fun σ H Q => tr σ H fun zs H1 => ∀ y dx, H1 y = none → H1 dx = none → dx ≠ y → spI X.K C F (gV [.ref y] zs) (upd (upd H1 dx (.own y)) y (.ins C dx [])) (fun v H2 => v = .non ∧ Q (.ref y) H2) E0) := by
    refine ⟨fun pins s σ H Q I h => wpAny_Call_Name_kw (ld_glob I hg hm ?_ hdb)⟩
    refine PySem.W.callWith_KW0 (h₀ := X.base) I.ok.mod.kin M.kp hall (thn (r1.run pos pins s σ H _ I h) fun ws s2 ⟨zs, H2, I2, rz, q2⟩ => ⟨I2.kIn, ?_⟩) hpl
    rw [hks]
    refine run_mk (us := []) (kw := ks.zip ws) (vs' := fun y => gV [y] zs) M G hgd (hr.mono hk) I2 (fun y s KX => ?_) q2
    have r3 : Vals (gV [.ref y] zs) (g [.ref y] ws) := hb.rel (.cons rfl .nil) rz
    refine ⟨g [.ref y] ws, hb.to s [.ref y] ws KX ?_, r3⟩
    have q0 := q2 (s2.heap.objs.size + 1) s2.heap.objs.size (I2.hok.fresh (Nat.le_succ _)) (I2.hok.fresh (Nat.le_refl _)) (Nat.ne_of_lt (Nat.lt_succ_self _))
    obtain ⟨w1, e1, _⟩ := hd zs
    have l0 := G.len _ _ _ _ q0
    rw [← r3.length, ← l0, e1, e1]
    rfl
  refine ⟨⟨_, pe, fun S σ H E P Q rl hp q => r2 S σ H E _ _ rl hp fun vs ds H1 g1 p1 v1 => ?_⟩⟩
  intro y dx hy hdx ne
  obtain ⟨w1, e1, e2⟩ := hd vs
  rw [e1]
  exact spI_of (rl.ok.go g1) (e2 _ ds v1) p1 (fun v d H' g => q v d H' (g1.trans g)) y dx hy hdx ne
end
end L3
namespace L3
open PySem PySem.Spec PyProof.Rows L2

/-! ### set(names) and how many are in it -/
/-- c of the texts are different -/
def Cnt (l : List Str) (c : Nat) : Prop := c ≤ l.length ∧ (c = l.length ↔ l.Nodup)
theorem Cnt.nil : Cnt [] 0 := ⟨Nat.le_refl _, ⟨fun _ => .nil, fun _ => rfl⟩⟩
theorem Cnt.snoc {l : List Str} {c : Nat} (h : Cnt l c) (x : Str) : Cnt (l ++ [x]) (if decide (x ∈ l) = true then c else c + 1) := by
  have hl : (l ++ [x]).length = l.length + 1 := by rw [List.length_append]; rfl
  by_cases hx : x ∈ l
  · rw [if_pos (decide_eq_true hx)]
    refine ⟨by rw [hl]; have := h.1; omega, fun e => ?_, fun nd => ?_⟩
    · have := h.1; omega
    · exact absurd rfl ((List.nodup_append.mp nd).2.2 x hx x List.mem_cons_self)
  · rw [if_neg (by rw [decide_eq_false hx]; exact Bool.false_ne_true)]
    refine ⟨by rw [hl]; have := h.1; omega, fun e => ?_, fun nd => ?_⟩
    · refine List.nodup_append.mpr ⟨h.2.mp (by omega), List.nodup_cons.mpr ⟨(fun z => nomatch z), .nil⟩, fun a ha b hb z => ?_⟩
      rw [List.mem_singleton.mp hb] at z
      exact hx (z ▸ ha)
    · have := h.2.mpr (List.nodup_append.mp nd).1
      omega
/-- the members as keys -/
def inK (l : List Str) : Key → Bool
  | .inr x => decide (x ∈ l)
  | .inl _ => false
theorem inK_snoc (l : List Str) (x : Str) (k : Key) : (inK l k || decide (k = .inr x)) = inK (l ++ [x]) k := by
  cases k with
  | inl i =>
    show (false || decide ((.inl i : Key) = .inr x)) = false
    rw [decide_eq_false (fun z => nomatch z)]; rfl
  | inr y =>
    show (decide (y ∈ l) || decide ((.inr y : Key) = .inr x)) = decide (y ∈ l ++ [x])
    have e : ((.inr y : Key) = .inr x) ↔ y = x := ⟨fun z => Sum.inr.inj z, fun z => by rw [z]⟩
    rw [decide_eq_decide.mpr e, ← Bool.decide_or]
    exact decide_eq_decide.mpr (by rw [List.mem_append, List.mem_singleton])
section
variable {prog : Program} {w : World} {A : Around} {R : Result → Shared → Prop} {I : Addr} {fp wr : List Addr} {G : Array GenState → Array GenState → Prop} {n : Nat} {P : Nat → Value → Prop} {St : Nat → Shared → Prop}
theorem setOf_move {h h' : Heap} {a : Addr} {S S' : Key → Bool} {c c' : Nat} (R : h.SetOf (mixKind prog w) a S c) (k : ∀ o, h.get? a = some o → h'.get? a = some o) (e : ∀ q, S q = S' q) (ec : c = c') : h'.SetOf (mixKind prog w) a S' c' := by
  obtain rfl : S = S' := funext e
  subst ec
  exact L2.setOf_at R k
/-- the items go into the set one by one -/
theorem loopK (W : WalksS prog w A.in1 I fp wr G n P St) (S : Addr) (hSf : S ∉ fp) (xs : List Str) (hsz : xs.length = n) (hb : n + 1 < scanBound) (hval : ∀ i v, P i v → ∃ x t, xs[i]? = some x ∧ v = .str x t) :
    ∀ (k i c : Nat) (s : Shared), n - i = k → i ≤ n → St i s → Cnt (xs.take i) c → s.heap.SetOf (mixKind prog w) S (inK (xs.take i)) c →
      (∀ s' c', Moved (S :: wr) G s s' → Cnt xs c' → s'.heap.SetOf (mixKind prog w) S (inK xs) c' → R (.ok (.ret .none)) s') →
      codeAny (model prog w) A (.builtin "set.update.loop" ⟨[.ref S, .ref I], []⟩) R s := by
  have hSw : S ∉ wr := fun h => hSf (W.sub _ h)
  have hsub : ∀ b ∈ wr, b ∈ S :: wr := fun b hb => List.mem_cons_of_mem _ hb
  intro k
  induction k with
  | zero =>
    intro i c s hk hi hst hc hS hR
    obtain rfl : i = n := by omega
    rw [List.take_of_length_le (Nat.le_of_eq hsz)] at hc hS
    refine codeAny_builtin PyProof.Rows.F.entry_set_update_loop ?_
    rw [Around.under_plainId PyProof.Rows.F.plain_set_update_loop _]
    refine wpAny_bind (m := pyNext (.ref I)) (W.done s _ _ hst fun s' hm => ?_)
    exact wpAny_pure (hR s' c (hm.mono hsub) hc (setOf_move hS (fun o e => hm.heap S o hSw e) (fun _ => rfl) rfl))
  | succ k ih =>
    intro i c s hk hi hst hc hS hR
    have hlt : i < n := by omega
    refine codeAny_builtin PyProof.Rows.F.entry_set_update_loop ?_
    rw [Around.under_plainId PyProof.Rows.F.plain_set_update_loop _]
    refine wpAny_bind (m := pyNext (.ref I)) (W.item i s _ _ hlt hst fun v s' hP hst' hm => ?_)
    obtain ⟨x, t, hx, rfl⟩ := hval i v hP
    have et : xs.take (i + 1) = xs.take i ++ [x] := by rw [List.take_add_one, hx]; rfl
    have hci : c ≤ i := by
      have := hc.1
      rw [List.length_take] at this
      omega
    refine wpAny_bind (m := holding [Value.str x t] (setAdd S (.str x t))) (wpAny_holding ?_)
    unfold setAdd
    refine wpAny_holding (wpAny_bind ((mixKind prog w).pyHash (k := .inr x) (L2.kV_is (k := .inr x) ⟨t, rfl⟩) ?_))
    refine wpAny_setAddHashed_of (knd := mixKind prog w) (k := .inr x) (s := { s' with toks := s'.toks + 1 }) (L2.kV_is (k := .inr x) ⟨t, rfl⟩) rfl (setOf_move hS (fun o e => hm.heap S o hSw e) (fun _ => rfl) rfl) (by omega) fun h' sb hS2 => ?_
    have hS3 : h'.SetOf (mixKind prog w) S (inK (xs.take (i + 1))) (if decide (x ∈ xs.take i) = true then c else c + 1) := by
      rw [et]
      exact setOf_move hS2 (fun o e => e) (fun q => inK_snoc _ _ q) rfl
    have hc3 : Cnt (xs.take (i + 1)) (if decide (x ∈ xs.take i) = true then c else c + 1) := by rw [et]; exact hc.snoc x
    refine wpAny_pure ⟨plainId_quiet PyProof.Rows.F.plain_set_update_loop _, ih (i + 1) _ _ (by omega) hlt (W.frame _ s' _ _ hst' (Nat.le_succ _) fun b hb o e => (sb.2 b (fun z : b = S => hSf (z ▸ hb))).trans e) hc3 hS3 fun s'' c' hm2 hc' hS' => ?_⟩
    exact hR s'' c' (Moved.trans W.gtrans ((hm.mono hsub).then_heap (Nat.le_succ _) fun b o hb e => (sb.2 b (fun z : b = S => hb (by rw [z]; exact List.mem_cons_self))).trans e) hm2) hc' hS'
/-- a set from a list of texts -/
theorem set_list {E : Value → Shared → Prop} {s : Shared} {l : Addr} {items : Array Value} {xs : List Str} {Q : Value → Shared → Prop} (hh : A.handled = none) (hl : s.heap.IsList l items) (hi : PyProof.Rows.StrsAre items.toList xs) (hb : xs.length + 1 < scanBound)
    (h : ∀ (h' : Heap) (tk c : Nat), Cnt xs c → h'.SetOf (mixKind prog w) s.heap.objs.size (inK xs) c → (∀ b o, s.heap.get? b = some o → h'.get? b = some o) → Q (.ref s.heap.objs.size) { s with heap := h', toks := tk }) :
    wpAny (model prog w) A (call (.type "set") [.ref l]) Q E s := by
  have hsz : xs.length = items.size := by rw [← PyProof.Rows.StrsAre.len_eq hi, Array.length_toList]
  have f1 := PySem.F.called_set.mro
  have f2 := PySem.F.called_set.made
  have f3 := PySem.F.called_set.sub
  have f4 := PySem.F.called_set.notType
  have f5 := PySem.F.called_set.canCreate
  have f6 := PySem.F.typeCall_set_1 (.ref l)
  obtain ⟨_, _, f1⟩ := f1
  refine wpAny_call (codeAny_of_tree (wpAny_pure ⟨Code.quiet_builtin _ (by decide +kernel), codeAny_builtin PySem.F.entry_type_call ?_⟩))
  rw [Around.under_plain (weight_type_call_type "set" [.ref l] []) rfl]
  repeat (any_goals (first | assumption | wp_step))
  refine codeAny_mono (code_set_new_1 (.ref l) (E := E) (Q₁ := fun obj s₁ => ∃ led : Bool, obj = .ref s.heap.objs.size ∧ s₁ = { s with heap := s.heap.push { cls := .type "set", dict := none, data := .set #[] 0 (.fresh 0 0 led) } }) fun led => ⟨led, rfl, rfl⟩) fun r s₁ hr => ?_
  match r, hr with
  | .ok (.ret obj), hr =>
    obtain ⟨led, rfl, rfl⟩ := hr
    generalize hp1 : s.heap.push { cls := .type "set", dict := none, data := .set #[] 0 (.fresh 0 0 led) } = h1
    have hz : h1.objs.size = s.heap.objs.size + 1 := by rw [← hp1]; exact Heap.size_push _ _
    have kp : ∀ b o, s.heap.get? b = some o → h1.get? b = some o := fun b o e => by rw [← hp1]; exact Heap.get?_push_of_some _ e
    have hS : h1.get? s.heap.objs.size = some { cls := .type "set", dict := none, data := .set #[] 0 (.fresh 0 0 led) } := by rw [← hp1]; exact Heap.get?_push_size _ rfl
    have hT : Shared.TypeIs { s with heap := h1 } (.ref s.heap.objs.size) "set" := ⟨_, hS, rfl⟩
    have g1 := PySem.F.called_set.init.lookup
    have g2 := PySem.F.called_set.init.bind (.ref s.heap.objs.size)
    repeat (any_goals (first | assumption | wp_step))
    refine codeAny_mono (codeAny_call_builtin (R := wants (fun r s₂ => r = .none ∧ ∃ h' tk c, s₂ = { s with heap := h', toks := tk } ∧ Cnt xs c ∧ h'.SetOf (mixKind prog w) s.heap.objs.size (inK xs) c ∧ ∀ b o, s.heap.get? b = some o → h'.get? b = some o) E)
      PySem.F.called_set.init.plain PySem.F.entry_set_init (check_set_init_1 hT ?_)) fun r₂ s₂ hr₂ => ?_
    · obtain ⟨ol, hol, hcl, nl, hdl⟩ := hl
      obtain ⟨ocls, odict, odata, oslots⟩ := ol
      simp only at hcl hdl
      subst hcl
      subst hdl
      have hl1 : h1.IsList l items := ⟨_, kp _ _ hol, rfl, nl, rfl⟩
      have hol' := kp _ _ hol
      have q1 := PySem.F.sub_list_set
      have q2 := PySem.F.sub_list_frozenset
      have q3 : (Value.type "list" == Value.type "dict") = false := by decide
      have hlS : l < s.heap.objs.size := Heap.lt_size hol
      have hIl : l ≠ h1.objs.size := by rw [hz]; exact Nat.ne_of_lt (Nat.lt_succ_of_lt hlS)
      have hSI : s.heap.objs.size ≠ h1.objs.size := by rw [hz]; exact Nat.ne_of_lt (Nat.lt_succ_self _)
      unfold Builtin.«set.__init__» noKeywords Builtin.Frozenset.updateFrom
      generalize hPI : pyIter = PI
      wp_walk
      subst hPI
      refine wpAny_pyIter_list hl1 (wpAny_bind (wpAny_runValue ?_))
      have hh3 : A.in1.in1.in1.handled = none := by simp [hh]
      refine loopK ((Walks.list hh3 _ l hIl items).toS) s.heap.objs.size (by simp only [List.mem_cons, List.not_mem_nil, or_false, not_or]; exact ⟨hSI, Nat.ne_of_gt hlS⟩) xs hsz (by rw [← hsz]; exact hb) (fun i v hv => ?_) (items.size - 0) 0 0 _ rfl (Nat.zero_le _)
        ⟨⟨_, Heap.get?_push_size _ rfl, rfl, rfl⟩, hl1.push _⟩ .nil ?_ fun s' c' hm hc' hS' => ?_
      · have hlt : i < xs.length := by rw [hsz]; exact (Array.getElem?_eq_some_iff.mp hv).1
        obtain ⟨t, e⟩ := SS.strs_at hi i v (by rw [Array.getElem?_toList]; exact hv)
        refine ⟨xs[i], t, List.getElem?_eq_getElem hlt, ?_⟩
        rw [e, List.getD_eq_getElem?_getD, List.getElem?_eq_getElem hlt]
        rfl
      · exact ⟨_, #[], 0, _, Heap.get?_push_of_some _ hS, ⟨rfl, rfl, rfl⟩, rfl, (fun e he => by simp at he), (fun k => by cases k <;> simp [inK]), (by decide), (by rfl), rfl⟩
      · obtain ⟨h', g', d', tk', os'⟩ := s'
        obtain rfl : g' = s.gens := hm.gens
        obtain rfl : d' = s.drawn := hm.drawn
        obtain rfl : os' = s.os := hm.os
        show wpAny _ _ _ _ _ _
        refine wpAny_pure ?_
        show wpAny _ _ (ret Value.none) _ _ _
        refine wpAny_pure ⟨rfl, h', tk', c', rfl, hc', hS', fun b o e => ?_⟩
        have b1 : b ≠ s.heap.objs.size := Nat.ne_of_lt (Heap.lt_size e)
        have b2 : b ≠ h1.objs.size := Nat.ne_of_lt (Heap.lt_size (kp b o e))
        exact hm.heap b o (by simp only [List.mem_cons, List.not_mem_nil, or_false, not_or]; exact ⟨b1, b2⟩) (Heap.get?_push_of_some _ (kp b o e))
    · match r₂, hr₂ with
      | .ok (.ret r), hr₂ =>
        obtain ⟨rfl, h', tk, c, rfl, hc, hS', hk'⟩ := hr₂
        repeat (any_goals (first | assumption | wp_step))
        exact h _ _ _ hc hS' hk'
      | .error e, hr₂ => exact hr₂
      | .ok .next, hr₂ => exact hr₂.elim
      | .ok .brk, hr₂ => exact hr₂.elim
      | .ok .cont, hr₂ => exact hr₂.elim
  | .error e, hr => exact hr
  | .ok .next, hr => exact hr.elim
  | .ok .brk, hr => exact hr.elim
  | .ok .cont, hr => exact hr.elim
end
end L3
namespace L3
open PySem PySem.Spec PyProof.Rows L2

/-! ### len(set(names)) -/
def rSetS (K : PySem.W.Frag) (P : Program) (w : World) : List V → Hp → VK → Prop := fun xs H Q => ∃ (a : Addr) (ys : List Str), xs = [.ref a] ∧ SqL K H a (ys.map V.str) ∧ ys.length < 1000 ∧ ∀ (p : Addr) (c : Nat), H p = none → Cnt ys c → Q (.ref p) (upd H p (SetK P w p (inK ys) c))
theorem cr_setS {X : Cx} (hc : X.calm = true) : CallR X (.type "set") (rSetS X.K X.prog X.w) := by
  intro pins s σ H xs us Q I r h
  obtain ⟨a, ys, rfl, hq, hl, q⟩ := h
  obtain ⟨u, rfl, rx⟩ := vals1 r
  cases rx
  obtain ⟨its, r', pl, hz⟩ := I.list hq
  have hst := Vals.strs r'
  refine set_list (xs := ys) (I.ok.hd hc) pl.isList (by simpa using hst) (by unfold scanBound; omega) fun h' tk c hcnt hS kp => ?_
  exact ⟨.ref s.heap.objs.size, _, I.laid (t' := tk) kp (Nat.le_refl _) (setK_new hS), rfl, q _ c (I.hok.fresh (Nat.le_refl _)) hcnt⟩
def rLenK (P : Program) (w : World) : List V → Hp → VK → Prop := fun xs H Q => ∃ (a : Addr) (S : Key → Bool) (n : Nat), xs = [.ref a] ∧ H a = some (SetK P w a S n) ∧ Q (.int n) H
theorem cr_lenK {X : Cx} : CallR X (.builtin "len") (rLenK X.prog X.w) := by
  intro pins s σ H xs us Q I r h
  obtain ⟨a, S, n, rfl, ha, q⟩ := h
  obtain ⟨u, rfl, rx⟩ := vals1 r
  cases rx
  obtain ⟨o, es, ep, t, ho, hex, hd, hel, hmem, hb, hf, hn⟩ := setK_get I ha
  subst hn
  refine PySem.call_len_set ho hex hd hf (by have : es.size < 1000000 := Nat.lt_of_lt_of_le hb (by decide); omega) ⟨.int es.size, H, I.tok _, ⟨_, rfl⟩, q⟩
/-- len(set(e)), e a list of texts -/
def dLenSet (t : TD) : TD := fun E P => t E fun d => ∃ ys : List Str, d = .lst (ys.map D.str) ∧ ys.length < 1000 ∧ ∀ c : Nat, Cnt ys c → P (.int c)
section
variable {X : Cx} {C : Cf} {e : Expr} {td : TD} {p1 p2 pos1 pos2 : Pos}
theorem de_lenset (hc : X.calm = true) (hgl : Gl X "len") (hml : X.mg "len" = none) (hgs : Gl X "set") (hms : X.mg "set" = none) (h : DE X C e td) (he : starEach [e] X.env = (false, eval e X.env) :: starEach [] X.env := by rfl)
    (he2 : starEach [.Call (.Name "set" p2) [e] [] pos2] X.env = (false, eval (.Call (.Name "set" p2) [e] [] pos2) X.env) :: starEach [] X.env := by rfl)
    (hp1 : (backTo pos1 (starEach [] X.env)).any (·.1) = false := by rfl) (hp2 : (backTo pos2 (starEach [] X.env)).any (·.1) = false := by rfl) :
    DE X C (.Call (.Name "len" p1) [.Call (.Name "set" p2) [e] [] pos2] [] pos1) (dLenSet td) := by
  obtain ⟨te, h1, h2⟩ := h.ex
  have a := pe_callB (pos := pos1) (p := p1) cr_lenK hgl hml PySem.boot_len (pa_cons (pe_callTy (pos := pos2) (p := p2) (cr_setS hc) hgs hms (by decide +kernel) (pa_cons h1 pa_nil he) (by decide) (by decide) he hp2) pa_nil he2) (by decide) (by decide) he2 hp1
  refine ⟨⟨_, a, fun S σ H E P Q r hp q => h2 S σ H E _ _ r hp fun v d H1 g1 p1 v1 => ?_⟩⟩
  obtain ⟨ys, rfl, hl, p1⟩ := p1
  cases v1 with
  | @lst a vs ds e1 k1 =>
    have := k1.strs
    subst this
    refine ⟨a, ys, rfl, .inl (.inl (same_hid _ _ e1)), hl, fun p c np hcnt => ?_⟩
    refine ⟨p, _, c, rfl, upd_same, ?_⟩
    exact q _ _ _ (g1.trans (Go.new (r.ok.go g1) np)) (p1 c hcnt) (.int _)
end

/-! ### (a, *b) -/
def dStar (t : TD) (r : TDs) : TDs := fun E P => t E fun d => ∃ ds, (d = .tup ds ∨ d = .lst ds) ∧ r E fun es => P (ds ++ es)
theorem da_star {X : Cx} {C : Cf} {e : Expr} {es : List Expr} {p : Pos} {td : TD} {tr : TDs} (h : DE X C e td) (t : DA X C es tr) (hs : starEach (.Starred e p :: es) X.env = (true, eval e X.env) :: starEach es X.env := by rfl) : DA X C (.Starred e p :: es) (dStar td tr) := by
  obtain ⟨te, h1, h2⟩ := h.ex
  obtain ⟨ta, t1, t2⟩ := t.ex
  refine ⟨⟨_, StX.pa_star h1 t1 hs, fun S σ H E P Q r hp q => h2 S σ H E _ _ r hp fun v d H1 g1 p1 v1 => ?_⟩⟩
  obtain ⟨ds, e1, p1⟩ := p1
  have go : ∀ (a : Addr) (vs : List V), DVs X.K (hid H1 S) vs ds → ta σ H1 fun ys H2 => Q (vs ++ ys) H2 := fun a vs k1 => t2 S σ H1 E _ _ (r.go g1) p1 fun ws es H2 g2 p2 v2 => q _ _ H2 (g1.trans g2) p2 (DVs.app (k1.mono (g2.vis (r.ok.go g1))) v2)
  rcases e1 with rfl | rfl
  · cases v1 with
    | @tup a vs ds e1 k1 => exact ⟨a, vs, rfl, .inl (e1.mono same_hid).sq, go a vs k1⟩
  · cases v1 with
    | @lst a vs ds e1 k1 => exact ⟨a, vs, rfl, .inr (.inl (.inl (same_hid _ _ e1))), go a vs k1⟩

/-! ### a walk over a list or a tuple -/
def iEi (t u : TDs) : TDs := fun E P => t E P ∨ u E P
theorem di_or {X : Cx} {C : Cf} {tg iter : Expr} {t u : TDs} (h : DI X C tg iter t) (k : DI X C tg iter u) : DI X C tg iter (iEi t u) := by
  obtain ⟨wi, i1, i2⟩ := h.ex
  obtain ⟨wj, j1, j2⟩ := k.ex
  refine ⟨⟨fun σ H R => wi σ H R ∨ wj σ H R, ⟨fun pins s σ H R I q => ?_⟩, fun S σ H E P R r q z => ?_⟩⟩
  · rcases q with q | q
    · exact i1.run pins s σ H R I q
    · exact j1.run pins s σ H R I q
  · rcases q with q | q
    · exact .inl (i2 S σ H E P R r q z)
    · exact .inr (j2 S σ H E P R r q z)
/-- .. that is a variable -/
def iVar (i : Nat) : TDs := fun E P => ∃ d ds, E[i]? = some (some d) ∧ (d = .lst ds ∨ d = .tup ds) ∧ P ds
theorem di_var {X : Cx} {C : Cf} {tg iter : Expr} {i : Nat} (h : DI X C tg iter (iSq (dVar i))) (k : DI X C tg iter (iTp (dVar i))) : DI X C tg iter (iVar i) := by
  obtain ⟨wi, i1, i2⟩ := (di_or h k).ex
  refine ⟨⟨wi, i1, fun S σ H E P R r q z => i2 S σ H E P R r ?_ z⟩⟩
  obtain ⟨d, ds, h1, rfl | rfl, h2⟩ := q
  · exact .inl ⟨_, h1, ds, rfl, h2⟩
  · exact .inr ⟨_, h1, ds, rfl, h2⟩
/-- the defs of a class -/
def clsB : Stmt → List Stmt
  | .ClassDef (body := b) .. => b
  | _ => []
/-! ### a, b, c = e -/
def sAsg (t : TD) (g : TGd) : TSd := fun Dn ρ => t (view ρ) fun d => g d ρ Dn.nx
theorem ds_asg {X : Cx} {C : Cf} {tg e : Expr} {td : TD} {g : TGd} {pos : Pos} (h : DE X C e td) (hg : DG X C tg g) (hs : swapsWithSole [tg] e pos.line X.env = pure false := by rfl) (hw : swappedStores [tg] e X.env = pure none := by rfl)
    (ha : (assignEach [tg] X.env).map (·.2) = [assign tg X.env] := by rfl) : DS X C (.Assign [tg] e pos) (sAsg td g) := by
  obtain ⟨te, h1, h2⟩ := h.ex
  obtain ⟨gg, g1, g2⟩ := hg.ex
  refine ⟨⟨_, ps_asg h1 g1 hs hw ha, fun S0 H0 gs al ρ σ H Dn D' r hp g => ?_⟩⟩
  refine h2 _ σ H _ _ _ r.relA hp fun v d H1 gg1 p1 v1 => ?_
  exact g2 S0 H0 gs al ρ σ H1 v d _ _ (r.go gg1) v1 p1 fun ρ' σ' r' p' => g.nx al ρ' σ' H1 r' p'
/-- what is never reached -/
theorem ds_dead {X : Cx} {C : Cf} {st : Stmt} : DS X C st (fun _ _ => False) := ⟨⟨fun _ _ _ => False, ⟨fun _ _ _ _ _ _ h => h.elim⟩, fun _ _ _ _ _ _ _ _ _ _ h _ => h⟩⟩
end L3
namespace LW
open PySem PySem.Spec PyProof.Rows L2 L3
local macro_rules | `(tactic| walk_at "vc") => `(tactic| simp only [sSeq, sNx, sBk, sCt, sSet, sIf, sRet, sRetN, sPar, sFor, sExp, dVar, dC, dOp, dCall, dCons, dNil, dTup, dLst, bOr, bNot, bAnd, bYes, dB, dTru, dOrT, dAndT, dNotT, dIf, dChain, view, frz, view1, frz1, startD, List.map_cons, List.map_nil, List.map_append, List.cons_append, List.nil_append, List.length_cons, List.length_nil, List.replicate, List.getElem?_cons_zero, List.getElem?_cons_succ, Option.some.injEq, exists_eq_left', exists_eq_left, gNm, geNm, iTx, iSq, iRg, dLc, List.set_cons_zero, List.set_cons_succ, wipeE, dSl, oNone, oSome, D.int.injEq, D.str.injEq, dJoin, dDnew, dDisp, dPairs, dNeg, sPars, kNil, kDat, kOwn, oLst, oDic, oLstOf, setRho, sApp, sAppF, sSetF, sAsg, gTp, gNms, dStar, dLenSet, iVar, iTp, siSeq, siEnd, tfFld, tfEnd, dFld])
abbrev c_LETTERS : Str := "abcdefghijklmnopqrstuvwxyz"
structure Txs (K : PySem.W.Frag) (mg : Str → Option Value) : Prop where
  m_len : mg "len" = none
  m_isinstance : mg "isinstance" = none
  m_str : mg "str" = none
  m_all : mg "all" = none
  m_range : mg "range" = none
  m_list : mg "list" = none
  m_tuple : mg "tuple" = none
  m_set : mg "set" = none
  v_LETTERS : ∃ t, mg "LETTERS" = some (.str c_LETTERS t)
  v_LONGEST_NAME : ∃ t, mg "LONGEST_NAME" = some (.int 6 t)
  v_MOST_CLASSES : ∃ t, mg "MOST_CLASSES" = some (.int 4 t)
  v_MOST_SLOTS : ∃ t, mg "MOST_SLOTS" = some (.int 4 t)
abbrev s_is_name : Stmt := topS 13
theorem sc_is_name : FnScope ["thing", "letter"] ["thing"] (defScope s_is_name) := ⟨rfl, rfl, rfl, by decide +kernel, rfl, by decide +kernel, by decide +kernel⟩
abbrev s_is_ascending : Stmt := topS 15
theorem sc_is_ascending : FnScope ["items", "at"] ["items"] (defScope s_is_ascending) := ⟨rfl, rfl, rfl, by decide +kernel, rfl, by decide +kernel, by decide +kernel⟩
abbrev s_are_triples : Stmt := topS 17
theorem sc_are_triples : FnScope ["thing", "item", "names", "name"] ["thing"] (defScope s_are_triples) := ⟨rfl, rfl, rfl, by decide +kernel, rfl, by decide +kernel, by decide +kernel⟩
abbrev s_are_names_among : Stmt := topS 20
theorem sc_are_names_among : FnScope ["thing", "names", "item"] ["thing", "names"] (defScope s_are_names_among) := ⟨rfl, rfl, rfl, by decide +kernel, rfl, by decide +kernel, by decide +kernel⟩
abbrev s_is_slot : Stmt := topS 19
theorem sc_is_slot : FnScope ["thing", "class_names", "name", "when", "form", "targets"] ["thing", "class_names"] (defScope s_is_slot) := ⟨rfl, rfl, rfl, by decide +kernel, rfl, by decide +kernel, by decide +kernel⟩
abbrev s_is_class : Stmt := topS 18
theorem sc_is_class : FnScope ["triple", "class_names", "_", "slots", "read", "slot", "names"] ["triple", "class_names"] (defScope s_is_class) := ⟨rfl, rfl, rfl, by decide +kernel, rfl, by decide +kernel, by decide +kernel⟩
abbrev s_Schema_init : Stmt := (clsB (topS 16)).getD 0 (.Pass ⟨0, 0, 0, 0⟩)
theorem sc_Schema_init : FnScope ["self", "classes", "names", "triple"] ["self", "classes"] (defScope s_Schema_init) := ⟨rfl, rfl, rfl, by decide +kernel, rfl, by decide +kernel, by decide +kernel⟩
section
variable {P : Program} {w : World} {K : PySem.W.Frag} {mg : Str → Option Value} {base : Heap}
/-- is it a name -/
def nameS (x : Str) : Bool := decide (1 ≤ x.length) && decide (x.length ≤ 6) && x.cps.toList.all fun c => decide (c ∈ c_LETTERS.cps.toList)
def nameD : D → Bool
  | .str x => nameS x
  | _ => false
/-- any value, its texts of bounded length -/
def okV (d : D) : Prop := (∃ t, tyOf d = some t) ∧ ∀ x, d = .str x → x.length ≤ 100000 ∧ PyData.strOk x = true
theorem run_all (x : Str) (E : En) (p : Nat → Bool) (te : TD) {R : D → Prop} (h : ∀ (c : Nat) (Q : D → Prop), Q (.bl (p c)) → te (E.set 1 (some (.str ⟨#[c]⟩))) Q) (hp : R (.bl (x.cps.toList.all p))) :
    lcRun (geNm 1) bYes te E (chars x) [] fun zs => fAll [D.lst zs] R := by
  refine lc_map (fun d => match d with | .str s => .bl (p (s.cps.getD 0 0)) | d => d) (chars x) [] _ (fun d hd Q q => ?_) (ge_mono 1) ?_
  · unfold chars at hd
    obtain ⟨c, _, rfl⟩ := List.mem_map.mp hd
    exact h c Q q
  · show fAll [D.lst ([] ++ _)] R
    rw [List.nil_append]
    refine ⟨x.cps.toList.map p, ?_, ?_⟩
    · unfold chars
      rw [List.map_map, List.map_map]
      rfl
    · rw [List.all_map]
      exact hp
def fIsName : Cf → FN := fun C ds P => ∃ d, ds = [d] ∧ okV d ∧ P (.bl (nameD d))
theorem cal0_is_name (T : Txs K mg) (d : Dfn K mg "is_name" s_is_name ["thing"]) : Cal0 P w K mg base "is_name" s_is_name 1 ["thing"] fIsName := by
  obtain ⟨tL, e_LETTERS⟩ := T.v_LETTERS
  obtain ⟨tN, e_LONGEST_NAME⟩ := T.v_LONGEST_NAME
  refine cal0_of d sc_is_name (fun C ds R h => by obtain ⟨_, rfl, _⟩ := h; rfl) fun f cdv A fr s H E hgd hr C ds R h => ⟨_, (dss_cons (ds_if (dt_w (dw_or (dt_not (dt_val (de_blt cd_isi call_isiD rfl T.m_isinstance boot_isinstance (da_cons (de_of (pv 0)) (da_cons (de_c (pe_bltn (v := .ty "str") rfl T.m_str boot_str rfl) fun _ => .op _) da_nil))))) (dw_or1 (dt_not (dt_chain od_ord od_ord op_leD op_leD de_int (de_blt cd_len call_lenAll rfl T.m_len boot_len (da_cons (de_of (pv 0)) da_nil)) (de_c (pe_glob (v := .int 6) rfl e_LONGEST_NAME ⟨_, rfl⟩) fun _ => .int _)))))) (dss_one (ds_ret de_bl)) dss_nil)
      (dss_one (ds_ret (de_blt cd_all (cr_all rfl) rfl T.m_all boot_all (da_cons (de_lc (own := [("letter", 1)]) rfl sc_is_name.nd (blkOk_by (N := ["thing", "letter"]) (sc := defScope s_is_name) (by decide +kernel)) (di_str (de_of (pv 0))) (fun b => dge_name (i := 1) ⟨sc_is_name.nd, rfl, by first | exact .inl rfl | exact .inr rfl, by first | exact .inr rfl | exact .inl rfl⟩ (by decide)) (fun b => dts_nil) (fun b => (de_cmp od_inS op_inSg (by with_unfolding_all rfl) (de_of (pv 1)) (de_c (pe_glob (v := .str c_LETTERS) rfl e_LETTERS ⟨_, rfl⟩) fun _ => .str _)))) da_nil))))), ?_⟩
  obtain ⟨d, rfl, ⟨⟨t, ht⟩, hl⟩, h⟩ := h
  walk_at "vc"
  refine ⟨t, ht, by decide, ?_⟩
  refine ⟨_, rfl, ?_⟩
  by_cases isS : ∃ x, d = .str x
  · obtain ⟨x, rfl⟩ := isS
    cases ht
    obtain ⟨hx, _⟩ := hl x rfl
    rw [if_neg (by decide)]
    refine ⟨x.length, if_pos hx, ?_⟩
    show ∃ k, D.bl (decide ((1 : Int) ≤ (x.length : Int))) = D.bl k ∧ _
    refine ⟨_, rfl, ?_⟩
    by_cases h1 : 1 ≤ x.length
    · rw [if_pos (decide_eq_true (by omega))]
      show ∃ b, D.bl (decide ((x.length : Int) ≤ 6)) = D.bl b ∧ _
      refine ⟨_, rfl, ?_⟩
      by_cases h2 : x.length ≤ 6
      · rw [if_neg (by rw [decide_eq_true (by omega)]; decide)]
        refine ⟨x, rfl, by simp only [chars, List.length_map, Array.length_toList]; exact hx, ?_⟩
        refine run_all x _ (fun c => decide (c ∈ c_LETTERS.cps.toList)) _ (fun c Q q => ?_) ?_
        · refine ⟨.str ⟨#[c]⟩, rfl, c, rfl, ?_⟩
          rw [show (false != decide (c ∈ c_LETTERS.cps.toList)) = decide (c ∈ c_LETTERS.cps.toList) by simp]
          exact q
        · have e : nameD (.str x) = x.cps.toList.all fun c => decide (c ∈ c_LETTERS.cps.toList) := by
            show nameS x = _
            unfold nameS
            rw [decide_eq_true h1, decide_eq_true h2, Bool.true_and, Bool.true_and]
          rw [← e]
          exact h
      · rw [if_pos (by rw [decide_eq_false (by omega)]; rfl)]
        have e : nameD (.str x) = false := by
          show nameS x = _
          unfold nameS
          rw [decide_eq_false h2, Bool.and_false, Bool.false_and]
        rw [e] at h
        exact h
    · rw [if_neg (by rw [decide_eq_false (by omega)]; decide)]
      refine ⟨_, rfl, ?_⟩
      have e : nameD (.str x) = false := by
        show nameS x = _
        unfold nameS
        rw [decide_eq_false h1, Bool.false_and, Bool.false_and]
      rw [e] at h
      exact h
  · have e : nameD d = false := by cases d <;> first | rfl | exact absurd ⟨_, rfl⟩ isS
    have e2 : isTy t "str" = false := by cases d <;> first | (cases ht; decide) | exact absurd ⟨_, rfl⟩ isS | cases ht
    rw [e2, if_pos (show (!false) = true from rfl), if_pos trivial]
    rw [e] at h
    exact h

theorem nm_okV {x : Str} (h : NmS x) : okV (.str x) := ⟨⟨_, rfl⟩, fun y e => by cases e; exact ⟨by have := h.le; omega, h.ok⟩⟩
theorem nm_is {x : Str} (h : NmS x) : nameD (.str x) = true := by
  show nameS x = true
  unfold nameS
  rw [decide_eq_true h.pos, decide_eq_true h.le, Bool.true_and, Bool.true_and, List.all_eq_true]
  intro c hc
  refine decide_eq_true ?_
  have a : ∀ n : Nat, n < 26 → 97 + n ∈ c_LETTERS.cps.toList := by decide +kernel
  have hz := h.az c hc
  have := a (c - 97) (by have := hz.1; have := hz.2; omega)
  rwa [show 97 + (c - 97) = c by have := hz.1; omega] at this
/-! ### ascending -/
def fAsc : Cf → FN := fun C ds P => ∃ xs : List Str, (ds = [.lst (xs.map D.str)] ∨ ds = [.tup (xs.map D.str)]) ∧ xs.length ≤ 1000 ∧ Rising xs ∧ P (.bl true)
theorem cal_is_ascending (T : Txs K mg) (d : Dfn K mg "is_ascending" s_is_ascending ["items"]) : Cal P w K mg base "is_ascending" 1 ["items"] fAsc := by
  refine cal_of d sc_is_ascending (fun C ds R h => by obtain ⟨xs, rfl | rfl, _⟩ := h <;> rfl) fun f cdv A fr s H E hgd hr C ds R h => ⟨_, (dss_one (ds_ret (de_blt cd_all (cr_all rfl) rfl T.m_all boot_all (da_cons (de_lc (own := [("at", 1)]) rfl sc_is_ascending.nd (blkOk_by (N := ["items", "at"]) (sc := defScope s_is_ascending) (by decide +kernel)) (di_rng rfl T.m_range (da_cons (de_op od_sub op_sub (de_blt cd_len call_lenAll rfl T.m_len boot_len (da_cons (de_of (pv 0)) da_nil)) de_int) da_nil)) (fun b => dge_name (i := 1) ⟨sc_is_ascending.nd, rfl, by first | exact .inl rfl | exact .inr rfl, by first | exact .inr rfl | exact .inl rfl⟩ (by decide)) (fun b => dts_nil) (fun b => (de_cmp od_ord op_ltD (nomark _) (de_ix od_ix ix_seq (de_of (pv 0)) (de_of (pv 1))) (de_ix od_ix ix_seq (de_of (pv 0)) (de_op od_add op_addD (de_of (pv 1)) de_int))))) da_nil)))), ?_⟩
  obtain ⟨xs, e, hl, hup, h⟩ := h
  rcases e with rfl | rfl <;>
  · walk_at "vc"
    refine ⟨xs.length, by show some (xs.map D.str).length = _; rw [List.length_map], ?_⟩
    refine ⟨trivial, _, rfl, by show -2 ^ 62 ≤ ((xs.length : Int) - 1); omega, by show ((xs.length : Int) - 1) < 2 ^ 62; omega, by simp [rngD]; omega, ?_⟩
    have hrn : ∀ d ∈ rngD 0 ((xs.length : Int) - 1).toNat, ∃ i : Nat, i + 1 < xs.length ∧ d = .int i := fun d hd => by
      unfold rngD at hd
      obtain ⟨i, hi, rfl⟩ := List.mem_map.mp hd
      rw [List.mem_range] at hi
      exact ⟨i, by omega, by rw [show (0 : Int) + (i : Int) = i by omega]⟩
    refine lc_map (fun _ => .bl true) _ [] _ (fun d hd Q q => ?_) (ge_mono 1) ?_
    · obtain ⟨i, hi, rfl⟩ := hrn d hd
      walk_at "vc"
      have e1 : (xs.map D.str)[i]? = some (.str xs[i]) := by rw [List.getElem?_map, List.getElem?_eq_getElem (by omega)]; rfl
      have e2 : (xs.map D.str)[i + 1]? = some (.str xs[i + 1]) := by rw [List.getElem?_map, List.getElem?_eq_getElem hi]; rfl
      refine ⟨.str xs[i], atI_nat e1, .str xs[i + 1], by rw [show ((i : Int) + 1) = ((i + 1 : Nat) : Int) by omega]; exact atI_nat e2, ?_⟩
      have hlt : ltS xs[i] xs[i + 1] := List.pairwise_iff_getElem.mp hup i (i + 1) (by omega) hi (by omega)
      show Q (.bl (decide (xs[i].cps.toList < xs[i + 1].cps.toList)))
      rw [decide_eq_true (show xs[i].cps.toList < xs[i + 1].cps.toList from hlt)]
      exact q
    · refine ⟨List.replicate (rngD 0 ((xs.length : Int) - 1).toNat).length true, ?_, ?_⟩
      · rw [List.nil_append, List.map_const', List.map_replicate]
      · rw [List.all_replicate]
        split
        · exact h
        · exact h
/-! ### triples -/
def fTri : Cf → FN := fun C ds P => ∃ ss : List Sheet, (ds = [.lst (ss.map Sheet.d)] ∨ ds = [.tup (ss.map Sheet.d)]) ∧ OkSheets ss ∧ P (.bl true)
theorem cal_are_triples (T : Txs K mg) (C_is_name : Cal P w K mg base "is_name" 1 ["thing"] fIsName) (C_is_ascending : Cal P w K mg base "is_ascending" 1 ["items"] fAsc) (d : Dfn K mg "_are_triples" s_are_triples ["thing"]) : Cal P w K mg base "_are_triples" 2 ["thing"] fTri := by
  obtain ⟨tN, e_MOST_CLASSES⟩ := T.v_MOST_CLASSES
  refine cal_of d sc_are_triples (fun C ds R h => by obtain ⟨xs, rfl | rfl, _⟩ := h <;> rfl) fun f cdv A fr s H E hgd hr C ds R h => ⟨_, (dss_cons (ds_if (dt_w (dw_or (dt_not (dt_val (de_blt cd_isi call_isiD rfl T.m_isinstance boot_isinstance (da_cons (de_of (pv 0)) (da_cons (de_tup (da_cons (de_c (pe_bltn (v := .ty "list") rfl T.m_list boot_list rfl) fun _ => .op _) (da_cons (de_c (pe_bltn (v := .ty "tuple") rfl T.m_tuple boot_tuple rfl) fun _ => .op _) da_nil))) da_nil))))) (dw_or1 (dt_not (dt_chain od_ord od_ord op_leD op_leD de_int (de_blt cd_len call_lenAll rfl T.m_len boot_len (da_cons (de_of (pv 0)) da_nil)) (de_c (pe_glob (v := .int 4) rfl e_MOST_CLASSES ⟨_, rfl⟩) fun _ => .int _)))))) (dss_one (ds_ret de_bl)) dss_nil)
      (dss_cons (ds_if (dt_not (dt_val (de_blt cd_all (cr_all rfl) rfl T.m_all boot_all (da_cons (de_lc (own := [("item", 1)]) rfl sc_are_triples.nd (blkOk_by (N := ["thing", "item", "names", "name"]) (sc := defScope s_are_triples) (by decide +kernel)) (di_var (i := 0) (di_list (de_of (pv 0))) (di_tup (de_of (pv 0)))) (fun b => dge_name (i := 1) ⟨sc_are_triples.nd, rfl, by first | exact .inl rfl | exact .inr rfl, by first | exact .inr rfl | exact .inl rfl⟩ (by decide)) (fun b => dts_nil) (fun b => (de_andT (de_blt cd_isi call_isiD rfl T.m_isinstance boot_isinstance (da_cons (de_of (pv 1)) (da_cons (de_c (pe_bltn (v := .ty "tuple") rfl T.m_tuple boot_tuple rfl) fun _ => .op _) da_nil))) (de_one (de_cmp od_eq (op_eqb hr.units) (nomark _) (de_blt cd_len call_lenAll rfl T.m_len boot_len (da_cons (de_of (pv 1)) da_nil)) de_int))))) da_nil)))) (dss_one (ds_ret de_bl)) dss_nil)
      (dss_cons (ds_setLc (i := 2) (own := [("item", 1)]) ⟨sc_are_triples.nd, rfl, by first | exact .inl rfl | exact .inr rfl, .inl rfl⟩ rfl rfl rfl (blkOk_by (N := ["thing", "item", "names", "name"]) (sc := defScope s_are_triples) (by decide +kernel)) (di_var (i := 0) (di_list (de_of (pv 0))) (di_tup (de_of (pv 0)))) (fun b => dge_name (i := 1) ⟨sc_are_triples.nd, rfl, by first | exact .inl rfl | exact .inr rfl, by first | exact .inr rfl | exact .inl rfl⟩ (by decide)) (fun b => dts_nil) (fun b => (de_ix od_ix ix_seq (de_of (pv 1)) de_int)))
      (dss_one (ds_ret (de_andT (de_blt cd_all (cr_all rfl) rfl T.m_all boot_all (da_cons (de_lc (own := [("name", 3)]) rfl sc_are_triples.nd (blkOk_by (N := ["thing", "item", "names", "name"]) (sc := defScope s_are_triples) (by decide +kernel)) (di_list (de_of (pv 2))) (fun b => dge_name (i := 3) ⟨sc_are_triples.nd, rfl, by first | exact .inl rfl | exact .inr rfl, by first | exact .inr rfl | exact .inl rfl⟩ (by decide)) (fun b => dts_nil) (fun b => (de_cal C_is_name hgd hr (by decide) rfl (da_cons (de_of (pv 3)) da_nil)))) da_nil)) (de_one (de_cal C_is_ascending hgd hr (by decide) rfl (da_cons (de_of (pv 2)) da_nil))))))))), ?_⟩
  obtain ⟨ss, e, hs, h⟩ := h
  have hf := hs.few
  have hp := hs.pos
  have hl : (ss.map Sheet.d).length = ss.length := List.length_map ..
  have hnm : ∀ s ∈ ss, NmS s.lb := fun s h => (hs.sheet s h).lb
  rcases e with rfl | rfl <;>
  · walk_at "vc"
    refine ⟨by decide, _, rfl, by decide, by decide, _, rfl, ?_⟩
    rw [if_neg (by decide)]
    refine ⟨ss.length, congrArg some hl, ?_⟩
    refine ⟨_, rfl, ?_⟩
    rw [if_pos (decide_eq_true (by omega))]
    refine ⟨_, rfl, ?_⟩
    rw [if_neg (by show ¬ (!decide ((ss.length : Int) ≤ 4)) = true; rw [decide_eq_true (show (ss.length : Int) ≤ 4 by omega)]; decide)]
    refine ⟨_, _, rfl, by first | exact .inl rfl | exact .inr rfl, by rw [hl]; omega, ?_⟩
    refine lc_map (fun _ => .bl true) _ [] _ (fun d hd Q q => ?_) (ge_mono 1) ?_
    · obtain ⟨s, hs1, rfl⟩ := List.mem_map.mp hd
      walk_at "vc"
      exact ⟨_, rfl, by decide, true, rfl, by rw [if_pos rfl]; exact ⟨3, rfl, q⟩⟩
    · refine ⟨List.replicate (ss.map Sheet.d).length true, by rw [List.nil_append, List.map_const', List.map_replicate], ?_⟩
      rw [List.all_replicate, hl]
      refine ⟨_, rfl, ?_⟩
      rw [if_neg (by rw [if_neg (by omega)]; decide)]
      refine ⟨_, _, rfl, by first | exact .inl rfl | exact .inr rfl, by rw [hl]; omega, ?_⟩
      refine lc_map hd0 _ [] _ (fun d hd Q q => ?_) (ge_mono 1) ?_
      · obtain ⟨s, hs1, rfl⟩ := List.mem_map.mp hd
        walk_at "vc"
        exact ⟨_, atI0, q⟩
      · have e0 : [] ++ (ss.map Sheet.d).map hd0 = (ss.map Sheet.lb).map D.str := by
          rw [List.nil_append, List.map_map, List.map_map]
          rfl
        rw [e0]
        refine ⟨_, rfl, by rw [List.length_map, List.length_map]; omega, ?_⟩
        refine lc_map (fun _ => .bl true) _ [] _ (fun d hd Q q => ?_) (ge_mono 3) ?_
        · obtain ⟨x, hx, rfl⟩ := List.mem_map.mp hd
          obtain ⟨s, hs1, rfl⟩ := List.mem_map.mp hx
          walk_at "vc"
          refine ⟨_, rfl, nm_okV (hnm s hs1), ?_⟩
          rw [nm_is (hnm s hs1)]
          exact q
        · refine ⟨List.replicate ss.length true, by rw [List.nil_append, List.map_const', List.map_replicate, List.length_map, List.length_map], ?_⟩
          rw [List.all_replicate]
          refine ⟨_, rfl, ?_⟩
          rw [if_pos (by rw [if_neg (by omega)]; rfl)]
          exact ⟨ss.map Sheet.lb, .inl rfl, by rw [List.length_map]; omega, hs.up, h⟩
end
end LW
namespace LW
open PySem PySem.Spec PyProof.Rows L2 L3
local macro_rules | `(tactic| walk_at "vc") => `(tactic| simp only [sSeq, sNx, sBk, sCt, sSet, sIf, sRet, sRetN, sPar, sFor, sExp, dVar, dC, dOp, dCall, dCons, dNil, dTup, dLst, bOr, bNot, bAnd, bYes, dB, dTru, dOrT, dAndT, dNotT, dIf, dChain, view, frz, view1, frz1, startD, List.map_cons, List.map_nil, List.map_append, List.cons_append, List.nil_append, List.length_cons, List.length_nil, List.replicate, List.getElem?_cons_zero, List.getElem?_cons_succ, Option.some.injEq, exists_eq_left', exists_eq_left, gNm, geNm, iTx, iSq, iRg, dLc, List.set_cons_zero, List.set_cons_succ, wipeE, dSl, oNone, oSome, D.int.injEq, D.str.injEq, dJoin, dDnew, dDisp, dPairs, dNeg, sPars, kNil, kDat, kOwn, oLst, oDic, oLstOf, setRho, sApp, sAppF, sSetF, sAsg, gTp, gNms, dStar, dLenSet, iVar, iTp, siSeq, siEnd, tfFld, tfEnd, dFld])
section
variable {P : Program} {w : World} {K : PySem.W.Frag} {mg : Str → Option Value} {base : Heap}
/-! ### names among names -/
def fAmong : Cf → FN := fun C ds P => ∃ xs ys : List Str, ∃ d : D, ds = [.tup (xs.map D.str), d] ∧ (d = .lst (ys.map D.str) ∨ d = .tup (ys.map D.str)) ∧ xs.length ≤ 1000 ∧ (∀ x ∈ xs, x ∈ ys) ∧ Rising xs ∧ P (.bl true)
theorem cal_are_names_among (T : Txs K mg) (C_is_ascending : Cal P w K mg base "is_ascending" 1 ["items"] fAsc) (d : Dfn K mg "_are_names_among" s_are_names_among ["thing", "names"]) : Cal P w K mg base "_are_names_among" 2 ["thing", "names"] fAmong := by
  refine cal_of d sc_are_names_among (fun C ds R h => by obtain ⟨_, _, _, rfl, _⟩ := h; rfl) fun f cdv A fr s H E hgd hr C ds R h => ⟨_, (dss_cons (ds_if (dt_w (dw_or (dt_not (dt_val (de_blt cd_isi call_isiD rfl T.m_isinstance boot_isinstance (da_cons (de_of (pv 0)) (da_cons (de_c (pe_bltn (v := .ty "tuple") rfl T.m_tuple boot_tuple rfl) fun _ => .op _) da_nil))))) (dw_or1 (dt_not (dt_val (de_blt cd_all (cr_all rfl) rfl T.m_all boot_all (da_cons (de_lc (own := [("item", 2)]) rfl sc_are_names_among.nd (blkOk_by (N := ["thing", "names", "item"]) (sc := defScope s_are_names_among) (by decide +kernel)) (di_tup (de_of (pv 0))) (fun b => dge_name (i := 2) ⟨sc_are_names_among.nd, rfl, by first | exact .inl rfl | exact .inr rfl, by first | exact .inr rfl | exact .inl rfl⟩ (by decide)) (fun b => dts_nil) (fun b => (de_cmp od_inQ op_inQ (by with_unfolding_all rfl) (de_of (pv 2)) (de_of (pv 1))))) da_nil))))))) (dss_one (ds_ret de_bl)) dss_nil)
      (dss_one (ds_ret (de_cal C_is_ascending hgd hr (by decide) rfl (da_cons (de_of (pv 0)) da_nil))))), ?_⟩
  obtain ⟨xs, ys, d, rfl, e, hl, hm, hup, h⟩ := h
  rcases e with rfl | rfl <;>
  · walk_at "vc"
    refine ⟨_, rfl, by decide, _, rfl, ?_⟩
    rw [if_neg (by decide)]
    refine ⟨_, rfl, by rw [List.length_map]; omega, ?_⟩
    refine lc_map (fun _ => .bl true) _ [] _ (fun d hd Q q => ?_) (ge_mono 2) ?_
    · obtain ⟨x, hx, rfl⟩ := List.mem_map.mp hd
      walk_at "vc"
      refine ⟨ys, rfl, ?_⟩
      rw [decide_eq_true (hm x hx)]
      exact q
    · refine ⟨List.replicate xs.length true, by rw [List.nil_append, List.map_const', List.map_replicate, List.length_map], ?_⟩
      have e0 : (List.replicate xs.length true).all id = true := by rw [List.all_replicate]; split <;> rfl
      rw [e0]
      refine ⟨_, rfl, ?_⟩
      rw [if_neg (by decide)]
      exact ⟨xs, .inr rfl, hl, hup, h⟩
/-! ### a slot -/
def fIsSlot : Cf → FN := fun C ds P => ∃ crew h, ds = [Hole.d h, .tup (crew.map D.str)] ∧ Crew crew ∧ OkHole crew h ∧ P (.bl true)
theorem cal_is_slot (T : Txs K mg) (C_is_name : Cal P w K mg base "is_name" 1 ["thing"] fIsName) (C_are_names_among : Cal P w K mg base "_are_names_among" 2 ["thing", "names"] fAmong) (d : Dfn K mg "_is_slot" s_is_slot ["thing", "class_names"]) : Cal P w K mg base "_is_slot" 3 ["thing", "class_names"] fIsSlot := by
  refine cal_of d sc_is_slot (fun C ds R h => by obtain ⟨_, _, rfl, _⟩ := h; rfl) fun f cdv A fr s H E hgd hr C ds R h => ⟨_, (dss_cons (ds_if (dt_w (dw_or (dt_not (dt_val (de_blt cd_isi call_isiD rfl T.m_isinstance boot_isinstance (da_cons (de_of (pv 0)) (da_cons (de_c (pe_bltn (v := .ty "tuple") rfl T.m_tuple boot_tuple rfl) fun _ => .op _) da_nil))))) (dw_or1 (dt_cmp od_ne (op_neb hr.units) (nomark _) (de_blt cd_len call_lenAll rfl T.m_len boot_len (da_cons (de_of (pv 0)) da_nil)) de_int)))) (dss_one (ds_ret de_bl)) dss_nil)
      (dss_cons (ds_asg (de_of (pv 0)) (dg_tup rfl (dgs_cons (i := 2) ⟨sc_is_slot.nd, rfl, by first | exact .inl rfl | exact .inr rfl, .inl rfl⟩ (dgs_cons (i := 3) ⟨sc_is_slot.nd, rfl, by first | exact .inl rfl | exact .inr rfl, .inl rfl⟩ (dgs_cons (i := 4) ⟨sc_is_slot.nd, rfl, by first | exact .inl rfl | exact .inr rfl, .inl rfl⟩ (dgs_cons (i := 5) ⟨sc_is_slot.nd, rfl, by first | exact .inl rfl | exact .inr rfl, .inl rfl⟩ dgs_nil))))))
      (dss_cons (ds_if (dt_w (dw_or (dt_not (dt_val (de_cal C_is_name hgd hr (by decide) rfl (da_cons (de_of (pv 2)) da_nil)))) (dw_or (dt_cmp od_inQ op_notInQ (by with_unfolding_all rfl) (de_of (pv 3)) (de_tup (da_cons de_str (da_cons de_str da_nil)))) (dw_or1 (dt_cmp od_inQ op_notInQ (by with_unfolding_all rfl) (de_of (pv 4)) (de_tup (da_cons de_str (da_cons de_str (da_cons de_str da_nil))))))))) (dss_one (ds_ret de_bl)) dss_nil)
      (dss_one (ds_ret (de_andT (de_cmp od_ne (op_neb hr.units) (nomark _) (de_of (pv 5)) (de_tup da_nil)) (de_one (de_cal C_are_names_among hgd hr (by decide) rfl (da_cons (de_of (pv 5)) (da_cons (de_tup (da_cons de_str (da_star (de_of (pv 1)) da_nil))) da_nil)))))))))), ?_⟩
  obtain ⟨crew, o, rfl, hc, ho, h⟩ := h
  obtain ⟨nm, wh, fo, gs⟩ := o
  simp only [Hole.d]
  walk_at "vc"
  refine ⟨_, rfl, by decide, _, rfl, ?_⟩
  rw [if_neg (by decide)]
  refine ⟨4, rfl, _, rfl, ?_⟩
  rw [if_neg (by decide)]
  refine ⟨_, rfl, ?_⟩
  walk_at "vc"
  refine ⟨_, rfl, nm_okV ho.nm, _, rfl, ?_⟩
  rw [show nameD (.str nm) = true from nm_is ho.nm, if_neg (by decide)]
  have hw : wh ∈ (["first", "later"] : List Str) := by
    rcases ho.whn with z | z <;> (have z : wh = _ := z; rw [z]; decide)
  have hfo : fo ∈ (["one", "row", "set"] : List Str) := by
    rcases ho.form with z | z | z <;> (have z : fo = _ := z; rw [z]; decide)
  refine ⟨by decide, ["first", "later"], rfl, _, rfl, ?_⟩
  rw [decide_eq_true hw, if_neg (by decide)]
  refine ⟨by decide, ["one", "row", "set"], rfl, _, rfl, ?_⟩
  rw [decide_eq_true hfo, if_neg (by decide)]
  have gok : ∀ g ∈ gs, PyData.strOk g = true := fun g hg => nm0_ok ((ho.mem g hg).imp id (hc.nm g))
  have gne : gs ≠ [] := ho.ne
  have gl : gs.length ≤ 1000 := by
    have := nodup_le gs ("" :: crew) (Rising.nodup ho.up) (fun g hg => by
      rcases ho.mem g hg with z | z
      · rw [z]; exact List.mem_cons_self
      · exact List.mem_cons_of_mem _ z)
    rw [List.length_cons] at this
    have := hc.few
    omega
  refine ⟨by decide, (eqOk_txts gok).2, by decide +kernel, ?_⟩
  have ene : eqD (.tup (gs.map D.str)) (.tup []) = false := by
    cases gs with
    | nil => exact absurd rfl gne
    | cons g r => exact eqD_tcons_nil
  rw [ene]
  refine ⟨_, rfl, ?_⟩
  rw [if_pos (by decide)]
  refine ⟨_, .inl rfl, by simp; have := hc.few; omega, ?_⟩
  refine ⟨gs, "" :: crew, _, rfl, .inr (by simp), gl, fun g hg => ?_, ho.up, h⟩
  rcases ho.mem g hg with z | z
  · rw [z]; exact List.mem_cons_self
  · exact List.mem_cons_of_mem _ z
/-! ### a class -/
def fIsClass : Cf → FN := fun C ds P => ∃ crew s, ds = [Sheet.d s, .tup (crew.map D.str)] ∧ Crew crew ∧ OkSheet crew s ∧ P (.bl true)
theorem cal_is_class (T : Txs K mg) (C_is_slot : Cal P w K mg base "_is_slot" 3 ["thing", "class_names"] fIsSlot) (C_are_names_among : Cal P w K mg base "_are_names_among" 2 ["thing", "names"] fAmong) (d : Dfn K mg "_is_class" s_is_class ["triple", "class_names"]) : Cal P w K mg base "_is_class" 4 ["triple", "class_names"] fIsClass := by
  obtain ⟨tN, e_MOST_SLOTS⟩ := T.v_MOST_SLOTS
  refine cal_of d sc_is_class (fun C ds R h => by obtain ⟨_, _, rfl, _⟩ := h; rfl) fun f cdv A fr s H E hgd hr C ds R h => ⟨_, (dss_cons (ds_asg (de_of (pv 0)) (dg_tup rfl (dgs_cons (i := 2) ⟨sc_is_class.nd, rfl, by first | exact .inl rfl | exact .inr rfl, .inl rfl⟩ (dgs_cons (i := 3) ⟨sc_is_class.nd, rfl, by first | exact .inl rfl | exact .inr rfl, .inl rfl⟩ (dgs_cons (i := 4) ⟨sc_is_class.nd, rfl, by first | exact .inl rfl | exact .inr rfl, .inl rfl⟩ dgs_nil)))))
      (dss_cons (ds_if (dt_w (dw_or (dt_not (dt_val (de_blt cd_isi call_isiD rfl T.m_isinstance boot_isinstance (da_cons (de_of (pv 3)) (da_cons (de_c (pe_bltn (v := .ty "tuple") rfl T.m_tuple boot_tuple rfl) fun _ => .op _) da_nil))))) (dw_or1 (dt_cmp od_ord op_gtD (nomark _) (de_blt cd_len call_lenAll rfl T.m_len boot_len (da_cons (de_of (pv 3)) da_nil)) (de_c (pe_glob (v := .int 4) rfl e_MOST_SLOTS ⟨_, rfl⟩) fun _ => .int _))))) (dss_one (ds_ret de_bl)) dss_nil)
      (dss_cons (ds_if (dt_not (dt_val (de_blt cd_all (cr_all rfl) rfl T.m_all boot_all (da_cons (de_lc (own := [("slot", 5)]) rfl sc_is_class.nd (blkOk_by (N := ["triple", "class_names", "_", "slots", "read", "slot", "names"]) (sc := defScope s_is_class) (by decide +kernel)) (di_tup (de_of (pv 3))) (fun b => dge_name (i := 5) ⟨sc_is_class.nd, rfl, by first | exact .inl rfl | exact .inr rfl, by first | exact .inr rfl | exact .inl rfl⟩ (by decide)) (fun b => dts_nil) (fun b => (de_cal C_is_slot hgd hr (by decide) rfl (da_cons (de_of (pv 5)) (da_cons (de_of (pv 1)) da_nil))))) da_nil)))) (dss_one (ds_ret de_bl)) dss_nil)
      (dss_cons (ds_setLc (i := 6) (own := [("slot", 5)]) ⟨sc_is_class.nd, rfl, by first | exact .inl rfl | exact .inr rfl, .inl rfl⟩ rfl rfl rfl (blkOk_by (N := ["triple", "class_names", "_", "slots", "read", "slot", "names"]) (sc := defScope s_is_class) (by decide +kernel)) (di_tup (de_of (pv 3))) (fun b => dge_name (i := 5) ⟨sc_is_class.nd, rfl, by first | exact .inl rfl | exact .inr rfl, by first | exact .inr rfl | exact .inl rfl⟩ (by decide)) (fun b => dts_nil) (fun b => (de_ix od_ix ix_seq (de_of (pv 5)) de_int)))
      (dss_cons (ds_if (dt_cmp od_ord op_ltD (nomark _) (de_lenset rfl rfl T.m_len rfl T.m_set (de_of (pv 6))) (de_blt cd_len call_lenAll rfl T.m_len boot_len (da_cons (de_of (pv 6)) da_nil))) (dss_one (ds_ret de_bl)) dss_nil)
      (dss_one (ds_ret (de_orT (de_cmp od_eq (op_eqb hr.units) (nomark _) (de_of (pv 4)) de_str) (de_one (de_cal C_are_names_among hgd hr (by decide) rfl (da_cons (de_of (pv 4)) (da_cons (de_of (pv 6)) da_nil)))))))))))), ?_⟩
  obtain ⟨crew, o, rfl, hc, ho, h⟩ := h
  obtain ⟨lb, hs, se⟩ := o
  simp only [Sheet.d]
  walk_at "vc"
  refine ⟨_, rfl, ?_⟩
  walk_at "vc"
  have hl : (hs.map Hole.d).length = hs.length := List.length_map ..
  have hfew : hs.length ≤ 4 := ho.few
  have hnd : (hs.map Hole.nm).Nodup := ho.nd
  have hnl : (hs.map Hole.nm).length = hs.length := List.length_map ..
  refine ⟨_, rfl, by decide, _, rfl, ?_⟩
  rw [if_neg (by decide)]
  refine ⟨hs.length, congrArg some hl, _, rfl, ?_⟩
  rw [if_neg (by show ¬ decide ((4 : Int) < (hs.length : Int)) = true; rw [decide_eq_false (by omega)]; exact Bool.false_ne_true)]
  refine ⟨_, rfl, by rw [hl]; omega, ?_⟩
  refine lc_map (fun _ => .bl true) _ [] _ (fun d hd Q q => ?_) (ge_mono 5) ?_
  · obtain ⟨o, h1, rfl⟩ := List.mem_map.mp hd
    walk_at "vc"
    exact ⟨crew, o, rfl, hc, ho.hole o h1, q⟩
  · refine ⟨List.replicate hs.length true, by rw [List.nil_append, List.map_const', List.map_replicate, List.length_map], ?_⟩
    have e0 : ∀ n : Nat, (List.replicate n true).all id = true := fun n => by rw [List.all_replicate]; split <;> rfl
    rw [e0]
    refine ⟨_, rfl, ?_⟩
    rw [if_neg (by decide)]
    refine ⟨_, rfl, by rw [hl]; omega, ?_⟩
    refine lc_map hd0 _ [] _ (fun d hd Q q => ?_) (ge_mono 5) ?_
    · obtain ⟨o, h1, rfl⟩ := List.mem_map.mp hd
      walk_at "vc"
      exact ⟨_, atI0, q⟩
    · have e1 : [] ++ (hs.map Hole.d).map hd0 = (hs.map Hole.nm).map D.str := by
        rw [List.nil_append, List.map_map, List.map_map]
        rfl
      rw [e1]
      refine ⟨_, rfl, by omega, fun c hcnt => ?_⟩
      obtain rfl := hcnt.2.mpr hnd
      refine ⟨hs.length, by show some ((hs.map Hole.nm).map D.str).length = _; rw [List.length_map, hnl], _, rfl, ?_⟩
      rw [if_neg (by show ¬ decide (((hs.map Hole.nm).length : Int) < (hs.length : Int)) = true; rw [hnl, decide_eq_false (by omega)]; exact Bool.false_ne_true)]
      cases se with
      | none =>
        refine ⟨_, rfl, ?_⟩
        rw [if_pos (by decide)]
        exact h
      | some xs =>
        obtain ⟨s1, s2⟩ := ho.seen xs rfl
        have sok : ∀ x ∈ xs, PyData.strOk x = true := fun x hx => by
          obtain ⟨o, o1, o2⟩ := List.mem_map.mp (s2 x hx)
          rw [← o2]
          exact (ho.hole o o1).nm.ok
        have sl : xs.length ≤ 1000 := by
          have := nodup_le xs (hs.map Hole.nm) s1.nodup s2
          omega
        refine ⟨(eqOk_txts sok).2, by decide +kernel, _, rfl, ?_⟩
        rw [show seenD (some xs) = .tup (xs.map D.str) from rfl, eqD_tup_str, if_neg (by decide)]
        exact ⟨xs, _, _, rfl, .inl rfl, sl, s2, s1, h⟩
/-! ### the schema itself -/
/-- a schema as a datum -/
def schemaD (Sc : Addr) (ss : List Sheet) : D := .ins Sc [(.inr "_classes", .tup (ss.map Sheet.d)), (.inr "_names", .tup ((ss.map Sheet.lb).map D.str))]
def fSchema (Sc : Addr) : Cf → FN := fun C ds P => ∃ ss : List Sheet, (ds = [.lst (ss.map Sheet.d)] ∨ ds = [.tup (ss.map Sheet.d)]) ∧ OkSheets ss ∧ P (schemaD Sc ss)
theorem ok_crew {ss : List Sheet} (h : OkSheets ss) : Crew (ss.map Sheet.lb) := ⟨by rw [List.length_map]; have := h.few; omega, fun x hx => by
  obtain ⟨s, h1, rfl⟩ := List.mem_map.mp hx
  exact (h.sheet s h1).lb, h.up.nodup⟩
theorem init_schema {Sc f : Addr} {fd : FuncData} (T : Txs K mg) (c_Schema : Cls K Sc) (n_classes : NoAttr K Sc "_classes") (n_names : NoAttr K Sc "_names") (C_are_triples : Cal P w K mg base "_are_triples" 2 ["thing"] fTri) (C_is_class : Cal P w K mg base "_is_class" 4 ["triple", "class_names"] fIsClass)
    (FF : Fun K "__init__" "Schema.__init__" s_Schema_init f fd) : FnG P w K mg base CX0 5 f fd ["self", "classes"] (spI K Sc (fSchema Sc)) := by
  refine init_ok FF sc_Schema_init (fun C ds R h => by obtain ⟨xs, rfl | rfl, _⟩ := h <;> rfl) fun cdv A fr s H E hgd hr C0 ds R h y dx => ⟨_, (dsi_cons (ds_if (dt_not (dt_val (de_cal C_are_triples hgd hr (by decide) rfl (da_cons (de_of (pv 1)) da_nil)))) (dss_one ds_dead) dss_nil)
      (dsi_cons (ds_set (i := 2) ⟨sc_Schema_init.nd, rfl, by first | exact .inl rfl | exact .inr rfl, .inl rfl⟩ (de_typ cd_tup call_tuple_ofN rfl T.m_tuple boot_tuple (da_cons (de_lc (own := [("triple", 3)]) rfl sc_Schema_init.nd (blkOk_by (N := ["self", "classes", "names", "triple"]) (sc := defScope s_Schema_init) (by decide +kernel)) (di_var (i := 1) (di_list (de_of (pv 1))) (di_tup (de_of (pv 1)))) (fun b => dge_name (i := 3) ⟨sc_Schema_init.nd, rfl, by first | exact .inl rfl | exact .inr rfl, by first | exact .inr rfl | exact .inl rfl⟩ (by decide)) (fun b => dts_nil) (fun b => (de_ix od_ix ix_seq (de_of (pv 3)) de_int))) da_nil)))
      (dsi_cons (ds_for PassesOwn.never rfl (di_var (i := 1) (di_list (de_of (pv 1))) (di_tup (de_of (pv 1)))) (dg_name (i := 3) ⟨sc_Schema_init.nd, rfl, by first | exact .inl rfl | exact .inr rfl, .inl rfl⟩) (dss_one (ds_if (dt_not (dt_val (de_cal C_is_class hgd hr (by decide) rfl (da_cons (de_of (pv 3)) (da_cons (de_of (pv 2)) da_nil))))) (dss_one ds_dead) dss_nil)))
      (dsi_end (ti_cons c_Schema n_classes (pv 0) (fun C => (de_typ cd_tup call_tuple_ofN rfl T.m_tuple boot_tuple (da_cons (de_of (pv 1)) da_nil))) (ti_cons c_Schema n_names (pv 0) (fun C => (de_of (pv 2))) ti_nil)))))), ?_⟩
  obtain ⟨ss, e, hs, h⟩ := h
  rcases e with rfl | rfl <;>
  · walk_at "vc"
    have hl : (ss.map Sheet.d).length = ss.length := List.length_map ..
    have hf := hs.few
    refine ⟨ss, by first | exact .inl rfl | exact .inr rfl, hs, _, rfl, ?_⟩
    rw [if_neg (by decide)]
    refine ⟨_, _, rfl, by first | exact .inl rfl | exact .inr rfl, by rw [hl]; omega, ?_⟩
    refine lc_map hd0 _ [] _ (fun d hd Q q => ?_) (ge_mono 3) ?_
    · obtain ⟨o, h1, rfl⟩ := List.mem_map.mp hd
      walk_at "vc"
      exact ⟨_, atI0, q⟩
    · have e1 : [] ++ (ss.map Sheet.d).map hd0 = (ss.map Sheet.lb).map D.str := by
        rw [List.nil_append, List.map_map, List.map_map]
        rfl
      rw [e1]
      refine ⟨_, _, rfl, by first | exact .inl rfl | exact .inr rfl, ?_⟩
      refine ⟨fun _ ρ => ∃ s3, ρ = [_, _, .dat (.tup ((ss.map Sheet.lb).map D.str)), s3], ⟨_, rfl⟩, fun i d ρ' hd hI => ?_, fun ρ' hI => ?_⟩
      · obtain ⟨s3, rfl⟩ := hI
        rw [List.getElem?_map] at hd
        cases hx : ss[i]? with
        | none => rw [hx] at hd; cases hd
        | some o =>
          rw [hx] at hd
          cases hd
          walk_at "vc"
          refine ⟨ss.map Sheet.lb, o, rfl, ok_crew hs, hs.sheet o (List.mem_of_getElem? hx), _, rfl, ?_⟩
          rw [if_neg (by decide)]
          exact ⟨_, rfl⟩
      · obtain ⟨s3, rfl⟩ := hI
        walk_at "vc"
        exact ⟨trivial, rfl, by decide, by show (if ("_names" : Str) = "_classes" then _ else _) = none; rw [if_neg (by decide)]; rfl, by decide, h⟩
end
end LW
namespace L3
open PySem PySem.Spec PyProof.Rows L2

/-! ### t.index(x) of a tuple of texts -/
def rTix (K : PySem.W.Frag) : V → List V → Hp → VK → Prop := fun x xs H Q => ∃ p, ∃ ys : List Str, ∃ z j, x = .ref p ∧ xs = [.str z] ∧ SqT K H p (ys.map V.str) ∧ ys[j]? = some z ∧ (∀ m, m < j → ys[m]? ≠ some z) ∧ Q (.int (j : Nat)) H
def tTix (K : PySem.W.Frag) (to : TE) (t : TA) : TE := fun σ H Q => to σ H fun x H1 => (∃ p vs, x = V.ref p ∧ TupN H1 p vs) ∧ t σ H1 fun xs H2 => rTix K x xs H2 Q
def dTix (to te : TD) : TD := fun E P => to E fun d => ∃ ys : List Str, d = .tup (ys.map D.str) ∧ te E fun x => ∃ z j, x = .str z ∧ ys[j]? = some z ∧ (∀ m, m < j → ys[m]? ≠ some z) ∧ P (.int (j : Nat))
section
variable {X : Cx} {C : Cf} {o e : Expr} {td te' : TD} {apos cpos : Pos}
theorem pe_tix {to : TE} {t : TA} {es : List Expr} (ho : PE X o to) (ha : PA X (e :: es) t)
    (hbase : attributeBase o "index" X.env (eval o X.env) = eval o X.env := by rfl)
    (hfew : ((backTo cpos (starEach (e :: es) X.env)).all (fun x => !x.1) && (backToKw cpos (keywordEach [] X.env)).all (fun x => x.1.isSome)
      && decide ((e :: es).length + ([] : List Keyword).length + (if ([] : List Keyword).isEmpty then 0 else 1) < 30)) = true := by rfl)
    (hline : (apos.endLine == cpos.line) = true := by rfl) (hs : starEach (e :: es) X.env = (false, eval e X.env) :: starEach es X.env := by rfl) (hplain : (backTo cpos (starEach es X.env)).any (·.1) = false := by rfl) :
    PE X (.Call (.Attribute o "index" apos) (e :: es) [] cpos) (tTix X.K to t) := by
  refine ⟨fun pins s σ H Q I h => ?_⟩
  refine wpAny_Call_method_late hbase hfew hline rfl (thn (ho.run pins s σ H _ I h) fun v s1 ⟨x, H1, I1, r1, ty, q1⟩ => ?_)
  obtain ⟨p, vs, rfl, ob, nd, e1⟩ := ty
  cases (show v = Value.ref p from r1)
  obtain ⟨g, _, its, _, o2, g2, c2, _⟩ := (show ObjOk X.prog X.w H1 s1.heap p (.frz ob (.tup vs)) from I1.hok p _ e1)
  refine ⟨"tuple", "tuple.index", PySem.F.plainAttrs_tuple, PySem.F.slot_tuple_index, PySem.F.type_tuple_index, ⟨o2, g2, c2⟩, fun a z => by cases z; exact ⟨ob, g, nd⟩, ?_⟩
  have hA := ha.run cpos pins s1 σ H1 _ I1 q1
  rw [hs] at hA ⊢
  refine Calls.callWith_builtin (by show (false || (backTo cpos (starEach es X.env)).any (·.1)) = false; rw [hplain] <;> rfl) (Calls.evalArgs_plain ?_)
  exact thn hA fun us s2 ⟨ws, H2, I2, r2, q2⟩ => mt_tup_index pins s2 σ H2 (.ref p) ws _ us Q I2 rfl r2 q2
theorem de_tix (ho : DE X C o td) (he : DE X C e te') (hbase : attributeBase o "index" X.env (eval o X.env) = eval o X.env := by rfl)
    (hfew : ((backTo cpos (starEach [e] X.env)).all (fun x => !x.1) && (backToKw cpos (keywordEach [] X.env)).all (fun x => x.1.isSome)
      && decide (([e] : List Expr).length + ([] : List Keyword).length + (if ([] : List Keyword).isEmpty then 0 else 1) < 30)) = true := by rfl)
    (hline : (apos.endLine == cpos.line) = true := by rfl) (hs : starEach [e] X.env = (false, eval e X.env) :: starEach [] X.env := by rfl) (hplain : (backTo cpos (starEach [] X.env)).any (·.1) = false := by rfl) :
    DE X C (.Call (.Attribute o "index" apos) [e] [] cpos) (dTix td te') := by
  obtain ⟨ua, a1, a2⟩ := ho.ex
  obtain ⟨ub, b1, b2⟩ := he.ex
  refine ⟨⟨_, pe_tix a1 (pa_cons b1 pa_nil hs) hbase hfew hline hs hplain, fun S σ H E P Q r hp q => a2 S σ H E _ _ r hp fun v d H1 g1 p1 v1 => ?_⟩⟩
  obtain ⟨ys, rfl, p1⟩ := p1
  cases v1 with
  | @tup a vs ds e1 k1 =>
    have := k1.strs
    subst this
    have ok1 := r.ok.go g1
    refine ⟨⟨a, _, rfl, e1.mono same_hid⟩, b2 S σ H1 E _ _ (r.go g1) p1 fun w x H2 g2 p2 v2 => ?_⟩
    obtain ⟨z, j, rfl, h1, h2, p2⟩ := p2
    exact ⟨a, ys, z, j, rfl, by rw [v2.str_inv], ((e1.mono (g2.vis ok1)).mono same_hid).sq, h1, h2, q _ _ H2 (g1.trans g2) p2 (.int _)⟩
end

/-! ### a method called by keywords -/
structure MetK (P : Program) (w : World) (K : PySem.W.Frag) (mg : Str → Option Value) (base : Heap) (k : Nat) (C : Addr) (m : Str) (ks : List Str) (gD : List D → List D) (F : Cf → FN) : Prop where
  ex : ∃ (f : Addr) (fd : FuncData) (ps : List Str) (g : List Value → List Value → List Value) (gV : List V → List V → List V), Cls K C ∧ Meth K C m f ∧ FnG P w K mg base CX0 k f fd ps (spD K F) ∧ KBinds K fd ps ks g gV ∧
    ∀ (y : V) (zs : List V), ∃ ws, gV [y] zs = y :: ws ∧ ∀ (H : Hp) (es : List D), DVs K H zs es → DVs K H ws (gD es)
section
variable {X : Cx} {Cf0 : Cf} {C : Addr} {o : Expr} {td : TD} {m : Str} {pos apos : Pos} {k j : Nat} {F : Cf → FN} {kws : List Keyword} {tk : TDs} {ks : List Str} {gD : List D → List D}
theorem de_metK {pl : Sem Bool} (c : MetK X.prog X.w X.K X.mg X.base k C m ks gD F) (hgd : X.A.guards = some []) (hr : Room j X.A) (hk : k ≤ j) (h : DE X Cf0 o td) (hkw : DK X Cf0 kws tk)
    (hall : (backToKw pos (keywordEach kws X.env)).all (·.1.isSome) = true := by rfl) (hks : (backToKw pos (keywordEach kws X.env)).filterMap (·.1) = ks := by rfl) (hpl : ((backTo pos (starEach [] X.env)).any (·.1) || (backToKw pos (keywordEach kws X.env)).any (·.1.isNone)) = false := by rfl)
    (ht : eval (.Call (.Attribute o m apos) [] kws pos) X.env = (do
      let ov ← eval o X.env
      standAt apos.atName
      let (f, first) ← holding [ov] (getMethod ov m pl)
      callWith pos f first (backTo pos (starEach [] X.env)) (backToKw pos (keywordEach kws X.env))) := by rfl) : DE X Cf0 (.Call (.Attribute o m apos) [] kws pos) (dMeth C m (fun ds P => ∃ d es, ds = d :: es ∧ F Cf0 (d :: gD es) P) td tk) := by
  obtain ⟨f, fd, ps, g, gV, cl, hm, G, hb, hd⟩ := c.ex
  obtain ⟨te, h1, h2⟩ := h.ex
  obtain ⟨tr, r1, r2⟩ := hkw.ex
  have pe : PE X (.Call (.Attribute o m apos) [] kws pos) (fun σ H Q => te σ H fun x H1 => ∃ a dx fs, x = .ref a ∧ H1 a = some (.ins C dx fs) ∧ fs.lookup m = none ∧ tr σ H1 fun zs H2 => spD X.K F (gV [x] zs) H2 Q E0) := by
    refine ⟨fun pins s σ H Q I h => ?_⟩
    refine PySem.W.methodCall_KW (pl := pl) (thn (h1.run pins s σ H _ I h) fun u s1 ⟨x, H1, I1, rx, a, dx, fs, ex, ea, l, q⟩ => ?_) ht
    subst ex
    obtain rfl : u = Value.ref a := rx
    refine getmeth_ok I1 ea cl hm l ?_
    refine PySem.W.callWith_KW0 (first := [.ref a]) (h₀ := X.base) I.ok.mod.kin hm.kp hall (thn (r1.run pos pins s1 σ H1 _ I1 q) fun ws s2 ⟨zs, H2, I2, rz, q2⟩ => ⟨I2.kIn, ?_⟩) hpl
    rw [hks]
    exact go_fnK (us := [.ref a]) (vs := [.ref a]) G hgd (hr.mono hk) hb pass0 I2 (.cons rfl .nil) rz q2
  refine ⟨⟨_, pe, fun S σ H E P Q rl hp q => h2 S σ H E _ _ rl hp fun v d H1 g1 p1 v1 => ?_⟩⟩
  obtain ⟨ks', rfl, l, p1⟩ := p1
  cases v1 with
  | ins e1 k1 =>
    refine ⟨_, _, _, rfl, same_hid _ _ e1, dk_miss k1 l, r2 S σ H1 E _ _ (rl.go g1) p1 fun vs ds H2 g2 p2 v2 => ?_⟩
    have ok1 := rl.ok.go g1
    obtain ⟨d, es, e2, p2⟩ := p2
    cases e2
    obtain ⟨ws, e3, e4⟩ := hd (.ref _) vs
    rw [e3]
    exact ⟨Cf0, S, _, P, ok1.go g2, .cons (DV.mono (g2.vis ok1) (.ins e1 k1)) (e4 _ _ v2), p2, fun v d H' g => q v d H' (g1.trans (g2.trans g))⟩
end
end L3
namespace L3
open PySem PySem.Spec PyProof.Rows L2

/-! ### trees of texts -/
inductive Tx : Nat → D → Prop where
  | str {n : Nat} {x : Str} (h : PyData.strOk x = true) : Tx n (.str x)
  | tup {n : Nat} {ds : List D} (h : ∀ d ∈ ds, Tx n d) : Tx (n + 1) (.tup ds)
  | lst {n : Nat} {ds : List D} (h : ∀ d ∈ ds, Tx n d) : Tx (n + 1) (.lst ds)
theorem txs_ok {n : Nat} : ∀ ds : List D, (∀ d ∈ ds, pl d = true ∧ (toP d).canLay0 = true ∧ (toP d).depth ≤ n) → pls ds = true ∧ PyData.canLayAll0 (toPs ds) = true ∧ PyData.depthAll (toPs ds) ≤ n
  | [], _ => by simp only [pls, toPs, PyData.canLayAll0, PyData.depthAll]; exact ⟨trivial, trivial, Nat.zero_le _⟩
  | d :: r, h => by
    obtain ⟨a1, a2, a3⟩ := h d List.mem_cons_self
    obtain ⟨b1, b2, b3⟩ := txs_ok r fun x hx => h x (List.mem_cons_of_mem _ hx)
    simp only [pls, toPs, PyData.canLayAll0, PyData.depthAll, a1, a2, b1, b2, Bool.and_self]
    exact ⟨trivial, trivial, by omega⟩
theorem Tx.ok {n : Nat} {d : D} (h : Tx n d) : pl d = true ∧ (toP d).canLay0 = true ∧ (toP d).depth ≤ n + 1 := by
  induction h with
  | str h => simp only [pl, toP, PyData.canLay0, PyData.depth]; exact ⟨trivial, h, by omega⟩
  | tup h ih =>
    obtain ⟨a, b, c⟩ := txs_ok _ ih
    simp only [pl, toP, PyData.canLay0, PyData.depth]
    exact ⟨a, b, by omega⟩
  | lst h ih =>
    obtain ⟨a, b, c⟩ := txs_ok _ ih
    simp only [pl, toP, PyData.canLay0, PyData.depth]
    exact ⟨a, b, by omega⟩
theorem Tx.eqOk {n : Nat} {d : D} (h : Tx n d) (hn : n ≤ 60) : eqOk d = true := by
  obtain ⟨a, b, c⟩ := h.ok
  unfold L3.eqOk SeqAt.shaped
  rw [a, b, Bool.true_and, Bool.true_and, decide_eq_true_eq]
  omega
theorem txs_eq : ∀ (ds : List D), (∀ d ∈ ds, ∀ {m : Nat} {b : D}, Tx m b → (PyData.eqv (toP d) (toP b) = true ↔ d = b)) → ∀ {m : Nat} (es : List D), (∀ e ∈ es, Tx m e) → (PyData.eqvAll (toPs ds) (toPs es) = true ↔ ds = es)
  | [], _, m, [], _ => by simp only [toPs, PyData.eqvAll]
  | [], _, m, e :: es, _ => by simp only [toPs, PyData.eqvAll]; exact ⟨(fun z => nomatch z), (fun z => nomatch z)⟩
  | d :: ds, _, m, [], _ => by simp only [toPs, PyData.eqvAll]; exact ⟨(fun z => nomatch z), (fun z => nomatch z)⟩
  | d :: ds, h, m, e :: es, he => by
    have h1 := h d List.mem_cons_self (he e List.mem_cons_self)
    have h2 := txs_eq ds (fun x hx => h x (List.mem_cons_of_mem _ hx)) es fun x hx => he x (List.mem_cons_of_mem _ hx)
    simp only [toPs, PyData.eqvAll, Bool.and_eq_true, h1, h2, List.cons.injEq]
theorem Tx.eqv {n : Nat} {a : D} (ha : Tx n a) : ∀ {m : Nat} {b : D}, Tx m b → (PyData.eqv (toP a) (toP b) = true ↔ a = b) := by
  induction ha with
  | @str n x h =>
    intro m b hb
    cases hb with
    | @str _ y h2 =>
      simp only [toP, PyData.eqv, beq_iff_eq, D.str.injEq]
    | tup _ => simp only [toP, PyData.eqv]; exact ⟨(fun z => nomatch z), (fun z => nomatch z)⟩
    | lst _ => simp only [toP, PyData.eqv]; exact ⟨(fun z => nomatch z), (fun z => nomatch z)⟩
  | @tup n ds h ih =>
    intro m b hb
    cases hb with
    | str _ => simp only [toP, PyData.eqv]; exact ⟨(fun z => nomatch z), (fun z => nomatch z)⟩
    | @tup m es h2 =>
      simp only [toP, PyData.eqv, D.tup.injEq]
      exact txs_eq ds (fun d hd => ih d hd) es h2
    | lst _ => simp only [toP, PyData.eqv]; exact ⟨(fun z => nomatch z), (fun z => nomatch z)⟩
  | @lst n ds h ih =>
    intro m b hb
    cases hb with
    | str _ => simp only [toP, PyData.eqv]; exact ⟨(fun z => nomatch z), (fun z => nomatch z)⟩
    | tup _ => simp only [toP, PyData.eqv]; exact ⟨(fun z => nomatch z), (fun z => nomatch z)⟩
    | @lst m es h2 =>
      simp only [toP, PyData.eqv, D.lst.injEq]
      exact txs_eq ds (fun d hd => ih d hd) es h2
theorem Tx.eqD {n m : Nat} {a b : D} (ha : Tx n a) (hb : Tx m b) : (eqD a b = true ↔ a = b) := ha.eqv hb
theorem tx_txts {l : List Str} {n : Nat} (h : ∀ x ∈ l, PyData.strOk x = true) : ∀ d ∈ l.map D.str, Tx n d := fun d hd => by
  obtain ⟨x, hx, rfl⟩ := List.mem_map.mp hd
  exact .str (h x hx)

/-! ### sheets are such trees -/
theorem goal_ok {crew : List Str} (hc : ∀ x ∈ crew, NmS x) {h : Hole} (o : OkHole crew h) : ∀ x ∈ h.goals, PyData.strOk x = true := fun x hx => nm0_ok ((o.mem x hx).imp id (hc x))
theorem hole_tx {crew : List Str} (hc : ∀ x ∈ crew, NmS x) {h : Hole} (o : OkHole crew h) : Tx 2 h.d := by
  refine .tup fun d hd => ?_
  simp only [List.mem_cons, List.not_mem_nil, or_false] at hd
  rcases hd with rfl | rfl | rfl | rfl
  · exact .str o.nm.ok
  · exact .str (by rcases o.whn with z | z <;> rw [z] <;> decide +kernel)
  · exact .str (by rcases o.form with z | z | z <;> rw [z] <;> decide +kernel)
  · exact .tup (tx_txts (goal_ok hc o))
theorem seen_tx {crew : List Str} {s : Sheet} (o : OkSheet crew s) : Tx 1 (seenD s.seen) := by
  cases e : s.seen with
  | none => exact .str (by decide +kernel)
  | some xs =>
    refine .tup (tx_txts fun x hx => ?_)
    obtain ⟨h, h1, h2⟩ := List.mem_map.mp ((o.seen xs e).2 x hx)
    rw [← h2]
    exact (o.hole h h1).nm.ok
theorem Tx.up {n m : Nat} {d : D} (h : Tx n d) (hm : n ≤ m) : Tx m d := by
  induction h generalizing m with
  | str h => exact .str h
  | tup h ih =>
    obtain ⟨k, rfl⟩ : ∃ k, m = k + 1 := ⟨m - 1, by omega⟩
    exact .tup fun d hd => ih d hd (by omega)
  | lst h ih =>
    obtain ⟨k, rfl⟩ : ∃ k, m = k + 1 := ⟨m - 1, by omega⟩
    exact .lst fun d hd => ih d hd (by omega)
theorem sheet_tx {crew : List Str} (hc : ∀ x ∈ crew, NmS x) {s : Sheet} (o : OkSheet crew s) : Tx 4 s.d := by
  refine .tup fun d hd => ?_
  simp only [List.mem_cons, List.not_mem_nil, or_false] at hd
  rcases hd with rfl | rfl | rfl
  · exact .str o.lb.ok
  · refine .tup fun d hd => ?_
    obtain ⟨h, h1, rfl⟩ := List.mem_map.mp hd
    exact hole_tx hc (o.hole h h1)
  · exact (seen_tx o).up (by omega)
theorem ok_nms {ss : List Sheet} (h : OkSheets ss) : ∀ x ∈ ss.map Sheet.lb, NmS x := fun x hx => by
  obtain ⟨s, h1, rfl⟩ := List.mem_map.mp hx
  exact (h.sheet s h1).lb
theorem sheets_tx {ss : List Sheet} (h : OkSheets ss) : ∀ d ∈ ss.map Sheet.d, Tx 4 d := fun d hd => by
  obtain ⟨s, h1, rfl⟩ := List.mem_map.mp hd
  exact sheet_tx (ok_nms h) (h.sheet s h1)

/-! ### a sheet is told by its datum -/
theorem map_inj {α β : Type} {f : α → β} (h : ∀ a b, f a = f b → a = b) : ∀ {l k : List α}, l.map f = k.map f → l = k
  | [], [], _ => rfl
  | [], _ :: _, e => nomatch e
  | _ :: _, [], e => nomatch e
  | a :: l, b :: k, e => by
    rw [List.map_cons, List.map_cons, List.cons.injEq] at e
    rw [h a b e.1, map_inj h e.2]
theorem hole_inj (a b : Hole) (e : a.d = b.d) : a = b := by
  obtain ⟨a1, a2, a3, a4⟩ := a
  obtain ⟨b1, b2, b3, b4⟩ := b
  simp only [Hole.d, D.tup.injEq, List.cons.injEq, D.str.injEq, and_true] at e
  obtain ⟨rfl, rfl, rfl, e⟩ := e
  rw [map_inj (fun x y z => D.str.inj z) e]
theorem seen_inj (a b : Option (List Str)) (e : seenD a = seenD b) : a = b := by
  cases a with
  | none => cases b with
    | none => rfl
    | some y => cases e
  | some x => cases b with
    | none => cases e
    | some y =>
      have e : D.tup (x.map D.str) = D.tup (y.map D.str) := e
      rw [D.tup.injEq] at e
      rw [map_inj (fun x y z => D.str.inj z) e]
theorem sheet_inj (a b : Sheet) (e : a.d = b.d) : a = b := by
  obtain ⟨a1, a2, a3⟩ := a
  obtain ⟨b1, b2, b3⟩ := b
  simp only [Sheet.d, D.tup.injEq, List.cons.injEq, D.str.injEq, and_true] at e
  obtain ⟨rfl, e1, e2⟩ := e
  rw [map_inj hole_inj e1, seen_inj _ _ e2]
end L3
namespace LW
open PySem PySem.Spec PyProof.Rows L2 L3
local macro_rules | `(tactic| walk_at "vc") => `(tactic| simp only [sSeq, sNx, sBk, sCt, sSet, sIf, sRet, sRetN, sPar, sFor, sExp, dVar, dC, dOp, dCall, dCons, dNil, dTup, dLst, bOr, bNot, bAnd, bYes, dB, dTru, dOrT, dAndT, dNotT, dIf, dChain, view, frz, view1, frz1, startD, List.map_cons, List.map_nil, List.map_append, List.cons_append, List.nil_append, List.length_cons, List.length_nil, List.replicate, List.getElem?_cons_zero, List.getElem?_cons_succ, Option.some.injEq, exists_eq_left', exists_eq_left, gNm, geNm, iTx, iSq, iRg, dLc, List.set_cons_zero, List.set_cons_succ, wipeE, dSl, oNone, oSome, D.int.injEq, D.str.injEq, dJoin, dDnew, dDisp, dPairs, dNeg, sPars, kNil, kDat, kOwn, oLst, oDic, oLstOf, setRho, sApp, sAppF, sSetF, sAsg, gTp, gNms, dStar, dLenSet, iVar, iTp, siSeq, siEnd, tfFld, tfEnd, dFld, dTix, dMeth])
abbrev s_Schema_eq : Stmt := (clsB (topS 16)).getD 1 (.Pass ⟨0, 0, 0, 0⟩)
theorem sc_Schema_eq : FnScope ["self", "other"] ["self", "other"] (defScope s_Schema_eq) := ⟨rfl, rfl, rfl, by decide +kernel, rfl, by decide +kernel, by decide +kernel⟩
abbrev s_Schema_slots : Stmt := (clsB (topS 16)).getD 4 (.Pass ⟨0, 0, 0, 0⟩)
theorem sc_Schema_slots : FnScope ["self", "name"] ["self", "name"] (defScope s_Schema_slots) := ⟨rfl, rfl, rfl, by decide +kernel, rfl, by decide +kernel, by decide +kernel⟩
abbrev s_Schema_reads : Stmt := (clsB (topS 16)).getD 5 (.Pass ⟨0, 0, 0, 0⟩)
theorem sc_Schema_reads : FnScope ["self", "name", "read"] ["self", "name"] (defScope s_Schema_reads) := ⟨rfl, rfl, rfl, by decide +kernel, rfl, by decide +kernel, by decide +kernel⟩
section
variable {P : Program} {w : World} {K : PySem.W.Frag} {mg : Str → Option Value} {base : Heap}
/-! ### what a schema tells -/
def fSlots (a_Schema : Addr) : Cf → FN := fun C ds P => ∃ ss s, ds = [schemaD a_Schema ss, .str (Sheet.lb s)] ∧ OkSheets ss ∧ s ∈ ss ∧ P (.tup (s.holes.map Hole.d))
def toldD : Option (List Str) → D
  | none => .tup []
  | some xs => .tup (xs.map D.str)
def fReads (a_Schema : Addr) : Cf → FN := fun C ds P => ∃ ss s, ds = [schemaD a_Schema ss, .str (Sheet.lb s)] ∧ OkSheets ss ∧ s ∈ ss ∧ P (toldD s.seen)
theorem fld_classes (a : Addr) (ss : List Sheet) : fldOf "_classes" [(.inr "_classes", .tup (ss.map Sheet.d)), (.inr "_names", .tup ((ss.map Sheet.lb).map D.str))] = some (.tup (ss.map Sheet.d)) := by
  show (if ("_classes" : Str) = "_classes" then _ else _) = _
  rw [if_pos rfl]
theorem fld_names (a : Addr) (ss : List Sheet) : fldOf "_names" [(.inr "_classes", .tup (ss.map Sheet.d)), (.inr "_names", .tup ((ss.map Sheet.lb).map D.str))] = some (.tup ((ss.map Sheet.lb).map D.str)) := by
  show (if ("_names" : Str) = "_classes" then _ else if ("_names" : Str) = "_names" then _ else _) = _
  rw [if_neg (by decide), if_pos rfl]
theorem at_lb {ss : List Sheet} {s : Sheet} (h : OkSheets ss) (hs : s ∈ ss) : ∃ j : Nat, ss[j]? = some s ∧ (ss.map Sheet.lb)[j]? = some s.lb ∧ ∀ m, m < j → (ss.map Sheet.lb)[m]? ≠ some s.lb := by
  obtain ⟨j, hj, e⟩ := List.getElem_of_mem hs
  have e1 : ss[j]? = some s := by rw [List.getElem?_eq_getElem hj, e]
  have e2 : (ss.map Sheet.lb)[j]? = some s.lb := by rw [List.getElem?_map, e1]; rfl
  refine ⟨j, e1, e2, fun m hm z => ?_⟩
  obtain ⟨h1, h2⟩ := List.getElem?_eq_some_iff.mp e2
  obtain ⟨h3, h4⟩ := List.getElem?_eq_some_iff.mp z
  have := List.pairwise_iff_getElem.mp h.up m j h3 h1 hm
  rw [h2, h4] at this
  exact ltS_irrefl _ this
theorem met_slots {a_Schema f : Addr} {fd : FuncData} (c_Schema : Cls K a_Schema) (n_classes : NoAttr K a_Schema "_classes") (n_names : NoAttr K a_Schema "_names") (FF : Fun K "slots" "Schema.slots" s_Schema_slots f fd) : FnG P w K mg base CX0 1 f fd ["self", "name"] (spD K (fSlots a_Schema)) := by
  refine def_ok FF sc_Schema_slots (fun C ds R h => by obtain ⟨_, _, rfl, _⟩ := h; rfl) fun cdv A fr s H E hgd hr C ds R h => ⟨_, (dss_cons (ds_if (dt_cmp od_inQ op_notInQ (by with_unfolding_all rfl) (de_of (pv 1)) (de_fld c_Schema n_names (de_of (pv 0)))) (dss_one ds_dead) dss_nil)
      (dss_one (ds_ret (de_ix od_ix ix_seq (de_ix od_ix ix_seq (de_fld c_Schema n_classes (de_of (pv 0))) (de_tix (de_fld c_Schema n_names (de_of (pv 0))) (de_of (pv 1)))) de_int)))), ?_⟩
  obtain ⟨ss, s, rfl, ok, hs, h⟩ := h
  obtain ⟨j, e1, e2, e3⟩ := at_lb ok hs
  simp only [schemaD]
  walk_at "vc"
  have hm : s.lb ∈ ss.map Sheet.lb := List.mem_map.mpr ⟨s, hs, rfl⟩
  refine ⟨_, _, rfl, fld_names a_Schema ss, ss.map Sheet.lb, rfl, _, rfl, ?_⟩
  rw [decide_eq_true hm, if_neg (by decide)]
  refine ⟨_, _, rfl, fld_classes a_Schema ss, _, _, rfl, fld_names a_Schema ss, ss.map Sheet.lb, rfl, _, j, rfl, e2, e3, ?_⟩
  have e4 : (ss.map Sheet.d)[j]? = some s.d := by rw [List.getElem?_map, e1]; rfl
  exact ⟨s.d, atI_nat e4, _, atI_nat (j := 1) rfl, h⟩
theorem met_reads {a_Schema f : Addr} {fd : FuncData} (c_Schema : Cls K a_Schema) (n_classes : NoAttr K a_Schema "_classes") (n_names : NoAttr K a_Schema "_names") (FF : Fun K "reads" "Schema.reads" s_Schema_reads f fd) : FnG P w K mg base CX0 1 f fd ["self", "name"] (spD K (fReads a_Schema)) := by
  refine def_ok FF sc_Schema_reads (fun C ds R h => by obtain ⟨_, _, rfl, _⟩ := h; rfl) fun cdv A fr s H E hgd hr C ds R h => ⟨_, (dss_cons (ds_if (dt_cmp od_inQ op_notInQ (by with_unfolding_all rfl) (de_of (pv 1)) (de_fld c_Schema n_names (de_of (pv 0)))) (dss_one ds_dead) dss_nil)
      (dss_cons (ds_set (i := 2) ⟨sc_Schema_reads.nd, rfl, by first | exact .inl rfl | exact .inr rfl, .inl rfl⟩ (de_ix od_ix ix_seq (de_ix od_ix ix_seq (de_fld c_Schema n_classes (de_of (pv 0))) (de_tix (de_fld c_Schema n_names (de_of (pv 0))) (de_of (pv 1)))) de_int))
      (dss_one (ds_ret (de_if (dt_cmp od_eq (op_eqb hr.units) (nomark _) (de_of (pv 2)) de_str) (de_tup da_nil) (de_of (pv 2))))))), ?_⟩
  obtain ⟨ss, s, rfl, ok, hs, h⟩ := h
  obtain ⟨j, e1, e2, e3⟩ := at_lb ok hs
  simp only [schemaD]
  walk_at "vc"
  have hm : s.lb ∈ ss.map Sheet.lb := List.mem_map.mpr ⟨s, hs, rfl⟩
  refine ⟨_, _, rfl, fld_names a_Schema ss, ss.map Sheet.lb, rfl, _, rfl, ?_⟩
  rw [decide_eq_true hm, if_neg (by decide)]
  refine ⟨_, _, rfl, fld_classes a_Schema ss, _, _, rfl, fld_names a_Schema ss, ss.map Sheet.lb, rfl, _, j, rfl, e2, e3, ?_⟩
  have e4 : (ss.map Sheet.d)[j]? = some s.d := by rw [List.getElem?_map, e1]; rfl
  refine ⟨s.d, atI_nat e4, seenD s.seen, atI_nat (j := 2) rfl, ?_⟩
  have ht := seen_tx (ok.sheet s hs)
  cases e5 : s.seen with
  | none =>
    rw [e5] at h
    refine ⟨_, rfl, ?_⟩
    rw [if_pos (by decide)]
    exact ⟨by decide, h⟩
  | some xs =>
    rw [e5] at h ht
    refine ⟨ht.eqOk (by decide), by decide +kernel, _, rfl, ?_⟩
    rw [show seenD (some xs) = .tup (xs.map D.str) from rfl, eqD_tup_str, if_neg (by decide)]
    exact h
/-- == with a schema, or with what is none -/
def fSchEq (K : PySem.W.Frag) (a_Schema : Addr) : Cf → FN := fun C ds P => ∃ ss d, ds = [schemaD a_Schema ss, d] ∧ OkSheets ss ∧ ClsI K a_Schema ∧ PySem.W.kitOne K (.ref a_Schema) (.ref a_Schema) = some true ∧
  ((∃ s2, d = schemaD a_Schema s2 ∧ OkSheets s2 ∧ ∀ b : Bool, (b = true ↔ ss = s2) → P (.bl b)) ∨ (∃ t, tyA d = some (.type t) ∧ PySem.W.kitOne K (.type t) (.ref a_Schema) = some false ∧ P (.bl false)))
theorem eq_schema {a_Schema f : Addr} {fd : FuncData} (T : Txs K mg) (e_Schema : mg "Schema" = some (.ref a_Schema)) (c_Schema : Cls K a_Schema) (n_classes : NoAttr K a_Schema "_classes") (FF : Fun K "__eq__" "Schema.__eq__" s_Schema_eq f fd) : FnG P w K mg base CX0 1 f fd ["self", "other"] (spD K (fSchEq K a_Schema)) := by
  refine def_ok FF sc_Schema_eq (fun C ds R h => by obtain ⟨_, _, rfl, _⟩ := h; rfl) fun cdv A fr s H E hgd hr C ds R h => ⟨_, (dss_one (ds_ret (de_andT (de_blt (cd_isiC (C := a_Schema)) call_isi rfl T.m_isinstance boot_isinstance (da_cons (de_of (pv 1)) (da_cons (de_c (pe_glob (v := .ref a_Schema) rfl e_Schema rfl) fun _ => .op _) da_nil))) (de_one (de_cmp od_eq (op_eqb hr.units) (nomark _) (de_fld c_Schema n_classes (de_of (pv 0))) (de_fld c_Schema n_classes (de_of (pv 1)))))))), ?_⟩
  obtain ⟨ss, d, rfl, ok, ci, ck, h⟩ := h
  walk_at "vc"
  rcases h with ⟨s2, rfl, ok2, h⟩ | ⟨t, ht, hk, h⟩
  · refine ⟨rfl, .ref a_Schema, true, rfl, (fun C2 ks e => by cases e; exact ci), ck, true, rfl, ?_⟩
    rw [if_pos rfl]
    refine ⟨_, _, rfl, fld_classes a_Schema ss, _, _, rfl, fld_classes a_Schema s2, ?_⟩
    have t1 : Tx 5 (.tup (ss.map Sheet.d)) := .tup (sheets_tx ok)
    have t2 : Tx 5 (.tup (s2.map Sheet.d)) := .tup (sheets_tx ok2)
    refine ⟨t1.eqOk (by decide), t2.eqOk (by decide), h _ ?_⟩
    have e0 : (false != eqD (.tup (ss.map Sheet.d)) (.tup (s2.map Sheet.d))) = eqD (.tup (ss.map Sheet.d)) (.tup (s2.map Sheet.d)) := by
      cases eqD (.tup (ss.map Sheet.d)) (.tup (s2.map Sheet.d)) <;> rfl
    rw [e0, t1.eqD t2, D.tup.injEq]
    exact ⟨fun z => map_inj sheet_inj z, fun z => by rw [z]⟩
  · refine ⟨rfl, .type t, false, ht, (fun C2 ks e => by rw [e] at ht; cases ht), hk, false, rfl, ?_⟩
    rw [if_neg Bool.false_ne_true]
    exact h
end
end LW
namespace L3
open PySem PySem.Spec PyProof.Rows L2

/-! ### how long a text of data may be -/
def sumL (ds : List D) : Nat := (ds.map fun d => (showD d).length).sum
theorem len_join (s : Str) : ∀ l : List Str, (Str.join s l).length ≤ (l.map (·.length)).sum + s.length * l.length
  | [] => by show (#[] : Array Nat).size ≤ _; simp
  | [x] => by show x.length ≤ _; simp
  | x :: y :: r => by
    have ih := len_join s (y :: r)
    show ((x.cps ++ s.cps) ++ (Str.join s (y :: r)).cps).size ≤ _
    rw [Array.size_append, Array.size_append]
    simp only [List.map_cons, List.sum_cons, List.length_cons] at ih ⊢
    have e1 : x.cps.size = x.length := rfl
    have e2 : s.cps.size = s.length := rfl
    have e3 : (Str.join s (y :: r)).cps.size = (Str.join s (y :: r)).length := rfl
    have e4 : s.length * (r.length + 1 + 1) = s.length * (r.length + 1) + s.length := Nat.mul_succ ..
    omega
theorem shownAll_eq : ∀ ds : List D, PyData.shownAll (toPs ds) = ds.map showD
  | [] => by simp only [toPs, PyData.shownAll]; rfl
  | d :: r => by simp only [toPs, PyData.shownAll, shownAll_eq r]; rfl
theorem len_from : ∀ (ts : List Str) (k : Nat) (acc : Str), (PySem.textFrom k acc ts).length ≤ acc.length + (ts.map (·.length)).sum + 2 * ts.length
  | [], k, acc => by show acc.length ≤ _; simp
  | t :: r, k, acc => by
    have ih := len_from r (k + 1) (acc ++ (if k > 0 then ", " else "" : String) ++ t)
    show (PySem.textFrom (k + 1) (acc ++ (if k > 0 then ", " else "" : String) ++ t) r).length ≤ _
    have e : (acc ++ (if k > 0 then ", " else "" : String) ++ t : Str).length ≤ acc.length + 2 + t.length := by
      show ((acc.cps ++ (Str.ofString (if k > 0 then ", " else "")).cps) ++ t.cps).size ≤ _
      rw [Array.size_append, Array.size_append]
      have e1 : acc.cps.size = acc.length := rfl
      have e2 : t.cps.size = t.length := rfl
      have e3 : (Str.ofString (if k > 0 then ", " else "")).cps.size ≤ 2 := by
        split
        · exact Nat.le_of_eq (by decide +kernel)
        · exact Nat.le_trans (Nat.le_of_eq (by decide +kernel : _ = 0)) (Nat.zero_le _)
      omega
    simp only [List.map_cons, List.sum_cons, List.length_cons]
    omega
theorem len_str {x : Str} (h : PyData.strOk x = true) : (showD (.str x)).length ≤ 10 * x.length + 2 := by
  unfold showD
  simp only [toP, PyData.shown]
  refine StrLaws.reprText_len x fun c hc => ?_
  unfold PyData.strOk at h
  rw [← Array.all_toList, List.all_eq_true] at h
  have := h c hc
  simp at this
  omega
theorem sumL_cons {d : D} {r : List D} : sumL (d :: r) = (showD d).length + sumL r := by
  unfold sumL
  rw [List.map_cons, List.sum_cons]
theorem len_lst (ds : List D) : (showD (.lst ds)).length ≤ sumL ds + 2 * ds.length + 2 := by
  unfold showD
  simp only [toP, PyData.shown]
  rw [shownAll_eq]
  have h := len_from (ds.map showD) 0 "["
  rw [List.map_map, List.length_map] at h
  show ((PySem.textFrom 0 "[" (ds.map showD)).cps ++ (Str.ofString "]").cps).size ≤ _
  rw [Array.size_append]
  have e1 : (PySem.textFrom 0 "[" (ds.map showD)).cps.size = (PySem.textFrom 0 "[" (ds.map showD)).length := rfl
  have e2 : (Str.ofString "]").cps.size = 1 := by decide +kernel
  have e3 : (Str.ofString "[").length = 1 := by decide +kernel
  have e4 : (ds.map ((fun x : Str => x.length) ∘ showD)).sum = sumL ds := rfl
  omega
theorem len_tup (ds : List D) : (showD (.tup ds)).length ≤ sumL ds + 2 * ds.length + 3 := by
  unfold showD
  simp only [toP, PyData.shown]
  rw [shownAll_eq]
  have h := len_join ", " (ds.map showD)
  rw [List.map_map, List.length_map] at h
  unfold PySem.tupleText
  show (((Str.ofString "(").cps ++ (Str.join ", " (ds.map showD)).cps) ++ (Str.ofString (if (ds.map showD).length == 1 then ",)" else ")")).cps).size ≤ _
  rw [Array.size_append, Array.size_append]
  have e1 : (Str.join ", " (ds.map showD)).cps.size = (Str.join ", " (ds.map showD)).length := rfl
  have e2 : (Str.ofString "(").cps.size = 1 := by decide +kernel
  have e3 : (Str.ofString ", ").length = 2 := by decide +kernel
  have e4 : (ds.map ((fun x : Str => x.length) ∘ showD)).sum = sumL ds := rfl
  have e5 : (Str.ofString (if (ds.map showD).length == 1 then ",)" else ")")).cps.size ≤ 2 := by
    split
    · exact Nat.le_of_eq (by decide +kernel)
    · exact Nat.le_trans (Nat.le_of_eq (by decide +kernel : _ = 1)) (by decide)
  rw [e3] at h
  omega
theorem sumL_le {b : Nat} : ∀ {ds : List D}, (∀ d ∈ ds, (showD d).length ≤ b) → sumL ds ≤ ds.length * b
  | [], _ => by unfold sumL; simp
  | d :: r, h => by
    have := sumL_le (b := b) fun x hx => h x (List.mem_cons_of_mem _ hx)
    have h1 := h d List.mem_cons_self
    rw [sumL_cons, List.length_cons, Nat.succ_mul]
    omega
theorem tup_le {b n : Nat} {ds : List D} (h : ∀ d ∈ ds, (showD d).length ≤ b) (hn : ds.length ≤ n) : (showD (.tup ds)).length ≤ n * (b + 2) + 3 := by
  have h1 := len_tup ds
  have h2 := sumL_le h
  have h3 : ds.length * (b + 2) ≤ n * (b + 2) := Nat.mul_le_mul_right _ hn
  rw [Nat.mul_add] at h3
  have h4 : ds.length * 2 = 2 * ds.length := Nat.mul_comm ..
  omega
theorem lst_le {b n : Nat} {ds : List D} (h : ∀ d ∈ ds, (showD d).length ≤ b) (hn : ds.length ≤ n) : (showD (.lst ds)).length ≤ n * (b + 2) + 2 := by
  have h1 := len_lst ds
  have h2 := sumL_le h
  have h3 : ds.length * (b + 2) ≤ n * (b + 2) := Nat.mul_le_mul_right _ hn
  rw [Nat.mul_add] at h3
  have h4 : ds.length * 2 = 2 * ds.length := Nat.mul_comm ..
  omega
theorem nm_len {x : Str} (h : x = "" ∨ NmS x) : (showD (.str x)).length ≤ 62 := by
  have h1 := len_str (nm0_ok h)
  have h2 : x.length ≤ 6 := by
    rcases h with rfl | h
    · decide
    · exact h.le
  omega
theorem nms_len {l : List Str} {n : Nat} (h : ∀ x ∈ l, x = "" ∨ NmS x) (hn : l.length ≤ n) : (showD (.tup (l.map D.str))).length ≤ n * 64 + 3 := tup_le (fun d hd => by
  obtain ⟨x, hx, rfl⟩ := List.mem_map.mp hd
  exact nm_len (h x hx)) (by rw [List.length_map]; exact hn)
/-- trees of texts are shown -/
theorem noDics_of : ∀ {ds : List D}, (∀ d ∈ ds, noDic d = true) → noDics ds = true
  | [], _ => by simp only [noDics]
  | d :: r, h => by simp only [noDics, h d List.mem_cons_self, noDics_of fun x hx => h x (List.mem_cons_of_mem _ hx), Bool.and_self]
theorem Tx.show {n : Nat} {d : D} (h : Tx n d) : noDic d = true := by
  induction h with
  | str h => simp only [noDic]
  | tup h ih => simp only [noDic]; exact noDics_of ih
  | lst h ih => simp only [noDic]; exact noDics_of ih
theorem Tx.rep {n : Nat} {d : D} (h : Tx n d) (hn : n ≤ 50) : reprOk d = true ∧ (toP d).depth ≤ 60 := by
  refine ⟨?_, by have := h.ok.2.2; omega⟩
  have := h.show
  cases d <;> first | exact this | (simp only [noDic] at this; cases this)
theorem hole_len {crew : List Str} (hc : ∀ x ∈ crew, NmS x) (h4 : crew.length ≤ 4) {h : Hole} (o : OkHole crew h) : (showD h.d).length ≤ 1303 := by
  have gl : h.goals.length ≤ 5 := by
    have := nodup_le h.goals ("" :: crew) (Rising.nodup o.up) (fun g hg => by
      rcases o.mem g hg with z | z
      · rw [z]; exact List.mem_cons_self
      · exact List.mem_cons_of_mem _ z)
    rw [List.length_cons] at this
    omega
  refine tup_le (b := 323) (n := 4) (fun d hd => ?_) (by simp)
  simp only [List.mem_cons, List.not_mem_nil, or_false] at hd
  rcases hd with rfl | rfl | rfl | rfl
  · have := nm_len (.inr o.nm); omega
  · have : (showD (.str h.whn)).length ≤ 10 * h.whn.length + 2 := len_str (by rcases o.whn with z | z <;> rw [z] <;> decide +kernel)
    have : h.whn.length ≤ 10 := by rcases o.whn with z | z <;> rw [z] <;> decide +kernel
    omega
  · have : (showD (.str h.form)).length ≤ 10 * h.form.length + 2 := len_str (by rcases o.form with z | z | z <;> rw [z] <;> decide +kernel)
    have : h.form.length ≤ 10 := by rcases o.form with z | z | z <;> rw [z] <;> decide +kernel
    omega
  · exact nms_len (fun x hx => (o.mem x hx).imp id (hc x)) gl
theorem holes_len {crew : List Str} (hc : ∀ x ∈ crew, NmS x) (h4 : crew.length ≤ 4) {s : Sheet} (o : OkSheet crew s) : (showD (.tup (s.holes.map Hole.d))).length ≤ 5223 := tup_le (b := 1303) (n := 4) (fun d hd => by
  obtain ⟨h, h1, rfl⟩ := List.mem_map.mp hd
  exact hole_len hc h4 (o.hole h h1)) (by rw [List.length_map]; exact o.few)
theorem seen_len {crew : List Str} {s : Sheet} (o : OkSheet crew s) : (showD (seenD s.seen)).length ≤ 259 := by
  cases e : s.seen with
  | none => exact Nat.le_trans (Nat.le_of_eq (by decide +kernel : _ = 5)) (by decide)
  | some xs =>
    obtain ⟨h1, h2⟩ := o.seen xs e
    refine nms_len (n := 4) (fun x hx => ?_) ?_
    · obtain ⟨h, q1, q2⟩ := List.mem_map.mp (h2 x hx)
      rw [← q2]
      exact .inr (o.hole h q1).nm
    · have := nodup_le xs (s.holes.map Hole.nm) h1.nodup h2
      rw [List.length_map] at this
      have := o.few
      omega
theorem sheet_len {crew : List Str} (hc : ∀ x ∈ crew, NmS x) (h4 : crew.length ≤ 4) {s : Sheet} (o : OkSheet crew s) : (showD s.d).length ≤ 15678 := by
  refine tup_le (b := 5223) (n := 3) (fun d hd => ?_) (by simp)
  simp only [List.mem_cons, List.not_mem_nil, or_false] at hd
  rcases hd with rfl | rfl | rfl
  · have := nm_len (.inr o.lb); omega
  · exact holes_len hc h4 o
  · have := seen_len o; omega
theorem sheets_len {ss : List Sheet} (h : OkSheets ss) : (showD (.tup (ss.map Sheet.d))).length ≤ 62723 := tup_le (b := 15678) (n := 4) (fun d hd => by
  obtain ⟨s, h1, rfl⟩ := List.mem_map.mp hd
  exact sheet_len (ok_nms h) (by rw [List.length_map]; exact h.few) (h.sheet s h1)) (by rw [List.length_map]; exact h.few)
theorem lbs_len {ss : List Sheet} (h : OkSheets ss) : (showD (.tup ((ss.map Sheet.lb).map D.str))).length ≤ 259 := nms_len (n := 4) (fun x hx => .inr (ok_nms h x hx)) (by rw [List.length_map]; exact h.few)
end L3
namespace L3
open PySem PySem.Spec PyProof.Rows L2

/-! ### t[::-1] -/
section
variable {prog : Program} {w : World} {A : Around} {E : Value → Shared → Prop} {s : Shared}
theorem applied_rev {sl : Addr} {vs : Value} {n : Nat} {Q : Int × Int × Nat → Shared → Prop} (hs : s.heap.IsSliceOf sl .none .none vs) (ps : IsPart vs (some (-1))) (h : Q ((n : Int) - 1, -1, n) s) : wpAny (model prog w) A (Builtin.Slice.sliceApplied (.ref sl) (pure (n : Int))) Q E s := by
  obtain ⟨os, hos, hcs, hds⟩ := id hs
  unfold Builtin.Slice.sliceApplied Builtin.Slice.sliceFields
  refine wpAny_bind (wpAny_bind (wpAny_field hos hds (x := .none) rfl (wpAny_bind (wpAny_field hos hds (x := .none) rfl (wpAny_bind (wpAny_field hos hds (x := vs) rfl (wpAny_pure ?_)))))))
  refine wpAny_bind (HT.slicePart_ ps ?_)
  show wpAny _ _ (if ((-1 : Int) == 0) = true then _ else _) _ _ s
  rw [if_neg (by decide)]
  refine wpAny_bind (HT.slicePart_ .none (wpAny_bind (HT.slicePart_ .none (wpAny_bind (wpAny_pure ?_)))))
  have e1 : Builtin.Slice.sliceAdjust none none (-1) (n : Int) = ((n : Int) - 1, -1) := rfl
  have e2 : Builtin.Slice.slicePlaces ((n : Int) - 1) (-1) (-1) = n := by
    unfold Builtin.Slice.slicePlaces
    simp
    first | omega | (split <;> omega)
  show wpAny _ _ (match Builtin.Slice.sliceAdjust none none (-1) (n : Int) with | (lo, hi) => pure (lo, (-1 : Int), Builtin.Slice.slicePlaces lo hi (-1))) _ _ s
  rw [e1]
  show wpAny _ _ (pure ((n : Int) - 1, (-1 : Int), Builtin.Slice.slicePlaces ((n : Int) - 1) (-1) (-1))) _ _ s
  rw [e2]
  exact wpAny_pure h
theorem fm_congr {α β : Type} {f g : α → Option β} : ∀ {l : List α}, (∀ x ∈ l, f x = g x) → l.filterMap f = l.filterMap g
  | [], _ => rfl
  | a :: r, h => by
    rw [List.filterMap_cons, List.filterMap_cons, h a List.mem_cons_self, fm_congr fun x hx => h x (List.mem_cons_of_mem _ hx)]
theorem pick_rev (xs : Array Value) : ((List.range xs.size).filterMap fun (m : Nat) => xs[((xs.size : Int) - 1 + (m : Int) * (-1)).toNat]?).toArray = xs.toList.reverse.toArray := by
  have h := HT.pick_gen xs.toList.reverse.toArray 0 xs.size
  rw [List.drop_zero] at h
  have e1 : (xs.toList.reverse.toArray.toList.take xs.size).toArray = xs.toList.reverse.toArray := by
    rw [List.take_of_length_le (by simp)]
  rw [← e1, ← h]
  congr 1
  refine fm_congr fun m hm => ?_
  rw [List.mem_range] at hm
  have a1 : ((xs.size : Int) - 1 + (m : Int) * (-1)).toNat = xs.size - 1 - m := by omega
  have a2 : (((0 : Nat) : Int) + (m : Int) * 1).toNat = m := by omega
  rw [a1, a2]
  have a3 : xs.toList.reverse.toArray[m]? = xs.toList.reverse[m]? := by simp
  rw [a3, List.getElem?_reverse (by simpa using hm), Array.length_toList]
  simp
theorem getItem_tuple_rev {t sl : Addr} {items : Array Value} {vs : Value} {Q : Value → Shared → Prop} (ht : IsTup s.heap t items) (hs : s.heap.IsSliceOf sl .none .none vs) (ps : IsPart vs (some (-1)))
    (h : Q (.ref s.heap.objs.size) { s with heap := s.heap.push { cls := .type "tuple", data := .seq items.toList.reverse.toArray } }) (hsz : items.size ≤ sizeLine) : wpAny (model prog w) A (getItem (.ref t) (.ref sl)) Q E s := by
  have htake : sizeOk (.seq items.toList.reverse.toArray) := by
    show items.toList.reverse.toArray.size ≤ sizeLine
    rw [List.size_toArray, List.length_reverse, Array.length_toList]
    exact hsz
  obtain ⟨os, hos, hcs, hds⟩ := id hs
  have hTs : s.TypeIs (.ref sl) "slice" := ⟨os, hos, hcs⟩
  unfold getItem
  try with_reducible refine wpAny_holding ?_
  first | refine wpAny_bind (wpAny_pure ?_) | skip
  refine wpAny_bind (wpAny_sequenceKey ht.typeIs (by decide) ?_)
  refine wpAny_bind (wpAny_callSpecial?_slot (name := Str.ofString "__getitem__") ht.typeIs PyProof.Rows.slot_tuple_getitem
    (wpAny_call_entry PyProof.Rows.slot_tuple_getitem ht.typeIs entry_tuple_getitem ?_ (args_tuple_getitem _ _)))
  show wpAny _ _ (Builtin.Tuple.tupleItemsOf (.ref t) >>= _) _ _ s
  refine wpAny_bind (tupleItemsOf_ ht ?_)
  refine wpAny_bind (wpAny_typeOf hTs ?_)
  rw [if_pos (by decide)]
  refine wpAny_bind (applied_rev hs ps ?_)
  show wpAny _ _ (if (((items.size : Int) - 1) == 0 && (-1 : Int) == 1 && items.size == items.size) = true then _ else _) _ _ s
  have hno : ¬ ((((items.size : Int) - 1) == 0 && (-1 : Int) == 1 && items.size == items.size) = true) := by
    rw [show ((-1 : Int) == 1) = false from rfl, Bool.and_false, Bool.false_and]
    exact Bool.false_ne_true
  rw [if_neg hno, pick_rev]
  first
    | exact wpAny_bind (m := Builtin.Tuple.tupleExact _) (wpAny_newObj_type (wpAny_pure ⟨_, rfl, wpAny_pure h⟩) htake)
    | exact wpAny_bind (m := Builtin.Tuple.tupleExact _) (wpAny_newObj_type (wpAny_bind (wpAny_pure (wpAny_pure ⟨_, rfl, wpAny_pure h⟩))) htake)
    | exact wpAny_bind (wpAny_bind (m := Builtin.Tuple.tupleExact _) (wpAny_newObj_type (wpAny_pure (wpAny_pure ⟨_, rfl, wpAny_pure h⟩)) htake))
    | exact wpAny_bind (wpAny_bind (m := Builtin.Tuple.tupleExact _) (wpAny_newObj_type (wpAny_pure ⟨_, rfl, wpAny_pure h⟩) htake))
end
def dRevT (t : TD) : TD := fun E P => t E fun d => ∃ ds, d = .tup ds ∧ P (.tup ds.reverse)
theorem DVs.rev {K : PySem.W.Frag} {H : Hp} : ∀ {vs : List V} {ds : List D}, DVs K H vs ds → DVs K H vs.reverse ds.reverse
  | _, _, .nil => .nil
  | _, _, .cons h t => by
    rw [List.reverse_cons, List.reverse_cons]
    exact DVs.app (DVs.rev t) (.cons h .nil)
section
variable {X : Cx} {C : Cf} {e : Expr} {td : TD} {te : TE} {k : Nat} {p1 p2 p3 pos : Pos}
def tRevT (K : PySem.W.Frag) (te : TE) : TE := fun σ H Q => te σ H fun x H1 => ∃ a xs, x = .ref a ∧ SqT K H1 a xs ∧ NewT H1 xs.reverse Q
theorem pe_revT (he : PE X e te) : PE X (.Subscript e (.Slice none none (some (.UnaryOp .USub (.Constant (.int 1) k p1) p2)) p3) pos) (tRevT X.K te) := by
  refine ⟨fun pins s σ H Q I h => ?_⟩
  refine Subscript_ (thn (he.run pins s σ H _ I h) fun v s1 ⟨x, H1, I1, r1, q1⟩ => ?_)
  obtain ⟨a, xs, ex, hx, q⟩ := q1
  subst ex
  cases r1
  have hst : PO X (some (.UnaryOp .USub (.Constant (.int 1) k p1) p2)) (tPart (tUn (rU fun i => .int (-i)) (tC (.int 1)))) := po_some (pe_un un_neg pe_int)
  refine wpAny_Slice (thn (po_none.run pins s1 σ H1 (fun o H2 => o = none ∧ H2 = H1) I1 ⟨rfl, rfl⟩) fun vl s2 ⟨l, H2, I2, pl, el, e2⟩ => ?_)
  subst el e2
  refine thn (po_none.run pins s2 σ H2 (fun o H3 => o = none ∧ H3 = H2) I2 ⟨rfl, rfl⟩) fun vu s3 ⟨u, H3, I3, pu, eu, e3⟩ => ?_
  subst eu e3
  refine thn (hst.run pins s3 σ H3 (fun o H4 => o = some (-1) ∧ H4 = H3) I3 ⟨1, rfl, -1, rfl, rfl, rfl⟩) fun vs s4 ⟨o, H4, I4, ps, eo, e4⟩ => ?_
  subst eo e4
  cases pl
  cases pu
  have I5 : Inv X pins σ H4 { s4 with heap := s4.heap.push { cls := .type "slice", data := .fields #[.none, .none, vs] } } := I4.kept (t' := s4.toks) fun b ob q => Heap.get?_push_of_some _ q
  obtain ⟨its, r, ht, hz⟩ := I5.tuple hx
  have hlen := r.length
  show wpAny (model X.prog X.w) X.A (subscriptTail e (.Slice none none (some (.UnaryOp .USub (.Constant (.int 1) k p1) p2)) p3) (.ref a) (.ref s4.heap.objs.size)) (EP X pins σ Q) X.xe { s4 with heap := s4.heap.push { cls := .type "slice", data := .fields #[.none, .none, vs] } }
  refine tail_any (ops := [.ref a, .ref s4.heap.objs.size]) ht.typeIs (PyProof.Rows.slot_tuple_getitem.lookup) ?_ (by with_unfolding_all rfl)
  refine getItem_tuple_rev ht (Heap.IsSliceOf.new _ .none .none vs) ps ?_ (by rw [List.size_toArray]; omega)
  exact laidT I5 r.reverse (by rw [List.length_reverse]; exact hz) q
theorem de_revT (h : DE X C e td) : DE X C (.Subscript e (.Slice none none (some (.UnaryOp .USub (.Constant (.int 1) k p1) p2)) p3) pos) (dRevT td) := by
  obtain ⟨te, h1, h2⟩ := h.ex
  refine ⟨⟨_, pe_revT h1, fun S σ H E P Q r hp q => h2 S σ H E _ _ r hp fun v d H1 g1 p1 v1 => ?_⟩⟩
  obtain ⟨ds, rfl, p1⟩ := p1
  cases v1 with
  | @tup a vs ds e1 k1 =>
    refine ⟨a, vs, rfl, (e1.mono same_hid).sq, ?_⟩
    exact q_tup (r.ok.go g1) k1.rev p1 fun v d H' g => q v d H' (g1.trans g)
end
end L3
namespace L3
open PySem PySem.Spec PyProof.Rows L2

/-! ### x = x + [..], x a list of the def's own -/
def sCatO (i : Nat) (t : TDs) : TSd := fun Dn ρ => ∃ ds, ρ[i]? = some (.own ds) ∧ t (view ρ) fun es => ds.length + es.length ≤ 100000 ∧ Dn.nx (ρ.set i (.own (ds ++ es)))
theorem ds_catOwn {X : Cx} {C : Cf} {i : Nat} {x : Str} {es : List Expr} {tds : TDs} {px p lp bp pos : Pos} (n : NmOk X i x) (hv : PE X (.Name x p) (tVar i)) (h : DA X C es tds) (hs : swapsWith (.BinOp (.Name x p) .Add (.List es lp) bp) (some (.Name x px)) pos.line X.env = pure false := by rfl) :
    DS X C (.Assign [.Name x px] (.BinOp (.Name x p) .Add (.List es lp) bp) pos) (sCatO i tds) := by
  obtain ⟨ta, h1, h2⟩ := h.ex
  refine ⟨⟨_, ps_set n.nd n.at_ n.loc (pe_op op_cat hv (pe_lst h1)) hs n.fn, fun S0 H0 gs al ρ σ H Dn D' r hp g => ?_⟩⟩
  obtain ⟨ds, e0, hp⟩ := hp
  obtain ⟨o1, vs, o2, o3⟩ := r.own i ds e0
  refine ⟨_, o1, ?_⟩
  refine h2 _ σ H _ _ _ r.relA hp fun ws es' H1 g1 p1 v1 => ⟨small_line (by rw [v1.len]; have := p1.1; omega), fun p1' np1 => ?_⟩
  have r1 := r.go g1
  have gn : Go C H1 (upd H1 p1' (.lst ws)) := Go.new r1.vok np1
  have r2 := r1.go gn
  obtain ⟨q1, vs2, q2, q3⟩ := r2.own i ds e0
  have o4 : (upd H1 p1' (.lst ws)) (al i) = some (.lst vs) := by
    have a1 : H1 (al i) = some (.lst vs) := g1.e _ _ (r.notG ⟨_, e0, rfl⟩) o2
    rw [upd_ne (ne_of_none a1 np1)]
    exact a1
  rw [o4] at q2
  cases q2
  refine ⟨_, _, vs, ws, rfl, rfl, o4, upd_same, small_line (by rw [q3.len, v1.len]; exact p1.1), fun p2 np2 => ?_⟩
  exact g.nx _ _ _ _ (r2.setOwn i np2 (q3.app (v1.mono (gn.vis r1.vok)))) p1.2
/-! ### a word between two statements -/
def sCut (t u : TSd) : TSd := fun Dn ρ => ∃ Mid : Rho → Prop, t { Dn with nx := Mid } ρ ∧ ∀ ρ', Mid ρ' → u Dn ρ'
theorem dss_cut {X : Cx} {C : Cf} {st : Stmt} {rest : List Stmt} {ts us : TSd} (h : DS X C st ts) (k : DSs X C rest us) : DSs X C (st :: rest) (sCut ts us) := by
  obtain ⟨t, h1, h2⟩ := h.ex
  obtain ⟨u, k1, k2⟩ := k.ex
  refine ⟨⟨_, pss_cons h1 k1, fun S0 H0 gs al ρ σ H Dn D' r hp g => ?_⟩⟩
  obtain ⟨Mid, h3, h4⟩ := hp
  exact h2 S0 H0 gs al ρ σ H _ _ r h3 ⟨fun al ρ σ H r h => k2 S0 H0 gs al ρ σ H Dn D' r (h4 _ h) g, g.rt, g.bk, g.ct⟩
end L3
namespace L3
open PySem PySem.Spec PyProof.Rows L2

/-! ### a, b = e, f where own lists are read, and no list is in the values -/
def sParF (i j : Nat) (t : TDs) : TSd := fun Dn ρ => t (frz ρ) fun ds => ∃ a b, ds = [a, b] ∧ frzD a = true ∧ frzD b = true ∧ Dn.nx ((ρ.set i (.dat a)).set j (.dat b))
section
variable {X : Cx} {C : Cf} {a b : Expr} {tds : TDs} {i j : Nat} {x y : Str} {px py pt pos : Pos} {kt k2 : Nat} {pt2 : Pos}
theorem ds_parF (ni : NmOk X i x) (nj : NmOk X j y) (hij : i ≠ j) (hx : X.env.scope.names.lookup x = some .local) (hy : X.env.scope.names.lookup y = some .local) (hc : X.calm = true) (h : DA X C [a, b] tds)
    (hw : swappedStores [.Tuple [.Name x px, .Name y py] kt pt] (.Tuple [a, b] k2 pt2) X.env = pure (some [x, y]) := by rfl) (hs : swapsWithSole [.Tuple [.Name x px, .Name y py] kt pt] (.Tuple [a, b] k2 pt2) pos.line X.env = pure false := by rfl) :
    DS X C (.Assign [.Tuple [.Name x px, .Name y py] kt pt] (.Tuple [a, b] k2 pt2) pos) (sParF i j tds) := by
  obtain ⟨ta, a1, a2⟩ := h.ex
  refine ⟨⟨_, ps_par hc ni.nd ni.at_ nj.at_ hij hx hy a1 hw hs, fun S0 H0 gs al ρ σ H Dn D' r hp g => ?_⟩⟩
  refine a2 _ σ H _ _ _ r.relB hp fun vs ds H1 g1 p1 v1 => ?_
  obtain ⟨d, e, rfl, f1, f2, p1⟩ := p1
  obtain ⟨v, w, rfl, hv, hw⟩ := two_dv v1
  have gr := (r.go g1).grows
  exact ⟨v, w, rfl, g.nx _ _ _ H1 (((r.go g1).setDat i (hv.frz gr f1)).setDat j ((hw.frz gr f2).mono vol_set)) p1⟩
end
/-- trees of texts have no list, but for the lists -/
theorem frzDs_of : ∀ {ds : List D}, (∀ d ∈ ds, frzD d = true) → frzDs ds = true
  | [], _ => by simp only [frzDs]
  | d :: r, h => by simp only [frzDs, h d List.mem_cons_self, frzDs_of fun x hx => h x (List.mem_cons_of_mem _ hx), Bool.and_self]
theorem txt_frz {l : List Str} : ∀ d ∈ l.map D.str, frzD d = true := fun d hd => by
  obtain ⟨x, _, rfl⟩ := List.mem_map.mp hd
  simp only [frzD]
theorem sheet_frz (s : Sheet) : frzD s.d = true := by
  simp only [Sheet.d, frzD, frzDs, Bool.and_true, Bool.true_and]
  rw [frzDs_of fun d hd => by
    obtain ⟨h, _, rfl⟩ := List.mem_map.mp hd
    simp only [Hole.d, frzD, frzDs, Bool.and_true, Bool.true_and]
    exact frzDs_of txt_frz, Bool.true_and]
  cases s.seen with
  | none => simp only [seenD, frzD]
  | some xs => simp only [seenD, frzD]; exact frzDs_of txt_frz
end L3
/-! sorted of a list or a tuple whose items are alike data. -/
namespace L3
open PySem PySem.Calls PyProof.Rows PySem.W
section
variable {prog : Program} {w : World} {A : Around} {E : Value → Shared → Prop} {s : Shared} {β : Type} {bs : List β} {enc : β → PyData} {R : Value → β → Prop}
/-- list.sort on a list that is new in h1 -/
theorem sort_new {h1 : Heap} {p : Addr} {vs : List Value} (hp : h1.get? p = some (seqObj "list" vs.toArray 0)) (nw : s.heap.get? p = none) (kp : ∀ b o, s.heap.get? b = some o → h1.get? b = some o) (hz : vs.length ≤ sizeLine)
    (e : EachIs R vs bs) (er : EachIs (fun v b => ∃ as, Reads s.heap v (enc b) as) vs bs) (hal : AllAlike (bs.map enc)) (hk : Sortable (bs.map enc)) (hu : ∀ b, b ∈ bs → A.units + (enc b).depth < cLine)
    {P : PySem.Fin → Shared → Prop} (h : ∀ (out : List Value) (h' : Heap), EachIs R out (bs.mergeSort (dataLe false enc)) → (∀ b o, s.heap.get? b = some o → h'.get? b = some o) → (∃ c, h'.get? p = some (seqObj "list" out.toArray c)) → P (.done (.ret .none)) { s with heap := h' }) :
    wpAny (model prog w) A (Builtin.«list.sort» ⟨[.ref p], []⟩) P E { s with heap := h1 } := by
  have ne : ∀ b o, s.heap.get? b = some o → b ≠ p := fun b o q z => by rw [z, nw] at q; cases q
  have kp2 : ∀ b o, s.heap.get? b = some o → (sortingHeap h1 p vs).get? b = some o := fun b o q => sortingHeap_old (ne b o q) (kp b o q)
  have er' : EachIs (fun v b => ∃ as, Reads (sortingHeap h1 p vs) v (enc b) as) vs bs := er.mono fun _ _ ⟨as, r⟩ => ⟨as, PyProof.Rows.Reads.keeps kp2 r⟩
  have S := SortsAt.data (prog := prog) (w := w) (A := A) (s := { s with heap := sortingHeap h1 p vs }) (each_map (R := fun v d => ∃ as, Reads (sortingHeap h1 p vs) v d as) enc er') hal hk (bound_map hu)
  refine list_sort_vals (s := { s with heap := h1 }) hp S hz (h _ _ (sortVals_data false e er' hal) (fun b o q => ?_) (sortedHeap_at hp))
  rw [sortedHeap_old (ne b o q) (Heap.lt_size (kp b o q))]
  exact kp b o q
theorem sorted_seqD {T : String} {l : Addr} {o : Obj} {items : Array Value} {n : Nat} {Q : Value → Shared → Prop} (hT : T = "list" ∨ T = "tuple") (ho : s.heap.get? l = some o) (hc : o.cls = .type T) (hd : o.data = .seq items n) (hz : items.size ≤ sizeLine)
    (e : EachIs R items.toList bs) (er : EachIs (fun v b => ∃ as, Reads s.heap v (enc b) as) items.toList bs) (hal : AllAlike (bs.map enc)) (hk : Sortable (bs.map enc)) (hu : ∀ b, b ∈ bs → A.units + 2 + (enc b).depth < cLine)
    (h : ∀ (out : List Value) (p : Addr) (h' : Heap), EachIs R out (bs.mergeSort (dataLe false enc)) → (∀ b o, s.heap.get? b = some o → h'.get? b = some o) → s.heap.get? p = none → (∃ c, h'.get? p = some (seqObj "list" out.toArray c)) → Q (.ref p) { s with heap := h' }) :
    wpAny (model prog w) A (call (.builtin "sorted") [.ref l]) Q E s := by
  have hl : items.toList.length ≤ sizeLine := by simpa using hz
  refine call_function_entry kind_sorted plain_sorted entry_sorted (args_sorted1 _) ?_; unfold Builtin.«sorted»
  refine wpAny_bind (m := checkCount "sorted" 1 1 _) (wpAny_pure (wpAny_bind (wpAny_collect_seq l hT ho hc hd (fun h1 kp => ?_) hz)))
  have nw : s.heap.get? h1.objs.size = none := by
    cases q : s.heap.get? h1.objs.size with
    | none => rfl
    | some o => exact absurd (Heap.lt_size (kp _ _ q)) (Nat.lt_irrefl _)
  have hp : (h1.push (seqObj "list" items.toList.toArray 0)).get? h1.objs.size = some (seqObj "list" items.toList.toArray 0) := Heap.get?_push_size _ rfl
  have kp2 : ∀ b o, s.heap.get? b = some o → (h1.push (seqObj "list" items.toList.toArray 0)).get? b = some o := fun b o q => Heap.get?_push_of_some _ (kp b o q)
  refine wpAny_bind (wpAny_newList (wpAny_bind (wpAny_holding (wpAny_call_entry slot_list_sort ⟨_, hp, rfl⟩ entry_list_sort (sort_new hp nw kp2 hl e er hal hk hu fun out h' e1 k1 c1 => ?_) (args_list_sort _)))) hl)
  exact ⟨_, rfl, wpAny_pure ⟨_, rfl, h out _ h' e1 k1 nw c1⟩⟩
end
end L3
namespace L3
open PySem PySem.Spec PyProof.Rows L2
open PySem.W (EachIs AllAlike Sortable dataLt dataLe keyToks alike alikeAll)

/-! ### the order of data, and sorted data -/
def leD (a b : D) : Bool := !dataLt (toP b) (toP a)
def sortD (ds : List D) : List D := ds.mergeSort leD
theorem leD_trans (a b c : D) (h : leD a b = true) (k : leD b c = true) : leD a c = true := by
  unfold leD at h k ⊢
  rw [Bool.not_eq_true'] at h k ⊢
  cases e : dataLt (toP c) (toP a) with
  | false => rfl
  | true =>
    rcases lex_negTrans _ (keyToks (toP b)) _ e with z | z
    · exact absurd ((show dataLt (toP c) (toP b) = true from z).symm.trans k) (by decide)
    · exact absurd ((show dataLt (toP b) (toP a) = true from z).symm.trans h) (by decide)
theorem leD_total (a b : D) : (leD a b || leD b a) = true := by
  unfold leD
  cases e : dataLt (toP b) (toP a) with
  | false => rfl
  | true =>
    cases k : dataLt (toP a) (toP b) with
    | false => rfl
    | true => exact absurd ((lex_trans _ _ _ e k).symm.trans (lex_irrefl _)) (by decide)
theorem sortD_perm (ds : List D) : (sortD ds).Perm ds := List.mergeSort_perm _ _
theorem sortD_pair (ds : List D) : (sortD ds).Pairwise fun a b => leD a b = true := List.pairwise_mergeSort leD_trans leD_total ds
/-- what sorted asks of the items -/
structure SrtOk (ds : List D) : Prop where
  pl : ∀ d ∈ ds, pl d = true ∧ (toP d).depth ≤ 40
  al : AllAlike (ds.map toP)
  so : Sortable (ds.map toP)
theorem each_vals : ∀ {ys : List (V × D)} {its : List Value}, Vals (ys.map (·.1)) its → EachIs (fun u (y : V × D) => RelV y.1 u) its ys
  | [], _, .nil => .nil
  | _ :: _, _, .cons h t => .cons h (each_vals t)
theorem vals_each : ∀ {ys : List (V × D)} {its : List Value}, EachIs (fun u (y : V × D) => RelV y.1 u) its ys → Vals (ys.map (·.1)) its
  | _, _, .nil => .nil
  | _, _, .cons h t => .cons h (vals_each t)
def zipLe (a b : V × D) : Bool := leD a.2 b.2
def rSortD (K : PySem.W.Frag) : List V → Hp → VK → Prop := fun xs H Q => ∃ (a : Addr) (ys : List (V × D)), xs = [.ref a] ∧ (SqL K H a (ys.map (·.1)) ∨ SqT K H a (ys.map (·.1))) ∧ (∀ y ∈ ys, DV K H y.1 y.2) ∧ SrtOk (ys.map (·.2)) ∧
  ∀ p, H p = none → Q (.ref p) (upd H p (.lst ((ys.mergeSort zipLe).map (·.1))))
theorem call_sortD {X : Cx} (hu : X.A.units + 64 < cLine) : CallR X (.builtin "sorted") (rSortD X.K) := by
  intro pins s σ H xs us Q I r h
  obtain ⟨a, ys, rfl, hq, hv, so, q⟩ := h
  obtain ⟨u, rfl, rx⟩ := vals1 r
  cases rx
  have hm : (ys.map (·.2)).map toP = ys.map fun y => toP y.2 := by rw [List.map_map]; rfl
  have go : ∀ (T : String) (its : List Value) (o : Obj) (n : Nat), (T = "list" ∨ T = "tuple") → s.heap.get? a = some o → o.cls = .type T → o.data = .seq its.toArray n → Vals (ys.map (·.1)) its → (ys.map (·.1)).length ≤ sizeLine →
      wpAny (model X.prog X.w) X.A (call (.builtin "sorted") [.ref a]) (EP X pins σ Q) X.xe s := fun T its o n hT ho hc hd r' hz => by
    have e := each_vals r'
    refine sorted_seqD (enc := fun y : V × D => toP y.2) (R := fun u (y : V × D) => RelV y.1 u) hT ho hc hd (by rw [List.size_toArray, ← r'.length]; exact hz) e ((PySem.W.each_mem e).mono fun v y z => ?_) (by rw [← hm]; exact so.al) (by rw [← hm]; exact so.so) (fun y hy => ?_) fun out p h' e1 kp nw ⟨c, hc'⟩ => ?_
    · exact Dp.reads I (toP y.2) y.1 v ((hv y z.2).dp (so.pl y.2 (List.mem_map.mpr ⟨y, z.2, rfl⟩)).1) z.1
    · have := (so.pl y.2 (List.mem_map.mpr ⟨y, hy, rfl⟩)).2
      omega
    · have hn := I.hok.gone nw
      have rv : Vals ((ys.mergeSort zipLe).map (·.1)) out := vals_each e1
      refine ⟨.ref p, upd H p (.lst ((ys.mergeSort zipLe).map (·.1))), I.laidN (t' := s.toks) kp nw hn ⟨?_, out, c, rv, hc'⟩, rfl, q p hn⟩
      rw [List.length_map, List.length_mergeSort]
      rw [List.length_map] at hz
      exact hz
  rcases hq with hq | hq
  · obtain ⟨its, r', pl, hz⟩ := I.list hq
    obtain ⟨o, ho, hc, n, hd⟩ := pl.isList
    exact go "list" its o n (.inl rfl) ho hc hd r' hz
  · obtain ⟨its, r', pl, hz⟩ := I.tuple hq
    obtain ⟨o, ho, hc, n, hd⟩ := pl
    exact go "tuple" its o n (.inr rfl) ho hc hd r' hz
def fSortD : FN
  | [.lst ds], P => SrtOk ds ∧ P (.lst (sortD ds))
  | [.tup ds], P => SrtOk ds ∧ P (.lst (sortD ds))
  | _, _ => False
section
variable {K : PySem.W.Frag} {C : Cf} {H : Hp}
theorem zip_fst : ∀ {vs : List V} {ds : List D}, DVs K H vs ds → (vs.zip ds).map (·.1) = vs
  | _, _, .nil => rfl
  | _, _, .cons h t => by rw [List.zip_cons_cons, List.map_cons, zip_fst t]
theorem zip_snd : ∀ {vs : List V} {ds : List D}, DVs K H vs ds → (vs.zip ds).map (·.2) = ds
  | _, _, .nil => rfl
  | _, _, .cons h t => by rw [List.zip_cons_cons, List.map_cons, zip_snd t]
theorem zip_dv : ∀ {vs : List V} {ds : List D}, DVs K H vs ds → ∀ y ∈ vs.zip ds, DV K H y.1 y.2
  | _, _, .nil => fun y hy => nomatch hy
  | _, _, .cons h t => fun y hy => by
    rw [List.zip_cons_cons] at hy
    rcases List.mem_cons.mp hy with rfl | hy
    · exact h
    · exact zip_dv t y hy
theorem dvs_pairs : ∀ zs : List (V × D), (∀ y ∈ zs, DV K H y.1 y.2) → DVs K H (zs.map (·.1)) (zs.map (·.2))
  | [], _ => .nil
  | z :: r, h => .cons (h z List.mem_cons_self) (dvs_pairs r fun y hy => h y (List.mem_cons_of_mem _ hy))
theorem zip_sort {vs : List V} {ds : List D} (h : DVs K H vs ds) : DVs K H (((vs.zip ds).mergeSort zipLe).map (·.1)) (sortD ds) := by
  have a := dvs_pairs ((vs.zip ds).mergeSort zipLe) fun y hy => zip_dv h y ((List.mergeSort_perm _ _).mem_iff.mp hy)
  have e : ((vs.zip ds).mergeSort zipLe).map (·.2) = sortD ds := by
    have z := List.map_mergeSort (r := zipLe) (s := leD) (f := fun y : V × D => y.2) (l := vs.zip ds) (fun a _ b _ => rfl)
    rw [z, zip_snd h]
    rfl
  rw [e] at a
  exact a
theorem cd_sortD : CallD K C (rSortD K) fSortD := by
  intro S H vs ds P Q ok hv h q
  match ds, h with
  | [.lst ds], h =>
    obtain ⟨v, rfl, hd⟩ := one_dv hv
    obtain ⟨a, ws, rfl, e, h1⟩ := two_lists ok hd
    exact ⟨a, ws.zip ds, rfl, .inl (by rw [zip_fst h1]; exact .inl (.inl e)), fun y hy => (zip_dv h1 y hy).mono same_hid, by rw [zip_snd h1]; exact h.1, q_list ok (zip_sort h1) h.2 q⟩
  | [.tup ds], h =>
    obtain ⟨v, rfl, hd⟩ := one_dv hv
    obtain ⟨a, ws, rfl, e, h1⟩ := two_tups ok hd
    exact ⟨a, ws.zip ds, rfl, .inr (by rw [zip_fst h1]; exact e), fun y hy => (zip_dv h1 y hy).mono same_hid, by rw [zip_snd h1]; exact h.1, q_list ok (zip_sort h1) h.2 q⟩
end
/-- sorted(e) as a new list of the def's own -/
def oSort (t : TDs) : TSl := fun E P => t E fun ds => match ds with
  | [.lst ds] => SrtOk ds ∧ P (.own (sortD ds))
  | [.tup ds] => SrtOk ds ∧ P (.own (sortD ds))
  | _ => False
section
variable {X : Cx} {C : Cf} {e : Expr} {tds : TDs} {pos : Pos}
theorem df_sortD {p' : Pos} (hu : X.A.units + 64 < cLine) (hg : Gl X "sorted") (hm : X.mg "sorted" = none) (ha : DA X C [e] tds) (he : starEach [e] X.env = (false, eval e X.env) :: starEach [] X.env := by rfl) (hpl : (backTo pos (starEach [] X.env)).any (·.1) = false := by rfl) :
    DF X C (.Call (.Name "sorted" p') [e] [] pos) (oSort tds) := by
  obtain ⟨ta, h1, h2⟩ := ha.ex
  refine ⟨⟨_, pe_callB (call_sortD hu) hg hm (by first | exact boot_sorted | decide +kernel) h1 (by decide) (by decide) he hpl, fun S σ H E P Q r hp q => ?_⟩⟩
  refine h2 S σ H E _ _ r hp fun vs ds H1 g1 p1 v1 => ?_
  have ok1 := r.ok.go g1
  have fin : ∀ (ws : List V) (es : List D), DVs X.K (hid H1 S) ws es → P (.own es) → ∀ l, H1 l = none → Q (.ref l) (upd H1 l (.lst ws)) := fun ws es hw hP l nl => by
    have gn : Go C H1 (upd H1 l (.lst ws)) := Go.new ok1 nl
    have nl0 : H l = none := by
      cases e : H l with
      | none => rfl
      | some o => rw [g1.e l o (fun z => ok1.fresh nl (ok1.g l z)) e] at nl; cases nl
    exact q l _ _ (g1.trans gn) hP nl0 ⟨ws, upd_same, hw.mono (same_ext1 ok1 nl gn)⟩
  match ds, p1 with
  | [.lst ds], p1 =>
    obtain ⟨v, rfl, hd⟩ := one_dv v1
    obtain ⟨a, ws, rfl, e, hw⟩ := two_lists ok1 hd
    exact ⟨a, ws.zip ds, rfl, .inl (by rw [zip_fst hw]; exact .inl (.inl e)), fun y hy => (zip_dv hw y hy).mono same_hid, by rw [zip_snd hw]; exact p1.1, fin _ _ (zip_sort hw) p1.2⟩
  | [.tup ds], p1 =>
    obtain ⟨v, rfl, hd⟩ := one_dv v1
    obtain ⟨a, ws, rfl, e, hw⟩ := two_tups ok1 hd
    exact ⟨a, ws.zip ds, rfl, .inr (by rw [zip_fst hw]; exact e), fun y hy => (zip_dv hw y hy).mono same_hid, by rw [zip_snd hw]; exact p1.1, fin _ _ (zip_sort hw) p1.2⟩
end

/-! ### texts, and pairs of a number and texts -/
theorem alike_strs : ∀ xs ys : List Str, alikeAll (toPs (xs.map D.str)) (toPs (ys.map D.str)) = true
  | [], ys => by simp [toPs, alikeAll]
  | x :: xs, [] => by simp [toPs, alikeAll]
  | x :: xs, y :: ys => by
    show alikeAll (toP (.str x) :: toPs (xs.map D.str)) (toP (.str y) :: toPs (ys.map D.str)) = true
    rw [alikeAll, alike_strs xs ys]
    simp [toP, alike]
theorem srt_strs {xs : List Str} : SrtOk (xs.map D.str) := by
  refine ⟨fun d hd => ?_, fun d hd d' hd' => ?_, .inr fun d hd => ?_⟩
  · obtain ⟨x, _, rfl⟩ := List.mem_map.mp hd
    exact ⟨rfl, by simp [toP, PyData.depth]⟩
  · obtain ⟨e, he, rfl⟩ := List.mem_map.mp hd
    obtain ⟨x, _, rfl⟩ := List.mem_map.mp he
    obtain ⟨e', he', rfl⟩ := List.mem_map.mp hd'
    obtain ⟨x', _, rfl⟩ := List.mem_map.mp he'
    simp [toP, alike]
  · obtain ⟨e, he, rfl⟩ := List.mem_map.mp hd
    obtain ⟨x, _, rfl⟩ := List.mem_map.mp he
    exact ⟨fun z => by simp [toP] at z, fun ys z => by simp [toP] at z⟩
theorem leD_strs {x y : Str} (h : leD (.str x) (.str y) = true) : ¬ ltS y x := by
  unfold leD at h
  simp only [toP] at h
  rw [PySem.W.dataLt_str, Bool.not_eq_true', decide_eq_false_iff_not] at h
  exact h
theorem sortD_strs (xs : List Str) : ∃ ys : List Str, sortD (xs.map D.str) = ys.map D.str ∧ ys.Perm xs ∧ ys.Pairwise fun a b => ¬ ltS b a := by
  have p := sortD_perm (xs.map D.str)
  have w := sortD_pair (xs.map D.str)
  have hs : ∀ d ∈ sortD (xs.map D.str), ∃ x, d = .str x := fun d hd => by
    obtain ⟨x, _, rfl⟩ := List.mem_map.mp (p.mem_iff.mp hd)
    exact ⟨x, rfl⟩
  have back : ∀ ds : List D, (∀ d ∈ ds, ∃ x, d = D.str x) → ∃ ys : List Str, ds = ys.map D.str := by
    intro ds
    induction ds with
    | nil => intro _; exact ⟨[], rfl⟩
    | cons d r ih =>
      intro h
      obtain ⟨x, rfl⟩ := h d List.mem_cons_self
      obtain ⟨ys, rfl⟩ := ih fun d hd => h d (List.mem_cons_of_mem _ hd)
      exact ⟨x :: ys, rfl⟩
  obtain ⟨ys, e⟩ := back _ hs
  rw [e] at p w
  refine ⟨ys, e, ?_, ?_⟩
  · have := p.map (fun d => match d with | .str x => x | _ => "")
    simpa [List.map_map, Function.comp_def] using this
  · rw [List.pairwise_map] at w
    exact w.imp fun h => leD_strs h
theorem rising_of_le {ys : List Str} (h : ys.Pairwise fun a b => ¬ ltS b a) (n : ys.Nodup) : Rising ys := by
  refine List.Pairwise.imp₂ ?_ h n
  intro a b h1 h2
  rcases ltS_tri a b with z | z | z
  · exact z
  · exact (h2 z).elim
  · exact (h1 z).elim
end L3
namespace L3
open PySem PySem.Spec PyProof.Rows L2

/-! ### defs and methods that give a new list (a new dict) back -/
abbrev FNf := List D → (Sl → Prop) → Prop
def spF (K : PySem.W.Frag) (F : Cf → FNf) : Sp := fun vs H Q _ => ∃ (C : Cf) (S : AS) (ds : List D) (P : Sl → Prop), Ok C S H ∧ DVs K (hid H S) vs ds ∧ F C ds P ∧ ∀ p s H', Go C H H' → P s → H p = none → OwnOk K (ext1 S p) p s H' → Q (.ref p) H'
/-- the new object as a datum -/
def asD (P : D → Prop) : Sl → Prop
  | .own ds => P (.lst ds)
  | .owd ks => P (.dic ks)
  | _ => False
theorem own_dv {K : PySem.W.Frag} {C : Cf} {S : AS} {H H' : Hp} {p : Addr} {s : Sl} {P : D → Prop} (ok : Ok C S H) (np : H p = none) (o : OwnOk K (ext1 S p) p s H') (a : asD P s) : ∃ d, P d ∧ DV K (hid H' S) (.ref p) d := by
  have nS : ¬ S p := ok.fresh np
  have sub : Same (hid H' (ext1 S p)) (hid H' S) := same_hid_sub fun a h => .inl h
  cases s with
  | own ds => obtain ⟨ws, e1, e2⟩ := o; exact ⟨_, a, .lst (hid_some.mpr ⟨nS, e1⟩) (e2.mono sub)⟩
  | owd ks => obtain ⟨ws, e1, e2⟩ := o; exact ⟨_, a, .dic (hid_some.mpr ⟨nS, e1⟩) (e2.mono sub)⟩
  | no => exact a.elim
  | dat d => exact a.elim
theorem FnG.plain {P : Program} {w : World} {K : PySem.W.Frag} {mg : Str → Option Value} {base : Heap} {CX : CXT} {k : Nat} {f : Addr} {fd : FuncData} {ps : List Str} {F : Cf → FNf} (G : FnG P w K mg base CX k f fd ps (spF K F)) : FnG P w K mg base CX k f fd ps (spD K fun C ds P => F C ds (asD P)) := by
  have imp : ∀ vs H Q E, spD K (fun C ds P => F C ds (asD P)) vs H Q E → spF K F vs H Q E := fun vs H Q E z => by
    obtain ⟨C, S, ds, R, ok, hv, hf, q⟩ := z
    refine ⟨C, S, ds, asD R, ok, hv, hf, fun p s H' g a np o => ?_⟩
    obtain ⟨d, h1, h2⟩ := own_dv ok np o a
    exact q _ d H' g h1 h2
  exact ⟨fun vs H Q E z => G.len vs H Q E (imp vs H Q E z), fun A fr s H ar us vs Q E hg hr e0 hb hv z => G.go A fr s H ar us vs Q E hg hr e0 hb hv (imp vs H Q E z)⟩
/-- statements whose last one gives a new object back -/
abbrev TSf := Rho → (Sl → Prop) → Prop
structure DSf (X : Cx) (C : Cf) (st : List Stmt) (ts : TSf) : Prop where
  ex : ∃ t, PSs X st t ∧ ∀ (S0 : AS) (H0 : Hp) (gs : Gs) (al : Nat → Addr) (ρ : Rho) (σ : L2.St) (H : Hp) (R : Sl → Prop) (D' : Ends), EnvR X.K C S0 H0 gs al ρ σ H → ts ρ R →
    (∀ p s H', Ext C.G H0 H' → C.I H' → R s → H0 p = none → OwnOk X.K (ext1 S0 p) p s H' → D'.rt (.ref p) H') → t D' σ H
section
variable {X : Cx} {C : Cf} {st : Stmt} {rest : List Stmt} {ts : TSd} {us : TSf} {e : Expr} {tf : TSl} {pos : Pos}
theorem dsf_ret (h : DF X C e tf) : DSf X C [.Return (some e) pos] (fun ρ R => tf (frz ρ) R) := by
  obtain ⟨te, h1, h2⟩ := h.ex
  refine ⟨⟨_, pss_one (ps_ret h1), fun S0 H0 gs al ρ σ H R D' r hp q => ?_⟩⟩
  refine h2 _ σ H _ _ _ r.relB hp fun p s H1 g1 p1 np o1 => ?_
  refine q p s H1 (r.ext.trans g1.e) g1.i p1 ?_ o1
  cases e0 : H0 p with
  | none => rfl
  | some o =>
    by_cases z : C.G p
    · exact absurd np (C.liv H p r.ok.i z)
    · rw [r.ext p o z e0] at np; cases np
theorem dsf_cons (h : DS X C st ts) (k : DSf X C rest us) : DSf X C (st :: rest) (fun ρ R => ts { nx := fun ρ' => us ρ' R, rt := fun _ => False } ρ) := by
  obtain ⟨t, h1, h2⟩ := h.ex
  obtain ⟨u, k1, k2⟩ := k.ex
  refine ⟨⟨_, pss_cons h1 k1, fun S0 H0 gs al ρ σ H R D' r hp q => ?_⟩⟩
  exact h2 S0 H0 gs al ρ σ H _ _ r hp ⟨fun al ρ σ H r h => k2 S0 H0 gs al ρ σ H R D' r h q, fun _ _ _ _ _ h _ => h.elim, fun _ _ _ _ _ h => h.elim, fun _ _ _ _ _ h => h.elim⟩
end
theorem def_okF {P : Program} {w : World} {K : PySem.W.Frag} {mg : Str → Option Value} {base : Heap} {x qual : Str} {st : Stmt} {f : Addr} {fd : FuncData} {N ps : List Str} {k : Nat} {F : Cf → FNf} (FF : Fun K x qual st f fd) (S : FnScope N ps (defScope st)) (len : ∀ C ds P, F C ds P → ds.length = ps.length)
    (body : ∀ (cdv : Value) (A : Around) (fr : List Env) (s : Shared) (H : Hp) (E : XK), A.guards = some [] → Room k (A.deeper (envOfC qual (defScope st) s.heap.objs.size f cdv)) → ∀ (C : Cf) (ds : List D) (R : Sl → Prop), F C ds R →
      ∃ ts, DSf (cxOf CX0 P w K mg base N qual (defScope st) f cdv A fr s H E).nox C (defBody st) ts ∧ ts (startD N ds) R) : FnG P w K mg base CX0 (k + 1) f fd ps (spF K F) := by
  refine FF.okG S (fun vs H Q E h => ?_) fun cdv A fr s H vs Q E hgd hr h => ?_
  · obtain ⟨C, S, ds, P, _, hv, hf, _⟩ := h
    rw [hv.len]; exact len C ds P hf
  · obtain ⟨C, S1, ds, R, ok, hv, hf, q⟩ := h
    obtain ⟨ts, hd, ht⟩ := body cdv A fr s H E hgd hr C ds R hf
    obtain ⟨t, h1, h2⟩ := hd.ex
    have hl : vs.length ≤ N.length := by
      have := congrArg List.length S.pre
      rw [List.length_take] at this
      rw [hv.len, len C ds R hf]; omega
    exact ⟨t, h1.nox, h2 S1 H [] (fun _ => 0) (startD N ds) (L2.start N vs) H R _ (env_start ok hv hl) ht fun p s H' e i a np o => q p s H' ⟨e, i⟩ a np o⟩
/-- a method of this kind -/
structure MetF (P : Program) (w : World) (K : PySem.W.Frag) (mg : Str → Option Value) (base : Heap) (k : Nat) (C : Addr) (m : Str) (F : Cf → FNf) : Prop where
  ex : ∃ (f : Addr) (fd : FuncData) (ps : List Str), Cls K C ∧ Meth K C m f ∧ FnG P w K mg base CX0 k f fd ps (spF K F) ∧ L2.Binds K fd ps []
theorem MetF.met {P : Program} {w : World} {K : PySem.W.Frag} {mg : Str → Option Value} {base : Heap} {k : Nat} {C : Addr} {m : Str} {F : Cf → FNf} (M : MetF P w K mg base k C m F) : MetI P w K mg base k C m (fun C ds P => F C ds (asD P)) := by
  obtain ⟨f, fd, ps, h1, h2, h3, h4⟩ := M.ex
  exact ⟨f, fd, ps, h1, h2, h3.plain, h4⟩
/-- a def of this kind -/
structure CalF (P : Program) (w : World) (K : PySem.W.Frag) (mg : Str → Option Value) (base : Heap) (x : Str) (st : Stmt) (k : Nat) (ps : List Str) (F : Cf → FNf) : Prop where
  ex : ∃ f fd, Fun K x x st f fd ∧ FnG P w K mg base CX0 k f fd ps (spF K F) ∧ mg x = some (.ref f) ∧ L2.Binds K fd ps []
section
variable {P : Program} {w : World} {K : PySem.W.Frag} {mg : Str → Option Value} {base : Heap} {x : Str} {st : Stmt} {k : Nat} {ps : List Str} {F : Cf → FNf}
theorem calF_of {N : List Str} (d : Dfn K mg x st ps) (S : FnScope N ps (defScope st)) (len : ∀ C ds R, F C ds R → ds.length = ps.length)
    (body : ∀ (f : Addr) (cdv : Value) (A : Around) (fr : List Env) (s : Shared) (H : Hp) (E : XK), A.guards = some [] → Room k (A.deeper (envOfC x (defScope st) s.heap.objs.size f cdv)) → ∀ (C : Cf) (ds : List D) (R : Sl → Prop), F C ds R →
      ∃ ts, DSf (cxOf CX0 P w K mg base N x (defScope st) f cdv A fr s H E).nox C (defBody st) ts ∧ ts (startD N ds) R) : CalF P w K mg base x st (k + 1) ps F := by
  obtain ⟨f, fd, FF, hm, hb⟩ := d.ex
  exact ⟨f, fd, FF, def_okF FF S len (body f), hm, hb⟩
theorem CalF.cal0 (c : CalF P w K mg base x st k ps F) : Cal0 P w K mg base x st k ps (fun C ds P => F C ds (asD P)) := by
  obtain ⟨f, fd, FF, G, hm, hb⟩ := c.ex
  exact ⟨f, fd, FF, G.plain, hm, hb⟩
end
section
variable {X : Cx} {C0 : Cf} {C : Addr} {o e : Expr} {es : List Expr} {td : TD} {ta : TDs} {m x : Str} {pos apos p : Pos} {k j : Nat} {ps : List Str} {F : Cf → FNf} {st : Stmt}
theorem np_of {S : AS} {H H1 : Hp} {p : Addr} (ok : Ok C0 S H) (g : Go C0 H H1) (np : H1 p = none) : H p = none := by
  cases e : H p with
  | none => rfl
  | some q =>
    have ng : ¬ C0.G p := fun z => (ok.go g).fresh np ((ok.go g).g p z)
    rw [g.e p q ng e] at np
    cases np
/-- o.m() -/
def oMeth0 (C : Addr) (m : Str) (F : FNf) (to : TD) : TSl := fun E P => to E fun d => ∃ ks, d = .ins C ks ∧ fldOf m ks = none ∧ F [d] P
theorem df_met0 {pl : Sem Bool} (c : MetF X.prog X.w X.K X.mg X.base k C m F) (hgd : X.A.guards = some []) (hr : Room j X.A) (hk : k ≤ j) (h : DE X C0 o td)
    (ht : eval (.Call (.Attribute o m apos) [] [] pos) X.env = (do
      let ov ← eval o X.env
      standAt apos.atName
      let (f, first) ← holding [ov] (getMethod ov m pl)
      callWith pos f first (backTo pos (starEach [] X.env)) (backToKw pos (keywordEach [] X.env))) := by rfl) : DF X C0 (.Call (.Attribute o m apos) [] [] pos) (oMeth0 C m (F C0) td) := by
  obtain ⟨f, fd, ps, cl, hm, G, hbd⟩ := c.ex
  obtain ⟨te, h1, h2⟩ := h.ex
  have pe : PE X (.Call (.Attribute o m apos) [] [] pos) (fun σ H Q => te σ H fun x H1 => ∃ a dx fs, x = .ref a ∧ H1 a = some (.ins C dx fs) ∧ fs.lookup m = none ∧ spF X.K F [x] H1 Q E0) := by
    refine ⟨fun pins s σ H Q I h => PySem.W.methodCall_KW (pl := pl) (thn (h1.run pins s σ H _ I h) fun u s1 ⟨x, H1, I1, rx, a, dx, fs, ex, ea, l, q⟩ => ?_) ht⟩
    subst ex
    obtain rfl : u = Value.ref a := rx
    exact getmeth_ok I1 ea cl hm l (PySem.W.callWith_K0 (first := [.ref a]) I1.kIn hm.kp (go_fn (us := [.ref a]) (vs := [.ref a]) G hgd (hr.mono hk) hbd pass0 I1 (.cons rfl .nil) q))
  refine ⟨⟨_, pe, fun S σ H E P Q rl hp q => h2 S σ H E _ _ rl hp fun v d H1 g1 p1 v1 => ?_⟩⟩
  obtain ⟨ks, rfl, l, p1⟩ := p1
  cases v1 with
  | ins e1 k1 => exact ⟨_, _, _, rfl, same_hid _ _ e1, dk_miss k1 l, C0, S, _, P, rl.ok.go g1, .cons (.ins e1 k1) .nil, p1, fun p s H' g a np o => q p s H' (g1.trans g) a (np_of rl.ok g1 np) o⟩
/-- x(..) -/
def oCal (F : FNf) (t : TDs) : TSl := fun E P => t E fun ds => F ds P
theorem df_cal (c : CalF X.prog X.w X.K X.mg X.base x st k ps F) (hgd : X.A.guards = some []) (hr : Room j X.A) (hk : k ≤ j) (hg : Gl X x) (ha : DA X C0 (e :: es) ta) (hdb : (x == ("__debug__" : Str)) = false := by decide)
    (he : starEach (e :: es) X.env = (false, eval e X.env) :: starEach es X.env := by rfl) (hpl : (backTo pos (starEach es X.env)).any (·.1) = false := by rfl) : DF X C0 (.Call (.Name x p) (e :: es) [] pos) (oCal (F C0) ta) := by
  obtain ⟨f, fd, FF, G, hm, hb⟩ := c.ex
  obtain ⟨tr, a1, a2⟩ := ha.ex
  refine ⟨⟨_, pe_go G hgd (hr.mono hk) hg hm FF.kp hb pass0 a1 hdb he hpl, fun S σ H E P Q rl hp q => a2 S σ H E _ _ rl hp fun vs ds H1 g1 p1 v1 => ?_⟩⟩
  exact ⟨C0, S, ds, P, rl.ok.go g1, v1, p1, fun p s H' g a np o => q p s H' (g1.trans g) a (np_of rl.ok g1 np) o⟩
end
end L3
namespace L3
open PySem PySem.Spec PyProof.Rows L2

/-! ### while -/
def sWhile (c : TDb) (ts : TSd) : TSd := fun Dn ρ => ∃ W : Nat → Rho → Prop, (∃ m, W m ρ) ∧ ∀ m ρ', W m ρ' → c (frz ρ') fun b => if b = true then ∃ N : Rho → Prop, (∀ ρ2, N ρ2 → ∃ m', m' < m ∧ W m' ρ2) ∧ ts { Dn with nx := N, ct := N, bk := Dn.nx } ρ' else Dn.nx ρ'
theorem ds_while {X : Cx} {C : Cf} {c : Expr} {body : List Stmt} {uc : TDb} {ts : TSd} {pos : Pos} (hp : PassesOwn (model X.prog X.w) X.A X.env X.xe) (hc : DT X C c uc) (hb : DSs X C body ts) : DS X C (.While c body [] pos) (sWhile uc ts) := by
  obtain ⟨tc, c1, c2⟩ := hc.ex
  obtain ⟨tb, b1, b2⟩ := hb.ex
  refine ⟨⟨_, ps_while hp c1 b1, fun S0 H0 gs al ρ σ H Dn D' r hq gd => ?_⟩⟩
  obtain ⟨W, ⟨m0, w0⟩, turn⟩ := hq
  refine ⟨fun m σ H => ∃ al ρ, EnvR X.K C S0 H0 gs al ρ σ H ∧ W m ρ, ⟨m0, al, ρ, r, w0⟩, ?_⟩
  rintro m σ H ⟨al, ρ, r, w⟩
  refine c2 _ σ H _ _ _ r.relB (turn m ρ w) fun b H1 g1 p1 => ?_
  cases b with
  | false => rw [if_neg Bool.false_ne_true] at p1 ⊢; exact gd.nx al ρ σ H1 (r.go g1) p1
  | true =>
    rw [if_pos rfl] at p1 ⊢
    obtain ⟨N, h1, h2⟩ := p1
    refine ⟨fun σ' H' => ∃ al ρ, EnvR X.K C S0 H0 gs al ρ σ' H' ∧ N ρ, fun σ' H' ⟨al2, ρ2, r2, n2⟩ => ?_, ?_⟩
    · obtain ⟨m', l, w'⟩ := h1 ρ2 n2
      exact ⟨m', l, al2, ρ2, r2, w'⟩
    · exact b2 S0 H0 gs al ρ σ H1 _ _ (r.go g1) h2 ⟨fun al ρ σ H r h => ⟨al, ρ, r, h⟩, gd.rt, fun al ρ σ H r h => gd.nx al ρ σ H r h, fun al ρ σ H r h => ⟨al, ρ, r, h⟩⟩

/-! ### x.append(y.pop(e)), x and y lists of the def's own -/
def sAppPop (i j : Nat) (t : TD) : TSd := fun Dn ρ => ∃ ds es, i ≠ j ∧ ρ[i]? = some (.own ds) ∧ ρ[j]? = some (.own es) ∧ t (frz ρ) fun d => ∃ (n : Nat) (y : D), d = .int n ∧ es[n]? = some y ∧ ds.length < 100000 ∧ es.length ≤ 100000 ∧ Dn.nx ((ρ.set j (.own (es.eraseIdx n))).set i (.own (ds ++ [y])))
theorem DVs.erase {K : PySem.W.Frag} {H : Hp} : ∀ {vs : List V} {ds : List D} (n : Nat), DVs K H vs ds → DVs K H (vs.eraseIdx n) (ds.eraseIdx n)
  | _, _, _, .nil => .nil
  | _, _, 0, .cons h t => t
  | _, _, n + 1, .cons h t => .cons h (DVs.erase n t)
theorem ds_appPop {X : Cx} {C : Cf} {o l e : Expr} {td : TD} {i j : Nat} {apos cpos lpos lcp pos : Pos} (ho : PE X o (tVar i)) (hl : PE X l (tVar j)) (h : DE X C e td)
    (hb1 : attributeBase l "pop" X.env (eval l X.env) = eval l X.env := by rfl)
    (hf1 : ((backTo lcp (starEach [e] X.env)).all (fun x => !x.1) && (backToKw lcp (keywordEach [] X.env)).all (fun x => x.1.isSome) && decide (([e] : List Expr).length + ([] : List Keyword).length + (if ([] : List Keyword).isEmpty then 0 else 1) < 30)) = true := by rfl)
    (hl1 : (lpos.endLine == lcp.line) = true := by rfl) (hs1 : starEach [e] X.env = (false, eval e X.env) :: starEach [] X.env := by rfl)
    (hb2 : attributeBase o "append" X.env (eval o X.env) = eval o X.env := by rfl)
    (hf2 : ((backTo cpos (starEach [.Call (.Attribute l "pop" lpos) [e] [] lcp] X.env)).all (fun x => !x.1) && (backToKw cpos (keywordEach [] X.env)).all (fun x => x.1.isSome) && decide (([.Call (.Attribute l "pop" lpos) [e] [] lcp] : List Expr).length + ([] : List Keyword).length + (if ([] : List Keyword).isEmpty then 0 else 1) < 30)) = true := by rfl)
    (hl2 : (apos.endLine == cpos.line) = true := by rfl) (hs2 : starEach [.Call (.Attribute l "pop" lpos) [e] [] lcp] X.env = (false, eval (.Call (.Attribute l "pop" lpos) [e] [] lcp) X.env) :: starEach [] X.env := by rfl)
    (hsw : swapsWith (.Call (.Attribute o "append" apos) [.Call (.Attribute l "pop" lpos) [e] [] lcp] [] cpos) none pos.line X.env = pure false := by rfl) :
    DS X C (.Expr (.Call (.Attribute o "append" apos) [.Call (.Attribute l "pop" lpos) [e] [] lcp] [] cpos) pos) (sAppPop i j td) := by
  obtain ⟨te, h1, h2⟩ := h.ex
  have hpop := pe_bm (apos := lpos) (cpos := lcp) PySem.F.plainAttrs_list PySem.F.slot_list_pop PySem.F.type_list_pop mt_popAt hl (pa_cons h1 pa_nil hs1) hb1 hf1 hl1 hs1 rfl
  refine ⟨⟨_, ps_expr (pe_bm PySem.F.plainAttrs_list PySem.F.slot_list_append PySem.F.type_list_append mt_append ho (pa_cons hpop pa_nil hs2) hb2 hf2 hl2 hs2 rfl) hsw, fun S0 H0 gs al ρ σ H Dn D' r hp g => ?_⟩⟩
  obtain ⟨ds, es, ne, ei, ej, hp⟩ := hp
  obtain ⟨q1, vs, q2, q3⟩ := r.own i ds ei
  obtain ⟨w1, us, w2, w3⟩ := r.own j es ej
  refine ⟨_, q1, .inl ⟨rfl, vs, .inl (.inl q2)⟩, ?_⟩
  refine ⟨_, w1, .inl ⟨rfl, us, .inl (.inl w2)⟩, ?_⟩
  refine h2 _ σ H _ _ _ r.relB hp fun v d H1 g1 p1 v1 => ?_
  obtain ⟨n, y, rfl, ey, ld, le, nx⟩ := p1
  have r1 := r.go g1
  obtain ⟨_, us1, w5, w6⟩ := r1.own j es ej
  obtain ⟨yv, ey2, dy⟩ := w6.get ey
  have hn : n < us1.length := (List.getElem?_eq_some_iff.mp ey2).1
  have r1' : EnvR X.K C S0 H0 ([(yv, y)] ++ gs) al ρ σ H1 := r1.more fun x hx => by rw [List.mem_singleton.mp hx]; exact dy
  have r2 := r1'.wrOwn ej (w6.erase n)
  have ei2 : (ρ.set j (.own (es.eraseIdx n)))[i]? = some (.own ds) := by rw [List.getElem?_set_ne (Ne.symm ne)]; exact ei
  obtain ⟨_, vs2, q5, q6⟩ := r2.own i ds ei2
  have r3 := r2.wrOwn ei2 (q6.app (.cons (r2.gh _ (List.mem_append_left _ (List.mem_singleton.mpr rfl))) .nil))
  have ul : us1.length ≤ 100000 := by rw [w6.len]; exact le
  refine ⟨al j, us1, n, n, yv, rfl, by rw [v1.int_inv], w5, by omega, by omega, ?_, ey2, ?_⟩
  · unfold PySem.seqIndex?
    simp
    omega
  · exact ⟨al i, vs2, yv, rfl, rfl, q5, line_lt (by rw [q6.len]; exact ld), g.nx _ _ _ _ r3.less nx⟩
/-! ### _law_draw, whatever its names are -/
section
variable {P : Program} {w : World} {K : PySem.W.Frag} {mg : Str → Option Value} {base : Heap}
theorem ok_drawN {st : Stmt} {N ps : List Str} (d : Dfn K mg "_law_draw" st ps) (S : FnScope N ps (defScope st)) (hps : ps.length = 2)
    (body : ∀ (f : Addr) (cdv : Value) (A : Around) (fr : List Env) (s : Shared) (H : Hp) (E : XK), Room 0 (A.deeper (envOfC "_law_draw" (defScope st) s.heap.objs.size f cdv)) →
      ∀ (da ca : Addr) (many : Int) (H1 : Hp) (D' : Ends), drwI da ca H1 → 0 < many → many < 1073741824 → (∀ r H2, (∀ a, a ≠ da → a ≠ ca → H2 a = H1 a) → drwI da ca H2 → 0 ≤ r → r < many → D'.rt (.int r) H2) →
      ∃ t, PSs (cxOf CX0 P w K mg base N "_law_draw" (defScope st) f cdv A fr s H E).nox (defBody st) t ∧ t D' (L2.start N [.ref da, .int many]) H1) :
    Cal P w K mg base "_law_draw" 1 ps fDraw := by
  obtain ⟨f, fd, FF, hm, hb⟩ := d.ex
  refine ⟨f, fd, FF.okG S (fun vs H Q E ⟨C, S, ds, R, _, hv, ⟨da, ca, many, _, e, _⟩, _⟩ => by rw [hv.len, e, hps]; rfl) (fun cdv A fr s H vs Q E hgd hr ⟨C, S1, ds, R, ok, hv, ⟨da, ca, many, e1, e2, m0, m1, hR⟩, q⟩ => ?_), hm, FF.kp, hb⟩
  subst e1 e2
  obtain ⟨v, u, rfl, h1, h2⟩ := two_dv hv
  obtain rfl := h1.op_inv
  obtain rfl := h2.int_inv
  obtain ⟨t, t1, t2⟩ := body f cdv A fr s H E hr da ca.a many H { nx := fun _ H' => Q .non H', rt := Q } ok.i.1 m0 m1 fun r H2 hk hi r0 r1 => q _ _ H2 (drw_go ok.i hk hi) (hR r r0 r1) (.int r)
  exact ⟨t, t1.nox, t2⟩
end
end L3
namespace L3
open PySem PySem.Spec PyProof.Rows L2

/-! ### runs over a list of other things -/
theorem lc_list {α : Type} {tg : TGe} {te : TD} {E : En} (f g : α → D) : ∀ (l : List α) (acc : List D) (P : List D → Prop), (∀ a ∈ l, ∀ Q : D → Prop, Q (g a) → tg (f a) E fun E' => te E' Q) → (∀ d E (P Q : En → Prop), (∀ E', P E' → Q E') → tg d E P → tg d E Q) → P (acc ++ l.map g) → lcRun tg bYes te E (l.map f) acc P
  | [], acc, P, _, _, hp => by simpa [lcRun] using hp
  | a :: r, acc, P, h, mono, hp => by
    refine mono (f a) E _ _ (fun E' z => ?_) (h a List.mem_cons_self (fun y => lcRun tg bYes te E (r.map f) (acc ++ [y]) P) (lc_list f g r _ P (fun d hd => h d (List.mem_cons_of_mem _ hd)) mono (by simpa using hp)))
    show (if true = true then te E' (fun y => lcRun tg bYes te E (r.map f) (acc ++ [y]) P) else lcRun tg bYes te E (r.map f) acc P)
    rw [if_pos rfl]
    exact z
theorem lc_listF {α : Type} {tg : TGe} {tt : TDb} {te : TD} {E : En} (c : α → Bool) (f g : α → D) : ∀ (l : List α) (acc : List D) (P : List D → Prop), (∀ a ∈ l, ∀ Q : D → Prop, ∀ R : Prop, (c a = true → Q (g a)) → (c a = false → R) → tg (f a) E fun E' => tt E' fun b => if b = true then te E' Q else R) → P (acc ++ (l.filter c).map g) → lcRun tg tt te E (l.map f) acc P
  | [], acc, P, _, hp => by simpa [lcRun] using hp
  | d :: r, acc, P, h, hp => by
    refine h d List.mem_cons_self (fun y => lcRun tg tt te E (r.map f) (acc ++ [y]) P) _ (fun e => ?_) (fun e => ?_)
    · exact lc_listF c f g r _ P (fun d hd => h d (List.mem_cons_of_mem _ hd)) (by simpa [List.filter_cons, e] using hp)
    · exact lc_listF c f g r _ P (fun d hd => h d (List.mem_cons_of_mem _ hd)) (by simpa [List.filter_cons, e] using hp)
theorem nms_mono : ∀ (is : List Nat) (ds : List D) (E : En) (P Q : En → Prop), (∀ E', P E' → Q E') → geNms is ds E P → geNms is ds E Q
  | [], [], _, _, _, h, z => h _ z
  | [], _ :: _, _, _, _, _, z => z.elim
  | _ :: _, [], _, _, _, _, z => z.elim
  | i :: is, d :: ds, E, P, Q, h, z => nms_mono is ds (E.set i (some d)) P Q h z
theorem gtp_mono (is : List Nat) : ∀ (d : D) (E : En) (P Q : En → Prop), (∀ E', P E' → Q E') → geTp is d E P → geTp is d E Q := fun d E P Q h ⟨ds, e, z⟩ => ⟨ds, e, nms_mono is ds E P Q h z⟩
end L3
namespace L3
open PySem PySem.Spec PyProof.Rows L2

/-! ### a, b = e where own lists are read: they stay as they are from here on -/
def sAsgZ (t : TD) (g : TGd) : TSd := fun Dn ρ => t (frz ρ) fun d => g d (thaw ρ) Dn.nx
theorem ds_asgZ {X : Cx} {C : Cf} {tg e : Expr} {td : TD} {g : TGd} {pos : Pos} (h : DE X C e td) (hg : DG X C tg g) (hs : swapsWithSole [tg] e pos.line X.env = pure false := by rfl) (hw : swappedStores [tg] e X.env = pure none := by rfl)
    (ha : (assignEach [tg] X.env).map (·.2) = [assign tg X.env] := by rfl) : DS X C (.Assign [tg] e pos) (sAsgZ td g) := by
  obtain ⟨te, h1, h2⟩ := h.ex
  obtain ⟨gg, g1, g2⟩ := hg.ex
  refine ⟨⟨_, ps_asg h1 g1 hs hw ha, fun S0 H0 gs al ρ σ H Dn D' r hp q => h2 _ σ H _ _ _ r.relB hp fun v d H1 gg1 p1 v1 => ?_⟩⟩
  exact g2 S0 H0 gs al (thaw ρ) σ H1 v d _ _ (r.go gg1).thaw (v1.mono vol_thaw) p1 fun ρ' σ' r' p' => q.nx al ρ' σ' H1 r' p'
theorem thaw_cons (s : Sl) (ρ : Rho) : thaw (s :: ρ) = thaw1 s :: thaw ρ := rfl
theorem thaw_nil : thaw [] = [] := rfl

/-! ### a bool among bools -/
def fInB (n : Bool) : F2
  | .bl x, .lst ds, P => ∃ xs : List Bool, ds = xs.map D.bl ∧ P (.bl (n != decide (x ∈ xs)))
  | _, _, _ => False
theorem inV_bls (x : Bool) : ∀ xs : List Bool, inV (.bl x) (xs.map V.bl) = decide (x ∈ xs)
  | [] => rfl
  | y :: r => by
    have ih := inV_bls x r
    unfold inV at ih ⊢
    rw [List.map_cons, List.any_cons, ih]
    have e : eqV (V.bl y) (V.bl x) = decide (x = y) := by cases x <;> cases y <;> rfl
    rw [e]
    by_cases h : x = y
    · subst h; simp
    · simp [h]
theorem flat_bls : ∀ xs : List Bool, (xs.map V.bl).all flatV = true
  | [] => rfl
  | x :: r => by rw [List.map_cons, List.all_cons, flat_bls r]; rfl
theorem od_inB {K : PySem.W.Frag} {C : Cf} {n : Bool} : OpD K C (rIn K n) (fInB n) := by
  intro S H x y a b P Q ok hx hy h q
  cases a with
  | bl z => cases b with
    | lst ds =>
      obtain ⟨xs, rfl, h⟩ := h
      obtain ⟨p, vs, rfl, e, hv⟩ := two_lists ok hy
      obtain rfl := hv.bls
      rw [hx.bl_inv]
      refine ⟨p, _, rfl, .inl (.inl (.inl e)), rfl, flat_bls xs, ?_⟩
      have e : (if n then !inV (.bl z) (xs.map V.bl) else inV (.bl z) (xs.map V.bl)) = (n != decide (z ∈ xs)) := by
        rw [inV_bls]
        cases n <;> simp
      rw [e]
      exact q _ _ H (Go.refl ok) h (.bl _)
    | _ => exact h.elim
  | _ => exact h.elim
/-! ### sorted data that are sorted stay as they are -/
theorem sortD_of {ds : List D} (h : ds.Pairwise fun a b => leD a b = true) : sortD ds = ds := by
  unfold sortD
  first
    | exact List.mergeSort_of_pairwise h
    | exact List.mergeSort_of_sorted h
theorem leD_pair {a b x y : Str} (h : ltS a b ∨ (a = b ∧ ¬ ltS y x)) : leD (.tup [.str a, .str x]) (.tup [.str b, .str y]) = true := by
  unfold leD
  simp only [toP, toPs]
  rw [PySem.W.dataLt_pair (by simp [PySem.W.alike]) (by simp [PySem.W.alike])]
  by_cases e : b = a
  · subst e
    have e1 : PyData.eqv (.str b) (.str b) = true := by simp [PyData.eqv]
    rw [e1, if_pos rfl]
    have h2 : ¬ ltS y x := by
      rcases h with h | h
      · exact (ltS_irrefl _ h).elim
      · exact h.2
    cases e2 : PyData.eqv (.str y) (.str x) with
    | true => rfl
    | false =>
      rw [if_neg Bool.false_ne_true, PySem.W.dataLt_str, Bool.not_eq_true', decide_eq_false_iff_not]
      exact h2
  · have e1 : PyData.eqv (.str b) (.str a) = false := by simpa [PyData.eqv] using e
    rw [e1, if_neg Bool.false_ne_true, PySem.W.dataLt_str, Bool.not_eq_true', decide_eq_false_iff_not]
    rcases h with h | h
    · exact fun z => ltS_asymm h z
    · exact absurd h.1.symm e
/-- pairs of texts can be sorted -/
theorem srt_pairs (L : List (Str × Str)) : SrtOk (L.map fun p => D.tup [.str p.1, .str p.2]) := by
  have sh : ∀ d ∈ (L.map fun p => D.tup [.str p.1, .str p.2]).map toP, ∃ x y : Str, d = .tuple [.str x, .str y] := fun d hd => by
    obtain ⟨e, he, rfl⟩ := List.mem_map.mp hd
    obtain ⟨p, _, rfl⟩ := List.mem_map.mp he
    exact ⟨p.1, p.2, by simp only [toP, toPs]⟩
  refine ⟨fun d hd => ?_, fun d hd d' hd' => ?_, .inl fun d hd => ?_⟩
  · obtain ⟨p, _, rfl⟩ := List.mem_map.mp hd
    simp only [pl, pls, toP, toPs, PyData.depth, PyData.depthAll, Bool.and_self]
    exact ⟨trivial, by decide⟩
  · obtain ⟨x, y, rfl⟩ := sh d hd
    obtain ⟨x', y', rfl⟩ := sh d' hd'
    simp [PySem.W.alike, PySem.W.alikeAll]
  · obtain ⟨x, y, rfl⟩ := sh d hd
    exact ⟨_, _, rfl⟩
end L3
namespace L3
open PySem PySem.Spec PyProof.Rows L2

/-! ### dicts as data: read, looked into, walked -/
def dicOf : D → Option (List (Key × D))
  | .dic k => some k
  | .dcf _ k => some k
  | _ => none
theorem dic_rd {K : PySem.W.Frag} {H : Hp} {S : AS} {v : V} {d : D} {kvs : List (Key × D)} (h : DV K (hid H S) v d) (e : dicOf d = some kvs) : ∃ a ks, v = .ref a ∧ Rd H a (.dK ks) ∧ DKs K (hid H S) ks kvs := by
  cases h with
  | dic e1 h1 => cases e; exact ⟨_, _, rfl, .inl (same_hid _ _ e1), h1⟩
  | dcf e1 h1 => cases e; exact ⟨_, _, rfl, .inr ⟨_, same_hid _ _ e1⟩, h1⟩
  | non => cases e
  | bl _ => cases e
  | int _ => cases e
  | str _ => cases e
  | lst _ _ => cases e
  | tup _ _ => cases e
  | scr _ => cases e
  | op _ => cases e
  | ins _ _ => cases e
  | exc _ _ _ => cases e
  | exc0 _ => cases e
  | sem _ _ => cases e
def getK (kvs : List (Key × D)) (k : Key) : Option D := (kvs.find? fun kv => decide (kv.1 = k)).map (·.2)
theorem getK_dk {K : PySem.W.Frag} {H : Hp} (k : Key) : ∀ {vs : List (Key × V)} {ds : List (Key × D)}, DKs K H vs ds → (valV vs k = none ∧ getK ds k = none) ∨ ∃ v d, valV vs k = some v ∧ getK ds k = some d ∧ DV K H v d
  | _, _, .nil => .inl ⟨rfl, rfl⟩
  | _, _, .cons (k := k') (v := v) (d := d) h t => by
    unfold valV getK
    rw [List.find?_cons, List.find?_cons]
    by_cases e : k' = k
    · rw [decide_eq_true e]
      exact .inr ⟨v, d, rfl, rfl, h⟩
    · rw [decide_eq_false e]
      exact getK_dk k t
def keyV : Key → D
  | .inl i => .int i
  | .inr x => .str x
theorem keyV_dv {K : PySem.W.Frag} {H : Hp} (k : Key) : DV K H (kV k) (keyV k) := by
  cases k with
  | inl i => exact .int i
  | inr x => exact .str x
theorem keyV_key (k : Key) : keyD (keyV k) = some k := by cases k <;> rfl
def dDGet (ta tb : TD) : TD := fun E P => ta E fun x => tb E fun y => ∃ kvs k d, dicOf x = some kvs ∧ keyD y = some k ∧ getK kvs k = some d ∧ P d
def dDIn (n : Bool) (ty td : TD) : TD := fun E P => ty E fun y => td E fun x => ∃ kvs k, dicOf x = some kvs ∧ keyD y = some k ∧ P (.bl (n != (getK kvs k).isSome))
section
variable {X : Cx} {C : Cf} {o i : Expr} {ta tb : TD} {pos : Pos}
theorem de_dget (hu : X.A.units + 64 < cLine) (ha : DE X C o ta) (hb : DE X C i tb) (hs : NoSl i := by exact fun _ _ => rfl) : DE X C (.Subscript o i pos) (dDGet ta tb) := by
  obtain ⟨ua, a1, a2⟩ := ha.ex
  obtain ⟨ub, b1, b2⟩ := hb.ex
  refine ⟨⟨_, pe_dget (by omega) a1 b1 hs, fun S σ H E P Q r hp q => ?_⟩⟩
  refine a2 S σ H E _ _ r hp fun x dx H1 g1 p1 hx => ?_
  refine b2 S σ H1 E _ _ (r.go g1) p1 fun y dy H2 g2 p2 hy => ?_
  obtain ⟨kvs, k, d, e1, e2, e3, p⟩ := p2
  have ok1 := r.ok.go g1
  obtain ⟨a, ks, rfl, rd, dk⟩ := dic_rd (hx.mono (g2.vis ok1)) e1
  have ey := key_inv hy e2
  subst ey
  rcases getK_dk k dk with ⟨_, z⟩ | ⟨v, d', z1, z2, z3⟩
  · rw [z] at e3; cases e3
  · rw [z2] at e3; cases e3
    exact ⟨a, v, rfl, .inl ⟨ks, k, rd, rfl, z1.symm⟩, q v d H2 (g1.trans g2) p z3⟩
theorem ev_din {n : Bool} {ua ub : TE} (a2 : EvD X.K C ua ta) (b2 : EvD X.K C ub tb) : EvD X.K C (fun σ H Q => ua σ H fun y H1 => ub σ H1 fun x H2 => ∃ a o, x = .ref a ∧ DGet H2 a y o ∧ Q (.bl (n != o.isSome)) H2) (dDIn n ta tb) := by
  intro S σ H E P Q r hp q
  refine a2 S σ H E _ _ r hp fun y dy H1 g1 p1 hy => ?_
  refine b2 S σ H1 E _ _ (r.go g1) p1 fun x dx H2 g2 p2 hx => ?_
  obtain ⟨kvs, k, e1, e2, p⟩ := p2
  obtain ⟨a, ks, rfl, rd, dk⟩ := dic_rd hx e1
  have ey := key_inv hy e2
  subst ey
  have e3 : (valV ks k).isSome = (getK kvs k).isSome := by
    rcases getK_dk k dk with ⟨z1, z2⟩ | ⟨v, d, z1, z2, _⟩
    · rw [z1, z2]; rfl
    · rw [z1, z2]; rfl
  exact ⟨a, _, rfl, .inl ⟨ks, k, rd, rfl, rfl⟩, q _ _ H2 (g1.trans g2) p (by rw [e3]; exact .bl _)⟩
theorem in_t {ty td : TE} : tDIn ty td = fun σ H Q => ty σ H fun y H1 => td σ H1 fun x H2 => ∃ a o, x = .ref a ∧ DGet H2 a y o ∧ Q (.bl (false != o.isSome)) H2 := by
  unfold tDIn
  simp only [Bool.false_bne]
theorem notin_t {ty td : TE} : tDNotIn ty td = fun σ H Q => ty σ H fun y H1 => td σ H1 fun x H2 => ∃ a o, x = .ref a ∧ DGet H2 a y o ∧ Q (.bl (true != o.isSome)) H2 := by
  unfold tDNotIn
  simp only [Bool.true_bne]
theorem de_din (hu : X.A.units + 64 < cLine) (ha : DE X C i ta) (hb : DE X C o tb) (hm : behindInMarks .In o = false := by first | exact nobehind _ (by decide) (by decide) | rfl) : DE X C (.Compare i [.In] [o] pos) (dDIn false ta tb) := by
  obtain ⟨ua, a1, a2⟩ := ha.ex
  obtain ⟨ub, b1, b2⟩ := hb.ex
  exact ⟨⟨_, pe_cmp (in_t ▸ pc_din (by omega) a1 b1) hm, ev_din a2 b2⟩⟩
theorem de_dnotin (hu : X.A.units + 64 < cLine) (ha : DE X C i ta) (hb : DE X C o tb) (hm : behindInMarks .NotIn o = false := by first | exact nobehind _ (by decide) (by decide) | rfl) : DE X C (.Compare i [.NotIn] [o] pos) (dDIn true ta tb) := by
  obtain ⟨ua, a1, a2⟩ := ha.ex
  obtain ⟨ub, b1, b2⟩ := hb.ex
  exact ⟨⟨_, pe_cmp (notin_t ▸ pc_dnotin (by omega) a1 b1) hm, ev_din a2 b2⟩⟩
theorem dt_din (hu : X.A.units + 64 < cLine) (ha : DE X C i ta) (hb : DE X C o tb) (hm : behindInMarks .In o = false := by first | exact nobehind _ (by decide) (by decide) | rfl) : DT X C (.Compare i [.In] [o] pos) (dB (dDIn false ta tb)) := by
  obtain ⟨ua, a1, a2⟩ := ha.ex
  obtain ⟨ub, b1, b2⟩ := hb.ex
  exact ⟨⟨_, pt_cmp (in_t ▸ pc_din (by omega) a1 b1) hm, ev_test (ev_din a2 b2)⟩⟩
theorem dt_dnotin (hu : X.A.units + 64 < cLine) (ha : DE X C i ta) (hb : DE X C o tb) (hm : behindInMarks .NotIn o = false := by first | exact nobehind _ (by decide) (by decide) | rfl) : DT X C (.Compare i [.NotIn] [o] pos) (dB (dDIn true ta tb)) := by
  obtain ⟨ua, a1, a2⟩ := ha.ex
  obtain ⟨ub, b1, b2⟩ := hb.ex
  exact ⟨⟨_, pt_cmp (notin_t ▸ pc_dnotin (by omega) a1 b1) hm, ev_test (ev_din a2 b2)⟩⟩
end

/-! ### sorted(d), list(d) -/
def keysD (kvs : List (Key × D)) : List D := kvs.map fun kv => keyV kv.1
theorem keys_dv {K : PySem.W.Frag} {H H' : Hp} : ∀ {vs : List (Key × V)} {ds : List (Key × D)}, DKs K H vs ds → DVs K H' (vs.map fun kv => kV kv.1) (keysD ds)
  | _, _, .nil => .nil
  | _, _, .cons (k := k) h t => .cons (keyV_dv k) (keys_dv t)
theorem keys_eq {K : PySem.W.Frag} {H : Hp} : ∀ {vs : List (Key × V)} {ds : List (Key × D)}, DKs K H vs ds → vs.map (·.1) = ds.map (·.1)
  | _, _, .nil => rfl
  | _, _, .cons h t => by rw [List.map_cons, List.map_cons, keys_eq t]
def fSortK : FN
  | [d], P => ∃ kvs xs, dicOf d = some kvs ∧ kvs.map (·.1) = xs.map Sum.inr ∧ xs.length < 64 ∧ ∀ ys : List Str, ys.Perm xs → sortedS ys = true → P (.lst (ys.map D.str))
  | _, _ => False
theorem one_of {α : Type} {l : List α} (h : l.length = 1) : ∃ a, l = [a] := match l, h with | [a], _ => ⟨a, rfl⟩
theorem fSortK_one {ds : List D} {P : D → Prop} (h : fSortK ds P) : ∃ d, ds = [d] := by
  unfold fSortK at h
  split at h
  · exact ⟨_, rfl⟩
  · exact h.elim
def rSortK : List V → Hp → VK → Prop := fun xs H Q => ∃ (a : Addr) (kvs : List (Key × V)) (ks : List Str), xs = [.ref a] ∧ Rd H a (.dK kvs) ∧ kvs.map (·.1) = ks.map Sum.inr ∧ ks.length < 64 ∧
    ∀ ys p, ys.Perm ks → sortedS ys = true → H p = none → Q (.ref p) (upd H p (.lst (ys.map V.str)))
theorem cd_sortK {K : PySem.W.Frag} {C : Cf} : CallD K C rSortK fSortK := by
  intro S H vs ds P Q ok hv h q
  obtain ⟨d, rfl⟩ := fSortK_one h
  obtain ⟨kvs, xs, e1, e2, e3, h⟩ := h
  obtain ⟨v, rfl, hd⟩ := one_dv hv
  obtain ⟨a, ks, rfl, rd, dk⟩ := dic_rd hd e1
  exact ⟨a, ks, xs, rfl, rd, (keys_eq dk).trans e2, e3, fun ys p hp hs np => q_list ok (DVs.of_strs ys) (h ys hp hs) q p np⟩
def fListK : FN
  | [d], P => ∃ kvs, dicOf d = some kvs ∧ P (.lst (keysD kvs))
  | _, _ => False
theorem fListK_one {ds : List D} {P : D → Prop} (h : fListK ds P) : ∃ d, ds = [d] := by
  unfold fListK at h
  split at h
  · exact ⟨_, rfl⟩
  · exact h.elim
def rListK : List V → Hp → VK → Prop := fun xs H Q => ∃ (a : Addr) (kvs : List (Key × V)), xs = [.ref a] ∧ Rd H a (.dK kvs) ∧ ∀ p, H p = none → Q (.ref p) (upd H p (.lst (kvs.map fun kv => kV kv.1)))
theorem cd_listK {K : PySem.W.Frag} {C : Cf} : CallD K C rListK fListK := by
  intro S H vs ds P Q ok hv h q
  obtain ⟨d, rfl⟩ := fListK_one h
  obtain ⟨kvs, e1, h⟩ := h
  obtain ⟨v, rfl, hd⟩ := one_dv hv
  obtain ⟨a, ks, rfl, rd, dk⟩ := dic_rd hd e1
  exact ⟨a, ks, rfl, rd, fun p np => q_list ok (keys_dv dk) h q p np⟩

/-! ### new dicts that stay as they are -/
theorem pe_fz {X : Cx} {e : Expr} {t : TE} (h : PE X e t) : PE X e (fun σ H Q => t σ H fun v H' => (∃ p u, v = .ref p ∧ H' p = some u ∧ Mut (some u) ∧ ∀ od, Q v (upd H' p (.frz od u))) ∨ Q v H') := by
  refine ⟨fun pins s σ H Q I hw => ?_⟩
  refine thn (h.run pins s σ H _ I hw) fun v s1 ⟨x, H1, I1, r, q⟩ => ?_
  rcases q with ⟨p, u, rfl, hp, mu, q⟩ | q
  · obtain ⟨od, I2⟩ := I1.lock hp mu
    exact ⟨_, _, I2, r, q od⟩
  · exact ⟨x, H1, I1, r, q⟩
def dFz (tf : TSl) : TD := fun E P => tf E fun s => match s with
  | .owd kvs => ∀ w : Fz, P (.dcf w kvs)
  | .own ds => P (.lst ds)
  | _ => False
theorem de_fz {X : Cx} {C : Cf} {e : Expr} {tf : TSl} (h : DF X C e tf) : DE X C e (dFz tf) := by
  obtain ⟨te, h1, h2⟩ := h.ex
  refine ⟨⟨_, pe_fz h1, fun S σ H E P Q r hp q => ?_⟩⟩
  refine h2 S σ H E _ _ r hp fun p s H1 g1 p1 np o1 => ?_
  have nS : ¬ S p := r.ok.fresh np
  have nG : ¬ C.G p := fun z => nS (r.ok.g p z)
  have sub : Same (hid H1 (ext1 S p)) (hid H1 S) := same_hid_sub fun a h => .inl h
  cases s with
  | own ds =>
    obtain ⟨ws, e1, e2⟩ := o1
    exact .inr (q _ _ H1 g1 p1 (.lst (hid_some.mpr ⟨nS, e1⟩) (e2.mono sub)))
  | owd kvs =>
    obtain ⟨ws, e1, e2⟩ := o1
    refine .inl ⟨p, _, rfl, e1, True.intro, fun od => q _ (.dcf (fun _ => ⟨od, ws⟩) kvs) _ ⟨fun a o ga e => ?_, C.loc H1 _ (fun a ga => upd_ne (fun z => nG (z ▸ ga))) (upd_ext fun φ z => by rw [e1] at z; cases z) g1.i⟩ (p1 _) (.dcf (hid_some.mpr ⟨nS, upd_same⟩) (e2.mono fun a o z => ?_))⟩
    · rw [upd_ne (ne_of_none e np)]; exact g1.e a o ga e
    · obtain ⟨z1, z2⟩ := hid_some.mp z
      exact hid_some.mpr ⟨fun t => z1 (.inl t), by rw [upd_ne (fun t => z1 (.inr t))]; exact z2⟩
  | no => exact p1.elim
  | dat d => exact p1.elim

/-! ### dict(xs) of pairs -/
def pairV (kv : Key × D) : D := .tup [keyV kv.1, kv.2]
def mergeD (kvs : List (Key × D)) : List (Key × D) := kvs.foldl (fun acc kv => putD acc kv.1 kv.2) []
theorem pairs_dv {K : PySem.W.Frag} {H : Hp} {S : AS} : ∀ {kvs : List (Key × D)} {vs : List V}, DVs K (hid H S) vs (kvs.map pairV) → ∃ (ps : List Addr) (ks : List (Key × V)), vs = ps.map V.ref ∧ Paired (fun p kv => SqT K H p [kV kv.1, kv.2]) ps ks ∧ DKs K (hid H S) ks kvs
  | [], vs, h => by cases h; exact ⟨[], [], rfl, .nil, .nil⟩
  | (k, d) :: kvs, vs, h => by
    cases h with
    | cons h t =>
      obtain ⟨ps, ks, rfl, h2, h3⟩ := pairs_dv t
      cases h with
      | @tup a ws ds e hw =>
        obtain ⟨x, y, rfl, hx, hy⟩ := two_dv hw
        have ex := key_inv hx (keyV_key k)
        subst ex
        exact ⟨a :: ps, (k, y) :: ks, rfl, .cons (e.mono same_hid).sq h2, .cons hy h3⟩
def oDicOf (t : TDs) : TSl := fun E P => t E fun ds => ∃ kvs : List (Key × D), ds = [.lst (kvs.map pairV)] ∧ P (.owd (mergeD kvs))
theorem boot_dict : bootBuiltins "dict" = some (.type "dict") := by decide +kernel
theorem df_dicOf {X : Cx} {C : Cf} {e : Expr} {tds : TDs} {pos p' : Pos} (hc : X.calm = true) (hg : Gl X "dict") (hm : X.mg "dict" = none) (ha : DA X C [e] tds) (he : starEach [e] X.env = (false, eval e X.env) :: starEach [] X.env := by rfl) (hpl : (backTo pos (starEach [] X.env)).any (·.1) = false := by rfl) :
    DF X C (.Call (.Name "dict" p') [e] [] pos) (oDicOf tds) := by
  obtain ⟨ta, h1, h2⟩ := ha.ex
  refine ⟨⟨_, pe_callTy (call_dictP hc) hg hm boot_dict h1 (by decide) (by decide) he hpl, fun S σ H E P Q r hp q => ?_⟩⟩
  refine h2 S σ H E _ _ r hp fun vs ds H1 g1 p1 v1 => ?_
  obtain ⟨kvs, rfl, p1⟩ := p1
  have ok1 := r.ok.go g1
  obtain ⟨v, rfl, hd⟩ := one_dv v1
  obtain ⟨a, ws, rfl, e, hw⟩ := two_lists ok1 hd
  obtain ⟨ps, ks, rfl, h2, h3⟩ := pairs_dv hw
  refine ⟨a, ps, ks, rfl, .inl (.inl e), h2, fun l nl => ?_⟩
  have gn : Go C H1 (upd H1 l (.dK (mergeK [] ks))) := Go.new ok1 nl
  have nl0 : H l = none := by
    cases e : H l with
    | none => rfl
    | some o => rw [g1.e l o (fun z => ok1.fresh nl (ok1.g l z)) e] at nl; cases nl
  exact q l _ _ (g1.trans gn) p1 nl0 ⟨_, upd_same, (merge_dk h3 .nil).mono (same_ext1 ok1 nl gn)⟩

/-! ### the keys of a dict, one by one -/
def iKy (t : TD) : TDs := fun E P => t E fun d => ∃ w kvs, d = .dcf w kvs ∧ P (keysD kvs)
theorem walkD_keys {K : PySem.W.Frag} {C : Cf} {a : Addr} {w : Fz} {kvs : List (Key × D)} : WalkD K C (Itk a (w ()).o (w ()).ks) (keysD kvs) [(.ref a, .dcf w kvs)] := by
  have get : ∀ {S H}, GsOk K H S [(.ref a, .dcf w kvs)] → H a = some (.frz (w ()).o (.dK (w ()).ks)) ∧ DKs K (hid H S) (w ()).ks kvs := fun g => by
    have h := g _ List.mem_cons_self
    cases h with
    | dcf e h => exact ⟨same_hid _ _ e, h⟩
  have hl : (keysD kvs).length = kvs.length := List.length_map _
  refine ⟨fun S i H ok g hi => ?_, fun S H ok g => ?_, fun S i H x H' ok g hi y => ?_⟩
  · obtain ⟨h1, h2⟩ := get g
    exact ⟨h1, by rw [h2.len, ← hl]; exact hi⟩
  · obtain ⟨h1, h2⟩ := get g
    exact ⟨h1, by rw [h2.len, ← hl]; exact Nat.le_refl _⟩
  · obtain ⟨h1, h2⟩ := get g
    obtain ⟨e, k, v, e2, rfl⟩ := y
    subst e
    have h3 : ((w ()).ks.map fun kv => kV kv.1)[i]? = some (kV k) := by rw [List.getElem?_map, e2]; rfl
    obtain ⟨d, h4, h5⟩ := (keys_dv (H' := hid H' S) h2).getV h3
    exact ⟨d, h4, Go.refl ok, h5⟩
theorem di_keys {X : Cx} {C : Cf} {tg e : Expr} {td : TD} (h : DE X C e td) : DI X C tg e (iKy td) := by
  obtain ⟨te, h1, h2⟩ := h.ex
  refine ⟨⟨_, pi_keys h1, fun S σ H E P R rl hp q => h2 S σ H E _ _ rl hp fun v d H1 g1 p1 v1 => ?_⟩⟩
  obtain ⟨w, kvs, rfl, p2⟩ := p1
  cases v1 with
  | @dcf a w ks e1 h => exact ⟨a, _, rfl, .inl ⟨_, same_hid _ _ e1, q _ (keysD kvs) [(.ref a, .dcf w kvs)] H1 g1 p2 (fun x hx => by rw [List.mem_singleton.mp hx]; exact .dcf e1 h) walkD_keys⟩⟩
end L3
namespace L3
open PySem PySem.Spec PyProof.Rows L2

/-! ### a dict of the def's own: d[k] = v, and what makes it stay as it is -/
section
variable {K : PySem.W.Frag} {C : Cf} {S0 : AS} {H0 H H' : Hp} {gs : Gs} {al : Nat → Addr} {ρ : Rho} {σ : L2.St}
/-- the own dict of a slot is changed -/
theorem EnvR.wrOwd (r : EnvR K C S0 H0 gs al ρ σ H) {i : Nat} {ds0 ds : List (Key × D)} {vs : List (Key × V)} (e0 : ρ[i]? = some (.owd ds0)) (h : DKs K (hid H (Vol S0 al ρ)) vs ds) :
    EnvR K C S0 H0 gs al (ρ.set i (.owd ds)) σ (upd H (al i) (.dK vs)) := by
  have oi : ownAt ρ i := ⟨_, e0, rfl⟩
  have ng := r.notG oi
  have hl : i < ρ.length := (List.getElem?_eq_some_iff.mp e0).1
  have oo : ∀ {j}, ownAt (ρ.set i (.owd ds)) j → ownAt ρ j := fun h => by
    rcases ownAt_set h with ⟨rfl, z, _⟩ | ⟨_, z⟩
    · exact oi
    · exact z
  have sub : Same (hid H (Vol S0 al ρ)) (hid (upd H (al i) (.dK vs)) (Vol S0 al (ρ.set i (.owd ds)))) := fun a o q => by
    obtain ⟨q1, q2⟩ := hid_some.mp q
    have na : a ≠ al i := fun z => q1 (.inr ⟨i, oi, z.symm⟩)
    refine hid_some.mpr ⟨fun z => ?_, by rw [upd_ne na]; exact q2⟩
    rcases z with z | ⟨j, z, e⟩
    · exact q1 (.inl z)
    · exact q1 (.inr ⟨j, oo z, e⟩)
  have i2 : C.I (upd H (al i) (.dK vs)) := C.loc H _ (fun a ga => upd_ne (fun z => ng (z ▸ ga))) (upd_ext fun φ z => by obtain ⟨_, _, y, _⟩ := r.owd i _ e0; rw [y] at z; cases z) r.ok.i
  refine ⟨by simp [r.len], ⟨i2, r.ok.g, fun a ha => ?_⟩, fun a o ga e => ?_, r.old, fun j e q => ?_, fun j e q => ?_, fun j e q => ?_, fun j q => r.new j (oo q), fun j k a b e => r.inj j k (oo a) (oo b) e, fun x hx => (r.gh x hx).mono sub⟩
  · by_cases z : a = al i
    · subst z; rw [upd_same]; intro z; cases z
    · rw [upd_ne z]; exact r.ok.l a ha
  · have z : a ≠ al i := fun z => by rw [z, r.new i oi] at e; cases e
    rw [upd_ne z]; exact r.ext a o ga e
  · rcases set_at q with ⟨rfl, hl, z⟩ | ⟨ne, z⟩
    · cases z
    · obtain ⟨w, h1, h2⟩ := r.dat j e z
      exact ⟨w, h1, h2.mono sub⟩
  · rcases set_at q with ⟨rfl, hl, z⟩ | ⟨ne, z⟩
    · cases z
    · obtain ⟨h1, w, h2, h3⟩ := r.own j e z
      exact ⟨h1, w, by rw [upd_ne (fun z' => ne (r.inj j i ⟨_, z, rfl⟩ oi z').symm)]; exact h2, h3.mono sub⟩
  · rcases set_at q with ⟨rfl, hl, z⟩ | ⟨ne, z⟩
    · cases z
      exact ⟨(r.owd i ds0 e0).1, vs, upd_same, h.mono sub⟩
    · obtain ⟨h1, w, h2, h3⟩ := r.owd j e z
      exact ⟨h1, w, by rw [upd_ne (fun z' => ne (r.inj j i ⟨_, z, rfl⟩ oi z').symm)]; exact h2, h3.mono sub⟩

/-- the own dict of a slot becomes a datum that stays as it is -/
theorem EnvR.frzOwd (r : EnvR K C S0 H0 gs al ρ σ H) {i : Nat} {kvs : List (Key × D)} (e0 : ρ[i]? = some (.owd kvs)) : ∃ ks, H (al i) = some (.dK ks) ∧ ∀ od, EnvR K C S0 H0 gs al (ρ.set i (.dat (.dcf (fun _ => ⟨od, ks⟩) kvs))) σ (upd H (al i) (.frz od (.dK ks))) := by
  have oi : ownAt ρ i := ⟨_, e0, rfl⟩
  have ng := r.notG oi
  have hl : i < ρ.length := (List.getElem?_eq_some_iff.mp e0).1
  obtain ⟨o1, ks, o2, o3⟩ := r.owd i kvs e0
  refine ⟨ks, o2, fun od => ?_⟩
  have oo : ∀ {j}, ownAt (ρ.set i (.dat (.dcf (fun _ => ⟨od, ks⟩) kvs))) j → ownAt ρ j ∧ i ≠ j := fun h => by
    rcases ownAt_set h with ⟨_, z, _⟩ | ⟨n, z⟩
    · cases z
    · exact ⟨z, n⟩
  have nv : ¬ Vol S0 al (ρ.set i (.dat (.dcf (fun _ => ⟨od, ks⟩) kvs))) (al i) := by
    rintro (z | ⟨j, z, e⟩)
    · exact r.old _ z (r.new i oi)
    · exact (oo z).2 (r.inj j i (oo z).1 oi e).symm
  have sub : Same (hid H (Vol S0 al ρ)) (hid (upd H (al i) (.frz od (.dK ks))) (Vol S0 al (ρ.set i (.dat (.dcf (fun _ => ⟨od, ks⟩) kvs))))) := fun a o q => by
    obtain ⟨q1, q2⟩ := hid_some.mp q
    have na : a ≠ al i := fun z => q1 (.inr ⟨i, oi, z.symm⟩)
    refine hid_some.mpr ⟨fun z => ?_, by rw [upd_ne na]; exact q2⟩
    rcases z with z | ⟨j, z, e⟩
    · exact q1 (.inl z)
    · exact q1 (.inr ⟨j, (oo z).1, e⟩)
  have i2 : C.I (upd H (al i) (.frz od (.dK ks))) := C.loc H _ (fun a ga => upd_ne (fun z => ng (z ▸ ga))) (upd_ext fun φ z => by rw [o2] at z; cases z) r.ok.i
  refine ⟨by simp [r.len], ⟨i2, r.ok.g, fun a ha => ?_⟩, fun a o ga e => ?_, r.old, fun j e q => ?_, fun j e q => ?_, fun j e q => ?_, fun j q => r.new j (oo q).1, fun j k a b e => r.inj j k (oo a).1 (oo b).1 e, fun x hx => (r.gh x hx).mono sub⟩
  · by_cases z : a = al i
    · subst z; rw [upd_same]; intro z; cases z
    · rw [upd_ne z]; exact r.ok.l a ha
  · have z : a ≠ al i := fun z => by rw [z, r.new i oi] at e; cases e
    rw [upd_ne z]; exact r.ext a o ga e
  · rcases set_at q with ⟨rfl, hl, z⟩ | ⟨ne, z⟩
    · cases z
      exact ⟨_, o1, .dcf (hid_some.mpr ⟨nv, upd_same⟩) (o3.mono sub)⟩
    · obtain ⟨w, h1, h2⟩ := r.dat j e z
      exact ⟨w, h1, h2.mono sub⟩
  · rcases set_at q with ⟨rfl, hl, z⟩ | ⟨ne, z⟩
    · cases z
    · obtain ⟨h1, w, h2, h3⟩ := r.own j e z
      exact ⟨h1, w, by rw [upd_ne (fun z' => ne (r.inj j i ⟨_, z, rfl⟩ oi z').symm)]; exact h2, h3.mono sub⟩
  · rcases set_at q with ⟨rfl, hl, z⟩ | ⟨ne, z⟩
    · cases z
    · obtain ⟨h1, w, h2, h3⟩ := r.owd j e z
      exact ⟨h1, w, by rw [upd_ne (fun z' => ne (r.inj j i ⟨_, z, rfl⟩ oi z').symm)]; exact h2, h3.mono sub⟩
end
theorem ps_freeze {X : Cx} {st : Stmt} {t : TS} (h : PS X st t) : PS X st (fun D σ H => ∃ d u, H d = some u ∧ Mut (some u) ∧ ∀ od, t D σ (upd H d (.frz od u))) := by
  refine ⟨fun pins s σ H D I hw => ?_⟩
  obtain ⟨d, u, hd, mu, hw⟩ := hw
  obtain ⟨od, I1⟩ := I.lock hd mu
  exact h.run pins s σ _ D I1 (hw od)
theorem pss_freeze {X : Cx} {st : List Stmt} {t : TS} (h : PSs X st t) : PSs X st (fun D σ H => ∃ d u, H d = some u ∧ Mut (some u) ∧ ∀ od, t D σ (upd H d (.frz od u))) := by
  refine ⟨fun pins s σ H D I hw => ?_⟩
  obtain ⟨d, u, hd, mu, hw⟩ := hw
  obtain ⟨od, I1⟩ := I.lock hd mu
  exact h.run pins s σ _ D I1 (hw od)
def sFz (i : Nat) (ts : TSd) : TSd := fun Dn ρ => ∃ kvs, ρ[i]? = some (.owd kvs) ∧ ∀ w : Fz, ts Dn (ρ.set i (.dat (.dcf w kvs)))
section
variable {X : Cx} {C : Cf} {st : Stmt} {rest : List Stmt} {ts us : TSd} {e : Expr} {td ty : TD} {i : Nat} {x : Str} {pos pos' : Pos}
theorem ev_freeze {t : TS} (h : EvS X.K C t ts) (i : Nat) : EvS X.K C (fun D σ H => ∃ d u, H d = some u ∧ Mut (some u) ∧ ∀ od, t D σ (upd H d (.frz od u))) (sFz i ts) := fun S0 H0 gs al ρ σ H Dn D' r hp g => by
  obtain ⟨kvs, e0, hp⟩ := hp
  obtain ⟨ks, h1, h2⟩ := r.frzOwd e0
  exact ⟨al i, _, h1, True.intro, fun od => h S0 H0 gs al _ σ _ Dn D' (h2 od) (hp _) g⟩
theorem ds_fz (i : Nat) (h : DS X C st ts) : DS X C st (sFz i ts) := let ⟨t, h1, h2⟩ := h.ex; ⟨⟨_, ps_freeze h1, ev_freeze h2 i⟩⟩
theorem dss_fz (i : Nat) (h : DSs X C rest ts) : DSs X C rest (sFz i ts) := let ⟨t, h1, h2⟩ := h.ex; ⟨⟨_, pss_freeze h1, ev_freeze h2 i⟩⟩
def sDput (i : Nat) (tv ty : TD) : TSd := fun Dn ρ => ∃ kvs, ρ[i]? = some (.owd kvs) ∧ tv (frz ρ) fun d => frzD d = true ∧ ty (frz ρ) fun y => ∃ k, keyD y = some k ∧ kvs.length < 100000 ∧ Dn.nx (ρ.set i (.owd (putD kvs k d)))
theorem ds_dput {o ix value : Expr} {tv : TD} (hu : X.A.units + 64 < cLine) (ho : PE X o (tVar i)) (hi : DE X C ix ty) (hv : DE X C value tv) (hs : swapsWith value (some (.Subscript o ix pos')) pos.line X.env = pure false := by rfl) :
    DS X C (.Assign [.Subscript o ix pos'] value pos) (sDput i tv ty) := by
  obtain ⟨ui, i1, i2⟩ := hi.ex
  obtain ⟨uv, v1, v2⟩ := hv.ex
  refine ⟨⟨_, ps_dput (by omega) ho i1 v1 hs, fun S0 H0 gs al ρ σ H Dn D' r hp g => ?_⟩⟩
  obtain ⟨kvs, e0, hp⟩ := hp
  refine v2 _ σ H _ _ _ r.relB hp fun v d H1 g1 p1 hd => ?_
  have r1 := r.go g1
  refine ⟨_, (r1.owd i kvs e0).1, ?_⟩
  refine i2 _ σ H1 _ _ _ r1.relB p1.2 fun y dy H2 g2 p2 hy => ?_
  obtain ⟨k, ek, hl, p2⟩ := p2
  have r2 := r1.go g2
  obtain ⟨_, ks, o2, o3⟩ := r2.owd i kvs e0
  have ey := key_inv hy ek
  subst ey
  refine ⟨al i, _, rfl, DPut.k o2 (by rw [o3.len]; exact line_lt hl), ?_⟩
  exact g.nx _ _ _ _ (r2.wrOwd e0 (putK_dk ((hd.mono (g2.vis r1.ok)).frz r2.grows p1.1) k o3)) p2
end

/-! ### list(d.items()) -/
def hoF (h : Heap) (a : Addr) (kv : Key × V) : HO := match h.get? a with
  | some o => .frz o (.tup [kV kv.1, kv.2])
  | none => .tup []
def putG (h : Heap) : Hp → List Addr → List (Key × V) → Hp
  | H, a :: as, p :: kvs => putG h (upd H a (hoF h a p)) as kvs
  | H, _, _ => H
theorem putG_off {h : Heap} {b : Addr} : ∀ (as : List Addr) (kvs : List (Key × V)) (H : Hp), b ∉ as → putG h H as kvs b = H b
  | [], _, _, _ => rfl
  | _ :: _, [], _, _ => rfl
  | a :: as, p :: kvs, H, hn => by
    show putG h (upd H a (hoF h a p)) as kvs b = H b
    rw [putG_off as kvs _ (fun z => hn (List.mem_cons_of_mem _ z)), upd_ne (fun z => hn (by rw [z]; exact List.mem_cons_self))]
theorem putG_at {h : Heap} : ∀ (as : List Addr) (kvs : List (Key × V)) (H : Hp), as.length = kvs.length → as.Nodup → Paired (fun (t : Addr) (p : Key × V) => putG h H as kvs t = some (hoF h t p)) as kvs
  | [], [], _, _, _ => .nil
  | [], _ :: _, _, h, _ => by cases h
  | _ :: _, [], _, h, _ => by cases h
  | a :: as, p :: kvs, H, hl, hn => by
    have hn' := List.nodup_cons.mp hn
    have ih := putG_at (h := h) as kvs (upd H a (hoF h a p)) (Nat.succ.inj hl) hn'.2
    refine .cons ?_ ih
    show putG h (upd H a (hoF h a p)) as kvs a = some (hoF h a p)
    rw [putG_off as kvs _ hn'.1, upd_same]
section
variable {X : Cx} {e : Expr} {te : TE} {p apos cpos pos : Pos}
theorem items_laidF {pins : List (Addr × Obj)} {σ : L2.St} {H : Hp} {s : Shared} {h' : Heap} {tk : Nat} {kvs : List (Key × V)} {vs : List (Key × Value)} {acc : Array Value} {c : Nat} {as : List Addr} (I : Inv X pins σ H s) (hz : kvs.length ≤ sizeLine) (kv : KV kvs vs)
    (hk : ∀ b o, s.heap.get? b = some o → h'.get? b = some o) (hS : h'.get? s.heap.objs.size = some { cls := .type "list", dict := none, data := .seq acc c, slots := #[] }) (hl : as.length = vs.length) (hG : PySem.W.KdxG (mixKind X.prog X.w) vs s.heap.objs.size h' as) (hacc : acc.toList = as.map Value.ref) :
    ∃ H' : Hp, (∀ b o, H b = some o → H' b = some o) ∧ H s.heap.objs.size = none ∧ H' s.heap.objs.size = some (.lst (as.map V.ref)) ∧ (∀ t ∈ as, H t = none) ∧ (∀ b, H b = none → b ≠ s.heap.objs.size → b ∉ as → H' b = none) ∧ Paired (fun (t : Addr) (q : Key × V) => TupN H' t [kV q.1, q.2]) as kvs ∧ Inv X pins σ H' { s with heap := h', toks := tk } := by
  have lk : kvs.length = vs.length := Paired.length kv
  have hSn : s.heap.objs.size ∉ as := fun z => Nat.lt_irrefl _ (hG.above _ z)
  have nd : as.Nodup := List.Pairwise.imp (fun {a b} (h : a < b) => Nat.ne_of_lt h) hG.rise
  have new : ∀ t ∈ as, H t = none := fun t ht => I.hok.fresh (Nat.le_of_lt (hG.above t ht))
  have newS : H s.heap.objs.size = none := I.hok.fresh (Nat.le_refl _)
  have atP := putG_at (h := h') as kvs (upd H s.heap.objs.size (.lst (as.map V.ref))) (by omega) nd
  have off : ∀ b, b ∉ as → b ≠ s.heap.objs.size → putG h' (upd H s.heap.objs.size (.lst (as.map V.ref))) as kvs b = H b := fun b h1 h2 => by rw [putG_off as kvs _ h1, upd_ne h2]
  have low : ∀ b o, s.heap.get? b = some o → b ∉ as ∧ b ≠ s.heap.objs.size := fun b o e => ⟨fun z => absurd (Heap.lt_size e) (Nat.not_lt.mpr (Nat.le_of_lt (hG.above b z))), Nat.ne_of_lt (Heap.lt_size e)⟩
  have kp : ∀ b u, H b = some u → (putG h' (upd H s.heap.objs.size (.lst (as.map V.ref))) as kvs) b = some u := fun b u e => by
    rw [off b (fun z => by rw [new b z] at e; cases e) (fun z => by rw [z, newS] at e; cases e)]
    exact e
  have eS : putG h' (upd H s.heap.objs.size (.lst (as.map V.ref))) as kvs s.heap.objs.size = some (.lst (as.map V.ref)) := by rw [putG_off as kvs _ hSn, upd_same]
  have made : ∀ (t : Addr) (q : Key × V), t ∈ as → (∃ j : Nat, as[j]? = some t ∧ kvs[j]? = some q) → ∃ (key x : Value), RelV (kV q.1) key ∧ RelV q.2 x ∧ h'.get? t = some { cls := .type "tuple", data := .seq #[key, x] } := fun t q ht hj => by
    obtain ⟨j, e1, e2⟩ := hj
    obtain ⟨key, k, x, f1, f2, f3⟩ := hG.pairs j t e1
    obtain ⟨qv, g1, g2, g3⟩ := LiI.paired_get kv e2
    rw [f1] at g1
    cases g1
    exact ⟨key, x, by rw [g2]; exact relV_key (show keyIs k key = true from f2), g3, f3⟩
  have atT : Paired (fun (t : Addr) (q : Key × V) => TupN (putG h' (upd H s.heap.objs.size (.lst (as.map V.ref))) as kvs) t [kV q.1, q.2]) as kvs := by
    have go : ∀ (bs : List Addr) (ks : List (Key × V)) (n : Nat), bs = as.drop n → ks = kvs.drop n → Paired (fun (t : Addr) (p : Key × V) => putG h' (upd H s.heap.objs.size (.lst (as.map V.ref))) as kvs t = some (hoF h' t p)) bs ks → Paired (fun (t : Addr) (q : Key × V) => TupN (putG h' (upd H s.heap.objs.size (.lst (as.map V.ref))) as kvs) t [kV q.1, q.2]) bs ks := by
      intro bs
      induction bs with
      | nil => intro ks n _ _ hp; cases hp; exact .nil
      | cons t bs ih =>
        intro ks n e1 e2 hp
        cases hp with
        | @cons _ q _ ks h1 h2 =>
          have d1 : as[n]? = some t := by have z := congrArg (fun l => l[0]?) e1; simpa using z.symm
          have d2 : kvs[n]? = some q := by have z := congrArg (fun l => l[0]?) e2; simpa using z.symm
          obtain ⟨key, x, _, _, f3⟩ := made t q (List.mem_of_getElem? d1) ⟨n, d1, d2⟩
          refine .cons ⟨{ cls := .type "tuple", data := .seq #[key, x] }, rfl, ?_⟩ (ih ks (n + 1) ?_ ?_ h2)
          · rw [h1]
            unfold hoF
            rw [f3]
          · have z := congrArg List.tail e1; simpa using z
          · have z := congrArg List.tail e2; simpa using z
    exact go as kvs 0 rfl rfl atP
  refine ⟨putG h' (upd H s.heap.objs.size (.lst (as.map V.ref))) as kvs, kp, newS, eS, new, fun b h1 h2 h3 => (off b h3 h2).trans h1, atT, ?_⟩
  refine I.call' (ch := []) rfl ⟨fun b o q _ _ _ => hk b o q, fun b o q _ _ _ => ⟨o.slots, hk b o q⟩, fun b o q n _ => ?_, fun b o q _ => ⟨o, hk b o q⟩, fun b xs q => kp b _ q, fun b o u q => kp b _ q, fun b ps q => ⟨#[], by rw [kp b _ q]; simp⟩⟩ (fun b u q => ?_) I.bare fun b z => by simp at z
  · obtain ⟨z1, z2⟩ := low b o q
    rw [off b z1 z2]
    exact n
  · by_cases hb : b ∈ as
    · obtain ⟨j, pk, e1, e2, e3⟩ := LiI.paired_ix atP hb
      rw [e3] at q
      obtain ⟨key, x, r1, r2, f3⟩ := made b pk hb ⟨j, e1, e2⟩
      unfold hoF at q
      rw [f3] at q
      cases q
      exact ⟨f3, by show 2 ≤ sizeLine; decide, [key, x], .cons r1 (.cons r2 .nil), ⟨_, f3, rfl, _, rfl⟩⟩
    · by_cases hb2 : b = s.heap.objs.size
      · rw [hb2] at q ⊢
        rw [eS] at q
        cases q
        refine ⟨by rw [List.length_map]; omega, acc.toList, c, by rw [hacc]; exact LiI.vals_refs as, ?_⟩
        rw [Array.toArray_toList]
        exact hS
      · rw [off b hb hb2] at q
        exact (I.hok b u q).stay (fun d v _ y => hk d v y) (fun d y => kp d _ y) fun d xs y => kp d _ y
def rItemsF : V → Hp → VK → Prop := fun x H Q => ∃ (d : Addr) (kvs : List (Key × V)), x = .ref d ∧ Rd H d (.dK kvs) ∧
  ∀ (H' : Hp) (p : Addr) (ts : List Addr), (∀ b o, H b = some o → H' b = some o) → H p = none → H' p = some (.lst (ts.map V.ref)) → (∀ t ∈ ts, H t = none) → Paired (fun (t : Addr) (q : Key × V) => TupN H' t [kV q.1, q.2]) ts kvs → Q (.ref p) H'
theorem pe_listItemsF (hc : X.calm = true) (he : PE X e te) (hg : Gl X "list") (hm : X.mg "list" = none) (hbase : attributeBase e "items" X.env (eval e X.env) = eval e X.env := by rfl) (hline : (apos.endLine == cpos.line) = true := by rfl)
    (hs : starEach [.Call (.Attribute e "items" apos) [] [] cpos] X.env = (false, eval (.Call (.Attribute e "items" apos) [] [] cpos) X.env) :: starEach [] X.env := by rfl) :
    PE X (.Call (.Name "list" p) [.Call (.Attribute e "items" apos) [] [] cpos] [] pos) (fun σ H Q => te σ H fun x H1 => rItemsF x H1 Q) := by
  refine ⟨fun pins s σ H Q I hq => ?_⟩
  refine wpAny_Call_Name_kw (ld_blt I hg hm boot_list ?_)
  refine PyProof.Rows.callWith_type1 ?_ hs rfl
  rw [hs]
  show wpAny _ _ (spliced ((false, eval (.Call (.Attribute e "items" apos) [] [] cpos) X.env) :: backTo pos (starEach [] X.env))) _ _ s
  refine Calls.spliced_cons ?_
  refine wpAny_Call_method (T := "dict") (id := "dict.items") hbase rfl hline PySem.F.plainAttrs_dict PySem.F.slot_dict_items PySem.F.type_dict_items (thn (he.run pins s σ H _ I hq) fun u s1 ⟨x, H1, I1, rx, d, kvs, ex, hd, q⟩ => ?_)
  subst ex
  obtain rfl : u = Value.ref d := rx
  obtain ⟨hz, hs0, vs, kv, hdo⟩ := dk_rd I1.hok hd
  obtain ⟨ep, hat⟩ := hdo.dictAt
  have lk : kvs.length = vs.length := Paired.length kv
  have I2 : Inv X pins σ H1 { s1 with heap := s1.heap.push { cls := .type "dict_items", data := .fields #[.ref d] } } := I1.kept (t' := s1.toks) fun b ob q => Heap.get?_push_of_some _ q
  refine ⟨hdo.typeIs, hdo.mapOf.noDict, ?_⟩
  show wpAny _ _ (callWith cpos (.builtin "dict.items") [.ref d] [] []) _ X.xe s1
  refine method_meetsIn PySem.F.slot_dict_items PySem.F.entry_dict_items rfl (PySem.evalArgs_none ⟨rfl, hdo.typeIs, PySem.F.args_dict_items_1 _, _, meets_dict_items (mixKind X.prog X.w) d hs0, ⟨vs, hdo⟩, ?_⟩)
  refine Calls.spliced_nil ?_
  refine PySem.W.kdx_call (knd := mixKind X.prog X.w) (kvs := vs) (ep := ep) (I1.ok.hd hc) ⟨_, Heap.get?_push_size _ rfl, rfl, rfl⟩ (hat.push _) (by omega) fun h' tk acc c as hk hS hl hG hacc => ?_
  obtain ⟨H', k1, k2, k3, k4, _, k6, J⟩ := items_laidF (tk := tk) I2 hz kv hk hS hl hG hacc
  exact ⟨.ref _, H', J, rfl, q H' _ as k1 k2 k3 k4 k6⟩
def dItemsL (t : TD) : TD := fun E P => t E fun d => ∃ kvs, dicOf d = some kvs ∧ P (.lst (kvs.map pairV))
theorem de_listItems {C : Cf} {td : TD} (hc : X.calm = true) (he : DE X C e td) (hg : Gl X "list") (hm : X.mg "list" = none) (hbase : attributeBase e "items" X.env (eval e X.env) = eval e X.env := by rfl) (hline : (apos.endLine == cpos.line) = true := by rfl)
    (hs : starEach [.Call (.Attribute e "items" apos) [] [] cpos] X.env = (false, eval (.Call (.Attribute e "items" apos) [] [] cpos) X.env) :: starEach [] X.env := by rfl) :
    DE X C (.Call (.Name "list" p) [.Call (.Attribute e "items" apos) [] [] cpos] [] pos) (dItemsL td) := by
  obtain ⟨te, h1, h2⟩ := he.ex
  refine ⟨⟨_, pe_listItemsF hc h1 hg hm hbase hline hs, fun S σ H E P Q r hp q => ?_⟩⟩
  refine h2 S σ H E _ _ r hp fun x dx H1 g1 p1 hx => ?_
  obtain ⟨kvs, e1, p1⟩ := p1
  obtain ⟨a, ks, rfl, rd, dk⟩ := dic_rd hx e1
  have ok1 := r.ok.go g1
  refine ⟨a, ks, rfl, rd, fun H2 p ts k1 np hl nt pr => ?_⟩
  have go : Go C H1 H2 := ⟨fun a o _ e => k1 a o e, C.loc H1 _ (fun a ga => by
    cases z : H1 a with
    | none => exact absurd z (C.liv H1 a ok1.i ga)
    | some o => rw [k1 a o z]) (fun a o e _ => k1 a _ e) ok1.i⟩
  have vis := go.vis ok1
  refine q _ _ H2 (g1.trans go) p1 (.lst (hid_some.mpr ⟨ok1.fresh np, hl⟩) ?_)
  have fin : ∀ {ts : List Addr} {ks : List (Key × V)} {kvs : List (Key × D)}, (∀ t ∈ ts, H1 t = none) → Paired (fun (t : Addr) (q : Key × V) => TupN H2 t [kV q.1, q.2]) ts ks → DKs X.K (hid H1 S) ks kvs → DVs X.K (hid H2 S) (ts.map V.ref) (kvs.map pairV) := by
    intro ts ks kvs nt pr dk
    induction pr generalizing kvs with
    | nil => cases dk; exact .nil
    | @cons t q ts ks h1 h2 ih =>
      cases dk with
      | cons hd tl =>
        obtain ⟨o, on, oe⟩ := h1
        exact .cons (.tup ⟨o, on, hid_some.mpr ⟨ok1.fresh (nt t List.mem_cons_self), oe⟩⟩ (.cons (keyV_dv _) (.cons (hd.mono vis) .nil))) (ih (fun t ht => nt t (List.mem_cons_of_mem _ ht)) tl)
  exact fin nt pr dk
end
end L3
namespace L3
open PySem PySem.Spec PyProof.Rows L2

/-! ### {k: v for x in ..} -/
def dcRun (tg : TGe) (tt : TDb) (tk tv : TD) (E : En) : List D → List (Key × D) → (List (Key × D) → Prop) → Prop
  | [], acc, P => P acc
  | d :: r, acc, P => tg d E fun E' => tt E' fun b => if b = true then tk E' fun y => ∃ k, keyD y = some k ∧ tv E' fun z => dcRun tg tt tk tv E r (putD acc k z) P else dcRun tg tt tk tv E r acc P
def oDc (vs : List Nat) (ti : TDs) (tg : TGe) (tt : TDb) (tk tv : TD) : TSl := fun E P => ti E fun ys => ys.length ≤ 100000 ∧ dcRun tg tt tk tv (wipeE E vs) ys [] fun kvs => P (.owd kvs)
theorem length_putD (c : List (Key × D)) (k : Key) (x : D) : (putD c k x).length ≤ c.length + 1 := by
  unfold putD
  split
  · rw [List.length_map]; omega
  · simp
section
variable {X : Cx} {C : Cf} {kx vx tg iter : Expr} {ifs : List Expr} {scope : Scope} {own : List (Str × Nat)} {pos : Pos} {ti : TDs} {tge : TGe} {ttd : TDb} {tkd tvd : TD}
theorem dc_ev {K : PySem.W.Frag} {wi : TI} {g : TG} {tt : TT} {tk tv : TE} {vs : List Nat} (hi : EvI K C wi ti) (hg : EvGE K C vs g tge) (ht : EvT K C tt ttd) (hk : EvD K C tk tkd) (he : EvD K C tv tvd) : EvF K C (tDc wi g tt tk tv vs) (oDc vs ti tge ttd tkd tvd) := by
  intro S σ H E P Q rl hp q
  refine hi S σ H E _ _ rl hp fun J ys gs H1 g1 p1 hgs w => ?_
  intro A nA
  obtain ⟨hlen, p1⟩ := p1
  have ok1 := rl.ok.go g1
  have nS : ¬ S A := ok1.fresh nA
  have nG : ¬ C.G A := fun z => nS (ok1.g A z)
  have nH : H A = none := by
    cases e : H A with
    | none => rfl
    | some o => rw [g1.e A o nG e] at nA; cases nA
  generalize hS : (ext1 S A : AS) = S'
  have inS : S' A := by rw [← hS]; exact .inr rfl
  have up : ∀ {o : HO}, Same (hid H1 S) (hid (upd H1 A o) S') := fun a u e => by
    obtain ⟨e1, e2⟩ := hid_some.mp e
    have na : a ≠ A := ne_of_none e2 nA
    refine hid_some.mpr ⟨fun z => ?_, by rw [upd_ne na]; exact e2⟩
    rw [← hS] at z
    rcases z with z | z
    · exact e1 z
    · exact na z
  have wr : ∀ {H2 : Hp} {o : HO}, Ok C S' H2 → (∀ φ, H2 A ≠ some (.ext φ)) → Ok C S' (upd H2 A o) := fun {H2 o} ok nx => ⟨C.loc H2 _ (fun a ga => upd_ne (fun z => nG (z ▸ ga))) (upd_ext nx) ok.i, ok.g, fun a ha => by
    by_cases z : a = A
    · subst z; rw [upd_same]; intro z; cases z
    · rw [upd_ne z]; exact ok.l a ha⟩
  have gw : ∀ {H2 : Hp} {o : HO}, Go C H H2 → (∀ φ, H2 A ≠ some (.ext φ)) → Go C H (upd H2 A o) := fun {H2 o} g nx => ⟨fun a u ga e => by rw [upd_ne (ne_of_none e nH)]; exact g.e a u ga e, C.loc H2 _ (fun a ga => upd_ne (fun z => nG (z ▸ ga))) (upd_ext nx) g.i⟩
  have nA1 : ∀ φ, H1 A ≠ some (.ext φ) := fun φ z => by rw [nA] at z; cases z
  have okS : Ok C S' (upd H1 A (.dK [])) := ⟨(gw g1 nA1).i, fun a h => by rw [← hS]; exact .inl (ok1.g a h), fun a h => by
    rw [← hS] at h
    rcases h with h | rfl
    · have na : a ≠ A := fun z => nS (z ▸ h)
      rw [upd_ne na]; exact ok1.l a h
    · rw [upd_same]; intro z; cases z⟩
  have rw1 := wipeE_at (rl.go g1) vs
  refine ⟨fun i m H' => m = ys.length - i ∧ i ≤ ys.length ∧ ∃ acc as, H' A = some (.dK acc) ∧ as.length ≤ i ∧ DKs K (hid H' S') acc as ∧ Rel K C S' (wipeE E vs) (wipe σ vs) H' ∧ GsOk K H' S' gs ∧ Go C H H' ∧ dcRun tge ttd tkd tvd (wipeE E vs) (ys.drop i) as fun kvs => P (.owd kvs),
    ⟨ys.length, by simp, Nat.zero_le _, [], [], upd_same, Nat.zero_le _, .nil, ⟨okS, rw1.len, fun i d e => ?_⟩, fun x hx => (hgs x hx).mono up, gw g1 nA1, p1⟩, ?_⟩
  · obtain ⟨v, h1, h2⟩ := rw1.at_ i d e
    exact ⟨v, h1, h2.mono up⟩
  rintro i m H' ⟨rfl, hi, acc, as, hA, hla, hacc, rr, hgs', gH, run⟩
  by_cases hlt : i < ys.length
  · refine .inr ⟨w.goes S' i H' rr.ok hgs' hlt, fun H' => i + 1 ≤ ys.length ∧ ∃ acc as, H' A = some (.dK acc) ∧ as.length ≤ i + 1 ∧ DKs K (hid H' S') acc as ∧ Rel K C S' (wipeE E vs) (wipe σ vs) H' ∧ GsOk K H' S' gs ∧ Go C H H' ∧ dcRun tge ttd tkd tvd (wipeE E vs) (ys.drop (i + 1)) as fun kvs => P (.owd kvs),
      fun H' p => ⟨ys.length - (i + 1), by omega, rfl, p.1, p.2⟩, fun x H2 y => ?_⟩
    obtain ⟨d, h1, h2, h3⟩ := w.ylds S' i H' x H2 rr.ok hgs' hlt y
    have hd : ys.drop i = d :: ys.drop (i + 1) := by
      rw [List.drop_eq_getElem_cons hlt]
      rw [List.getElem?_eq_getElem hlt] at h1
      rw [Option.some.inj h1]
    rw [hd] at run
    have r2 := rr.go h2
    refine hg S' (wipe σ vs) H2 (wipeE E vs) x d _ _ r2 h3 run fun E' σ2 r3 hw run2 => ⟨?_, ?_⟩
    · rw [hw]; exact wipe_wipe σ vs
    · refine ht S' σ2 H2 E' _ _ r3 run2 fun b H3 g3 run3 => ?_
      have A2 := h2.e A _ nG hA
      have A3 := g3.e A _ nG A2
      have s2 := h2.vis rr.ok
      have s3 := g3.vis r2.ok
      cases b with
      | false =>
        rw [if_neg Bool.false_ne_true] at run3 ⊢
        exact ⟨hlt, acc, as, A3, Nat.le_succ_of_le hla, (hacc.mono s2).mono s3, r2.go g3, fun x hx => ((hgs' x hx).mono s2).mono s3, (gH.trans h2).trans g3, run3⟩
      | true =>
        rw [if_pos rfl] at run3 ⊢
        refine hk S' σ2 H3 E' _ _ (r3.go g3) run3 fun y dy H4 g4 run4 hy => ?_
        obtain ⟨k, ek, run4⟩ := run4
        have ey := key_inv hy ek
        refine he S' σ2 H4 E' _ _ ((r3.go g3).go g4) run4 fun v dv H5 g5 run5 hv => ?_
        have A4 := g4.e A _ nG A3
        have A5 := g5.e A _ nG A4
        have r5 := ((r2.go g3).go g4).go g5
        have s4 := g4.vis (r2.ok.go g3)
        have s5 := g5.vis ((r2.ok.go g3).go g4)
        have hacc5 := (((hacc.mono s2).mono s3).mono s4).mono s5
        refine ⟨acc, k, ey, A5, line_lt (by rw [hacc.len]; omega), hlt, _, putD as k dv, upd_same, Nat.le_trans (length_putD _ _ _) (Nat.succ_le_succ hla), ?_, ⟨wr r5.ok (fun φ z => by rw [A5] at z; cases z), r5.len, fun j e q => ?_⟩, fun x hx => ?_, gw ((((gH.trans h2).trans g3).trans g4).trans g5) (fun φ z => by rw [A5] at z; cases z), run5⟩
        · rw [hid_upd_in inS]; exact putK_dk hv k hacc5
        · obtain ⟨u, k1, k2⟩ := r5.at_ j e q
          exact ⟨u, k1, by rw [hid_upd_in inS]; exact k2⟩
        · rw [hid_upd_in inS]; exact (((((hgs' x hx).mono s2).mono s3).mono s4).mono s5)
  · have e : i = ys.length := by omega
    subst e
    rw [List.drop_length] at run
    exact .inl ⟨w.stops S' H' rr.ok hgs', q A (.owd as) H' gH run nH ⟨acc, hA, by rw [hS]; exact hacc⟩⟩
theorem df_dc (hc : X.calm = true) (hN : X.N.Nodup) (ok : BlkOk X.N X.env.scope scope own) (hi : DI X C tg iter ti) (hg : ∀ b : Bk, DGE (xb X scope b) C (own.map (·.2)) tg tge) (ht : ∀ b : Bk, DTs (xb X scope b) C ifs ttd) (hk : ∀ b : Bk, DE (xb X scope b) C kx tkd) (he : ∀ b : Bk, DE (xb X scope b) C vx tvd)
    (hs : ∀ x, foldedSetIterable iter X.env x = pure x := by intro _; rfl) : DF X C (.DictComp kx vx [⟨tg, iter, ifs, 0⟩] scope pos) (oDc (own.map (·.2)) ti tge ttd tkd tvd) := by
  obtain ⟨wi, i1, i2⟩ := hi.ex
  refine ⟨⟨_, pe_dc hc hN i1 ok (g := fun v σ H Q => ∀ b, (hg b).ex.choose v σ H Q) (tt := fun σ H Q => ∀ b, (ht b).ex.choose σ H Q) (tk := fun σ H Q => ∀ b, (hk b).ex.choose σ H Q) (tv := fun σ H Q => ∀ b, (he b).ex.choose σ H Q)
    (fun s H A cl fp => ⟨fun pins s' σ H' v u Q I r h => (hg (s, H, A, cl, fp)).ex.choose_spec.1.run pins s' σ H' v u Q I r (h (s, H, A, cl, fp))⟩)
    (fun s H A cl fp => ⟨fun pins s' σ H' Q I h => (ht (s, H, A, cl, fp)).ex.choose_spec.1.run pins s' σ H' Q I (h (s, H, A, cl, fp))⟩)
    (fun s H A cl fp => ⟨fun pins s' σ H' Q I h => (hk (s, H, A, cl, fp)).ex.choose_spec.1.run pins s' σ H' Q I (h (s, H, A, cl, fp))⟩)
    (fun s H A cl fp => ⟨fun pins s' σ H' Q I h => (he (s, H, A, cl, fp)).ex.choose_spec.1.run pins s' σ H' Q I (h (s, H, A, cl, fp))⟩) hs, ?_⟩⟩
  exact dc_ev i2 (fun S σ H E v d P Q r h hp q b => (hg b).ex.choose_spec.2 S σ H E v d P Q r h hp q) (fun S σ H E P Q r hp q b => (ht b).ex.choose_spec.2 S σ H E P Q r hp q) (fun S σ H E P Q r hp q b => (hk b).ex.choose_spec.2 S σ H E P Q r hp q) fun S σ H E P Q r hp q b => (he b).ex.choose_spec.2 S σ H E P Q r hp q
end
end L3
namespace L3
open PySem PySem.Spec PyProof.Rows L2

/-! ### data that == may compare -/
def okD (d : D) : Bool := pl d && (toP d).canLay0 && decide ((toP d).depth ≤ 10)
theorem okDs {l : List D} (h : ∀ d ∈ l, okD d = true) : pls l = true ∧ PyData.canLayAll0 (toPs l) = true ∧ PyData.depthAll (toPs l) ≤ 10 := by
  induction l with
  | nil => simp only [pls, toPs, PyData.canLayAll0, PyData.depthAll]; exact ⟨trivial, trivial, by decide⟩
  | cons x r ih =>
    have hx := h x List.mem_cons_self
    unfold okD at hx
    simp only [Bool.and_eq_true, decide_eq_true_eq] at hx
    obtain ⟨h1, h2, h3⟩ := ih fun d hd => h d (List.mem_cons_of_mem _ hd)
    simp only [pls, toPs, PyData.canLayAll0, PyData.depthAll, h1, h2, hx.1.1, hx.1.2, Bool.and_self]
    refine ⟨trivial, trivial, ?_⟩
    omega
theorem eqOk_all {l : List D} (h : ∀ d ∈ l, okD d = true) : eqOk (.lst l) = true ∧ eqOk (.tup l) = true := by
  obtain ⟨h1, h2, h3⟩ := okDs h
  constructor
  · unfold eqOk SeqAt.shaped
    simp only [pl, toP, PyData.canLay0, PyData.depth, h1, h2, Bool.true_and, decide_eq_true_eq]
    omega
  · unfold eqOk SeqAt.shaped
    simp only [pl, toP, PyData.canLay0, PyData.depth, h1, h2, Bool.true_and, decide_eq_true_eq]
    omega
theorem okD_str {x : Str} (h : PyData.strOk x = true) : okD (.str x) = true := by
  unfold okD
  simp only [pl, toP, PyData.canLay0, PyData.depth, h, Bool.true_and, decide_eq_true_eq]
  omega
theorem okD_int (i : Int) : okD (.int i) = true := by
  unfold okD
  simp only [pl, toP, PyData.canLay0, PyData.depth, Bool.true_and, decide_eq_true_eq]
  omega

/-! ### None among texts, too -/
def fInQN (n : Bool) : F2 := fun a b P => (a = .non ∧ ∃ xs : List Str, b = .tup (xs.map D.str) ∧ P (.bl n)) ∨ fInQ n a b P
theorem inV_non : ∀ xs : List Str, inV .non (xs.map V.str) = false
  | [] => rfl
  | y :: r => by
    have ih := inV_non r
    unfold inV at ih ⊢
    rw [List.map_cons, List.any_cons, ih]
    rfl
theorem od_inQN {K : PySem.W.Frag} {C : Cf} {n : Bool} : OpD K C (rIn K n) (fInQN n) := by
  intro S H x y a b P Q ok hx hy h q
  rcases h with ⟨rfl, xs, rfl, h⟩ | h
  · obtain ⟨p, vs, rfl, e, hv⟩ := two_tups ok hy
    have := hv.strs
    subst this
    rw [hx.non_inv]
    refine ⟨p, _, rfl, .inr e, rfl, flat_strs xs, ?_⟩
    rw [inV_non]
    have e : (if n then !false else false) = n := by cases n <;> rfl
    rw [e]
    exact q _ _ H (Go.refl ok) h (.bl _)
  · exact od_inQ S H x y a b P Q ok hx hy h q
/-- a world as a dict: objects and their classes, or None -/
def wV : Option Str → D
  | some c => .str c
  | none => .non
def wD (p : Str × Option Str) : Key × D := (.inr p.1, wV p.2)
def wGet (ws : List (Str × Option Str)) (t : Str) : Option (Option Str) := (ws.find? fun p => decide (p.1 = t)).map (·.2)
theorem getK_w (t : Str) : ∀ ws : List (Str × Option Str), getK (ws.map wD) (.inr t) = (wGet ws t).map wV
  | [] => rfl
  | p :: r => by
    have ih := getK_w t r
    unfold getK wGet at ih ⊢
    rw [List.map_cons, List.find?_cons, List.find?_cons]
    by_cases e : p.1 = t
    · rw [show decide ((wD p).1 = .inr t) = true from decide_eq_true (by unfold wD; rw [e]), decide_eq_true e]
      rfl
    · rw [show decide ((wD p).1 = .inr t) = false from decide_eq_false (by unfold wD; intro z; exact e (Sum.inr.inj z)), decide_eq_false e]
      exact ih
theorem wGet_mem {ws : List (Str × Option Str)} {t : Str} (h : t ∈ ws.map (·.1)) : ∃ c, wGet ws t = some c ∧ (t, c) ∈ ws := by
  induction ws with
  | nil => cases h
  | cons p r ih =>
    unfold wGet
    rw [List.find?_cons]
    by_cases e : p.1 = t
    · rw [decide_eq_true e]
      exact ⟨p.2, rfl, by rw [← e]; exact List.mem_cons_self⟩
    · rw [decide_eq_false e]
      rcases List.mem_cons.mp h with z | z
      · exact absurd z.symm e
      · obtain ⟨c, h1, h2⟩ := ih z
        exact ⟨c, h1, List.mem_cons_of_mem _ h2⟩
theorem wKeys (ws : List (Str × Option Str)) : (ws.map wD).map (·.1) = (ws.map (·.1)).map Sum.inr := by
  rw [List.map_map, List.map_map]; rfl
/-- the words that fit a slot with some targets -/
def fits (ws : List (Str × Option Str)) (goals : List Str) (t : Str) : Bool := match wGet ws t with
  | some (some c) => decide (c ∈ goals)
  | _ => false
def fitN (goals : List Str) : List D := if ("" : Str) ∈ goals then [.int 0, .int 7, .int (-999), .int 999] else []
def fitL (ws : List (Str × Option Str)) (goals ys : List Str) : List D := (ys.filter (fits ws goals)).map D.str ++ fitN goals
end L3
namespace L3
open PySem PySem.Spec PyProof.Rows L2

/-! ### x is None -/
def isNon : D → Option Bool
  | .non => some true
  | .op _ => none
  | .sem _ _ => none
  | _ => some false
theorem non_v {K : PySem.W.Frag} {H : Hp} {v : V} {d : D} {b : Bool} (h : DV K H v d) (e : isNon d = some b) : decide (v = V.non) = b := by
  cases h with
  | non => cases e; rfl
  | bl _ => cases e; exact decide_eq_false (fun z => nomatch z)
  | int _ => cases e; exact decide_eq_false (fun z => nomatch z)
  | str _ => cases e; exact decide_eq_false (fun z => nomatch z)
  | lst _ _ => cases e; exact decide_eq_false (fun z => nomatch z)
  | tup _ _ => cases e; exact decide_eq_false (fun z => nomatch z)
  | dic _ _ => cases e; exact decide_eq_false (fun z => nomatch z)
  | dcf _ _ => cases e; exact decide_eq_false (fun z => nomatch z)
  | scr _ => cases e; exact decide_eq_false (fun z => nomatch z)
  | ins _ _ => cases e; exact decide_eq_false (fun z => nomatch z)
  | exc _ _ _ => cases e; exact decide_eq_false (fun z => nomatch z)
  | exc0 _ => cases e; exact decide_eq_false (fun z => nomatch z)
  | sem _ _ => cases e
  | op _ => cases e
def dIsN (n : Bool) (t : TD) : TD := fun E P => t E fun d => ∃ b, isNon d = some b ∧ P (.bl (n != b))
section
variable {X : Cx} {C : Cf} {a : Expr} {ta : TD} {j : Nat} {pos pos' : Pos}
theorem ev_isN {n : Bool} {te : TE} (h : EvD X.K C te ta) : EvD X.K C (fun σ H Q => te σ H fun x H1 => Q (.bl (n != decide (x = .non))) H1) (dIsN n ta) := fun S σ H E P Q r hp q => by
  refine h S σ H E _ _ r hp fun v d H1 g1 p1 v1 => ?_
  obtain ⟨b, e, p1⟩ := p1
  rw [non_v v1 e]
  exact q _ _ H1 g1 p1 (.bl _)
theorem isN_t {te : TE} : tIsN te = fun σ H Q => te σ H fun x H1 => Q (.bl (false != decide (x = .non))) H1 := by
  unfold tIsN
  simp only [Bool.false_bne]
theorem notN_t {te : TE} : tNotN te = fun σ H Q => te σ H fun x H1 => Q (.bl (true != decide (x = .non))) H1 := by
  unfold tNotN
  simp only [Bool.true_bne]
theorem de_isN (h : DE X C a ta) : DE X C (.Compare a [.Is] [.Constant .none j pos'] pos) (dIsN false ta) := let ⟨te, h1, h2⟩ := h.ex; ⟨⟨_, pe_cmp (isN_t ▸ pc_isN h1), ev_isN h2⟩⟩
theorem de_notN (h : DE X C a ta) : DE X C (.Compare a [.IsNot] [.Constant .none j pos'] pos) (dIsN true ta) := let ⟨te, h1, h2⟩ := h.ex; ⟨⟨_, pe_cmp (notN_t ▸ pc_notN h1), ev_isN h2⟩⟩
theorem dt_isN (h : DE X C a ta) : DT X C (.Compare a [.Is] [.Constant .none j pos'] pos) (dB (dIsN false ta)) := let ⟨te, h1, h2⟩ := h.ex; ⟨⟨_, pt_cmp (isN_t ▸ pc_isN h1), ev_test (ev_isN h2)⟩⟩
theorem dt_notN (h : DE X C a ta) : DT X C (.Compare a [.IsNot] [.Constant .none j pos'] pos) (dB (dIsN true ta)) := let ⟨te, h1, h2⟩ := h.ex; ⟨⟨_, pt_cmp (notN_t ▸ pc_notN h1), ev_test (ev_isN h2)⟩⟩
end
end L3
namespace L3
open PySem PySem.Spec PyProof.Rows L2

/-! ### list(d) as a list of one's own; loops over what was read from own lists and dicts -/
def oListK (t : TDs) : TSl := fun E P => t E fun ds => ∃ d kvs, ds = [d] ∧ dicOf d = some kvs ∧ P (.own (keysD kvs))
theorem df_listK {X : Cx} {C : Cf} {e : Expr} {tds : TDs} {pos p' : Pos} (hc : X.calm = true) (hg : Gl X "list") (hm : X.mg "list" = none) (ha : DA X C [e] tds) (he : starEach [e] X.env = (false, eval e X.env) :: starEach [] X.env := by rfl) (hpl : (backTo pos (starEach [] X.env)).any (·.1) = false := by rfl) :
    DF X C (.Call (.Name "list" p') [e] [] pos) (oListK tds) := by
  obtain ⟨ta, h1, h2⟩ := ha.ex
  refine ⟨⟨_, pe_callTy (call_listD hc) hg hm boot_list h1 (by decide) (by decide) he hpl, fun S σ H E P Q r hp q => ?_⟩⟩
  refine h2 S σ H E _ _ r hp fun vs ds H1 g1 p1 v1 => ?_
  obtain ⟨d, kvs, rfl, e1, p1⟩ := p1
  have ok1 := r.ok.go g1
  obtain ⟨v, rfl, hd⟩ := one_dv v1
  obtain ⟨a, ks, rfl, rd, dk⟩ := dic_rd hd e1
  refine ⟨a, ks, rfl, rd, fun l nl => ?_⟩
  have gn : Go C H1 (upd H1 l (.lst (ks.map fun kv => kV kv.1))) := Go.new ok1 nl
  have nl0 : H l = none := by
    cases e : H l with
    | none => rfl
    | some o => rw [g1.e l o (fun z => ok1.fresh nl (ok1.g l z)) e] at nl; cases nl
  exact q l _ _ (g1.trans gn) p1 nl0 ⟨_, upd_same, keys_dv dk⟩
def sForN (tf : TSl) (tg : TGd) (ts : TSd) : TSd := fun Dn ρ => tf (frz ρ) fun s => ∃ ys, s = .own ys ∧ frzDs ys = true ∧ ∃ Iv : Nat → Rho → Prop, Iv 0 ρ ∧
  (∀ i d ρ', ys[i]? = some d → Iv i ρ' → tg d ρ' fun ρ'' => ts { Dn with nx := Iv (i + 1), ct := Iv (i + 1), bk := Dn.nx } ρ'') ∧ ∀ ρ', Iv ys.length ρ' → Dn.nx ρ'
def sForT (td : TD) (tg : TGd) (ts : TSd) : TSd := fun Dn ρ => td (frz ρ) fun d => ∃ ys, d = .tup ys ∧ frzDs ys = true ∧ ∃ Iv : Nat → Rho → Prop, Iv 0 ρ ∧
  (∀ i d ρ', ys[i]? = some d → Iv i ρ' → tg d ρ' fun ρ'' => ts { Dn with nx := Iv (i + 1), ct := Iv (i + 1), bk := Dn.nx } ρ'') ∧ ∀ ρ', Iv ys.length ρ' → Dn.nx ρ'
section
variable {X : Cx} {C : Cf} {tg iter : Expr} {body : List Stmt} {tf : TSl} {td : TD} {tgd : TGd} {ts : TSd} {pos : Pos}
theorem ds_forN (hp : PassesOwn (model X.prog X.w) X.A X.env X.xe) (hc : X.calm = true) (hi : DF X C iter tf) (hg : DG X C tg tgd) (hb : DSs X C body ts) (hs : ∀ x, foldedSetIterable iter X.env x = pure x := by intro _; rfl) : DS X C (.For tg iter body [] pos) (sForN tf tgd ts) := by
  obtain ⟨te, i1, i2⟩ := hi.ex
  obtain ⟨g, g1, g2⟩ := hg.ex
  obtain ⟨tb, b1, b2⟩ := hb.ex
  refine ⟨⟨_, ps_for hp hc (pi_list i1) g1 b1 hs, fun S0 H0 gs al ρ σ H Dn D' r hq gd => ?_⟩⟩
  refine i2 _ σ H _ _ _ r.relB hq fun p s H1 g3 p1 np o1 => ?_
  obtain ⟨ys, rfl, fz, Iv, h0, h1, h2⟩ := p1
  obtain ⟨ws, e1, e2⟩ := o1
  have r1 := r.go g3
  have nV : ¬ Vol S0 al ρ p := fun z => r.vok.l p z np
  have gr : Grows H1 (ext1 S0 p) (Vol S0 al ρ) := fun a ha => (r1.grows a ha).imp (fun z => .inl z) id
  refine ⟨p, rfl, ⟨ws, .inl (.inl e1)⟩, ?_⟩
  exact for_core g2 b2 r1 walkD_list (fun x hx => by rw [List.mem_singleton.mp hx]; exact .lst (hid_some.mpr ⟨nV, e1⟩) (DVs.frz gr e2 fz)) gd h0 h1 h2
theorem ds_forT (hp : PassesOwn (model X.prog X.w) X.A X.env X.xe) (hc : X.calm = true) (hi : DE X C iter td) (hg : DG X C tg tgd) (hb : DSs X C body ts) (hs : ∀ x, foldedSetIterable iter X.env x = pure x := by intro _; rfl) : DS X C (.For tg iter body [] pos) (sForT td tgd ts) := by
  obtain ⟨te, i1, i2⟩ := hi.ex
  obtain ⟨g, g1, g2⟩ := hg.ex
  obtain ⟨tb, b1, b2⟩ := hb.ex
  refine ⟨⟨_, ps_for hp hc (pi_tup i1) g1 b1 hs, fun S0 H0 gs al ρ σ H Dn D' r hq gd => ?_⟩⟩
  refine i2 _ σ H _ _ _ r.relB hq fun v d H1 g3 p1 hv => ?_
  obtain ⟨ys, rfl, fz, Iv, h0, h1, h2⟩ := p1
  have r1 := r.go g3
  have hv2 : DV X.K (hid H1 (Vol S0 al ρ)) v (.tup ys) := hv.frz r1.grows (by simpa only [frzD] using fz)
  cases hv2 with
  | @tup a vs _ e1 h =>
    refine ⟨a, rfl, ⟨vs, (e1.mono same_hid).sq⟩, ?_⟩
    exact for_core g2 b2 r1 walkD_tup (fun x hx => by rw [List.mem_singleton.mp hx]; exact .tup e1 h) gd h0 h1 h2
end
theorem frz_strs : ∀ xs : List Str, frzDs (xs.map D.str) = true
  | [] => rfl
  | x :: r => by simp only [List.map_cons, frzDs, frzD, frz_strs r, Bool.and_self]
theorem frz_map {α : Type} {f : α → D} : ∀ {l : List α}, (∀ a ∈ l, frzD (f a) = true) → frzDs (l.map f) = true
  | [], _ => rfl
  | a :: r, h => by simp only [List.map_cons, frzDs, h a List.mem_cons_self, frz_map (l := r) fun b hb => h b (List.mem_cons_of_mem _ hb), Bool.and_self]
end L3
namespace L3
open PySem PySem.Spec PyProof.Rows L2

/-! ### zip of two tuples: each pair a new tuple with no dict of its own -/
def ItzF (K : PySem.W.Frag) (a b : Addr) : It :=
  ⟨(RZ.ItzT K a b).go,
    fun i H v H' => ∃ T x y o, Obj.dict o = none ∧ v = .ref T ∧ H T = none ∧ H' = upd H T (.frz o (.tup [x, y])) ∧ (∀ xs, SqT K H a xs → xs[i]? = some x) ∧ ∀ ys, SqT K H b ys → ys[i]? = some y,
    (RZ.ItzT K a b).stop⟩
theorem turn_zipF {P : Program} {w : World} {K : PySem.W.Frag} {elts : List Expr} {kk : Nat} {tpos : Pos} {a b z TI TO i1 i2 : Addr} (D : ZipApart z TI TO i1 i2 a b) :
    Turn P w K (.Tuple elts kk tpos) (ItzF K a b) [z, TI, TO, i1, i2] z (fun i h => IsZip h z TI TO .none ∧ IsPair h TI (.ref i1) (.ref i2) ∧ (∃ x y, IsPair h TO x y) ∧ h.IsTupleIter i1 a i ∧ h.IsTupleIter i2 b i) where
  mem := (RZ.turn_zipT (P := P) (w := w) (K := K) (elts := elts) (kk := kk) (tpos := tpos) D).mem
  obj := (RZ.turn_zipT (P := P) (w := w) (K := K) (elts := elts) (kk := kk) (tpos := tpos) D).obj
  keep := (RZ.turn_zipT (P := P) (w := w) (K := K) (elts := elts) (kk := kk) (tpos := tpos) D).keep
  done := (RZ.turn_zipT (P := P) (w := w) (K := K) (elts := elts) (kk := kk) (tpos := tpos) D).done
  self := (RZ.turn_zipT (P := P) (w := w) (K := K) (elts := elts) (kk := kk) (tpos := tpos) D).self
  item := by
    intro X hP hw hK hc i pins s σ H E I hf st hg
    subst hP hw hK
    obtain ⟨hz, hTI, ⟨x0, y0, hTO⟩, h1, h2⟩ := st
    obtain ⟨xs, ys, x, y, hqx, hqy, hx, hy⟩ := hg
    obtain ⟨its, rv, p, _⟩ := I.tuple hqx
    obtain ⟨its2, rv2, p2, _⟩ := I.tuple hqy
    obtain ⟨u, hu, ru⟩ := rv.get hx
    obtain ⟨u2, hu2, ru2⟩ := rv2.get hy
    have old : ∀ c ∈ [z, TI, TO, i1, i2], c < s.heap.objs.size := fun c hcm => by
      simp only [List.mem_cons, List.not_mem_nil, or_false] at hcm
      rcases hcm with rfl | rfl | rfl | rfl | rfl
      · exact Heap.lt_size hz
      · exact Heap.lt_size hTI
      · exact Heap.lt_size hTO
      · obtain ⟨_, e, _⟩ := h1; exact Heap.lt_size e
      · obtain ⟨_, e, _⟩ := h2; exact Heap.lt_size e
    refine RZ.pyNext_zipT_item D hz hTI hTO h1 h2 p p2 (x := u) (y := u2) (by simpa using hu) (by simpa using hu2) fun h' z' TO' h1' h2' hT hsz hk => ?_
    refine ⟨_, rfl, wpAny_letOwnedTupleGo_zip (s := { s with heap := h' }) z' fun h'' z'' sb => ?_⟩
    have hT2 : h''.get? s.heap.objs.size = some { cls := .type "tuple", data := .seq #[u, u2] } := (sb.2 _ (Nat.ne_of_gt (old z (by simp)))).trans hT
    have new : ObjOk X.prog X.w (upd H s.heap.objs.size (.frz { cls := .type "tuple", data := .seq #[u, u2] } (.tup [x, y]))) h'' s.heap.objs.size (.frz { cls := .type "tuple", data := .seq #[u, u2] } (.tup [x, y])) :=
      ⟨hT2, by show 2 ≤ sizeLine; decide, [u, u2], .cons ru (.cons ru2 .nil), ⟨_, hT2, rfl, _, rfl⟩⟩
    have away : ∀ {c : Addr} {l : List Addr}, c ∉ l → ∀ e ∈ l, c ≠ e := fun hn e he q => hn (q ▸ he)
    have I1 : Inv X pins σ (upd H s.heap.objs.size (.frz { cls := .type "tuple", data := .seq #[u, u2] } (.tup [x, y]))) { s with heap := h'' } :=
      I.turnedNew (t' := s.toks) (ch := [z, TI, TO, i1, i2]) (fun c o hb q => (sb.2 c (away hb z (by simp))).trans (hk c o (away hb z (by simp)) (away hb TO (by simp)) (away hb i1 (by simp)) (away hb i2 (by simp)) q)) hf (Nat.le_refl _) new
    refine ⟨.ref s.heap.objs.size, _, I1, rfl, ⟨_, x, y, _, rfl, rfl, I.hok.fresh (Nat.le_refl _), rfl, fun l hl => by rw [I.tuple_inj hl hqx]; exact hx, fun l hl => by rw [I.tuple_inj hl hqy]; exact hy⟩, ⟨z'', ?_, ⟨u, u2, ?_⟩, ?_, ?_⟩, fun c hcm => ?_⟩
    · exact (sb.2 _ D.TIz).trans (hk _ _ D.TIz D.TITO D.TIi1 D.TIi2 hTI)
    · exact (sb.2 _ D.TOz).trans TO'
    · exact h1'.at fun o q => (sb.2 _ D.i1z).trans q
    · exact h2'.at fun o q => (sb.2 _ D.i2z).trans q
    · rw [upd_ne (Nat.ne_of_lt (old c hcm))]
      exact (hf c hcm).1
def iZipF (K : PySem.W.Frag) (ta : TA) : TI := fun σ H R => ta σ H fun vs H1 => ∃ a b xs ys, vs = [.ref a, .ref b] ∧ SqT K H1 a xs ∧ SqT K H1 b ys ∧ R (ItzF K a b) H1
theorem pi_zipF {X : Cx} {e e2 : Expr} {ta : TA} {p pos tpos : Pos} {elts : List Expr} {kk : Nat} (hg : Gl X "zip") (hm : X.mg "zip" = none) (ha : PA X [e, e2] ta)
    (hs : starEach [e, e2] X.env = (false, eval e X.env) :: starEach [e2] X.env := by rfl) (hpl : (backTo pos (starEach [e2] X.env)).any (·.1) = false := by rfl) :
    PI X (.Tuple elts kk tpos) (.Call (.Name "zip" p) [e, e2] [] pos) (iZipF X.K ta) := by
  refine ⟨fun pins s σ H R I h => ?_⟩
  refine Call_ (ld_blt I hg hm PyProof.Rows.boot_zip (PyProof.Rows.callWith_type1 (thn (ha.run pos pins s σ H _ I h) fun us s1 ⟨vs, H1, I1, r1, q1⟩ => ?_) hs hpl))
  obtain ⟨a, b, xs, ys, ex, hqx, hqy, q⟩ := q1
  subst ex
  cases r1 with
  | cons r rr =>
    cases rr with
    | cons r' rr =>
      cases rr
      cases r
      cases r'
      obtain ⟨its, rv, p1, _⟩ := I1.tuple hqx
      obtain ⟨its2, rv2, p2, _⟩ := I1.tuple hqy
      obtain ⟨o1, ho1, _⟩ := id p1
      obtain ⟨o2, ho2, _⟩ := id p2
      refine RZ.call_zipT (show s1.heap.IsTuple a its.toArray from p1) (show s1.heap.IsTuple b its2.toArray from p2) fun h' hz hTI hTO h1 h2 hsz hk => wpAny_pyIter_zip hz ?_
      have I2 : Inv X pins σ H1 { s1 with heap := h' } := I1.kept (t' := s1.toks) hk
      refine ⟨s1.heap.objs.size + 4, [s1.heap.objs.size + 4, s1.heap.objs.size + 2, s1.heap.objs.size + 3, s1.heap.objs.size, s1.heap.objs.size + 1], _, _, H1, rfl, I2, turn_zipF (PySem.W.ktu_apart s1.heap.objs.size a b (Heap.lt_size ho1) (Heap.lt_size ho2)), ⟨hz, hTI, ⟨_, _, hTO⟩, h1, h2⟩, fun c hcm => ?_, q⟩
      have hle : s1.heap.objs.size ≤ c := by
        simp only [List.mem_cons, List.not_mem_nil, or_false] at hcm
        rcases hcm with z | z | z | z | z <;> rw [z] <;> first | exact Nat.le_refl _ | exact Nat.le_add_right _ _
      exact I1.fpOk hle (I1.hok.fresh hle)
def zipD (xs ys : List D) : List D := List.zipWith (fun a b => D.tup [a, b]) xs ys
def iZp (t : TDs) : TDs := fun E P => t E fun ds => ∃ xs ys, ds = [.tup xs, .tup ys] ∧ P (zipD xs ys)
theorem walkD_zip {K : PySem.W.Frag} {C : Cf} {a b : Addr} {ds es : List D} : WalkD K C (ItzF K a b) (zipD ds es) [(.ref a, .tup ds), (.ref b, .tup es)] := by
  have get : ∀ {S H}, GsOk K H S [(.ref a, .tup ds), (.ref b, .tup es)] → ∃ vs ws, SqT K H a vs ∧ DVs K (hid H S) vs ds ∧ SqT K H b ws ∧ DVs K (hid H S) ws es := fun g => by
    have h := g _ List.mem_cons_self
    have h2 := g _ (List.mem_cons_of_mem _ List.mem_cons_self)
    cases h with
    | tup e h =>
      cases h2 with
      | tup e2 h2 => exact ⟨_, _, (e.mono same_hid).sq, h, (e2.mono same_hid).sq, h2⟩
  have zl : (zipD ds es).length = min ds.length es.length := by unfold zipD; rw [List.length_zipWith]
  refine ⟨fun S i H ok g hi => ?_, fun S H ok g => ?_, fun S i H x H' ok g hi y => ?_⟩
  · obtain ⟨vs, ws, h1, h2, h3, h4⟩ := get g
    rw [zl] at hi
    have l1 : i < vs.length := by rw [h2.len]; omega
    have l2 : i < ws.length := by rw [h4.len]; omega
    exact ⟨vs, ws, vs[i], ws[i], h1, h3, List.getElem?_eq_getElem l1, List.getElem?_eq_getElem l2⟩
  · obtain ⟨vs, ws, h1, h2, h3, h4⟩ := get g
    refine ⟨vs, ws, h1, h3, ?_⟩
    rw [zl, h2.len, h4.len]
    omega
  · obtain ⟨vs, ws, h1, h2, h3, h4⟩ := get g
    obtain ⟨T, x1, y1, o, nd, rfl, nT, rfl, f1, f2⟩ := y
    obtain ⟨d1, e1, v1⟩ := h2.getV (f1 vs h1)
    obtain ⟨d2, e2, v2⟩ := h4.getV (f2 ws h3)
    have gn : Go C H (upd H T (.frz o (.tup [x1, y1]))) := Go.new ok nT
    refine ⟨.tup [d1, d2], ?_, gn, .tup ⟨o, nd, hid_new ok nT⟩ (.cons (v1.mono (gn.vis ok)) (.cons (v2.mono (gn.vis ok)) .nil))⟩
    unfold zipD
    rw [List.getElem?_zipWith, e1, e2]
theorem di_zip {X : Cx} {C : Cf} {e e2 : Expr} {tds : TDs} {p pos tpos : Pos} {elts : List Expr} {kk : Nat} (hg : Gl X "zip") (hm : X.mg "zip" = none) (ha : DA X C [e, e2] tds)
    (hs : starEach [e, e2] X.env = (false, eval e X.env) :: starEach [e2] X.env := by rfl) (hpl : (backTo pos (starEach [e2] X.env)).any (·.1) = false := by rfl) :
    DI X C (.Tuple elts kk tpos) (.Call (.Name "zip" p) [e, e2] [] pos) (iZp tds) := by
  obtain ⟨ta, h1, h2⟩ := ha.ex
  refine ⟨⟨_, pi_zipF hg hm h1 hs hpl, fun S σ H E P R rl hp q => h2 S σ H E _ _ rl hp fun vs ds H1 g1 p1 v1 => ?_⟩⟩
  obtain ⟨xs, ys, rfl, p1⟩ := p1
  obtain ⟨v, w, rfl, hv, hw⟩ := two_dv v1
  cases hv with
  | @tup a us _ e1 hx =>
    cases hw with
    | @tup b ws _ e2 hy =>
      refine ⟨a, b, us, ws, rfl, (e1.mono same_hid).sq, (e2.mono same_hid).sq, q _ _ [(.ref a, .tup xs), (.ref b, .tup ys)] H1 g1 p1 (fun x hx' => ?_) walkD_zip⟩
      simp only [List.mem_cons, List.not_mem_nil, or_false] at hx'
      rcases hx' with rfl | rfl
      · exact .tup e1 hx
      · exact .tup e2 hy
end L3
namespace L3
open PySem PySem.SeqAt
open PySem.AutoSeq1 (wpAny_loadPart')
open PySem.MeetsSeq PySem.MeetsSeq2 PySem.MeetsSeq3
/-- t < u of two tuples whose first items differ -/
theorem first_lt (l b : Addr) (x y : Value) (xs ys : List Value) (n n2 : Nat) (dd dd2 : Option Addr) (sl sl2 : Array (Option Value)) (r : Bool) :
    Meets (Builtin.«tuple.__lt__» ⟨[.ref l, .ref b], []⟩)
      (fun A R s => s.heap.get? l = some { cls := .type "tuple", dict := dd, data := .seq (x :: xs).toArray n, slots := sl } ∧ s.heap.get? b = some { cls := .type "tuple", dict := dd2, data := .seq (y :: ys).toArray n2, slots := sl2 } ∧
        EqAt A.in1 s x y false ∧ Ob.RcOp .Lt A.in1 s x y r ∧ R (.ok (.ret (.bool r))) s) :=
  .of_wp fun prog w A R s h => by
    obtain ⟨hp, g, d, tk, os⟩ := s
    obtain ⟨hl, hb, he, hr, h⟩ := h
    have f2 := AutoSeq1.sub_tuple_tuple
    wp_walk using wpAny_loadPart' hl, wpAny_loadPart' hb, wpAny_forIn_list _ (fun rest b s' => b.1 = none ∧ s' = ⟨hp, g, d, tk, os⟩ ∧ rest = (x :: xs).zip (y :: ys)) _
    case turn =>
      rintro ⟨y', x'⟩ rest b s' ⟨hb', rfl, hz⟩
      rw [List.zip_cons_cons] at hz
      injection hz with hyx hrest
      cases hyx
      refine wpAny_bind (he prog w _ _ ?_)
      have hri := hr prog w
      wp_walk using hri
      exact ⟨_, rfl, by simpa using h⟩
    case fin =>
      rintro ⟨b1, b2⟩ s' ⟨hb', rfl, hz⟩
      cases hz
    case h =>
      exact ⟨rfl, rfl, by simp⟩
end L3
namespace L3
open PySem PySem.Spec PyProof.Rows L2

abbrev Wl := List (Str × Option Str)
theorem nd_inj {ws : Wl} (nd : (ws.map (·.1)).Nodup) : ∀ {p q : Str × Option Str}, p ∈ ws → q ∈ ws → p.1 = q.1 → p = q := by
  induction ws with
  | nil => intro p q hp; cases hp
  | cons x r ih =>
    rw [List.map_cons, List.nodup_cons] at nd
    intro p q hp hq e
    rcases List.mem_cons.mp hp with h1 | h1 <;> rcases List.mem_cons.mp hq with h2 | h2
    · rw [h1, h2]
    · exact (nd.1 (List.mem_map.mpr ⟨q, h2, by rw [← e, h1]⟩)).elim
    · exact (nd.1 (List.mem_map.mpr ⟨p, h1, by rw [e, h2]⟩)).elim
    · exact ih nd.2 h1 h2 e
theorem wGet_of {ws : Wl} (nd : (ws.map (·.1)).Nodup) {p : Str × Option Str} (h : p ∈ ws) : wGet ws p.1 = some p.2 := by
  obtain ⟨c, h1, h2⟩ := wGet_mem (List.mem_map.mpr ⟨p, h, rfl⟩)
  rw [h1]
  exact congrArg some (congrArg Prod.snd (nd_inj nd h2 h rfl))
theorem same_ws {us ws : Wl} (nd : (ws.map (·.1)).Nodup) (a : us.map (·.1) = ws.map (·.1)) (h : ∀ p ∈ us, p ∈ ws) : us = ws := by
  apply List.ext_getElem?
  intro k
  have hk : us[k]?.map (·.1) = ws[k]?.map (·.1) := by rw [← List.getElem?_map, ← List.getElem?_map, a]
  cases e : us[k]? with
  | none =>
    rw [e] at hk
    cases e2 : ws[k]? with
    | none => rfl
    | some q => rw [e2] at hk; cases hk
  | some p =>
    rw [e] at hk
    cases e2 : ws[k]? with
    | none => rw [e2] at hk; cases hk
    | some q =>
      rw [e2] at hk
      rw [nd_inj nd (h p (List.mem_of_getElem? e)) (List.mem_of_getElem? e2) (Option.some.inj hk)]
def setN (us : Wl) (t : Str) : Wl := us.map fun p => if p.1 = t then (p.1, none) else p
theorem setN_fst (us : Wl) (t : Str) : (setN us t).map (·.1) = us.map (·.1) := by
  unfold setN
  rw [List.map_map]
  refine List.map_congr_left fun p _ => ?_
  show (if p.1 = t then (p.1, none) else p).1 = p.1
  split <;> rfl
theorem putD_w {us : Wl} {t : Str} (h : t ∈ us.map (·.1)) : putD (us.map wD) (.inr t) .non = (setN us t).map wD := by
  unfold putD
  rw [if_pos]
  · unfold setN
    rw [List.map_map, List.map_map]
    refine List.map_congr_left fun p _ => ?_
    show (if (wD p).1 = .inr t then ((wD p).1, D.non) else wD p) = wD (if p.1 = t then (p.1, none) else p)
    by_cases e : p.1 = t
    · rw [if_pos (show (wD p).1 = .inr t by unfold wD; rw [e]), if_pos e]; rfl
    · rw [if_neg (show ¬ (wD p).1 = .inr t by unfold wD; intro z; exact e (Sum.inr.inj z)), if_neg e]
  · rw [List.any_eq_true]
    obtain ⟨p, hp, e⟩ := List.mem_map.mp h
    exact ⟨wD p, List.mem_map.mpr ⟨p, hp, rfl⟩, decide_eq_true (by unfold wD; rw [← e])⟩
theorem putD_new {c : List (Key × D)} {k : Key} {x : D} (h : k ∉ c.map (·.1)) : putD c k x = c ++ [(k, x)] := by
  unfold putD
  rw [if_neg]
  intro z
  obtain ⟨p, hp, e⟩ := List.any_eq_true.mp z
  exact h (List.mem_map.mpr ⟨p, hp, of_decide_eq_true e⟩)
theorem merge_nd : ∀ (r acc : List (Key × D)), ((acc ++ r).map (·.1)).Nodup → r.foldl (fun acc kv => putD acc kv.1 kv.2) acc = acc ++ r
  | [], acc, _ => by rw [List.append_nil]; rfl
  | kv :: r, acc, nd => by
    rw [List.foldl_cons]
    have e : acc ++ kv :: r = (acc ++ [kv]) ++ r := by rw [List.append_assoc]; rfl
    have nn : kv.1 ∉ acc.map (·.1) := by
      intro z
      rw [List.map_append, List.map_cons] at nd
      exact (List.nodup_append.mp nd).2.2 _ z _ List.mem_cons_self rfl
    rw [putD_new nn, merge_nd r (acc ++ [kv]) (by rw [← e]; exact nd), e]
theorem mergeD_nd {l : List (Key × D)} (nd : (l.map (·.1)).Nodup) : mergeD l = l := merge_nd l [] nd
theorem wKeys_nd {ws : Wl} (nd : (ws.map (·.1)).Nodup) : ((ws.map wD).map (·.1)).Nodup := by
  rw [wKeys]
  exact List.Pairwise.map _ (fun a b h z => h (Sum.inr.inj z)) nd
theorem keysD_w (ws : Wl) : keysD (ws.map wD) = (ws.map (·.1)).map D.str := by
  unfold keysD
  rw [List.map_map, List.map_map]
  rfl

/-! ### worlds -/
structure OkW (ss : List Sheet) (n : Nat) (ws : Wl) : Prop where
  nd : (ws.map (·.1)).Nodup
  few : ws.length ≤ n
  nm : ∀ p ∈ ws, NmS p.1
  cls : ∀ p ∈ ws, ∃ s ∈ ss, p.2 = some s.lb
def fitNE (ws : Wl) (goals : List Str) : Prop := (∃ t ∈ ws.map (·.1), fits ws goals t = true) ∨ ("" : Str) ∈ goals
theorem fitL_nil {ws : Wl} {goals ys : List Str} (hp : ys.Perm (ws.map (·.1))) : fitL ws goals ys = [] ↔ ¬ fitNE ws goals := by
  unfold fitL fitN fitNE
  constructor
  · intro h
    obtain ⟨h1, h2⟩ := List.append_eq_nil_iff.mp h
    rintro (⟨t, ht, hf⟩ | z)
    · have : t ∈ ys.filter (fits ws goals) := List.mem_filter.mpr ⟨hp.mem_iff.mpr ht, hf⟩
      rw [List.map_eq_nil_iff.mp h1] at this
      cases this
    · rw [if_pos z] at h2; cases h2
  · intro h
    have e1 : ys.filter (fits ws goals) = [] := by
      rw [List.filter_eq_nil_iff]
      intro t ht hf
      exact h (.inl ⟨t, hp.mem_iff.mp ht, hf⟩)
    rw [e1, if_neg (fun z => h (.inr z))]
    rfl
def okP (ss : List Sheet) (ws : Wl) (p : Str × Option Str) : Prop := ∀ s ∈ ss, p.2 = some s.lb → ∀ h ∈ s.holes, h.form = "one" → fitNE ws h.goals
def Stable (ss : List Sheet) (ws : Wl) : Prop := ∀ p ∈ ws, okP ss ws p
/-- what is left when the first j objects have been looked at -/
structure Left (ss : List Sheet) (ws : Wl) (j : Nat) (us : Wl) : Prop where
  a : us.map (·.1) = ws.map (·.1)
  b : ∀ p ∈ ws, p.1 ∉ (ws.map (·.1)).take j → p ∈ us
  c : ∀ p ∈ us, p ∈ ws ∨ p.2 = none
  e : Stable ss ws → us = ws
theorem Left.start {ss : List Sheet} {ws : Wl} : Left ss ws 0 ws := ⟨rfl, fun _ h _ => h, fun _ h => .inl h, fun _ => rfl⟩
theorem Left.more {ss : List Sheet} {ws us : Wl} {j : Nat} (l : Left ss ws j us) : Left ss ws (j + 1) us :=
  ⟨l.a, fun p hp hn => l.b p hp fun z => hn ((List.take_subset_take_left _ (Nat.le_succ j)) z), l.c, l.e⟩
theorem Left.none {ss : List Sheet} {ws us : Wl} {j : Nat} {t : Str} (l : Left ss ws (j + 1) us) (ht : t ∈ (ws.map (·.1)).take (j + 1)) (ns : ¬ Stable ss ws) : Left ss ws (j + 1) (setN us t) := by
  refine ⟨(setN_fst us t).trans l.a, fun p hp hn => ?_, fun p hp => ?_, fun z => absurd z ns⟩
  · refine List.mem_map.mpr ⟨p, l.b p hp hn, if_neg (fun z : p.1 = t => hn (by rw [z]; exact ht))⟩
  · obtain ⟨q, hq, e⟩ := List.mem_map.mp hp
    split at e
    · rw [← e]; exact .inr rfl
    · rw [← e]; exact l.c q hq
theorem setN_ne {us ws : Wl} {t c : Str} (h : (t, some c) ∈ ws) : setN us t ≠ ws := fun z => by
  rw [← z] at h
  obtain ⟨q, hq, e⟩ := List.mem_map.mp h
  split at e
  · have := congrArg Prod.snd e
    cases this
  · rename_i n
    exact n (congrArg Prod.fst e)
def alive (us : Wl) : Wl := us.filter fun p => p.2.isSome
theorem Left.alive {ss : List Sheet} {ws us : Wl} {j n : Nat} (l : Left ss ws j us) (ok : OkW ss n ws) : OkW ss n (alive us) ∧ (us ≠ ws → (L3.alive us).length < ws.length) ∧ (us = ws → L3.alive us = ws) := by
  have len : us.length = ws.length := by have := congrArg List.length l.a; rwa [List.length_map, List.length_map] at this
  have mem : ∀ p ∈ L3.alive us, p ∈ ws := fun p hp => by
    obtain ⟨h1, h2⟩ := List.mem_filter.mp hp
    rcases l.c p h1 with z | z
    · exact z
    · rw [z] at h2; cases h2
  have sub : (L3.alive us).Sublist us := List.filter_sublist
  refine ⟨⟨?_, Nat.le_trans sub.length_le (by rw [len]; exact ok.few), fun p hp => ok.nm p (mem p hp), fun p hp => ok.cls p (mem p hp)⟩, fun ne => ?_, fun e => ?_⟩
  · exact (by rw [l.a]; exact ok.nd : (us.map (·.1)).Nodup).sublist (sub.map _)
  · apply Classical.byContradiction
    intro h
    have e1 : (L3.alive us).length = us.length := by have := sub.length_le; omega
    have e2 : L3.alive us = us := sub.eq_of_length e1
    exact ne (same_ws ok.nd l.a fun p hp => mem p (by rw [e2]; exact hp))
  · rw [e]
    unfold L3.alive
    rw [List.filter_eq_self]
    intro p hp
    obtain ⟨s, _, z⟩ := ok.cls p hp
    rw [z]; rfl
end L3
namespace L3
open PySem PySem.Spec PyProof.Rows L2

/-! ### sorted whole numbers -/
theorem srt_ints {xs : List Int} : SrtOk (xs.map D.int) := by
  refine ⟨fun d hd => ?_, fun d hd d' hd' => ?_, .inr fun d hd => ?_⟩
  · obtain ⟨x, _, rfl⟩ := List.mem_map.mp hd
    exact ⟨rfl, by simp [toP, PyData.depth]⟩
  · obtain ⟨e, he, rfl⟩ := List.mem_map.mp hd
    obtain ⟨x, _, rfl⟩ := List.mem_map.mp he
    obtain ⟨e', he', rfl⟩ := List.mem_map.mp hd'
    obtain ⟨x', _, rfl⟩ := List.mem_map.mp he'
    simp [toP, PySem.W.alike]
  · obtain ⟨e, he, rfl⟩ := List.mem_map.mp hd
    obtain ⟨x, _, rfl⟩ := List.mem_map.mp he
    exact ⟨fun z => by simp [toP] at z, fun ys z => by simp [toP] at z⟩
theorem back_of {α : Type} {f : α → D} : ∀ {ds : List D}, (∀ d ∈ ds, ∃ x, d = f x) → ∃ ys : List α, ds = ys.map f
  | [], _ => ⟨[], rfl⟩
  | d :: r, h => by
    obtain ⟨x, rfl⟩ := h d List.mem_cons_self
    obtain ⟨ys, rfl⟩ := back_of (ds := r) fun d hd => h d (List.mem_cons_of_mem _ hd)
    exact ⟨x :: ys, rfl⟩
theorem perm_back {α : Type} {f : α → D} {g : D → α} (gf : ∀ a, g (f a) = a) {zs : List D} {xs : List α} (h : zs.Perm (xs.map f)) : ∃ ys : List α, zs = ys.map f ∧ ys.Perm xs := by
  obtain ⟨ys, rfl⟩ := back_of (f := f) (ds := zs) fun d hd => by
    obtain ⟨x, _, e⟩ := List.mem_map.mp (h.mem_iff.mp hd)
    exact ⟨x, e.symm⟩
  refine ⟨ys, rfl, ?_⟩
  have := h.map g
  rw [List.map_map, List.map_map] at this
  have e : (g ∘ f) = id := funext gf
  rwa [e, List.map_id, List.map_id] at this
theorem sortD_ints (xs : List Int) : ∃ ys : List Int, sortD (xs.map D.int) = ys.map D.int ∧ ys.Perm xs ∧ ys.Pairwise (· ≤ ·) := by
  obtain ⟨ys, e, p⟩ := perm_back (f := D.int) (g := fun d => match d with | .int i => i | _ => 0) (fun _ => rfl) (sortD_perm (xs.map D.int))
  have w := sortD_pair (xs.map D.int)
  rw [e] at w
  refine ⟨ys, e, p, ?_⟩
  rw [List.pairwise_map] at w
  exact w.imp fun {a b} h => by
    unfold leD at h
    simp only [toP] at h
    rw [PySem.W.dataLt_int, Bool.not_eq_true', decide_eq_false_iff_not] at h
    omega

/-! ### contents of slots -/
def keyOf : D → Key
  | .int i => .inl i
  | .str x => .inr x
  | _ => .inl 0
theorem keyOf_keyV (k : Key) : keyOf (keyV k) = k := by cases k <;> rfl
def numsK (goals : List Str) : List Key := if ("" : Str) ∈ goals then [.inl 0, .inl 7, .inl (-999), .inl 999] else []
def fitK (ws : Wl) (goals ys : List Str) : List Key := (ys.filter (fits ws goals)).map Sum.inr ++ numsK goals
theorem fitL_keys (ws : Wl) (goals ys : List Str) : fitL ws goals ys = (fitK ws goals ys).map keyV := by
  unfold fitL fitK fitN numsK
  rw [List.map_append, List.map_map]
  congr 1
  split <;> rfl
/-- a word that a slot with some targets may have -/
def wordOk (ws : Wl) (goals : List Str) : Key → Prop
  | .inl i => ("" : Str) ∈ goals ∧ -999 ≤ i ∧ i ≤ 999
  | .inr t => t ∈ ws.map (·.1) ∧ fits ws goals t = true
theorem fitK_ok {ws : Wl} {goals ys : List Str} (hp : ys.Perm (ws.map (·.1))) : ∀ k ∈ fitK ws goals ys, wordOk ws goals k := fun k hk => by
  rcases List.mem_append.mp hk with hk | hk
  · obtain ⟨t, ht, rfl⟩ := List.mem_map.mp hk
    obtain ⟨h1, h2⟩ := List.mem_filter.mp ht
    exact ⟨hp.mem_iff.mp h1, h2⟩
  · unfold numsK at hk
    split at hk
    · rename_i hg
      simp only [List.mem_cons, List.not_mem_nil, or_false] at hk
      rcases hk with rfl | rfl | rfl | rfl <;> exact ⟨hg, by omega, by omega⟩
    · cases hk
theorem fitK_nd {ws : Wl} {goals ys : List Str} (h : ys.Nodup) : (fitK ws goals ys).Nodup := by
  unfold fitK
  refine List.nodup_append.mpr ⟨?_, ?_, fun a ha b hb => ?_⟩
  · exact List.Pairwise.map _ (fun a b h z => h (Sum.inr.inj z)) (h.sublist List.filter_sublist)
  · unfold numsK
    split
    · decide
    · exact .nil
  · obtain ⟨t, _, rfl⟩ := List.mem_map.mp ha
    unfold numsK at hb
    split at hb
    · simp only [List.mem_cons, List.not_mem_nil, or_false] at hb
      rcases hb with rfl | rfl | rfl | rfl <;> exact fun z => nomatch z
    · cases hb
inductive Cont where
  | one (k : Key)
  | many (ks : List Key)
def Cont.d : Cont → D
  | .one k => keyV k
  | .many ks => .tup (ks.map keyV)
structure OkCont (ws : Wl) (h : Hole) (c : Cont) : Prop where
  one : h.form = "one" → ∃ k, c = .one k ∧ wordOk ws h.goals k
  many : h.form ≠ "one" → ∃ ks, c = .many ks ∧ ks.length ≤ 4 ∧ (∀ k ∈ ks, wordOk ws h.goals k) ∧ (h.form = "set" → ∃ (js : List Int) (ts : List Str), ks = js.map Sum.inl ++ ts.map Sum.inr ∧ js.Pairwise (· < ·) ∧ Rising ts)
/-- the numbers, the names among words -/
def isNm : Key → Bool
  | .inr _ => true
  | .inl _ => false
def numsOf (ks : List Key) : List Int := ks.filterMap fun k => match k with | .inl i => some i | .inr _ => none
def namesOf (ks : List Key) : List Str := ks.filterMap fun k => match k with | .inl _ => none | .inr t => some t
theorem nums_flt : ∀ ks : List Key, (ks.filter fun k => !isNm k).map keyV = (numsOf ks).map D.int
  | [] => rfl
  | .inl i :: r => by
    have ih := nums_flt r
    unfold numsOf at ih ⊢
    rw [List.filter_cons_of_pos rfl, List.map_cons, ih]
    rfl
  | .inr t :: r => by
    have ih := nums_flt r
    unfold numsOf at ih ⊢
    rw [List.filter_cons_of_neg (show ¬ (false = true) from Bool.false_ne_true), ih]
    rfl
theorem names_flt : ∀ ks : List Key, (ks.filter isNm).map keyV = (namesOf ks).map D.str
  | [] => rfl
  | .inr t :: r => by
    have ih := names_flt r
    unfold namesOf at ih ⊢
    rw [List.filter_cons_of_pos rfl, List.map_cons, ih]
    rfl
  | .inl i :: r => by
    have ih := names_flt r
    unfold namesOf at ih ⊢
    rw [List.filter_cons_of_neg (show ¬ (false = true) from Bool.false_ne_true), ih]
    rfl
theorem parts_of : ∀ ks : List Key, (numsOf ks).length + (namesOf ks).length = ks.length ∧ (ks.Nodup → (numsOf ks).Nodup ∧ (namesOf ks).Nodup)
  | [] => ⟨rfl, fun _ => ⟨.nil, .nil⟩⟩
  | .inl i :: r => by
    obtain ⟨h1, h2⟩ := parts_of r
    have e1 : numsOf (.inl i :: r) = i :: numsOf r := rfl
    have e2 : namesOf (.inl i :: r) = namesOf r := rfl
    rw [e1, e2, List.length_cons, List.length_cons]
    refine ⟨by omega, fun nd => ?_⟩
    obtain ⟨n1, n2⟩ := List.nodup_cons.mp nd
    refine ⟨List.nodup_cons.mpr ⟨fun z => n1 ?_, (h2 n2).1⟩, (h2 n2).2⟩
    obtain ⟨k, hk, e⟩ := List.mem_filterMap.mp z
    cases k with
    | inl j => cases e; exact hk
    | inr t => cases e
  | .inr t :: r => by
    obtain ⟨h1, h2⟩ := parts_of r
    have e1 : numsOf (.inr t :: r) = numsOf r := rfl
    have e2 : namesOf (.inr t :: r) = t :: namesOf r := rfl
    rw [e1, e2, List.length_cons, List.length_cons]
    refine ⟨by omega, fun nd => ?_⟩
    obtain ⟨n1, n2⟩ := List.nodup_cons.mp nd
    refine ⟨(h2 n2).1, List.nodup_cons.mpr ⟨fun z => n1 ?_, (h2 n2).2⟩⟩
    obtain ⟨k, hk, e⟩ := List.mem_filterMap.mp z
    cases k with
    | inl j => cases e
    | inr t => cases e; exact hk
theorem mem_nums {ks : List Key} {i : Int} (h : i ∈ numsOf ks) : .inl i ∈ ks := by
  obtain ⟨k, hk, e⟩ := List.mem_filterMap.mp h
  cases k with
  | inl j => cases e; exact hk
  | inr t => cases e
theorem mem_names {ks : List Key} {t : Str} (h : t ∈ namesOf ks) : .inr t ∈ ks := by
  obtain ⟨k, hk, e⟩ := List.mem_filterMap.mp h
  cases k with
  | inl j => cases e
  | inr t => cases e; exact hk
theorem lt_of_le_nd {is : List Int} (h : is.Pairwise (· ≤ ·)) (n : is.Nodup) : is.Pairwise (· < ·) := List.Pairwise.imp₂ (fun a b h1 h2 => by omega) h n
theorem cut_take {α : Type} (l : List α) (c : Nat) : cutL l none (some (c : Int)) = l.take c := by
  unfold cutL
  have e0 : HT.sIx l.length 0 none = 0 := rfl
  have e1 : HT.sIx l.length l.length (some (c : Int)) = min c l.length := by rw [HT.sIx_nat]
  rw [e0, e1, List.drop_zero, Nat.sub_zero]
  by_cases z : c ≤ l.length
  · rw [Nat.min_eq_left z]
  · rw [Nat.min_eq_right (by omega), List.take_of_length_le (Nat.le_refl _), List.take_of_length_le (by omega)]
end L3
namespace L3
open PySem PySem.Spec PyProof.Rows L2

/-! ### pairs (is it a name, the word), one less than the other -/
def ltW : Key → Key → Bool
  | .inl i, .inl j => decide (i < j)
  | .inr s, .inr t => decide (s.cps.toList < t.cps.toList)
  | .inl _, .inr _ => true
  | .inr _, .inl _ => false
def wPair (k : Key) : D := .tup [.bl (isNm k), keyV k]
theorem pair_same {A : Around} {s : Shared} {a b : Addr} {x : Bool} {v w : Value} {e1 r1 : Bool} (p1 : s.heap.IsTuple a #[.bool x, v]) (p2 : s.heap.IsTuple b #[.bool x, w]) (hu : A.units < cLine)
    (he : SeqAt.EqAt A.in1 s v w e1) (hr : e1 = false → Ob.RcOp .Lt A.in1 s v w r1) : Ob.RcOp .Lt A s (.ref a) (.ref b) (if e1 = true then false else r1) := by
  have R := Ob.RcOp.tuples_lt (e := fun n => if n = 0 then true else e1) (r := fun _ => r1) p1 p2 hu (fun j h1 h2 => ?_) (fun j h1 h2 e => ?_)
  · have z : Ob.lexAt (fun n => if n = 0 then true else e1) (fun _ => r1) (decide ((#[Value.bool x, v] : Array Value).size < (#[Value.bool x, w] : Array Value).size)) 0 (min (#[Value.bool x, v] : Array Value).size (#[Value.bool x, w] : Array Value).size) = if e1 = true then false else r1 := by
      show Ob.lexAt _ _ (decide (2 < 2)) 0 2 = _
      simp [Ob.lexAt]
    rw [z] at R
    exact R
  · match j, h1, h2 with
    | 0, _, _ =>
      have z := SeqAt.EqAt.bool_bool (A := A.in1) (s := s) x x
      rw [beq_self_eq_true] at z
      exact z
    | 1, _, _ => exact he
    | n + 2, h1, _ => exact absurd h1 (by show ¬ n + 2 < 2; omega)
  · match j, h1, h2, e with
    | 0, _, _, e => cases e
    | 1, _, _, e => exact hr e
    | n + 2, h1, _, _ => exact absurd h1 (by show ¬ n + 2 < 2; omega)
theorem pair_diff {A : Around} {s : Shared} {a b : Addr} {x : Bool} {v w : Value} (p1 : s.heap.IsTuple a #[.bool x, v]) (p2 : s.heap.IsTuple b #[.bool (!x), w]) (hu : A.units < cLine) : Ob.RcOp .Lt A s (.ref a) (.ref b) (!x) := fun prog w' E Q h => by
  obtain ⟨⟨cls, dd, data, sl⟩, ho, hc, n, hd⟩ := id p1
  obtain ⟨⟨cls2, dd2, data2, sl2⟩, ho2, hc2, n2, hd2⟩ := id p2
  simp only at hc hd hc2 hd2
  subst hc hd hc2 hd2
  refine richCompare_meets_room (op := .Lt) ⟨_, ho, rfl⟩ ⟨_, ho2, rfl⟩ PySem.F.slot_tuple_lt PySem.F.entry_tuple_lt (PySem.F.args_tuple_lt_2 _ _) (first_lt a b (.bool x) (.bool (!x)) [v] [w] n n2 dd dd2 sl sl2 (!x)) ⟨ho, ho2, ?_, fun prog w E Q h => ?_, ⟨(fun x => nomatch x), h⟩⟩ hu
  · have z := SeqAt.EqAt.bool_bool (A := A.in1) (s := s) x (!x)
    have e : (x == !x) = false := by cases x <;> rfl
    rw [e] at z
    exact z
  · refine PyProof.Rows.lt_bool ?_
    cases x <;> exact h
def rLtW (K : PySem.W.Frag) : R2 := fun x y H Q => ∃ (a b : Addr) (k l : Key), x = .ref a ∧ y = .ref b ∧ SqT K H a [.bl (isNm k), kV k] ∧ SqT K H b [.bl (isNm l), kV l] ∧ Q (.bl (ltW k l)) H
theorem op_ltW {X : Cx} (hu : X.A.units + 64 < cLine) : OpR X (compareOp .Lt) (rLtW X.K) := by
  intro pins s σ H x y v u Q I rx ry h
  obtain ⟨a, b, k, l, rfl, rfl, ha, hb, q⟩ := h
  cases rx
  cases ry
  obtain ⟨its, r1, p1, _⟩ := I.tuple ha
  obtain ⟨its2, r2, p2, _⟩ := I.tuple hb
  cases r1 with
  | cons ra rt =>
    cases rt with
    | cons rk rt =>
      cases rt
      cases r2 with
      | cons rb rt =>
        cases rt with
        | cons rl rt =>
          cases rt
          rename_i v1 v2 w1 w2
          have e1 : v1 = .bool (isNm k) := ra
          have e2 : w1 = .bool (isNm l) := rb
          subst e1 e2
          have hu' : X.A.units < cLine := by omega
          have R : Ob.RcOp .Lt X.A s (.ref a) (.ref b) (ltW k l) := by
            cases k with
            | inl i =>
              cases l with
              | inl j =>
                obtain ⟨t, rfl⟩ := rk
                obtain ⟨t', rfl⟩ := rl
                have z := pair_same p1 p2 hu' (SeqAt.EqAt.int_int i t j t') fun _ => Ob.RcOp.lt_int i j t t'
                have e : (if (i == j) = true then false else decide (i < j)) = ltW (.inl i) (.inl j) := by
                  show _ = decide (i < j)
                  by_cases q : i = j
                  · rw [if_pos (beq_iff_eq.mpr q), decide_eq_false (by omega)]
                  · rw [if_neg (fun z => q (beq_iff_eq.mp z))]
                rw [e] at z
                exact z
              | inr u => exact pair_diff p1 p2 hu'
            | inr u =>
              cases l with
              | inl j => exact pair_diff p1 p2 hu'
              | inr u2 =>
                obtain ⟨t, rfl⟩ := rk
                obtain ⟨t', rfl⟩ := rl
                have z := pair_same p1 p2 hu' (SeqAt.EqAt.str_str u t u2 t') fun _ => (fun _ _ _ _ h => PyProof.Rows.lt_str h : Ob.RcOp .Lt X.A.in1 s (.str u t) (.str u2 t') (decide (u.cps.toList < u2.cps.toList)))
                have e : (if (u == u2) = true then false else decide (u.cps.toList < u2.cps.toList)) = ltW (.inr u) (.inr u2) := by
                  show _ = decide (u.cps.toList < u2.cps.toList)
                  by_cases q : u = u2
                  · subst q
                    rw [if_pos (beq_iff_eq.mpr rfl), decide_eq_false (List.lt_irrefl _)]
                  · rw [if_neg (fun z => q (beq_iff_eq.mp z))]
                rw [e] at z
                exact z
          exact R X.prog X.w X.xe (EP X pins σ Q) ⟨.bl _, H, I, rfl, q⟩
def fLtW : F2 := fun a b P => ∃ k l, a = wPair k ∧ b = wPair l ∧ P (.bl (ltW k l))
theorem od_ltW {K : PySem.W.Frag} {C : Cf} : OpD K C (rLtW K) fLtW := by
  intro S H x y a b P Q ok hx hy h q
  obtain ⟨k, l, rfl, rfl, h⟩ := h
  obtain ⟨p, vs, rfl, e, hv⟩ := two_tups ok hx
  obtain ⟨p2, vs2, rfl, e2, hv2⟩ := two_tups ok hy
  obtain ⟨x1, x2, rfl, a1, a2⟩ := two_dv hv
  obtain ⟨y1, y2, rfl, b1, b2⟩ := two_dv hv2
  have c1 := a1.bl_inv
  have c2 := key_inv a2 (keyV_key k)
  have c3 := b1.bl_inv
  have c4 := key_inv b2 (keyV_key l)
  subst c1 c2 c3 c4
  exact ⟨p, p2, k, l, rfl, rfl, e, e2, q _ _ H (Go.refl ok) h (.bl _)⟩
end L3
namespace L3
open PySem PySem.Spec PyProof.Rows L2

/-! ### tuple(d): its keys -/
section
variable {prog : Program} {w : World} {A : Around} {E : Value → Shared → Prop} {s : Shared}
theorem code_tuple_keys {Q₁ : Value → Shared → Prop} {K : Type} [DecidableEq K] {knd : KeyKind prog w K} {d : Addr} {kvs : List (K × Value)} {ep : Nat} (hh : A.handled = none) (lo : (d == sysModules) = false) (hat : s.heap.DictAt knd d kvs ep) (hn : kvs.length ≤ sizeLine)
    (h : ∀ (h' : Heap) (tk : Nat) (acc : Array Value), (∀ b o, s.heap.get? b = some o → h'.get? b = some o) → PySem.ItemsOf (fun i v => ∃ k x, kvs[i]? = some (k, x) ∧ knd.is k v = true) acc kvs.length →
      Q₁ (.ref h'.objs.size) { s with heap := h'.push { cls := .type "tuple", data := .seq acc }, toks := tk }) :
    codeAny (model prog w) A (.call (.builtin "tuple.__new__") ⟨[.type "tuple", .ref d], []⟩) (wants Q₁ E) s := by
  refine codeAny_of_tree ?_
  show wpAny _ A.in1 (do checkBuiltinCall "tuple.__new__" ⟨[.type "tuple", .ref d], []⟩; again (.builtin "tuple.__new__" ⟨[.type "tuple", .ref d], []⟩)) _ _ s
  refine wpAny_bind (wpAny_of_eq (PySem.F.newCall_tuple_1 _) (wpAny_pure ⟨plainId_quiet PySem.F.plain_tuple_new _, codeAny_builtin PySem.F.entry_tuple_new ?_⟩))
  rw [Around.under_plainId PySem.F.plain_tuple_new _]
  have hsub := sub_tuple_self
  have hinit := init_tuple_lookup
  have hmh := madeHere_tuple
  have hTI : s.TypeIs (.ref d) "dict" := hat.dictOf.typeIs
  have hh1 : A.in1.handled = none := hh
  wp_walk using wpAny_typeOf hTI, PySem.W.kdu_collect (A := A.in1) (PySem.W.kdl_dict (knd := knd) (kvs := kvs) (ep := ep) lo) hh1 hat hn
  intro h' tk acc hk hacc
  show wpAny _ _ (Builtin.Tuple.tupleExact acc.toList.toArray >>= fun v => ret v) _ _ _
  unfold Builtin.Tuple.tupleExact
  refine wpAny_bind (wpAny_newObj_type ?_ (by show acc.toList.toArray.size ≤ sizeLine; simp only [Array.toArray_toList]; rw [hacc.1]; exact hn))
  refine wpAny_pure ?_
  have e : acc.toList.toArray = acc := by simp
  rw [e]
  exact h h' tk acc hk hacc
end
theorem keys_strs {P : Program} {w : World} {vs : List (Key × Value)} {l : List Value} (hl : l.length = vs.length) (h : ∀ (j : Nat) (v : Value), l[j]? = some v → ∃ k x, vs[j]? = some (k, x) ∧ (mixKind P w).is k v = true) : Vals (vs.map fun p => kV p.1) l := by
  induction vs generalizing l with
  | nil => rw [List.length_eq_zero_iff.mp hl]; exact .nil
  | cons p vs ih =>
    cases l with
    | nil => cases hl
    | cons u l =>
      obtain ⟨k, x, e, hk⟩ := h 0 u rfl
      cases e
      refine .cons (relV_key (show keyIs k u = true from hk)) (ih (Nat.succ.inj hl) fun j v e => ?_)
      obtain ⟨k', x', e', hk'⟩ := h (j + 1) v e
      exact ⟨k', x', e', hk'⟩
def rTupK : List V → Hp → VK → Prop := fun xs H Q => ∃ (a : Addr) (kvs : List (Key × V)), xs = [.ref a] ∧ Rd H a (.dK kvs) ∧ NewT H (kvs.map fun kv => kV kv.1) Q
theorem call_tupleD {X : Cx} (hcalm : X.calm = true) : CallR X (.type "tuple") rTupK := by
  intro pins s σ H xs us Q I r h
  obtain ⟨a, kvs, rfl, rd, q⟩ := h
  obtain ⟨u, rfl, ru⟩ := vals1 r
  cases ru
  obtain ⟨hz, lo, vs, rel, dd⟩ := dk_rd I.hok rd
  obtain ⟨ep, hat⟩ := dd.dictAt
  have hl : kvs.length = vs.length := rel.length
  have ek : (kvs.map fun kv => kV kv.1) = vs.map fun p => kV p.1 := by
    have e := congrArg (List.map kV) rel.keys
    rw [List.map_map, List.map_map] at e
    exact e
  refine callType_codes (Q₁ := fun obj s₁ => s₁.TypeIs obj "tuple" ∧ EP X pins σ Q obj s₁) PySem.F.called_tuple (PySem.F.typeCall_tuple_1 _) PySem.F.entry_object_init
    (code_tuple_keys (A := X.A.in1) (knd := mixKind X.prog X.w) (I.ok.hd hcalm) lo hat (by rw [← hl]; exact hz) fun h' tk acc hk hacc => ⟨⟨_, Heap.get?_push_size _ rfl, rfl⟩, ?_⟩) fun obj s₁ h₁ => ?_
  · have I1 : Inv X pins σ H { s with heap := h', toks := tk } := I.kept hk
    have hv : Vals (kvs.map fun kv => kV kv.1) acc.toList := by
      rw [ek]
      exact keys_strs (P := X.prog) (w := X.w) (by rw [Array.length_toList]; exact hacc.1) fun j v e => hacc.2 j v (by rw [← Array.getElem?_toList]; exact e)
    have z := laidT (n := 0) I1 hv (by rw [List.length_map]; exact hz) q
    rw [Array.toArray_toList] at z
    exact z
  · exact ⟨h₁.1, PySem.F.args_object_init_2 obj _, object_init_meets PySem.F.called_tuple.init.lookup PySem.F.called_tuple.made (by decide) X.prog X.w X.A.in1 _ s₁ ⟨h₁.1, rfl, h₁.2⟩⟩
def fTupK : FN
  | [d], P => ∃ kvs, dicOf d = some kvs ∧ P (.tup (keysD kvs))
  | _, _ => False
theorem fTupK_one {ds : List D} {P : D → Prop} (h : fTupK ds P) : ∃ d, ds = [d] := by
  unfold fTupK at h
  split at h
  · exact ⟨_, rfl⟩
  · exact h.elim
theorem cd_tupK {K : PySem.W.Frag} {C : Cf} : CallD K C rTupK fTupK := by
  intro S H vs ds P Q ok hv h q
  obtain ⟨d, rfl⟩ := fTupK_one h
  obtain ⟨kvs, e1, h⟩ := h
  obtain ⟨v, rfl, hd⟩ := one_dv hv
  obtain ⟨a, ks, rfl, rd, dk⟩ := dic_rd hd e1
  exact ⟨a, ks, rfl, rd, q_tup ok (keys_dv dk) h q⟩
end L3
namespace L3
open PySem PySem.Spec PyProof.Rows L2

/-! ### turns told apart, one by one -/
inductive Two {α β : Type} (R : α → β → Prop) : List α → List β → Prop where
  | nil : Two R [] []
  | cons {a : α} {b : β} {l : List α} {m : List β} (h : R a b) (t : Two R l m) : Two R (a :: l) (b :: m)
theorem Two.len {α β : Type} {R : α → β → Prop} : ∀ {l : List α} {m : List β}, Two R l m → l.length = m.length
  | _, _, .nil => rfl
  | _, _, .cons _ t => by simp [Two.len t]
theorem Two.imp {α β : Type} {R S : α → β → Prop} (f : ∀ a b, R a b → S a b) : ∀ {l : List α} {m : List β}, Two R l m → Two S l m
  | _, _, .nil => .nil
  | _, _, .cons h t => .cons (f _ _ h) (Two.imp f t)
theorem lc_two {α : Type} {tg : TGe} {te : TD} {E : En} (f : α → D) (R : α → D → Prop) : ∀ (l : List α) (acc : List D) (P : List D → Prop), (∀ a ∈ l, ∀ Q : D → Prop, (∀ y, R a y → Q y) → tg (f a) E fun E' => te E' Q) → (∀ zs, Two R l zs → P (acc ++ zs)) → lcRun tg bYes te E (l.map f) acc P
  | [], acc, P, _, hp => by simpa [lcRun] using hp [] .nil
  | a :: r, acc, P, h, hp => h a List.mem_cons_self (fun y => lcRun tg bYes te E (r.map f) (acc ++ [y]) P) fun y hy =>
      lc_two f R r (acc ++ [y]) P (fun b hb => h b (List.mem_cons_of_mem _ hb)) fun zs hz => by
        have := hp (y :: zs) (.cons hy hz)
        rwa [List.append_assoc]
theorem lc_twoM {α : Type} {tg : TGe} {te : TD} {E : En} (mono : ∀ d E (P Q : En → Prop), (∀ E', P E' → Q E') → tg d E P → tg d E Q) (f : α → D) (R : α → D → Prop) (l : List α) (acc : List D) (P : List D → Prop) (h : ∀ a ∈ l, ∀ Q : D → Prop, (∀ y, R a y → Q y) → tg (f a) E fun E' => te E' Q) (hp : ∀ zs, Two R l zs → P (acc ++ zs)) :
    lcRun tg (fun _ P => P true) te E (l.map f) acc P := lc_two f R l acc P h hp

/-! ### graphs -/
structure Ob where
  nm : Str
  cl : Sheet
  cs : List Cont
def Ob.v (o : Ob) : D := .tup [.str o.cl.lb, .tup (o.cs.map Cont.d)]
def Ob.d (o : Ob) : Key × D := (.inr o.nm, o.v)
def wOf (os : List Ob) : Wl := os.map fun o => (o.nm, some o.cl.lb)
structure OkObs (ss : List Sheet) (n : Nat) (os : List Ob) : Prop where
  nd : (os.map Ob.nm).Nodup
  few : os.length ≤ n
  nm : ∀ o ∈ os, NmS o.nm
  cl : ∀ o ∈ os, o.cl ∈ ss
  cs : ∀ o ∈ os, Two (OkCont (wOf os)) o.cl.holes o.cs
theorem wOf_fst (os : List Ob) : (wOf os).map (·.1) = os.map Ob.nm := by
  unfold wOf
  rw [List.map_map]
  rfl
theorem ob_keys (os : List Ob) : (os.map Ob.d).map (·.1) = (os.map Ob.nm).map Sum.inr := by
  rw [List.map_map, List.map_map]
  rfl
theorem frz_key (k : Key) : frzD (keyV k) = true := by cases k <;> rfl
theorem frz_cont (c : Cont) : frzD c.d = true := by
  cases c with
  | one k => exact frz_key k
  | many ks => unfold Cont.d; simp only [frzD]; exact frz_map fun k _ => frz_key k
theorem frz_ob (o : Ob) : frzD o.v = true := by
  unfold Ob.v
  simp only [frzD, frzDs, frz_map (f := Cont.d) (l := o.cs) (fun c _ => frz_cont c), Bool.and_self]
theorem two_conts {ws : Wl} : ∀ {hs : List Hole} {zs : List D}, Two (fun h y => ∃ c, y = Cont.d c ∧ OkCont ws h c) hs zs → ∃ cs : List Cont, zs = cs.map Cont.d ∧ Two (OkCont ws) hs cs
  | _, _, .nil => ⟨[], rfl, .nil⟩
  | _, _, .cons ⟨c, e, h⟩ t => by
    obtain ⟨cs, e2, h2⟩ := two_conts t
    exact ⟨c :: cs, by rw [e, e2]; rfl, .cons h h2⟩
theorem two_ws {ss : List Sheet} : ∀ {xs : List Str} {zs : List D}, Two (fun x y => ∃ s ∈ ss, y = pairV (wD (x, some (Sheet.lb s)))) xs zs → ∃ ws : Wl, zs = ws.map (fun p => pairV (wD p)) ∧ ws.map (·.1) = xs ∧ ∀ p ∈ ws, ∃ s ∈ ss, p.2 = some s.lb
  | _, _, .nil => ⟨[], rfl, rfl, fun _ h => nomatch h⟩
  | _, _, .cons (a := x) ⟨s, hs, e⟩ t => by
    obtain ⟨ws, e2, e3, h2⟩ := two_ws t
    refine ⟨(x, some s.lb) :: ws, by rw [e, e2]; rfl, by rw [List.map_cons, e3], fun p hp => ?_⟩
    rcases List.mem_cons.mp hp with rfl | hp
    · exact ⟨s, hs, rfl⟩
    · exact h2 p hp
end L3
namespace L3
open PySem PySem.Spec PyProof.Rows L2

/-! ### f'..{x!r}' -/
theorem fmt_reprD {X : Cx} (hgd : X.A.guards = some []) (hu : X.A.units + 64 < cLine) {e : Expr} {te : TE} {pos : Pos} (he : PE X e te) : PE X (.FormattedValue e 114 none pos) (fun σ H Q => te σ H fun x H1 => rReprD X.K [x] H1 Q) := by
  refine ⟨fun pins s0 σ H0 Q I0 h => ?_⟩
  refine wpAny_FormattedValue_repr (thn (he.run pins s0 σ H0 _ I0 h) fun u s hv => ?_)
  obtain ⟨v', H, I, rv, v, d, e1, hv, ho, hdp, hz, q⟩ := hv
  cases e1
  have hz' : (toP d).shown.length ≤ sizeLine := small_line hz
  have fin0 : ∀ (h' : Heap) (tk tk' : Nat), (∀ b o, s.heap.get? b = some o → h'.get? b = some o) → EP X pins σ Q (.str (showD d) tk) { s with heap := h', toks := tk' } := fun h' tk tk' hk => ⟨.str _, H, I.kept hk, ⟨tk, rfl⟩, q⟩
  have fin : ∀ (h' : Heap) (tk tk' : Nat), (∀ b o, s.heap.get? b = some o → h'.get? b = some o) → wpAny (model X.prog X.w) X.A (formatField (.str (showD d) tk) Str.empty) (EP X pins σ Q) X.xe { s with heap := h', toks := tk' } := fun h' tk tk' hk =>
    wpAny_formatField_str (fin0 h' tk tk' hk) (fin0 h' tk' (tk' + 1) hk) hz'
  have keep0 : ∀ b o, s.heap.get? b = some o → s.heap.get? b = some o := fun _ _ e => e
  by_cases isd : ∃ ks, d = .dic ks
  · obtain ⟨ks, rfl⟩ := isd
    cases hv with
    | @dic a kv ks e hk =>
      cases rv
      obtain ⟨_, hsys, vs, rel, o, es, ep, ho1, hex, hd1, _, prs, _⟩ := I.hok a _ e
      have ho : flatKs ks = true := ho
      obtain ⟨q1, q2⟩ := keys_reads (h := s.heap) hk rel prs ho
      have rd : Reads s.heap (.ref a) (toP (.dic ks)) [a] := by
        simp only [toP]
        exact Reads.dict (as := []) (bs := []) ho1 hex.1 hd1 q1 q2
      refine pyReprObj_of_reads rd (by simp only [toP, PyData.showable]; exact keys_show ho) (fun _ hm => ?_) hgd (by omega) keep0 (fun h' u tk hk => fin h' u tk hk) hz'
      have z : sysModules = a := by simpa using hm
      rw [← z] at hsys
      exact absurd hsys (by simp)
  · have ho : noDic d = true := by
      cases d <;> first | exact ho | exact absurd ⟨_, rfl⟩ isd
    obtain ⟨s1, s2, s3⟩ := noDic_show d ho
    obtain ⟨as, rd⟩ := Dp.reads I (toP d) _ u (hv.dp s3) rv
    cases hv with
    | non => cases rv; exact pyReprObj_none (fin s.heap _ _ keep0)
    | bl b => cases rv; exact pyReprObj_bool (by have z := fin s.heap s.toks (s.toks + 1) keep0; unfold showD at z; simp only [toP, PyData.shown] at z; exact z)
    | int i =>
      obtain ⟨t, rfl⟩ := rv
      simp only [noDic, decide_eq_true_eq] at ho
      exact pyReprObj_int ho (by have z := fin s.heap s.toks (s.toks + 1) keep0; unfold showD at z; simp only [toP, PyData.shown] at z; exact z)
    | str x =>
      obtain ⟨t, rfl⟩ := rv
      simp only [toP, PyData.shown] at hz'
      exact pyReprObj_str (by have z := fin s.heap s.toks (s.toks + 1) keep0; unfold showD at z; simp only [toP, PyData.shown] at z; exact z) hz'
    | lst _ _ => cases rv; exact pyReprObj_of_reads rd s1 (PyData.noDict_hsm s2) hgd (by omega) keep0 (fun h' u tk hk => fin h' u tk hk) hz'
    | tup _ _ => cases rv; exact pyReprObj_of_reads rd s1 (PyData.noDict_hsm s2) hgd (by omega) keep0 (fun h' u tk hk => fin h' u tk hk) hz'
    | dic _ _ => exact absurd ⟨_, rfl⟩ isd
    | dcf _ _ => simp only [noDic] at ho; cases ho
    | scr _ => simp only [noDic] at ho; cases ho
    | op _ => simp only [noDic] at ho; cases ho
    | ins _ _ => simp only [noDic] at ho; cases ho
    | exc _ _ _ => simp only [noDic] at ho; cases ho
    | exc0 _ => simp only [noDic] at ho; cases ho
    | sem _ _ => simp only [noDic] at ho; cases ho
/-- f'words {e!r}' -/
def dFmt (n : Nat) (t : TD) : TD := fun E P => t E fun d => reprOk d = true ∧ (toP d).depth ≤ 60 ∧ (showD d).length + n ≤ 100000 ∧ ∀ y : Str, P (.str y)
theorem de_fmt {X : Cx} {C : Cf} (hgd : X.A.guards = some []) (hu : X.A.units + 64 < cLine) {e : Expr} {t : TD} {x : Str} {j : Nat} {p1 p2 pos : Pos} {n : Nat} (he : DE X C e t) (hn : x.length = n) (hn2 : n ≤ 1000) : DE X C (.JoinedStr [.Constant (.str x) j p1, .FormattedValue e 114 none p2] pos) (dFmt n t) := by
  obtain ⟨te, h1, h2⟩ := he.ex
  refine ⟨⟨_, pe_joined (PJ.cons pe_str (PJ.cons (fmt_reprD hgd hu h1) PJ.nil)), fun S σ H E P Q rl hp q => ?_⟩⟩
  have l0 : ∀ a b : Str, (a ++ b).length = a.length + b.length := fun a b => Str.length_append a b
  have le0 : (Str.empty : Str).length = 0 := rfl
  refine ⟨x, rfl, ?_, ?_⟩
  · rw [l0, le0]
    exact small_line (by omega)
  · refine h2 S σ H E _ _ rl hp fun v d H1 g1 p1 v1 => ?_
    obtain ⟨a1, a2, a3, a4⟩ := p1
    exact ⟨v, d, rfl, v1.mono same_hid, a1, a2, by omega, _, rfl, by rw [l0, l0, le0]; exact small_line (by omega), q _ _ H1 g1 (a4 _) (.str _)⟩
end L3
/-! super().__init__(e) in the __init__ of an own error over ValueError. -/
namespace L3
open PySem PySem.Spec PyProof.Rows L2

abbrev veI : String := "ValueError.__init__"
section
variable {prog : Program} {w : World} {A : Around} {E : Value → Shared → Prop} {h : Heap} {g : Array GenState} {d : Drawn} {t : Nat} {os : OsState}
variable {nm q : Str} {C N : Addr} {bs bm : List Value} {hdct : Bool} {sn : List Str} {sub : List Value} {ab : Bool} {col : Option Bool} {dd : Option Addr} {k0 k1 k2 k3 k5 : Option Value}
theorem call_mwV {u e t0 : Addr} {rest : List Value} {Q : Value → Shared → Prop}
    (hC : h.get? C = some (excClassObj nm q C N bs bm hdct sn sub ab col dd k0 k1 k2 k3 k5 "ValueError.__new__")) (he : h.get? e = some (HandSPX.excO C t0)) (hu : h.get? u = some (PySem.W.kxs_mw veI e)) (hrest : rest.length ≤ sizeLine)
    (hq : ∀ h' t1, (∀ b o, b ≠ e → h.get? b = some o → h'.get? b = some o) → h'.get? e = some (HandSPX.excO C t1) → Q .none ⟨h', g, d, t, os⟩) :
    wpAny (model prog w) A (call (.ref u) rest) Q E ⟨h, g, d, t, os⟩ := by
  refine wpAny_call (codeAny_of_tree ?_)
  show wpAny _ A.in1 (callAny (.ref u) ⟨rest, []⟩) _ _ _
  simp only [callAny]
  refine wpAny_bind (wpAny_load hu ?_)
  simp only [PySem.W.kxs_mw, show (Value.type "method-wrapper" == Value.type "method" || Value.type "method-wrapper" == Value.type "builtin_function_or_method" || Value.type "method-wrapper" == Value.type "method-wrapper") = true by decide, if_true]
  refine W.KFB.if_so (by decide) ?_
  refine wpAny_bind (ESX.check_bound F.excBase_ValueError hC he rfl ?_)
  refine wpAny_bind (wpAny_pure (wpAny_pure ?_))
  refine ⟨Code.quiet_builtin _ (by decide +kernel), codeAny_builtin F.excBase_ValueError.initEntry ?_⟩
  rw [Around.under_plainId F.excBase_ValueError.init.plain _]
  wp_walk
  refine hq _ h.objs.size (fun b o hb ho => ?_) ?_
  · rw [Heap.get?_update_other _ _ (Ne.symm hb)]
    exact Heap.get?_push_of_some _ ho
  · rw [Heap.get?_update_self _ (Heap.get?_push_of_some _ he) rfl]
    rfl
end

/-- the context of such an __init__'s body -/
def suCx (P : Program) (w : World) (K : PySem.W.Frag) (mg : Str → Option Value) (base : Heap) (N : List Str) (qual : Str) (scope : Scope) (f cda cc : Addr) (A : Around) (outer : List Env) (s : Shared) (H : Hp) : Cx where
  prog := P
  w := w
  K := K
  mg := mg
  base := base
  A := A.deeper (PySem.W.ksEnv qual scope s.heap.objs.size f (.ref cda) cc)
  N := N
  s_0 := s
  H_0 := H
  env := PySem.W.ksEnv qual scope s.heap.objs.size f (.ref cda) cc
  outer := outer
  stack := PySem.W.ksEnv qual scope s.heap.objs.size f (.ref cda) cc :: outer
  ex := []
  calm := true
  fn := fun _ => false
  pn := []
  xe := fun _ _ => False
/-- what its scope must say -/
structure SuScope (N ps : List Str) (sc : Scope) : Prop where
  kind : sc.kind = .function
  co : sc.isCoroutine = false
  gen : sc.isGenerator = false
  nd : N.Nodup
  pre : N.take ps.length = ps
  par : ∀ x ∈ ps, sc.names.lookup x = some .local
  nocell : ∀ y ∈ sc.names, y.2 ≠ .cell
  fre : ∀ y ∈ sc.names, y.2 = .free → y.1 = "__class__"
  sup : sc.names.lookup ("super" : Str) = some .globalImplicit
  cls : sc.names.lookup ("__class__" : Str) = some .free
theorem look_nodup {y : Str} {u : Value} : ∀ {l : List (Str × Value)}, (l.map (·.1)).Nodup → (y, u) ∈ l → l.lookup y = some u
  | [], _, h => nomatch h
  | (z, v) :: r, hn, h => by
    rw [List.map_cons, List.nodup_cons] at hn
    rcases List.mem_cons.mp h with e | e
    · cases e; exact List.lookup_cons_self
    · have ne : (y == z) = false := by
        rw [beq_eq_false_iff_ne]
        intro q
        exact hn.1 (q ▸ List.mem_map.mpr ⟨_, e, rfl⟩)
      rw [List.lookup_cons, ne]
      exact look_nodup hn.2 e
theorem zip_keys_nodup {ps : List Str} (h : ps.Nodup) : ∀ (us : List Value), ((ps.zip us).map (·.1)).Nodup := by
  induction ps with
  | nil => intro us; exact List.nodup_nil
  | cons p r ih =>
    intro us
    cases us with
    | nil => exact List.nodup_nil
    | cons u us =>
      rw [List.zip_cons_cons, List.map_cons, List.nodup_cons]
      rw [List.nodup_cons] at h
      refine ⟨fun q => ?_, ih h.2 us⟩
      obtain ⟨z, hz, e⟩ := List.mem_map.mp q
      have e : z.1 = p := e
      exact h.1 (by rw [← e]; exact (List.of_mem_zip (a := z.1) (b := z.2) hz).1)
theorem zip_rev_look {ps : List Str} {us : List Value} {i : Nat} {y : Str} {u : Value} (h : ps.Nodup) (hp : ps[i]? = some y) (hu : us[i]? = some u) : (ps.zip us).reverse.lookup y = some u := by
  refine look_nodup (by rw [List.map_reverse]; exact (List.reverse_perm _).nodup_iff.mpr (zip_keys_nodup h us)) (List.mem_reverse.mpr ?_)
  refine List.mem_of_getElem? (i := i) ?_
  rw [List.getElem?_zip_eq_some]
  exact ⟨hp, hu⟩
theorem lookup_mem_of {α : Type} {l : List (Str × α)} {x : Str} {v : α} (h : l.lookup x = some v) : (x, v) ∈ l := PySem.mem_of_lookup h
theorem su_start {P : Program} {w : World} {K : PySem.W.Frag} {mg : Str → Option Value} {base : Heap} {N ps : List Str} {qual : Str} {scope : Scope} {f cda cc : Addr} {A : Around} {outer : List Env} {s : Shared} {H : Hp} {us : List Value} {vs : List V} {h₀ : Heap} {tk : Nat} {v0 : Option Value} {cl : Value} {cld : Option Addr} {csl : Array (Option Value)}
    (S : SuScope N ps scope) (hd : A.handled = none) (e0 : Env0 P w K mg base A outer s H) (hl : vs.length = ps.length) (r : Vals vs us) (hc : K.lookup cc = some ⟨cl, cld, .cell v0, csl⟩)
    (hns : h₀.Ns s.heap.objs.size fun x => (ps.zip us).reverse.lookup x) (hk : ∀ b o, s.heap.get? b = some o → h₀.get? b = some o) :
    Inv (suCx P w K mg base N qual scope f cda cc A outer s H) [] (L2.start N vs) H { s with heap := h₀, toks := tk } := by
  have hpl : ps.length ≤ N.length := by have := congrArg List.length S.pre; rw [List.length_take] at this; omega
  have noA : ∀ b : Addr, b ∉ (suCx P w K mg base N qual scope f cda cc A outer s H).ex := fun b z => absurd (show b ∈ ([] : List Addr) from z) (by simp)
  have one : ∀ {y c}, ([("__class__", cc)] : List (Str × Addr)).lookup y = some c → y = "__class__" ∧ c = cc := fun {y c} e => by
    have m := PySem.mem_of_lookup e
    rw [List.mem_singleton] at m
    exact ⟨congrArg Prod.fst m, congrArg Prod.snd m⟩
  have cb : base.get? cc = some ⟨cl, cld, .cell v0, csl⟩ := e0.mod.kin _ _ hc
  have cs := e0.bs _ _ cb
  refine ⟨⟨e0.mod, S.kind, rfl, rfl, Nat.le_refl _, fun y z c h1 h2 => ?_, fun y hy => ?_, fun y c h _ => ?_, fun _ => hd, Around.frames_deeper e0.frames, .inr ⟨rfl, rfl⟩, fun b z => absurd z (noA b), e0.bs, e0.bsz, fun b _ _ => noA b, fun b z => absurd z (noA b), e0.funs, e0.frf⟩,
    rfl, e0.bare, Un.kept hk, ⟨_, hns, fun i y v h1 h2 h3 => ?_⟩, fun y c h => ?_, e0.hok.fresh (Nat.le_refl _), fun y c h => ?_, fun p hp => absurd (show p ∈ ([] : List (Addr × Obj)) from hp) (by simp), e0.hok.kept hk, ?_⟩
  · have h1 := (one h1).1
    have h2 := (one h2).1
    exact h1.trans h2.symm
  · have hy : scope.names.lookup y = some .cell ∨ scope.names.lookup y = some .free := hy
    rcases hy with hy | hy
    · exact absurd rfl (S.nocell _ (PySem.mem_of_lookup hy))
    · have e := S.fre _ (PySem.mem_of_lookup hy) rfl
      have e : y = "__class__" := e
      subst e
      exact ⟨cc, rfl⟩
  · cases h
  · have hi : i < vs.length := by
      unfold L2.start at h2
      by_cases hi : i < vs.length
      · exact hi
      · rw [List.getElem?_append_right (by simpa using hi)] at h2
        rw [List.getElem?_replicate] at h2
        split at h2 <;> cases h2
    have ha : vs[i]? = some v := by
      unfold L2.start at h2
      rw [List.getElem?_append_left (by simpa using hi), List.getElem?_map] at h2
      cases e : vs[i]? with
      | none => rw [e] at h2; cases h2
      | some a => rw [e] at h2; cases h2; rfl
    obtain ⟨u, hu, rv⟩ := r.get ha
    have hp : ps[i]? = some y := by
      rw [← S.pre, List.getElem?_take_of_lt (by omega)]; exact h1
    have ndP : ps.Nodup := by rw [← S.pre]; exact S.nd.sublist (List.take_sublist _ _)
    refine ⟨u, rv, .inl ⟨S.par y (List.mem_of_getElem? hp), ?_⟩⟩
    exact zip_rev_look ndP hp hu
  · obtain ⟨_, rfl⟩ := one h
    exact ⟨_, _, hk _ _ cs.1, rfl⟩
  · obtain ⟨_, rfl⟩ := one h
    exact cs.2
  · unfold L2.start
    show _ = N.length
    rw [List.length_append, List.length_map, List.length_replicate]
    omega

/-- what of the text an own error's __init__ must have -/
structure SupF (P : Program) (K : PySem.W.Frag) (qual : Str) (C : Addr) (st : Stmt) (f : Addr) (fd : FuncData) : Prop where
  ex : ∃ (oc : Value) (od : Option Addr) (kV doc pm : Value) (an : Option Addr) (cda : Addr) (ct : Value) (osl : Array (Option Value)) (cc : Addr) (ccl : Value) (cdd : Option Addr) (vs : Array Value) (ccs : Array (Option Value)) (file : Str) (tf : Tok) (cl : Value) (cld : Option Addr) (csl : Array (Option Value)) (ar : Arg),
    fd = PySem.W.ksFn "__init__" qual (defArgs st) (defBody st) (defScope st) .none kV doc pm an (.ref cda) ct cc ∧ K.lookup f = some ⟨oc, od, .func fd, osl⟩ ∧ PySem.W.codeIn K (.ref cda) qual = true ∧
    K.lookup cda = some ⟨ccl, cdd, .fields vs, ccs⟩ ∧ vs[2]? = some (.str file tf) ∧ ((P.main.file : Str) == file) = true ∧ K.lookup cc = some ⟨cl, cld, .cell (some (.ref C)), csl⟩ ∧
    ((defArgs st).posonlyargs ++ (defArgs st).args).head? = some ar ∧ ar.arg = "self"
  cls : ∃ cd, PySem.W.clsIn K C = some cd
  mro : PySem.W.mroIn K C (.ref C) = some true
  sup : PySem.W.ks_superIn K C C "__init__" = some (some (.builtin veI))
  sub : PySem.W.subIn K (.ref C) (.type "ValueError") = some true
  opq : PySem.W.nsIn K cStatics "thirdparty.any" = some none
  top : (P.main.scope.names.lookup ("super" : Str)).isSome = false
  oex : OexC K C
theorem stmt_super {P : Program} {w : World} {K : PySem.W.Frag} {mg : Str → Option Value} {base : Heap} {N ps : List Str} {qual : Str} {st : Stmt} {f C : Addr} {fd : FuncData} {A : Around} {outer : List Env} {s0 s : Shared} {H0 H : Hp}
    {oc : Value} {od : Option Addr} {kV doc pm : Value} {an : Option Addr} {cda : Addr} {ct : Value} {osl : Array (Option Value)} {cc : Addr} {ccl : Value} {cdd : Option Addr} {vs : Array Value} {ccs : Array (Option Value)} {file : Str} {tf : Tok} {cl : Value} {cld : Option Addr} {csl : Array (Option Value)} {ar : Arg} {body : List Stmt}
    (SF : SupF P K qual C st f fd) (S : SuScope N ps (defScope st)) (efd : fd = PySem.W.ksFn "__init__" qual (defArgs st) (defBody st) (defScope st) .none kV doc pm an (.ref cda) ct cc) (lk : K.lookup f = some ⟨oc, od, .func fd, osl⟩)
    (kco : K.lookup cda = some ⟨ccl, cdd, .fields vs, ccs⟩) (kvs : vs[2]? = some (.str file tf)) (kfile : ((P.main.file : Str) == file) = true) (kcc : K.lookup cc = some ⟨cl, cld, .cell (some (.ref C)), csl⟩) (kar : ((defArgs st).posonlyargs ++ (defArgs st).args).head? = some ar) (kself : ar.arg = "self")
    (ms : mg "super" = none) (hself : ("self" : Str) ∈ ps) {i : Nat} (hi : N[i]? = some ("self" : Str)) {σ : L2.St} {a : Addr} (hσ : σ[i]? = some (some (.ref a))) (ha : H a = some (exo a C none))
    {e : Expr} {te : TE} {p0 p1 p2 p3 p4 : Pos} {R : Hp → Prop} (I : Inv (suCx P w K mg base N qual (defScope st) f cda cc A outer s0 H0) [] σ H s) (he : PE (suCx P w K mg base N qual (defScope st) f cda cc A outer s0 H0) e te)
    (hsp : starEach [e] (suCx P w K mg base N qual (defScope st) f cda cc A outer s0 H0).env = (false, eval e (suCx P w K mg base N qual (defScope st) f cda cc A outer s0 H0).env) :: starEach [] (suCx P w K mg base N qual (defScope st) f cda cc A outer s0 H0).env)
    {pl : Sem Bool} (hev : eval (.Call (.Attribute (.Call (.Name "super" p0) [] [] p1) "__init__" p2) [e] [] p3) (suCx P w K mg base N qual (defScope st) f cda cc A outer s0 H0).env = (do
      let ov ← attributeBase (.Call (.Name "super" p0) [] [] p1) "__init__" (suCx P w K mg base N qual (defScope st) f cda cc A outer s0 H0).env (eval (.Call (.Name "super" p0) [] [] p1) (suCx P w K mg base N qual (defScope st) f cda cc A outer s0 H0).env)
      standAt p2.atName
      let (g, first) ← holding [ov] (getMethod ov "__init__" pl)
      callWith p3 g first (backTo p3 (starEach [e] (suCx P w K mg base N qual (defScope st) f cda cc A outer s0 H0).env)) []))
    (hsw : swapsWith (.Call (.Attribute (.Call (.Name "super" p0) [] [] p1) "__init__" p2) [e] [] p3) none p4.line (suCx P w K mg base N qual (defScope st) f cda cc A outer s0 H0).env = pure false)
    (h : te σ H fun _ H1 => H1 a = some (exo a C none) ∧ R H1) :
    _root_.PySem.wpAt (model P w) (suCx P w K mg base N qual (defScope st) f cda cc A outer s0 H0).A (.func body (suCx P w K mg base N qual (defScope st) f cda cc A outer s0 H0).env)
      (exec (.Expr (.Call (.Attribute (.Call (.Name "super" p0) [] [] p1) "__init__" p2) [e] [] p3) p4) (suCx P w K mg base N qual (defScope st) f cda cc A outer s0 H0).env)
      (fun fl s' => fl = .next ∧ ∃ H1, Inv (suCx P w K mg base N qual (defScope st) f cda cc A outer s0 H0) [] σ H1 s' ∧ R H1) (fun _ _ => False) s := by
  generalize hX : suCx P w K mg base N qual (defScope st) f cda cc A outer s0 H0 = X at I he hsp hev hsw ⊢
  have eP : X.prog = P := by rw [← hX]; rfl
  have ew : X.w = w := by rw [← hX]; rfl
  have eK : X.K = K := by rw [← hX]; rfl
  have emg : X.mg = mg := by rw [← hX]; rfl
  have eenv : X.env = PySem.W.ksEnv qual (defScope st) s0.heap.objs.size f (.ref cda) cc := by rw [← hX]; rfl
  have eN : X.N = N := by rw [← hX]; rfl
  have exe : X.xe = fun _ _ => False := by rw [← hX]; rfl
  have epn : X.pn = [] := by rw [← hX]; rfl
  have kin : K.In s.heap := by rw [← eK]; exact I.kIn
  obtain ⟨nm, q, Nn, bs, bm, sn, sub, ab, col, dd, k0, k1, k2, k3, k5, hC, hbm⟩ := SF.oex.cls
  obtain ⟨t1, ho⟩ := exo_at I.hok ha
  obtain ⟨cdC, hcl⟩ := SF.cls
  have S1 : (defScope st).names.lookup ar.arg = some .local := by rw [kself]; exact S.par _ hself
  -- the frame's own names
  obtain ⟨m, hns, hlk⟩ := id I.loc
  obtain ⟨u0, ru0, l0⟩ := hlk i "self" (.ref a) (by rw [eN]; exact hi) hσ (by rw [eenv]; exact .inl (S.par _ hself))
  obtain rfl : u0 = Value.ref a := ru0
  have hm : m "self" = some (.ref a) := by
    rcases l0 with ⟨_, l0⟩ | ⟨k | k, _⟩
    · exact l0
    · rw [eenv] at k
      have k : (defScope st).names.lookup ("self" : Str) = some .cell := k
      rw [S.par _ hself] at k
      cases k
    · rw [eenv] at k
      have k : (defScope st).names.lookup ("self" : Str) = some .free := k
      rw [S.par _ hself] at k
      cases k
  have hcc : s.heap.IsCell cc (some (.ref C)) := ⟨_, kin _ _ kcc, rfl⟩
  have hC' := kin _ _ hC
  have hsub : PySem.W.Looks (model P w) s.heap (isSubtype (.ref C) (.ref C)) true := PySem.W.looks_mroIn kin SF.mro
  have hmro : PySem.W.Looks (model P w) s.heap (mroOf (.ref C)) cdC.mro := fun A Q E s k q => wpAny_bind ((PySem.W.looks_clsIn kin hcl) A _ E s k (wpAny_pure q))
  have hopq : PySem.W.Looks (model P w) s.heap (opaqueClassAbove (.ref C)) none := PySem.W.looks_opaque kin SF.opq
  have hal : PySem.W.alongIn K "__init__" ((cdC.mro.dropWhile (· != .ref C)).drop 1) = some (some (.builtin veI)) := by
    have z := SF.sup
    unfold PySem.W.ks_superIn at z
    rw [hcl] at z
    exact z
  have hinst : PySem.W.InstAt s.heap a { cls := .ref C, dict := none, data := .fields #[.ref t1, .none, .none, .none, .bool false, .none] } C none := ⟨ho, rfl, rfl, trivial⟩
  have haC : a ≠ C := PySem.W.ks_ne kin hinst hcl
  have hisv : PySem.W.Looks (model P w) s.heap (isInstance (.ref a) (.type "ValueError")) true := hinst.type.andThen (PySem.W.looks_subIn kin SF.sub)
  have hglob : s.heap.Ns X.env.globals X.mg := by rw [I.ok.glob]; exact I.mod.glob.keeps I.bk
  obtain ⟨mb, hb1, hb2⟩ := I.mod.blt
  have hblt : s.heap.Ns X.env.builtins mb := by rw [I.ok.blt]; exact hb1.keeps I.bk
  have kf := kin _ _ lk
  have kc2 := kin _ _ kco
  refine ks_wpAt_Expr_any (ks_wpAt_MethodCall ?_ hev) (by rw [eenv]; show ((defScope st).kind == .module && _) = false; rw [S.kind]; rfl) hsw
  refine ks_wpAt_super_base (env := X.env) (f := f) (cc := cda) (fd := fd) (ar := ar) (vs := vs) (file := file) (tf := tf) (by rw [eenv]; exact S.sup) (by rw [eenv]; exact S.cls) (by decide) (by rw [eenv]) kf rfl (by rw [efd]; exact kar) (by rw [eenv]) kc2 rfl kvs kfile SF.top ?_
  refine PySem.W.ks_loadName_global (by rw [eenv]; exact S.kind) (by rw [eenv]; exact S.sup) (Calls.loadGlobal_builtin hglob (by rw [emg]; exact ms) hblt ((hb2 _ (by decide)).trans (show bootBuiltins "super" = some (.type "super") by first | rfl | boot_by_name)) ⟨rfl, ?_⟩)
  refine wpAny_loadName_free (c := cc) (by rw [eenv]; exact S.kind) (by rw [eenv]; exact S.cls) (by rw [eenv]; rfl) hcc ?_
  rw [kself]
  refine wpAny_loadName_local (by rw [eenv]; exact S.kind) (by rw [eenv]; exact S.par _ hself) hns hm ?_
  obtain ⟨hh, g, d, t, os⟩ := s
  refine ks_wpAny_isType_cls hC' rfl ⟨rfl, ?_⟩
  refine ks_wpAny_call_super hC' rfl ho rfl (fun c z => nomatch z) hsub fun h1 hso k1 => ?_
  have I1 : Inv X [] σ H ⟨h1, g, d, t, os⟩ := I.kept (t' := t) k1
  refine PySem.W.kxs_getMethod PySem.W.kxs_ValueError hso (hopq.keeps k1) (hmro.keeps k1) rfl (by rw [← eK]; exact I1.kIn) hal (hisv.keeps k1) haC (by decide) ?_
  have k2 : ∀ b o, h1.get? b = some o → (h1.push (PySem.W.kxs_mw veI a)).get? b = some o := fun b o z => Heap.get?_push_of_some _ z
  have hu : (h1.push (PySem.W.kxs_mw veI a)).get? h1.objs.size = some (PySem.W.kxs_mw veI a) := Heap.get?_push_size _ rfl
  have I2 : Inv X [] σ H ⟨h1.push (PySem.W.kxs_mw veI a), g, d, t + 1, os⟩ := I1.kept (t' := t + 1) k2
  have I3 : Inv X [(h1.objs.size, PySem.W.kxs_mw veI a)] σ H ⟨h1.push (PySem.W.kxs_mw veI a), g, d, t + 1, os⟩ := I2.pins_of fun p hp => by
    rw [List.mem_singleton] at hp
    subst hp
    exact ⟨hu, I1.hok.fresh (Nat.le_refl _), Nat.ne_of_gt I1.lt, I1.nofs (Nat.le_refl _), fun v z => nomatch z⟩
  show wpAny _ _ (callWith p3 (.ref h1.objs.size) [] (backTo p3 (starEach [e] X.env)) []) _ _ _
  rw [hsp]
  refine PySem.W.kxs_callWith (i := veI) (x := a) (by rfl) (Calls.evalArgs_plain ?_)
  refine Calls.spliced_cons ?_
  have run := he.run [(h1.objs.size, PySem.W.kxs_mw veI a)] _ σ H _ I3 h
  rw [exe] at run
  have eA : X.A = (suCx P w K mg base N qual (defScope st) f cda cc A outer s0 H0).A := by rw [hX]
  rw [eP, ew] at run
  refine thn run fun u s1 hv => ?_
  obtain ⟨v, H1, I4, rv, ha1, hr⟩ := hv
  obtain ⟨t2, ho2⟩ := exo_at I4.hok ha1
  have hu1 : s1.heap.get? h1.objs.size = some (PySem.W.kxs_mw veI a) := (I4.pin (h1.objs.size, PySem.W.kxs_mw veI a) (by rw [epn]; exact List.mem_singleton_self _)).1
  have kin1 : K.In s1.heap := by rw [← eK]; exact I4.kIn
  refine Calls.spliced_nil ⟨hu1, ?_⟩
  obtain ⟨hh5, g5, d5, t5, os5⟩ := s1
  refine call_mwV (kin1 _ _ hC) ho2 hu1 (by show 1 ≤ sizeLine; decide) fun h' t3 k hx => ?_
  have J := I4.write (t' := t5) (x := a) (e := a) (o := exo a C none) (by rw [ha1]; exact True.intro) (.inl rfl) k ⟨_, hx⟩ (exo_ok hx)
  have eu : upd H1 a (exo a C none) = H1 := by
    funext b
    by_cases hb : b = a
    · rw [hb, upd_same, ha1]
    · rw [upd_ne hb]
  rw [eu] at J
  exact ⟨rfl, H1, J.pins_of (fun p hp => nomatch hp), hr⟩
/-- what such an __init__ is worth: at the object's address, an argument's datum -/
def spErr (K : PySem.W.Frag) (C : Addr) (x : Str) (F : Cf → FN) : Sp := fun vs H Q _ => ∃ (Cf0 : Cf) (S : AS) (a : Addr) (v : V) (d : D) (P : D → Prop), vs = [.ref a, v] ∧ H a = some (exo a C none) ∧ ¬ Cf0.G a ∧ Ok Cf0 S H ∧ DV K (hid H S) v d ∧ F Cf0 [d] P ∧
  ∀ (y : V) (d' : D) (dx : Addr) (H1 : Hp), Go Cf0 H H1 → H1 dx = none → dx ≠ a → P d' → DV K (hid H1 S) y d' → Q .non (upd (upd H1 dx (exd dx [(x, y)])) a (exo a C (some dx)))
theorem def_super {P : Program} {w : World} {K : PySem.W.Frag} {mg : Str → Option Value} {base : Heap} {k : Nat} {qual x nm : Str} {st : Stmt} {f C : Addr} {fd : FuncData} {F : Cf → FN} {e eo ev : Expr} {p0 p1 p2 p3 p4 p5 p6 : Pos}
    (SF : SupF P K qual C st f fd) (S : SuScope ["self", nm] ["self", nm] (defScope st)) (hb : defBody st = [.Expr (.Call (.Attribute (.Call (.Name "super" p0) [] [] p1) "__init__" p2) [e] [] p3) p4, .Assign [.Attribute eo x p5] ev p6])
    (ms : mg "super" = none) (hno : PySem.W.findIn K (.ref C) x = some none)
    (body : ∀ (cda cc : Addr) (A : Around) (fr : List Env) (s : Shared) (H : Hp), A.guards = some [] → Room k (A.deeper (PySem.W.ksEnv qual (defScope st) s.heap.objs.size f (.ref cda) cc)) → ∀ (Cf0 : Cf) (d : D) (R : D → Prop), F Cf0 [d] R →
      ∃ t1 t2, DE (suCx P w K mg base ["self", nm] qual (defScope st) f cda cc A fr s H) Cf0 e t1 ∧ PE (suCx P w K mg base ["self", nm] qual (defScope st) f cda cc A fr s H) eo (tVar 0) ∧ DE (suCx P w K mg base ["self", nm] qual (defScope st) f cda cc A fr s H) Cf0 ev t2 ∧ t1 [none, some d] (fun _ => t2 [none, some d] R))
    (hpl : ∀ (cda cc : Addr) (L : Addr), starEach [e] (PySem.W.ksEnv qual (defScope st) L f (.ref cda) cc) = (false, eval e (PySem.W.ksEnv qual (defScope st) L f (.ref cda) cc)) :: starEach [] (PySem.W.ksEnv qual (defScope st) L f (.ref cda) cc))
    {pl : Sem Bool} (hev : ∀ (cda cc : Addr) (L : Addr), eval (.Call (.Attribute (.Call (.Name "super" p0) [] [] p1) "__init__" p2) [e] [] p3) (PySem.W.ksEnv qual (defScope st) L f (.ref cda) cc) = (do
      let ov ← attributeBase (.Call (.Name "super" p0) [] [] p1) "__init__" (PySem.W.ksEnv qual (defScope st) L f (.ref cda) cc) (eval (.Call (.Name "super" p0) [] [] p1) (PySem.W.ksEnv qual (defScope st) L f (.ref cda) cc))
      standAt p2.atName
      let (g, first) ← holding [ov] (getMethod ov "__init__" pl)
      callWith p3 g first (backTo p3 (starEach [e] (PySem.W.ksEnv qual (defScope st) L f (.ref cda) cc))) []))
    (hsw : ∀ (cda cc : Addr) (L : Addr), swapsWith (.Call (.Attribute (.Call (.Name "super" p0) [] [] p1) "__init__" p2) [e] [] p3) none p4.line (PySem.W.ksEnv qual (defScope st) L f (.ref cda) cc) = pure false)
    (hsw2 : ∀ (cda cc : Addr) (L : Addr), swapsWith ev (some (.Attribute eo x p5)) p6.line (PySem.W.ksEnv qual (defScope st) L f (.ref cda) cc) = pure false) :
    FnG P w K mg base CX0 (k + 1) f fd ["self", nm] (spErr K C x F) := by
  obtain ⟨oc, od, kV, doc, pm, an, cda, ct, osl, cc, ccl, cdd, vs, ccs, file, tf, cl, cld, csl, ar, efd, lk, hcd, kco, kvs, kfile, kcc, kar, kself⟩ := SF.ex
  refine ⟨fun vs H Q E h => ?_, fun A fr s H args us vs Q E hgd hr e0 hb0 r hsp => ?_⟩
  · obtain ⟨_, _, _, _, _, _, rfl, _⟩ := h
    rfl
  obtain ⟨Cf0, S1, a, v, d, R, rfl, ha, hga, ok, hv, hF, q⟩ := hsp
  have KX : K.In s.heap := e0.mod.kin.keeps fun b o e => (e0.bs b o e).1
  have lim : s.heap.NoLimit := e0.mod.nolimit.keeps fun b o e => (e0.bs b o e).1
  subst efd
  refine ks_codeAny_call_defAt (fd := PySem.W.ksFn "__init__" qual (defArgs st) (defBody st) (defScope st) .none kV doc pm an (.ref cda) ct cc) (body := defBody st) (binds := (["self", nm] : List Str).zip us) hr.depth (KX _ _ lk) rfl lim (PySem.W.codeRec_of KX hcd) rfl hb0 S.nocell (fun y hy => S.par _ (List.of_mem_zip hy).1) (fun h₀ hns hk => ?_) S.co S.gen S.kind
  have I := su_start (N := ["self", nm]) (qual := qual) (f := f) (cda := cda) (tk := s.toks + ((["self", nm] : List Str).zip us).length) S hr.hd e0 rfl r kcc hns hk
  have hX : ∃ X, X = suCx P w K mg base ["self", nm] qual (defScope st) f cda cc A fr s H := ⟨_, rfl⟩
  obtain ⟨t1, t2, d1, po, d2, ht⟩ := body cda cc A fr s H hgd (hr.deeper _) Cf0 d R hF
  obtain ⟨te1, a1, b1⟩ := d1.ex
  obtain ⟨te2, a2, b2⟩ := d2.ex
  have rel : Rel K Cf0 S1 [none, some d] (L2.start (["self", nm] : List Str) [V.ref a, v]) H := ⟨ok, Nat.le_refl _, fun i d' e => by
    match i with
    | 0 => cases (show some (none : Option D) = some (some d') from e)
    | 1 =>
      cases (show some (some d) = some (some d') from e)
      exact ⟨v, rfl, hv⟩
    | i + 2 => cases (show (none : Option (Option D)) = some (some d') from e)⟩
  have hb' : defBody st = [.Expr (.Call (.Attribute (.Call (.Name "super" p0) [] [] p1) "__init__" p2) [e] [] p3) p4, .Assign [.Attribute eo x p5] ev p6] := hb
  show _root_.PySem.wpAt (model P w) (suCx P w K mg base ["self", nm] qual (defScope st) f cda cc A fr s H).A (.func (defBody st) (suCx P w K mg base ["self", nm] qual (defScope st) f cda cc A fr s H).env) (execs (defBody st) (suCx P w K mg base ["self", nm] qual (defScope st) f cda cc A fr s H).env) _ _ _
  generalize hbd : defBody st = bd
  rw [hb'] at hbd
  rw [← hbd]
  refine ks_wpAt_execs_cons (ks_wpAt_mono (stmt_super (N := ["self", nm]) (ps := ["self", nm]) (i := 0) (a := a) (e := e) (te := te1) (R := fun H1 => ∃ d1, t2 [none, some d] R ∧ d1 = d ∧ Rel K Cf0 S1 [none, some d] (L2.start (["self", nm] : List Str) [V.ref a, v]) H1 ∧ Go Cf0 H H1 ∧ H1 a = some (exo a C none)) SF S rfl lk kco kvs kfile kcc kar kself ms List.mem_cons_self rfl rfl ha I a1 (hpl cda cc _) (hev cda cc _) (hsw cda cc _) ?_) (fun fl s' hs => ?_) fun _ _ z => z.elim)
  · refine b1 S1 _ H _ _ _ rel ht fun v' d' H' g p vv => ?_
    have e1 : H' a = some (exo a C none) := g.e a _ hga ha
    exact ⟨e1, d, p, rfl, rel.go g, g, e1⟩
  · obtain ⟨rfl, H1, J, _, p, _, rel1, g1, ha1⟩ := hs
    show _root_.PySem.wpAt _ _ _ (execs [.Assign [.Attribute eo x p5] ev p6] _) _ _ _
    refine wpAt_of_wpAny ?_
    have P2 := pss_one (ps_ost (f := x) (p' := p5) (pos := p6) po a2 (hsw2 cda cc _))
    refine wpAny_mono (P2.run [] s' _ H1 { nx := fun σ' H' => Q .non H', rt := fun _ _ => False } J ?_) (fun fl s2 h2 => ?_) fun _ _ z => (show False from z).elim
    · refine b2 S1 _ H1 _ R _ rel1 p fun y d' H2 g2 p2 v2 => ?_
      have ha2 : H2 a = some (exo a C none) := g2.e a _ hga ha1
      refine ⟨.ref a, rfl, a, C, rfl, SF.oex, hno, .inl ⟨ha2, fun dx n1 n2 => ?_⟩⟩
      exact q y d' dx H2 (g1.trans g2) n1 n2 p2 v2
    · match fl, h2 with
      | .next, h2 =>
        obtain ⟨σ', H', J2, q2⟩ := h2
        exact ⟨V.non, H', J2.os, J2.bare, J2.base, J2.hok, rfl, q2⟩
      | .ret _, h2 => obtain ⟨_, _, _, _, _, z⟩ := h2; exact z.elim
      | .brk, h2 => obtain ⟨_, _, _, z⟩ := h2; exact z.elim
      | .cont, h2 => obtain ⟨_, _, _, z⟩ := h2; exact z.elim
end L3
/-! An own error is made: by its class's call. -/
namespace L3
open PySem PySem.Spec PyProof.Rows L2

theorem full_heap (e : Addr) (o : Obj) (nf : ∀ d, o.data = d → d ≠ .freed) : ∃ h : Heap, h.get? e = some o ∧ ∀ c u, h.get? c = some u → u = o := by
  have at_ : ∀ c u, (⟨Array.replicate (e + 1) o, {}⟩ : Heap).get? c = some u → u = o := fun c u q => by
    unfold Heap.get? at q
    dsimp only at q
    rw [Array.getElem?_replicate] at q
    by_cases hc : c < e + 1
    · rw [if_pos hc] at q
      obtain ⟨c', d, dt, sl⟩ := o
      cases dt <;> first | (cases q; rfl) | cases q
    · rw [if_neg hc] at q
      cases q
  refine ⟨⟨Array.replicate (e + 1) o, {}⟩, ?_, at_⟩
  obtain ⟨c, d, dt, sl⟩ := o
  unfold Heap.get?
  dsimp only
  rw [Array.getElem?_replicate, if_pos (Nat.lt_succ_self e)]
  cases dt <;> first | rfl | exact absurd rfl (nf _ rfl)
theorem exo_nc {e C : Addr} {d : Option Addr} : ¬ IsCd (exo e C d) := fun ⟨c, q, z⟩ => by
  unfold exo LamX.CodeO at z
  have z := HO.ext.inj z
  obtain ⟨h, h1, h2⟩ := full_heap e ({ cls := .ref C, dict := d, data := .fields #[.ref 0, .none, .none, .none, .bool false, .none] } : Obj) (fun _ e z => by subst e; cases z)
  have z2 := congrFun z h
  obtain ⟨oc, vs, t, e1, e2, e3⟩ := z2.mp ⟨0, h1⟩
  have := h2 c oc e1
  subst this
  cases e2
  cases e3
theorem exX_nc {C a : Addr} {d : Option Addr} : ¬ IsCd (exX C d a) := fun ⟨c, q, z⟩ => by
  unfold exX LamX.CodeO at z
  have z := HO.ext.inj z
  obtain ⟨h, h1, h2⟩ := full_heap a ({ cls := .ref C, dict := d, data := .fields #[] } : Obj) (fun _ e z => by subst e; cases z)
  have z2 := congrFun z h
  obtain ⟨oc, vs, t, e1, e2, e3⟩ := z2.mp ⟨_, _, h1, rfl, rfl, rfl⟩
  have := h2 c oc e1
  subst this
  cases e2
  cases e3
/-- an own error that is made by its name with one argument: fn the attribute, nm the parameter -/
structure MakX (P : Program) (w : World) (K : PySem.W.Frag) (mg : Str → Option Value) (base : Heap) (k : Nat) (x : Str) (C : Addr) (fn nm : Str) (F : Cf → FN) : Prop where
  ex : ∃ (fI : Addr) (fd : FuncData), OexC K C ∧ PySem.W.findIn K (.ref C) "__init__" = some (some (.ref fI)) ∧ PySem.W.typeIn K (.ref fI) = some (.type "function") ∧ FnG P w K mg base CX0 k fI fd ["self", nm] (spErr K C fn F) ∧ L2.Binds K fd ["self", nm] [] ∧ mg x = some (.ref C)
section
variable {X : Cx} {C : Addr} {x fn nm : Str} {k : Nat} {F : Cf → FN} {pins : List (Addr × Obj)} {σ : L2.St} {H : Hp} {s : Shared}
theorem run_mkx (M : MakX X.prog X.w X.K X.mg X.base k x C fn nm F) (hgd : X.A.guards = some []) (hr : Room (k + 1) X.A) (I : Inv X pins σ H s) {Cf0 : Cf} {S : AS} {v : V} {u : Value} {d : D} {P : D → Prop}
    (ok : Ok Cf0 S H) (rv : RelV v u) (hv : DV X.K (hid H S) v d) (hF : F Cf0 [d] P) :
    wpAny (model X.prog X.w) X.A (call (.ref C) [u]) (fun z s' => ∃ (a dx t0 : Addr) (y : V) (d' : D) (H' : Hp) (G : Heap), z = .ref a ∧ Inv X pins σ H' { s' with heap := G } ∧ (∀ b o, G.get? b = some o → s'.heap.get? b = some o) ∧ G.get? a = none ∧
      s'.heap.get? a = some ({ cls := .ref C, dict := some dx, data := .fields #[.ref t0, .none, .none, .none, .bool false, .none] } : Obj) ∧ H' a = none ∧ H' dx = some (.xd [(fn, y)]) ∧ Go Cf0 H H' ∧ ¬ S a ∧ ¬ S dx ∧ DV X.K (hid H' S) y d' ∧ P d' ∧ s'.os = s.os ∧ AllBare s'.gens) X.xe s := by
  obtain ⟨fI, fd, T, iC, tI, G0, hb, hm⟩ := M.ex
  obtain ⟨nm', q, N, bs, bm, sn, sub, ab, col, dd, k0, k1, k2, k3, k5, hC, hbm⟩ := T.cls
  obtain ⟨hp, g, dr, tk, os⟩ := s
  have hsz : hp.objs.size ≤ hp.objs.size + 1 := Nat.le_succ _
  have hn : H (hp.objs.size + 1) = none := I.hok.fresh hsz
  have nS : ¬ S (hp.objs.size + 1) := ok.fresh hn
  have nG : ¬ Cf0.G (hp.objs.size + 1) := fun z => nS (ok.g _ z)
  have kk : ∀ b o, hp.get? b = some o → ((hp.push (PySem.W.kdv_tup [u])).push (PySem.HandSPX.excO C hp.objs.size)).get? b = some o := fun b o e => Heap.get?_push_of_some _ (Heap.get?_push_of_some _ e)
  have hget : ((hp.push (PySem.W.kdv_tup [u])).push (PySem.HandSPX.excO C hp.objs.size)).get? (hp.objs.size + 1) = some (PySem.HandSPX.excO C hp.objs.size) := by heap_get
  have I2 : Inv X pins σ (upd H (hp.objs.size + 1) (exo (hp.objs.size + 1) C none)) ⟨(hp.push (PySem.W.kdv_tup [u])).push (PySem.HandSPX.excO C hp.objs.size), g, dr, tk, os⟩ :=
    I.laid (t' := tk) (a := hp.objs.size + 1) (o := exo (hp.objs.size + 1) C none) (h' := (hp.push (PySem.W.kdv_tup [u])).push (PySem.HandSPX.excO C hp.objs.size)) kk hsz (exo_ok hget)
  have g0 : Go Cf0 H (upd H (hp.objs.size + 1) (exo (hp.objs.size + 1) C none)) := Go.new ok hn
  have ok1 := ok.go g0
  generalize hS : (fun b => S b ∨ b = hp.objs.size + 1 : AS) = S'
  have ok2 : Ok Cf0 S' (upd H (hp.objs.size + 1) (exo (hp.objs.size + 1) C none)) := ⟨ok1.i, fun b hb => by rw [← hS]; exact .inl (ok1.g b hb), fun b hb => by
    rw [← hS] at hb
    rcases hb with hb | rfl
    · exact ok1.l b hb
    · rw [upd_same]; intro z; cases z⟩
  have hv2 : DV X.K (hid (upd H (hp.objs.size + 1) (exo (hp.objs.size + 1) C none)) S') v d := hv.mono fun b o hb => by
    obtain ⟨hb1, hb2⟩ := hid_some.mp hb
    have n1 : b ≠ hp.objs.size + 1 := ne_of_none hb2 hn
    exact hid_some.mpr ⟨fun z => by rw [← hS] at z; exact z.elim hb1 n1, by rw [upd_ne n1]; exact hb2⟩
  have hq : spErr X.K C fn F [.ref (hp.objs.size + 1), v] (upd H (hp.objs.size + 1) (exo (hp.objs.size + 1) C none)) (fun z H2 => z = .non ∧ ∃ (dx : Addr) (y : V) (d' : D) (H1 : Hp), H2 = upd (upd H1 dx (exd dx [(fn, y)])) (hp.objs.size + 1) (exo (hp.objs.size + 1) C (some dx)) ∧
      Go Cf0 (upd H (hp.objs.size + 1) (exo (hp.objs.size + 1) C none)) H1 ∧ H1 dx = none ∧ dx ≠ hp.objs.size + 1 ∧ P d' ∧ DV X.K (hid H1 S') y d') (fun _ _ _ => False) :=
    ⟨Cf0, S', hp.objs.size + 1, v, d, P, rfl, upd_same, nG, ok2, hv2, hF, fun y d' dx H1 g1 n1 n2 p1 v1 => ⟨rfl, dx, y, d', H1, rfl, g1, n1, n2, p1, v1⟩⟩
  refine wpAny_call (PySem.HandSPX.call_own PySem.F.excBase_ValueError (fun Y => PySem.HandSPX.refsVE_contains Y bm hbm) (I.kIn _ _ hC) (PySem.W.looks_findIn I.kIn iC) (fun self => PySem.W.bind_fn I.kIn self tI) (by show 1 ≤ sizeLine; decide)
    (codeAny_mono (G0.go _ X.stack _ _ ⟨[Value.ref (hp.objs.size + 1), u], []⟩ [Value.ref (hp.objs.size + 1), u] [V.ref (hp.objs.size + 1), v] _ (fun _ _ _ => False) (make_guards.trans hgd) (hr.make C [u] []) (I2.env0.make C [u] []) (hb _ [Value.ref (hp.objs.size + 1), u] I2.kIn rfl) (.cons rfl (.cons rv .nil)) hq) fun r s' hq' => ?_))
  match r, hq' with
  | .error er, hq' => exact (go_end (pass0 (X := X)) I2 (r := .error er) hq')
  | .ok .next, hq' => exact False.elim hq'
  | .ok .brk, hq' => exact False.elim hq'
  | .ok .cont, hq' => exact False.elim hq'
  | .ok (.ret z), hq' =>
    obtain ⟨z', H2, os2, bare2, un2, hok2, rz, ez, dx, y, d', H1, e2, g1, n1, n2, p1, v1⟩ := hq'
    subst ez
    obtain ⟨h2, g2, d2, t2, os'⟩ := s'
    have ea : H2 (hp.objs.size + 1) = some (exo (hp.objs.size + 1) C (some dx)) := by rw [e2, upd_same]
    have ed : H2 dx = some (exd dx [(fn, y)]) := by rw [e2, upd_ne n2, upd_same]
    have nd0 : H dx = none := by
      cases e : H dx with
      | none => rfl
      | some o =>
        have nGd : ¬ Cf0.G dx := fun z => Cf0.liv H1 dx g1.i z n1
        have := g1.e dx o nGd (by rw [upd_ne n2]; exact e)
        rw [n1] at this; cases this
    obtain ⟨t0, G, J, kG, ge, hoe, na⟩ := mk_end0 (d2 := d2) (t2 := t2) I hsz kk un2 hok2 os2 bare2 ea ed nd0
    refine ⟨rz, hp.objs.size + 1, dx, t0, y, d', _, G, rfl, J, kG, ge, hoe, na, upd_same, ?_, nS, ok.fresh nd0, ?_, p1, os2, bare2⟩
    · have nGd : ¬ Cf0.G dx := fun z => Cf0.liv H1 dx g1.i z n1
      have at_ : ∀ b, b ≠ hp.objs.size + 1 → b ≠ dx → (upd (del H2 (hp.objs.size + 1)) dx (.xd [(fn, y)])) b = H1 b := fun b h1 h2 => by rw [upd_ne h2, del_ne h1, e2, upd_ne h1, upd_ne h2]
      refine ⟨fun b o hg hb => ?_, Cf0.loc H1 _ (fun b hb => at_ b (fun z => nG (z ▸ hb)) (fun z => nGd (z ▸ hb))) (fun b o hb hc => ?_) g1.i⟩
      · have h1 : b ≠ hp.objs.size + 1 := ne_of_none hb hn
        rw [at_ b h1 (ne_of_none hb nd0)]
        exact g1.e b o hg (by rw [upd_ne h1]; exact hb)
      · have h2 : b ≠ dx := ne_of_none hb n1
        have h1 : b ≠ hp.objs.size + 1 := fun z => by
          have := g1.e _ _ nG (upd_same (o := exo (hp.objs.size + 1) C none) (H := H))
          rw [z, this] at hb
          cases hb
          exact exo_nc hc
        rw [at_ b h1 h2]; exact hb
    · refine v1.mono fun b o hb => ?_
      obtain ⟨hb1, hb2⟩ := hid_some.mp hb
      rw [← hS] at hb1
      have n3 : b ≠ hp.objs.size + 1 := fun z => hb1 (.inr z)
      have n4 : b ≠ dx := ne_of_none hb2 n1
      exact hid_some.mpr ⟨fun z => hb1 (.inl z), by rw [upd_ne n4, del_ne n3, e2, upd_ne n3, upd_ne n4]; exact hb2⟩
end
end L3
/-! Expressions, statements and defs that may raise an own error. -/
namespace L3
open PySem PySem.Spec PyProof.Rows L2

/-- wishes of an error: its class and its attributes -/
abbrev XW := Addr → List (Key × D) → Prop
abbrev XWs := Addr → List (Key × D) → Rho → Prop
abbrev TDx := XW → TD
abbrev TDxs := XW → TDs
abbrev TSx := XWs → TSd
abbrev FNx := List D → (D → Prop) → XW → Prop
def ExcD (K : PySem.W.Frag) (H : Hp) (cls : Value) (d : Option Addr) (Ca : Addr) (kvs : List (Key × D)) : Prop := cls = .ref Ca ∧ ((d = none ∧ kvs = []) ∨ ∃ dd fs, d = some dd ∧ H dd = some (.xd fs) ∧ DKs K H (fs.map fun p => (.inr p.1, p.2)) kvs)
theorem ExcD.mono {K : PySem.W.Frag} {H H' : Hp} {cls : Value} {d : Option Addr} {Ca : Addr} {kvs : List (Key × D)} (s : Same H H') (h : ExcD K H cls d Ca kvs) : ExcD K H' cls d Ca kvs := by
  obtain ⟨e, h⟩ := h
  refine ⟨e, ?_⟩
  rcases h with h | ⟨dd, fs, e1, e2, e3⟩
  · exact .inl h
  · exact .inr ⟨dd, fs, e1, s _ _ e2, e3.mono s⟩
def EvDx (K : PySem.W.Frag) (C : Cf) (te : WX → TE) (td : TDx) : Prop := ∀ (S : AS) (σ : L2.St) (H : Hp) (E : En) (P : D → Prop) (Q : VK) (Wd : XW) (W : WX), Rel K C S E σ H → td Wd E P →
  (∀ v d H', Go C H H' → P d → DV K (hid H' S) v d → Q v H') → (∀ cls d Ca kvs H', Go C H H' → Wd Ca kvs → ExcD K (hid H' S) cls d Ca kvs → W cls d σ H') → te W σ H Q
def EvAx (K : PySem.W.Frag) (C : Cf) (ta : WX → TA) (td : TDxs) : Prop := ∀ (S : AS) (σ : L2.St) (H : Hp) (E : En) (P : List D → Prop) (Q : List V → Hp → Prop) (Wd : XW) (W : WX), Rel K C S E σ H → td Wd E P →
  (∀ vs ds H', Go C H H' → P ds → DVs K (hid H' S) vs ds → Q vs H') → (∀ cls d Ca kvs H', Go C H H' → Wd Ca kvs → ExcD K (hid H' S) cls d Ca kvs → W cls d σ H') → ta W σ H Q
structure DEx (X : Cx) (C : Cf) (e : Expr) (td : TDx) : Prop where
  ex : ∃ te : WX → TE, (∀ W, Takes X W → PE X e (te W)) ∧ EvDx X.K C te td
structure DAx (X : Cx) (C : Cf) (es : List Expr) (td : TDxs) : Prop where
  ex : ∃ ta : WX → TA, (∀ W, Takes X W → PA X es (ta W)) ∧ EvAx X.K C ta td
def xLift (td : TD) : TDx := fun _ => td
def xNil : TDxs := fun _ _ P => P []
def xCons (ta : TDx) (tr : TDxs) : TDxs := fun Wd E P => ta Wd E fun d => tr Wd E fun ds => P (d :: ds)
def xCall (f : FNx) (t : TDxs) : TDx := fun Wd E P => t Wd E fun ds => f ds P Wd
/-- what a def that may raise is worth -/
def spX (K : PySem.W.Frag) (F : Cf → FNx) : Sp := fun vs H Q E => ∃ (C : Cf) (S : AS) (ds : List D) (P : D → Prop) (Wd : XW), Ok C S H ∧ DVs K (hid H S) vs ds ∧ F C ds P Wd ∧ (∀ v d H', Go C H H' → P d → DV K (hid H' S) v d → Q v H') ∧
  ∀ cls d Ca kvs H', Go C H H' → Wd Ca kvs → ExcD K (hid H' S) cls d Ca kvs → E cls d H'
section
variable {X : Cx} {C : Cf} {e o : Expr} {es : List Expr}
theorem dex_of {td : TD} (h : DE X C e td) : DEx X C e (xLift td) := by
  obtain ⟨te, h1, h2⟩ := h.ex
  exact ⟨⟨fun _ => te, fun _ _ => h1, fun S σ H E P Q Wd W r hp q _ => h2 S σ H E P Q r hp q⟩⟩
theorem dax_nil : DAx X C [] xNil := ⟨⟨fun _ => tNil, fun _ _ => pa_nil, fun S σ H E P Q Wd W r h q _ => q [] [] H (Go.refl r.ok) h .nil⟩⟩
theorem dax_cons {td : TDx} {tr : TDxs} (h : DEx X C e td) (t : DAx X C es tr) (hs : starEach (e :: es) X.env = (false, eval e X.env) :: starEach es X.env := by rfl) : DAx X C (e :: es) (xCons td tr) := by
  obtain ⟨te, h1, h2⟩ := h.ex
  obtain ⟨ta, t1, t2⟩ := t.ex
  refine ⟨⟨fun W => tCons (te W) (ta W), fun W tk => pa_cons (h1 W tk) (t1 W tk) hs, fun S σ H E P Q Wd W r hp q qx => ?_⟩⟩
  refine h2 S σ H E _ _ Wd W r hp (fun v d H1 g1 p1 v1 => ?_) qx
  refine t2 S σ H1 E _ _ Wd W (r.go g1) p1 (fun vs ds H2 g2 p2 v2 => ?_) fun cls d Ca kvs H' g => qx cls d Ca kvs H' (g1.trans g)
  exact q _ _ H2 (g1.trans g2) p2 (.cons (v1.mono (g2.vis (r.ok.go g1))) v2)
end
section
variable {X : Cx} {CX : CXT} {k : Nat} {f : Addr} {fd : FuncData} {ps : List Str} {sp : Sp}
/-- the callee runs; what it lets out is taken at the slots σ -/
theorem go_fnW {pins : List (Addr × Obj)} {σ : L2.St} {H : Hp} {s : Shared} {Q : VK} {us : List Value} {vs : List V} {W : WX} (F : FnG X.prog X.w X.K X.mg X.base (L2.CX X.prog X.w) k f fd ps sp) (hgd : X.A.guards = some []) (hr : Room k X.A) (hb : L2.Binds X.K fd ps []) (tk : Takes X W)
    (I : Inv X pins σ H s) (r : Vals vs us) (h : sp vs H Q fun cls d H' => W cls d σ H') : wpAny (model X.prog X.w) X.A (call (.ref f) us) (EP X pins σ Q) X.xe s := by
  have hl : us.length = ps.length := by rw [← r.length]; exact F.len _ _ _ _ h
  have hb' := hb s us I.kIn (by rw [List.append_nil]; exact hl)
  rw [List.append_nil] at hb'
  refine wpAny_call (codeAny_mono (F.go X.A X.stack s H ⟨us, []⟩ us vs Q _ hgd hr I.env0 hb' r h) fun r s' hq => ?_)
  match r, hq with
  | .error e, hq => exact tk e s' (XE.of_call I (fun _ _ _ h => h) hq)
  | .ok (.ret u), hq => exact I.after hq
  | .ok .next, hq => exact hq.elim
  | .ok .brk, hq => exact hq.elim
  | .ok .cont, hq => exact hq.elim
theorem go_fnKW {ks : List Str} {g : List Value → List Value → List Value} {gV : List V → List V → List V} {pins : List (Addr × Obj)} {σ : L2.St} {H : Hp} {s : Shared} {Q : VK} {us ws : List Value} {vs zs : List V} {W : WX} (F : FnG X.prog X.w X.K X.mg X.base (L2.CX X.prog X.w) k f fd ps sp) (hgd : X.A.guards = some []) (hr : Room k X.A) (hb : KBinds X.K fd ps ks g gV) (tk : Takes X W)
    (I : Inv X pins σ H s) (r : Vals vs us) (rz : Vals zs ws) (h : sp (gV vs zs) H Q fun cls d H' => W cls d σ H') : wpAny (model X.prog X.w) X.A (call (.ref f) us (ks.zip ws)) (EP X pins σ Q) X.xe s := by
  have r2 := hb.rel r rz
  have hl : (g us ws).length = ps.length := r2.length.symm.trans (F.len _ _ _ _ h)
  refine wpAny_call (codeAny_mono (F.go X.A X.stack s H ⟨us, ks.zip ws⟩ (g us ws) (gV vs zs) Q _ hgd hr I.env0 (hb.to s us ws I.kIn hl) r2 h) fun r s' hq => ?_)
  match r, hq with
  | .error e, hq => exact tk e s' (XE.of_call I (fun _ _ _ h => h) hq)
  | .ok (.ret u), hq => exact I.after hq
  | .ok .next, hq => exact hq.elim
  | .ok .brk, hq => exact hq.elim
  | .ok .cont, hq => exact hq.elim
end
/-- a def that may raise, by its name -/
structure CalX (P : Program) (w : World) (K : PySem.W.Frag) (mg : Str → Option Value) (base : Heap) (x : Str) (k : Nat) (ps : List Str) (F : Cf → FNx) : Prop where
  ex : ∃ f fd, FnG P w K mg base (L2.CX P w) k f fd ps (spX K F) ∧ mg x = some (.ref f) ∧ PySem.W.keepIn K (.ref f) = true ∧ L2.Binds K fd ps []
structure MetX (P : Program) (w : World) (K : PySem.W.Frag) (mg : Str → Option Value) (base : Heap) (k : Nat) (C : Addr) (m : Str) (F : Cf → FNx) : Prop where
  ex : ∃ (f : Addr) (fd : FuncData) (ps : List Str), Cls K C ∧ Meth K C m f ∧ FnG P w K mg base (L2.CX P w) k f fd ps (spX K F) ∧ L2.Binds K fd ps []
/-- .. by keywords alone -/
structure MetXK (P : Program) (w : World) (K : PySem.W.Frag) (mg : Str → Option Value) (base : Heap) (k : Nat) (C : Addr) (m : Str) (ks : List Str) (gD : List D → List D → List D) (F : Cf → FNx) : Prop where
  ex : ∃ (f : Addr) (fd : FuncData) (ps : List Str) (g : List Value → List Value → List Value) (gV : List V → List V → List V), Cls K C ∧ Meth K C m f ∧ FnG P w K mg base (L2.CX P w) k f fd ps (spX K F) ∧ KBinds K fd ps ks g gV ∧
    ∀ (H : Hp) (vs zs : List V) (ds es : List D), DVs K H vs ds → DVs K H zs es → DVs K H (gV vs zs) (gD ds es)
def xMeth (C : Addr) (m : Str) (F : FNx) (to : TDx) (ta : TDxs) : TDx := fun Wd E P => to Wd E fun d => ∃ ks, d = .ins C ks ∧ fldOf m ks = none ∧ ta Wd E fun ds => F (d :: ds) P Wd
section
variable {X : Cx} {Cf0 : Cf} {C : Addr} {e o : Expr} {es : List Expr} {td : TDx} {ta : TDxs} {m x : Str} {p pos apos : Pos} {k j : Nat} {F : Cf → FNx} {ps : List Str}
theorem dex_cal (c : CalX X.prog X.w X.K X.mg X.base x k ps F) (hgd : X.A.guards = some []) (hr : Room j X.A) (hk : k ≤ j) (hg : Gl X x) (ha : DAx X Cf0 (e :: es) ta) (hdb : (x == ("__debug__" : Str)) = false := by decide)
    (he : starEach (e :: es) X.env = (false, eval e X.env) :: starEach es X.env := by rfl) (hpl : (backTo pos (starEach es X.env)).any (·.1) = false := by rfl) : DEx X Cf0 (.Call (.Name x p) (e :: es) [] pos) (xCall (F Cf0) ta) := by
  obtain ⟨f, fd, G, hm, hkp, hb⟩ := c.ex
  obtain ⟨tr, r1, r2⟩ := ha.ex
  refine ⟨⟨fun W σ H Q => tr W σ H fun vs H1 => spX X.K F vs H1 Q fun cls d H' => W cls d σ H', fun W tk => ⟨fun pins s σ H Q I h => ?_⟩, fun S σ H E P Q Wd W rl hp q qx => ?_⟩⟩
  · refine wpAny_Call_Name_kw (ld_glob I hg hm ?_ hdb)
    exact PySem.W.callWith_K (h₀ := X.base) I.ok.mod.kin hkp (thn ((r1 W tk).run pos pins s σ H _ I h) fun us s1 ⟨vs, H1, I1, r, q⟩ => ⟨I1.kIn, go_fnW G hgd (hr.mono hk) hb tk I1 r q⟩) he hpl
  · refine r2 S σ H E _ _ Wd W rl hp (fun vs ds H1 g1 p1 v1 => ?_) qx
    exact ⟨Cf0, S, ds, P, Wd, rl.ok.go g1, v1, p1, fun v d H' g => q v d H' (g1.trans g), fun cls d Ca kvs H' g => qx cls d Ca kvs H' (g1.trans g)⟩
theorem dex_met {pl : Sem Bool} (c : MetX X.prog X.w X.K X.mg X.base k C m F) (hgd : X.A.guards = some []) (hr : Room j X.A) (hk : k ≤ j) (h : DEx X Cf0 o td) (ha : DAx X Cf0 (e :: es) ta)
    (hst : starEach (e :: es) X.env = (false, eval e X.env) :: starEach es X.env := by rfl) (hpl : (backTo pos (starEach es X.env)).any (·.1) = false := by rfl)
    (ht : eval (.Call (.Attribute o m apos) (e :: es) [] pos) X.env = (do
      let ov ← eval o X.env
      standAt apos.atName
      let (f, first) ← holding [ov] (getMethod ov m pl)
      callWith pos f first (backTo pos (starEach (e :: es) X.env)) (backToKw pos (keywordEach [] X.env))) := by rfl) : DEx X Cf0 (.Call (.Attribute o m apos) (e :: es) [] pos) (xMeth C m (F Cf0) td ta) := by
  obtain ⟨f, fd, ps, cl, hm, G, hbd⟩ := c.ex
  obtain ⟨te, h1, h2⟩ := h.ex
  obtain ⟨tr, r1, r2⟩ := ha.ex
  refine ⟨⟨fun W σ H Q => te W σ H fun x H1 => ∃ a dx fs, x = .ref a ∧ H1 a = some (.ins C dx fs) ∧ fs.lookup m = none ∧ tr W σ H1 fun vs H2 => spX X.K F (x :: vs) H2 Q fun cls d H' => W cls d σ H', fun W tk => ⟨fun pins s σ H Q I h => ?_⟩, fun S σ H E P Q Wd W rl hp q qx => ?_⟩⟩
  · refine PySem.W.methodCall_KW (pl := pl) (thn ((h1 W tk).run pins s σ H _ I h) fun u s1 ⟨x, H1, I1, rx, a, dx, fs, ex, ea, l, q⟩ => ?_) ht
    subst ex
    obtain rfl : u = Value.ref a := rx
    refine getmeth_ok I1 ea cl hm l ?_
    refine PySem.W.callWith_K (first := [.ref a]) (h₀ := X.base) I.ok.mod.kin hm.kp (thn ((r1 W tk).run pos pins s1 σ H1 _ I1 q) fun us s2 ⟨vs, H2, I2, r, q2⟩ => ⟨I2.kIn, ?_⟩) hst hpl
    exact go_fnW (us := .ref a :: us) (vs := .ref a :: vs) G hgd (hr.mono hk) hbd tk I2 (.cons rfl r) q2
  · refine h2 S σ H E _ _ Wd W rl hp (fun v d H1 g1 p1 v1 => ?_) qx
    obtain ⟨ks, rfl, l, p1⟩ := p1
    cases v1 with
    | ins e1 k1 =>
      refine ⟨_, _, _, rfl, same_hid _ _ e1, dk_miss k1 l, r2 S σ H1 E _ _ Wd W (rl.go g1) p1 (fun vs ds H2 g2 p2 v2 => ?_) fun cls d Ca kvs H' g => qx cls d Ca kvs H' (g1.trans g)⟩
      have ok1 := rl.ok.go g1
      exact ⟨Cf0, S, _, P, Wd, ok1.go g2, .cons (DV.mono (g2.vis ok1) (.ins e1 k1)) v2, p2, fun v d H' g => q v d H' (g1.trans (g2.trans g)), fun cls d Ca kvs H' g => qx cls d Ca kvs H' (g1.trans (g2.trans g))⟩
end
end L3
/-! Statements and defs that may raise an own error. -/
namespace L3
open PySem PySem.Spec PyProof.Rows L2

def GoodX (K : PySem.W.Frag) (C : Cf) (S0 : AS) (H0 : Hp) (gs : Gs) (Wd : XWs) (W : WX) : Prop := ∀ al ρ σ H cls d Ca kvs, EnvR K C S0 H0 gs al ρ σ H → Wd Ca kvs ρ → ExcD K (hid H (Vol S0 al ρ)) cls d Ca kvs → W cls d σ H
def EvSx (K : PySem.W.Frag) (C : Cf) (t : WX → TS) (ts : TSx) : Prop := ∀ (S0 : AS) (H0 : Hp) (gs : Gs) (al : Nat → Addr) (ρ : Rho) (σ : L2.St) (H : Hp) (Dn : EndsD) (D' : Ends) (Wd : XWs) (W : WX), EnvR K C S0 H0 gs al ρ σ H → ts Wd Dn ρ → Good K C S0 H0 gs Dn D' → GoodX K C S0 H0 gs Wd W → t W D' σ H
structure DSx (X : Cx) (C : Cf) (st : Stmt) (ts : TSx) : Prop where
  ex : ∃ t : WX → TS, (∀ W, Takes X W → PS X st (t W)) ∧ EvSx X.K C t ts
structure DSsx (X : Cx) (C : Cf) (st : List Stmt) (ts : TSx) : Prop where
  ex : ∃ t : WX → TS, (∀ W, Takes X W → PSs X st (t W)) ∧ EvSx X.K C t ts
def xS (ts : TSd) : TSx := fun _ => ts
def xSeq (t u : TSx) : TSx := fun Wd Dn ρ => t Wd { Dn with nx := u Wd Dn } ρ
def xIf (c : TDb) (t u : TSx) : TSx := fun Wd Dn ρ => c (frz ρ) fun b => if b = true then t Wd Dn ρ else u Wd Dn ρ
def xRet (t : TDx) : TSx := fun Wd Dn ρ => t (fun Ca kvs => Wd Ca kvs (thaw ρ)) (frz ρ) Dn.rt
def xSet (i : Nat) (t : TDx) : TSx := fun Wd Dn ρ => t (fun Ca kvs => Wd Ca kvs ρ) (view ρ) fun d => Dn.nx (ρ.set i (.dat d))
def xExp (t : TDx) : TSx := fun Wd Dn ρ => t (fun Ca kvs => Wd Ca kvs ρ) (view ρ) fun _ => Dn.nx ρ
def xFor (ti : TDs) (tg : TGd) (ts : TSx) : TSx := fun Wd Dn ρ => ti (view ρ) fun ys => ∃ Iv : Nat → Rho → Prop, Iv 0 ρ ∧
  (∀ i d ρ', ys[i]? = some d → Iv i ρ' → tg d ρ' fun ρ'' => ts Wd { Dn with nx := Iv (i + 1), ct := Iv (i + 1), bk := Dn.nx } ρ'') ∧ ∀ ρ', Iv ys.length ρ' → Dn.nx ρ'
/-- raise C(e) -/
def xRaise (Ca : Addr) (fn : Str) (f : FN) (t : TD) : TSx := fun Wd _ ρ => t (view ρ) fun d => f [d] fun d' => Wd Ca [(.inr fn, d')] ρ
def xRaise0 (Ca : Addr) : TSx := fun Wd _ ρ => Wd Ca [] ρ
section
variable {X : Cx} {C : Cf} {st : Stmt} {rest : List Stmt} {ts us : TSx} {e : Expr} {td : TDx} {i : Nat} {x : Str} {pos pos' : Pos}
theorem dsx_of {t : TSd} (h : DS X C st t) : DSx X C st (xS t) := by
  obtain ⟨t, h1, h2⟩ := h.ex
  exact ⟨⟨fun _ => t, fun _ _ => h1, fun S0 H0 gs al ρ σ H Dn D' Wd W r hp g _ => h2 S0 H0 gs al ρ σ H Dn D' r hp g⟩⟩
theorem dssx_of {st : List Stmt} {t : TSd} (h : DSs X C st t) : DSsx X C st (xS t) := by
  obtain ⟨t, h1, h2⟩ := h.ex
  exact ⟨⟨fun _ => t, fun _ _ => h1, fun S0 H0 gs al ρ σ H Dn D' Wd W r hp g _ => h2 S0 H0 gs al ρ σ H Dn D' r hp g⟩⟩
theorem dssx_nil : DSsx X C [] (xS sNx) := dssx_of dss_nil
theorem dssx_one (h : DSx X C st ts) : DSsx X C [st] ts := let ⟨t, h1, h2⟩ := h.ex; ⟨⟨t, fun W tk => pss_one (h1 W tk), h2⟩⟩
theorem dssx_cons (h : DSx X C st ts) (k : DSsx X C rest us) : DSsx X C (st :: rest) (xSeq ts us) := by
  obtain ⟨t, h1, h2⟩ := h.ex
  obtain ⟨u, k1, k2⟩ := k.ex
  exact ⟨⟨_, fun W tk => pss_cons (h1 W tk) (k1 W tk), fun S0 H0 gs al ρ σ H Dn D' Wd W r h g gx => h2 S0 H0 gs al ρ σ H _ _ Wd W r h ⟨fun al ρ σ H r h => k2 S0 H0 gs al ρ σ H Dn D' Wd W r h g gx, g.rt, g.bk, g.ct⟩ gx⟩⟩
theorem dsx_if {c : Expr} {a b : List Stmt} {uc : TDb} (hc : DT X C c uc) (ha : DSsx X C a ts) (hb : DSsx X C b us) : DSx X C (.If c a b pos) (xIf uc ts us) := by
  obtain ⟨tc, c1, c2⟩ := hc.ex
  obtain ⟨ta, a1, a2⟩ := ha.ex
  obtain ⟨tb, b1, b2⟩ := hb.ex
  refine ⟨⟨_, fun W tk => ps_if c1 (a1 W tk) (b1 W tk), fun S0 H0 gs al ρ σ H Dn D' Wd W r hp g gx => ?_⟩⟩
  refine c2 _ σ H _ _ _ r.relB hp fun b H1 g1 p1 => ?_
  cases b with
  | true => rw [if_pos rfl] at p1 ⊢; exact a2 _ _ _ _ _ _ _ _ _ _ _ (r.go g1) p1 g gx
  | false => rw [if_neg Bool.false_ne_true] at p1 ⊢; exact b2 _ _ _ _ _ _ _ _ _ _ _ (r.go g1) p1 g gx
theorem dsx_ret (h : DEx X C e td) : DSx X C (.Return (some e) pos) (xRet td) := by
  obtain ⟨te, h1, h2⟩ := h.ex
  refine ⟨⟨_, fun W tk => ps_ret (h1 W tk), fun S0 H0 gs al ρ σ H Dn D' Wd W r hp g gx => ?_⟩⟩
  refine h2 _ σ H _ _ _ _ W r.relB hp (fun v d H1 g1 p1 v1 => ?_) fun cls d Ca kvs H1 g1 p1 x1 => ?_
  · exact g.rt v d H1 (r.ext.trans g1.e) g1.i p1 v1
  · exact gx al (thaw ρ) σ H1 cls d Ca kvs (r.go g1).thaw p1 (x1.mono vol_thaw)
theorem dsx_set (n : NmOk X i x) (h : DEx X C e td) (hs : swapsWith e (some (.Name x pos')) pos.line X.env = pure false := by rfl) : DSx X C (.Assign [.Name x pos'] e pos) (xSet i td) := by
  obtain ⟨te, h1, h2⟩ := h.ex
  refine ⟨⟨_, fun W tk => ps_set n.nd n.at_ n.loc (h1 W tk) hs n.fn, fun S0 H0 gs al ρ σ H Dn D' Wd W r hp g gx => ?_⟩⟩
  refine h2 _ σ H _ _ _ _ W r.relA hp (fun v d H1 g1 p1 v1 => ?_) fun cls d Ca kvs H1 g1 p1 x1 => ?_
  · exact g.nx al _ _ H1 ((r.go g1).setDat i v1) p1
  · exact gx al ρ σ H1 cls d Ca kvs (r.go g1) p1 x1
theorem dsx_exp (h : DEx X C e td) (hs : swapsWith e none pos.line X.env = pure false := by rfl) : DSx X C (.Expr e pos) (xExp td) := by
  obtain ⟨te, h1, h2⟩ := h.ex
  refine ⟨⟨_, fun W tk => ps_expr (h1 W tk) hs, fun S0 H0 gs al ρ σ H Dn D' Wd W r hp g gx => ?_⟩⟩
  refine h2 _ σ H _ _ _ _ W r.relA hp (fun v d H1 g1 p1 v1 => ?_) fun cls d Ca kvs H1 g1 p1 x1 => ?_
  · exact g.nx al ρ σ H1 (r.go g1) p1
  · exact gx al ρ σ H1 cls d Ca kvs (r.go g1) p1 x1
theorem dsx_for {tg iter : Expr} {body : List Stmt} {ti : TDs} {tgd : TGd} (hp : PassesOwn (model X.prog X.w) X.A X.env X.xe) (hc : X.calm = true) (hi : DI X C tg iter ti) (hg : DG X C tg tgd) (hb : DSsx X C body ts) (hs : ∀ x, foldedSetIterable iter X.env x = pure x := by intro _; rfl) : DSx X C (.For tg iter body [] pos) (xFor ti tgd ts) := by
  obtain ⟨wi, i1, i2⟩ := hi.ex
  obtain ⟨g, g1, g2⟩ := hg.ex
  obtain ⟨tb, b1, b2⟩ := hb.ex
  refine ⟨⟨_, fun W tk => ps_for hp hc i1 g1 (b1 W tk) hs, fun S0 H0 gs al ρ σ H Dn D' Wd W r hq gd gx => ?_⟩⟩
  refine i2 _ σ H _ _ _ r.relA hq fun J ys gs' H1 g3 p1 hgs w => ?_
  obtain ⟨Iv, h0, hs, hd⟩ := p1
  refine ⟨fun i m σ H => m = ys.length - i ∧ i ≤ ys.length ∧ ∃ al ρ, EnvR X.K C S0 H0 (gs' ++ gs) al ρ σ H ∧ Iv i ρ, ⟨ys.length, by simp, Nat.zero_le _, al, ρ, (r.go g3).more hgs, h0⟩, ?_⟩
  rintro i m σ H ⟨rfl, hi, al, ρ, r, iv⟩
  have ok := r.vok
  have hgs : GsOk X.K H (Vol S0 al ρ) gs' := fun x hx => r.gh x (List.mem_append_left _ hx)
  by_cases hlt : i < ys.length
  · refine .inr ⟨w.goes _ i H ok hgs hlt, fun σ' H' => ∃ al ρ, EnvR X.K C S0 H0 (gs' ++ gs) al ρ σ' H' ∧ Iv (i + 1) ρ, fun σ' H' p => ⟨ys.length - (i + 1), by omega, rfl, hlt, p⟩, fun x H' y => ?_⟩
    obtain ⟨d, h1, h2, h3⟩ := w.ylds _ i H x H' ok hgs hlt y
    refine g2 S0 H0 _ al ρ σ H' x d _ _ (r.go h2) h3 (hs i d ρ h1 iv) fun ρ' σ' r' p' => ?_
    refine b2 S0 H0 _ al ρ' σ' H' _ _ Wd W r' p' ⟨fun al ρ σ H r h => ⟨al, ρ, r, h⟩, gd.rt, fun al ρ σ H r h => gd.nx al ρ σ H r.less h, fun al ρ σ H r h => ⟨al, ρ, r, h⟩⟩ fun al ρ σ H cls d Ca kvs r => gx al ρ σ H cls d Ca kvs r.less
  · have e : i = ys.length := by omega
    subst e
    exact .inl ⟨w.stops _ H ok hgs, gd.nx al ρ σ H r.less (hd ρ iv)⟩
end

/-! ### raise -/
section
variable {X : Cx} {Cf0 : Cf} {C : Addr} {x fn nm : Str} {k j : Nat} {F : Cf → FN} {e : Expr} {td : TD} {p pos rpos : Pos}
theorem dsx_raise (M : MakX X.prog X.w X.K X.mg X.base k x C fn nm F) (hgd : X.A.guards = some []) (hr : Room j X.A) (hk : k + 1 ≤ j) (hc : X.calm = true) (hg : Gl X x) (h : DE X Cf0 e td) (hdb : (x == ("__debug__" : Str)) = false := by decide)
    (he : starEach [e] X.env = (false, eval e X.env) :: starEach [] X.env := by rfl) : DSx X Cf0 (.Raise (some (.Call (.Name x p) [e] [] pos)) none rpos) (xRaise C fn (F Cf0) td) := by
  obtain ⟨te, h1, h2⟩ := h.ex
  obtain ⟨fI, fd, T, iC, tI, G0, hb, hm⟩ := id M.ex
  have mk : PMk X (.Call (.Name x p) [e] [] pos) (fun σ H Q => te σ H fun v H1 => ∃ (S : AS) (d : D) (P : D → Prop), Ok Cf0 S H1 ∧ DV X.K (hid H1 S) v d ∧ F Cf0 [d] P ∧ ∀ (y : V) (d' : D) (dx : Addr) (H' : Hp), Go Cf0 H1 H' → H' dx = some (.xd [(fn, y)]) → ¬ S dx → DV X.K (hid H' S) y d' → P d' → Q (.ref C) (some dx) H') := by
    intro pins s σ H Q I h
    refine wpAny_Call_Name_kw (ld_glob I hg hm ?_ hdb)
    refine PySem.W.callWith_K (h₀ := X.base) I.ok.mod.kin T.kC ?_ he rfl
    rw [he]
    refine Calls.spliced_cons (thn (h1.run pins s σ H _ I h) fun u s1 ⟨v, H1, I1, r1, S, d, P, ok, hv, hF, q⟩ => ?_)
    refine Calls.spliced_nil ⟨I1.kIn, ?_⟩
    refine thn (run_mkx M hgd (hr.mono hk) I1 ok r1 hv hF) fun z s' hz => ?_
    obtain ⟨a, dx, t0, y, d', H', G, rfl, J, kG, ge, hoe, na, hdx, g, nS, nSd, vy, pd, os, ag⟩ := hz
    exact ⟨a, _, _, { s' with heap := G }, H', .ref C, some dx, rfl, J, kG, ge, hoe, ⟨rfl, rfl⟩, rfl, rfl, na, rfl, ag, raises_own T.exC T.tyC, q y d' dx H' g hdx nSd vy pd⟩
  refine ⟨⟨_, fun W tk => ps_raise hc tk mk, fun S0 H0 gs al ρ σ H Dn D' Wd W r hp g gx => ?_⟩⟩
  refine h2 _ σ H _ _ _ r.relA hp fun v d H1 g1 p1 v1 => ?_
  have r1 := r.go g1
  refine ⟨Vol S0 al ρ, d, _, r1.vok, v1, p1, fun y d' dx H' g2 hdx nSd vy pd => ?_⟩
  exact gx al ρ σ H' (.ref C) (some dx) C _ (r1.go g2) pd ⟨rfl, .inr ⟨dx, _, rfl, hid_some.mpr ⟨nSd, hdx⟩, .cons vy .nil⟩⟩
/-- raise C('words'), C without its own __init__ -/
theorem dsx_raise0 {m : Str} {i : Nat} {p2 : Pos} {bmB : List Value} {B newId initId : String} (FB : ExcBaseFacts B newId initId bmB) (q : PySem.W.excIn X.K C bmB newId = true) (gC : X.mg x = some (.ref C)) (kC : PySem.W.keepIn X.K (.ref C) = true) (r : Raises X (.ref C)) (hc : X.calm = true) (hg : Gl X x)
    (hdb : (x == ("__debug__" : Str)) = false := by decide) : DSx X Cf0 (.Raise (some (.Call (.Name x p) [.Constant (.str m) i p2] [] pos)) none rpos) (xRaise0 C) :=
  ⟨⟨_, fun W tk => ps_raise hc tk (pmk_own FB q gC kC r hg hdb), fun S0 H0 gs al ρ σ H Dn D' Wd W r hp g gx => gx al ρ σ H (.ref C) none C [] r hp ⟨rfl, .inl ⟨rfl, rfl⟩⟩⟩⟩
end

/-! ### a def that may raise, by its body -/
theorem def_okX {P : Program} {w : World} {K : PySem.W.Frag} {mg : Str → Option Value} {base : Heap} {x qual : Str} {st : Stmt} {f : Addr} {fd : FuncData} {N ps : List Str} {k : Nat} {F : Cf → FNx} (FF : Fun K x qual st f fd) (S : FnScope N ps (defScope st)) (len : ∀ C ds P Wd, F C ds P Wd → ds.length = ps.length)
    (body : ∀ (cdv : Value) (A : Around) (fr : List Env) (s : Shared) (H : Hp) (E : XK), A.guards = some [] → Room k (A.deeper (envOfC qual (defScope st) s.heap.objs.size f cdv)) →
      PassesOwn (model P w) (A.deeper (envOfC qual (defScope st) s.heap.objs.size f cdv)) (envOfC qual (defScope st) s.heap.objs.size f cdv) (cxOf (L2.CX P w) P w K mg base N qual (defScope st) f cdv A fr s H E).xe → ∀ (C : Cf) (ds : List D) (R : D → Prop) (Wd : XW), F C ds R Wd →
      ∃ ts, DSsx (cxOf (L2.CX P w) P w K mg base N qual (defScope st) f cdv A fr s H E) C (defBody st) ts ∧ ts (fun Ca kvs _ => Wd Ca kvs) { nx := fun _ => R .non, rt := R } (startD N ds)) : FnG P w K mg base (L2.CX P w) (k + 1) f fd ps (spX K F) := by
  refine FF.okG S (fun vs H Q E h => ?_) fun cdv A fr s H vs Q E hgd hr h => ?_
  · obtain ⟨C, S, ds, P, Wd, _, hv, hf, _⟩ := h
    rw [hv.len]; exact len C ds P Wd hf
  · obtain ⟨C, S1, ds, R, Wd, ok, hv, hf, q, qx⟩ := h
    obtain ⟨ts, hd, ht⟩ := body cdv A fr s H E hgd hr (passes_of (X := cxOf (L2.CX P w) P w K mg base N qual (defScope st) f cdv A fr s H E) (K := fun e s'' => L2.CX P w fr H s E e s'') rfl) C ds R Wd hf
    obtain ⟨t, h1, h2⟩ := hd.ex
    have hl : vs.length ≤ N.length := by
      have := congrArg List.length S.pre
      rw [List.length_take] at this
      rw [hv.len, len C ds R Wd hf]; omega
    have tk : Takes (cxOf (L2.CX P w) P w K mg base N qual (defScope st) f cdv A fr s H E) (fun cls d _ H => E cls d H) := takes_of rfl rfl rfl rfl
    refine ⟨t _, h1 _ tk, ?_⟩
    refine h2 S1 H [] (fun _ => 0) (startD N ds) (L2.start N vs) H _ _ _ _ (env_start ok hv hl) ht ⟨fun al ρ σ H' r h => ?_, fun v d H' e i h hv => ?_, fun al ρ σ H' r h => h.elim, fun al ρ σ H' r h => h.elim⟩ fun al ρ σ H' cls d Ca kvs r h x1 => ?_
    · exact q .non .non H' ⟨r.ext, r.ok.i⟩ h .non
    · exact q v d H' ⟨e, i⟩ h hv
    · exact qx cls d Ca kvs H' ⟨r.ext, r.ok.i⟩ h (x1.mono (same_hid_sub fun a h => .inl h))
end L3
/-! try: .. except C as e: .. , the error followed as a datum. -/
namespace L3
open PySem PySem.Spec PyProof.Rows L2

section
variable {X : Cx} {pins : List (Addr × Obj)} {σ : L2.St} {H : Hp} {s : Shared}
theorem _root_.L2.Inv.track {a : Addr} {o : HO} (I : Inv X pins σ H s) (na : H a = none) (n0 : X.s_0.heap.get? a = none) (nL : a ≠ X.env.locals) (nc : ∀ x c, X.env.cells.lookup x = some c → c ≠ a) (np : ∀ p ∈ X.pn ++ pins, p.1 ≠ a) (new : ObjOk X.prog X.w (upd H a o) s.heap a o) : Inv X pins σ (upd H a o) s := by
  refine ⟨I.ok, I.os, I.bare, ⟨I.base.keep, I.base.slot, fun b ob e n hx => ?_, I.base.there, fun b xs e => ?_, fun b ob u e => ?_, fun b ps e => ?_⟩, I.loc, I.cell, ?_, fun x c e => ?_, fun p hp => ?_, fun b ob e => ?_, I.len⟩
  · rw [upd_ne (fun z => by rw [z, n0] at e; cases e)]; exact I.base.free b ob e n hx
  · have z := I.base.tups b xs e
    rw [upd_ne (ne_of_none z na)]; exact z
  · have z := I.base.frzs b ob u e
    rw [upd_ne (ne_of_none z na)]; exact z
  · obtain ⟨m, z⟩ := I.base.tbls b ps e
    exact ⟨m, by rw [upd_ne (ne_of_none z na)]; exact z⟩
  · rw [upd_ne (Ne.symm nL)]; exact I.free
  · rw [upd_ne (nc x c e)]; exact I.freeC x c e
  · obtain ⟨e1, n1, r⟩ := I.pin p hp
    exact ⟨e1, by rw [upd_ne (np p hp)]; exact n1, r⟩
  · by_cases hb : b = a
    · subst hb; rw [upd_same] at e; cases e; exact new
    · rw [upd_ne hb] at e
      exact (I.hok b ob e).stay (fun c u _ q => q) (fun c q => by rw [upd_ne (ne_of_none q na)]; exact q) fun c xs q => by rw [upd_ne (ne_of_none q na)]; exact q
theorem _root_.L2.Inv.suite0 (I : Inv X pins σ H s) (a : Addr) : Inv (X.suite a (X.pn ++ pins)) [] σ H s :=
  ⟨I.ok.suite _ _, I.os, I.bare, I.base, I.loc, I.cell, I.free, I.freeC, fun p hp => I.pin p (by rw [List.append_nil] at hp; exact hp), I.hok, I.len⟩
theorem _root_.L2.Inv.unsuite0 {a : Addr} {pn' : List (Addr × Obj)} (I : Inv (X.suite a (X.pn ++ pins)) pn' σ H s) (ok : X.Ok) : Inv X pins σ H s :=
  ⟨ok, I.os, I.bare, I.base, I.loc, I.cell, I.free, I.freeC, fun p hp => I.pin p (List.mem_append_left _ hp), I.hok, I.len⟩
end
/-- a clause: its class, the slot of its name, its suite -/
structure Hdl where
  c : Value
  i : Option Nat
  ts : TS
/-- what the clauses wish of an error of the body -/
def wT (K : PySem.W.Frag) (Wout : WX) (D : Ends) : List Hdl → WX
  | [] => Wout
  | h :: r => fun cls d σ H => ∃ b, PySem.W.exmOne K cls h.c = some b ∧ (b = true → match h.i with
      | none => h.ts D σ H
      | some i => ∃ Ca, cls = .ref Ca ∧ ∀ a, H a = none → h.ts { nx := fun σ' H' => D.nx (σ'.set i none) H', rt := D.rt, bk := fun σ' H' => D.bk (σ'.set i none) H', ct := fun σ' H' => D.ct (σ'.set i none) H' } (σ.set i (some (.ref a))) (upd H a (exX Ca d a))) ∧
      (b = false → wT K Wout D r cls d σ H)
inductive HdsT (X : Cx) : List ExceptHandler → List Hdl → Prop
  | nil : HdsT X [] []
  | cons {x : Str} {c : Value} {ts : TS} {b₀ : Stmt} {suite : List Stmt} {np pos' : Pos} {hds : List ExceptHandler} {l : List Hdl} (hc : Names X x c)
      (hsu : ∀ (a : Addr) (pn : List (Addr × Obj)), PSs (X.suite a pn) (b₀ :: suite) ts) (r : HdsT X hds l) :
      HdsT X (.ExceptHandler (some (.Name x np)) none (b₀ :: suite) pos' :: hds) (⟨c, none, ts⟩ :: l)
  | named {x n : Str} {c : Value} {i : Nat} {ts : TS} {b₀ : Stmt} {suite : List Stmt} {np pos' : Pos} {hds : List ExceptHandler} {l : List Hdl} (hc : Names X x c) (hi : X.N[i]? = some n) (hln : X.env.kindOf n = some .local)
      (hsu : ∀ (a : Addr) (pn : List (Addr × Obj)), PSs (X.suite a pn) (b₀ :: suite) ts) (r : HdsT X hds l) :
      HdsT X (.ExceptHandler (some (.Name x np)) (some n) (b₀ :: suite) pos' :: hds) (⟨c, some i, ts⟩ :: l)
section
variable {X : Cx} {body : List Stmt} {h₀ : ExceptHandler} {hds : List ExceptHandler} {l : List Hdl} {pos : Pos} {tb : WX → TS} {Wout : WX}
theorem ps_tryT (hs : X.stack = X.env :: X.outer) (hf : X.env.frame = some X.env.locals) (hex : X.ex = []) (hN : X.N.Nodup) (tk : Takes X Wout)
    (hb : ∀ (W : WX) (pn : List (Addr × Obj)) (xe : Value → Shared → Prop), Takes (X.tr pn xe) W → PassesOwn (model X.prog X.w) X.A X.env xe → PSs (X.tr pn xe) body (tb W))
    (hh : HdsT X (h₀ :: hds) l) : PS X (.Try body (h₀ :: hds) [] [] pos) (fun D σ H => tb (wT X.K Wout D l) D σ H) := by
  refine ⟨fun pins s σ H D I h => ?_⟩
  have ok := I.ok
  have hfr : X.A.frames = some (X.env :: X.outer) := by rw [ok.frames, hs]
  refine wpAny_Try_except ?_
  refine wpAny_mono ((hb (wT X.K Wout D l) (X.pn ++ pins) (fun e s₁ => wpAny (model X.prog X.w) X.A (noteFrame e X.env) (fun _ s₂ => wpAny (model X.prog X.w) X.A (setFlight e none) (fun _ s₃ =>
    wpAny (model X.prog X.w) X.A (handleBy e X.env (h₀ :: hds)) (SP X pins D) X.xe s₃) X.xe s₂) X.xe s₁) (fun u s' xx => ?_) PassesOwn.looking).run [] s σ H D (I.toTry _) h) (fun f s1 hsp => ?_) (fun e s1 he => he)
  · -- the catch
    obtain ⟨a, B, sI, pins', σ', H', cls, d, rfl, J', nb, up, sky, na, os, ag, w⟩ := xx
    have J : Inv X pins σ' H' sI := J'.ofTry ok
    have sky' : Sky B (X.env :: X.outer) a (Zc cls d) X.env.locals s'.heap := by rw [← hs]; exact sky
    show wpAny (model X.prog X.w) X.A (noteFrame (.ref a) X.env) _ _ _
    refine Sky.land Zc.steady hfr hf sky' fun h3 fl3 up3 => ?_
    have J3 : Inv X pins σ' H' { s' with heap := h3 } := J.landed nb fl3.1 (up.trans up3) os ag
    obtain ⟨oe3, vs3, he3, hz3, hd3⟩ := fl3.there
    have notFr : ∀ {h : Heap} {o : Obj} {vs : Array Value}, h.FunFrames B (X.env :: X.outer) → h.get? a = some o → o.data = .fields vs → a ∉ frs (X.env :: X.outer) := fun {h o vs} ff e dd hm => by
      obtain ⟨_, o', e', hnf⟩ := ff.mem hm
      rw [e] at e'; cases e'
      exact hnf _ dd
    have nfr := notFr fl3.2.2.1 he3 hd3
    have nL : a ≠ X.env.locals := fun z => nfr (List.mem_filterMap.mpr ⟨X.env, List.mem_cons_self, by rw [hf, z]⟩)
    -- a is not among the objects of the state without it
    have nI : sI.heap.get? a = none := by
      cases q : sI.heap.get? a with
      | none => rfl
      | some o =>
        have z := nb a o q (by rw [hs]; exact nfr)
        rw [fl3.2.1] at z; cases z
    have n0 : X.s_0.heap.get? a = none := by
      cases q : X.s_0.heap.get? a with
      | none => rfl
      | some o =>
        obtain ⟨o', z⟩ := J.base.there a o q (by rw [hex]; exact fun z => nomatch z)
        rw [nI] at z; cases z
    have nc : ∀ x c, X.env.cells.lookup x = some c → c ≠ a := fun x c e z => by
      obtain ⟨v, o, q, _⟩ := J.cell x c e
      rw [z, nI] at q; cases q
    have npn : ∀ p ∈ X.pn ++ pins, p.1 ≠ a := fun p hp z => by
      have q := (J.pin p hp).1
      rw [z, nI] at q; cases q
    have S3 := J3.suite0 a
    have go : ∀ {hds' : List ExceptHandler} {l' : List Hdl}, HdsT X hds' l' → wT X.K Wout D l' cls d σ' H' →
        wpAny (model X.prog X.w) X.A (handleBy (.ref a) X.env hds') (SP X pins D) X.xe { s' with heap := h3 } := by
      intro hds' l' hk
      have head : ∀ {x : Str} {c : Value} {np : Pos} {b : Bool} {Q : Bool → Shared → Prop} {E : Value → Shared → Prop}, Names X x c → PySem.W.exmOne X.K cls c = some b → Q b { s' with heap := h3 } →
          wpAny (model X.prog X.w) (X.A.mark (some (.ref a))) (eval (.Name x np) X.env) (fun cv s₁ => wpAny (model X.prog X.w) (X.A.mark (some (.ref a))) (excMatches (.ref a) cv) Q E s₁) E { s' with heap := h3 } := fun {x c np b Q E} hc hb1 q => by
        have LT : PySem.W.Looks (model X.prog X.w) h3 (typeOf (.ref a)) cls := fun A Q E s k q => wpAny_typeOf_ref (k _ _ he3) (by rw [hz3.1]; exact q)
        have LM := PySem.W.exm_one (M := model X.prog X.w) (J3.kIn) LT hb1
        obtain ⟨hg, hdbg, hm | ⟨hm, hv, hnn⟩⟩ := hc
        · exact ld_glob (X := X.suite a (X.pn ++ pins)) S3 hg hm (LM.here q) hdbg
        · exact ld_blt (X := X.suite a (X.pn ++ pins)) S3 hg hm hv (LM.here q) hnn hdbg
      induction hk with
      | nil =>
        intro w
        refine wpAny_handleBy_nil ?_
        obtain ⟨k1, k2, k3, oe, vs, T, oT, ts', he, hz, hd, h1, hr⟩ := id fl3
        unfold PySem.passOn
        refine wpAny_bind (wpAny_field he hd h1 ?_)
        rw [if_neg (show ¬ ((Value.ref T == Value.none) = true) from by simp)]
        have fin : wpAny (model X.prog X.w) X.A (setFlight (.ref a) X.env.frame) (fun _ s4 => wpAny (model X.prog X.w) X.A (throw (.ref a) : Sem Flow) (SP X pins D) X.xe s4) X.xe { s' with heap := h3 } := by
          rw [hf]
          refine HandSPX.setFlight_upZ fl3 fun h4 hh4 up4 => wpAny_throw (tk _ _ ?_)
          exact ⟨a, B, sI, pins, σ', H', cls, d, rfl, J, nb, (up.trans up3).trans up4, .inr (.inr (by rw [hs]; exact hh4)), na, os, ag, w⟩
        first
          | exact wpAny_bind (wpAny_pure (wpAny_bind fin))
          | exact wpAny_bind fin
      | @cons x c ts b₀ suite np pos' hds2 l2 hc hsu r ih =>
        intro w
        obtain ⟨b, hb1, hyes, hno⟩ := w
        refine wpAny_handleBy_cons (codeAny_handlers_test ?_) (by intro q; cases q)
        refine head hc hb1 ?_
        cases b with
        | true =>
          refine codeAny_handlers_suite ?_
          refine HandSPX.lands_againZ fl3 fun h4 fl4 up4 => ?_
          have J4 : Inv X pins σ' H' { s' with heap := h4 } := J.landed nb fl4.1 ((up.trans up3).trans up4) os ag
          refine wpAny_mono ((hsu a (X.pn ++ pins)).run [] _ _ H' _ (J4.suite0 a) (hyes rfl)) (fun f s6 hsp => ?_) (fun _ _ z => False.elim z)
          cases f with
          | next => obtain ⟨σ6, H6, S6, q6⟩ := hsp; exact ⟨_, _, S6.unsuite0 ok, q6⟩
          | brk => obtain ⟨σ6, H6, S6, q6⟩ := hsp; exact ⟨_, _, S6.unsuite0 ok, q6⟩
          | cont => obtain ⟨σ6, H6, S6, q6⟩ := hsp; exact ⟨_, _, S6.unsuite0 ok, q6⟩
          | ret u => obtain ⟨v6, σ6, H6, S6, r6, q6⟩ := hsp; exact ⟨_, _, _, S6.unsuite0 ok, r6, q6⟩
        | false =>
          show wpAny _ X.A (handleBy (.ref a) X.env hds2) _ _ _
          exact ih (hno rfl)
      | @named x n c i ts b₀ suite np pos' hds2 l2 hc hi hln hsu r ih =>
        intro w
        obtain ⟨b, hb1, hyes, hno⟩ := w
        refine wpAny_handleBy_cons (codeAny_handlers_test ?_) (by intro q; cases q)
        refine head hc hb1 ?_
        cases b with
        | true =>
          obtain ⟨Ca, ecls, hy⟩ := hyes rfl
          subst ecls
          refine codeAny_handlers_suite_as ?_
          refine HandSPX.lands_againZ fl3 fun h4 fl4 up4 => ?_
          have J4 : Inv X pins σ' H' { s' with heap := h4 } := J.landed nb fl4.1 ((up.trans up3).trans up4) os ag
          obtain ⟨oe4, vs4, he4, hz4, hd4⟩ := fl4.there
          have J5 : Inv X pins σ' (upd H' a (exX Ca d a)) { s' with heap := h4 } := Inv.track J4 na n0 nL nc npn ⟨⟨oe4, vs4, he4, hz4.1, hz4.2, hd4⟩, ⟨oe4, he4⟩, fun _ _ ⟨o, v, q, r⟩ k => ⟨o, v, k o q, r⟩⟩
          refine store_ok (X := X.suite a (X.pn ++ pins)) (v := .ref a) (J5.suite0 a) hN hi (.inl hln) rfl (fun s5 S5 => ?_) (.inr hln)
          refine wpAny_mono ((hsu a (X.pn ++ pins)).run [] s5 _ _ _ S5 (hy a na)) (fun f s6 hsp => ?_) (fun _ _ z => False.elim z)
          have end_ : ∀ {σ6 : L2.St} {H6 : Hp} {Q : Shared → Prop}, Inv (X.suite a (X.pn ++ pins)) [] σ6 H6 s6 → (∀ s7, Inv X pins (σ6.set i none) H6 s7 → Q s7) →
              wpAny (model X.prog X.w) X.A (do bindName X.env n .none; unbindBehindTheSuite X.env n pos') (fun _ s7 => Q s7) X.xe s6 := fun {σ6 H6 Q} S6 hq => gone_ok (S6.unsuite0 ok) hN hi hln hq
          cases f with
          | next => obtain ⟨σ6, H6, S6, q6⟩ := hsp; exact end_ S6 fun s7 J7 => ⟨_, _, J7, q6⟩
          | brk => obtain ⟨σ6, H6, S6, q6⟩ := hsp; exact end_ S6 fun s7 J7 => ⟨_, _, J7, q6⟩
          | cont => obtain ⟨σ6, H6, S6, q6⟩ := hsp; exact end_ S6 fun s7 J7 => ⟨_, _, J7, q6⟩
          | ret u => obtain ⟨v6, σ6, H6, S6, r6, q6⟩ := hsp; exact end_ S6 fun s7 J7 => ⟨_, _, _, J7, r6, q6⟩
        | false =>
          show wpAny _ X.A (handleBy (.ref a) X.env hds2) _ _ _
          exact ih (hno rfl)
    exact go hh w
  · cases f with
    | next => obtain ⟨σ', H', J', q⟩ := hsp; exact wpAny_execs_nil ⟨σ', H', J'.ofTry ok, q⟩
    | brk => obtain ⟨σ', H', J', q⟩ := hsp; exact ⟨σ', H', J'.ofTry ok, q⟩
    | cont => obtain ⟨σ', H', J', q⟩ := hsp; exact ⟨σ', H', J'.ofTry ok, q⟩
    | ret u => obtain ⟨v, σ', H', J', r, q⟩ := hsp; exact ⟨v, σ', H', J'.ofTry ok, r, q⟩
end
end L3
/-! Errors as data: try, e.f, isinstance(e, C). -/
namespace L3
open PySem PySem.Spec PyProof.Rows L2

/-! ### try -/
structure HdD where
  c : Value
  i : Option Nat
  ts : TSd
def hRun (K : PySem.W.Frag) (out : XWs) (Dn : EndsD) : List HdD → XWs
  | [] => out
  | h :: r => fun Ca kvs ρ => ∃ b, PySem.W.exmOne K (.ref Ca) h.c = some b ∧ (b = true → match h.i with
      | none => h.ts Dn ρ
      | some i => h.ts { nx := fun ρ' => Dn.nx (ρ'.set i .no), rt := Dn.rt, bk := fun ρ' => Dn.bk (ρ'.set i .no), ct := fun ρ' => Dn.ct (ρ'.set i .no) } (ρ.set i (.dat (.exc Ca kvs)))) ∧ (b = false → hRun K out Dn r Ca kvs ρ)
def xTry (K : PySem.W.Frag) (tb : TSx) (hs : List HdD) : TSx := fun Wd Dn ρ => tb (hRun K Wd Dn hs) Dn ρ
def sTry (K : PySem.W.Frag) (tb : TSx) (hs : List HdD) : TSd := fun Dn ρ => tb (hRun K (fun _ _ _ => False) Dn hs) Dn ρ
inductive DHs (X : Cx) (C : Cf) : List ExceptHandler → List HdD → Prop
  | nil : DHs X C [] []
  | cons {x : Str} {c : Value} {ts : TSd} {b₀ : Stmt} {suite : List Stmt} {np pos' : Pos} {hds : List ExceptHandler} {l : List HdD} (hc : Names X x c)
      (hsu : ∀ (z : Addr × List (Addr × Obj)), DSs (X.suite z.1 z.2) C (b₀ :: suite) ts) (r : DHs X C hds l) :
      DHs X C (.ExceptHandler (some (.Name x np)) none (b₀ :: suite) pos' :: hds) (⟨c, none, ts⟩ :: l)
  | named {x n : Str} {c : Value} {i : Nat} {ts : TSd} {b₀ : Stmt} {suite : List Stmt} {np pos' : Pos} {hds : List ExceptHandler} {l : List HdD} (hc : Names X x c) (hi : X.N[i]? = some n) (hln : X.env.kindOf n = some .local)
      (hsu : ∀ (z : Addr × List (Addr × Obj)), DSs (X.suite z.1 z.2) C (b₀ :: suite) ts) (r : DHs X C hds l) :
      DHs X C (.ExceptHandler (some (.Name x np)) (some n) (b₀ :: suite) pos' :: hds) (⟨c, some i, ts⟩ :: l)
section
variable {K : PySem.W.Frag} {C : Cf} {S0 : AS} {H0 H : Hp} {gs : Gs} {al : Nat → Addr} {ρ : Rho} {σ : L2.St}
/-- a slot is emptied -/
theorem EnvR.setNo (r : EnvR K C S0 H0 gs al ρ σ H) (i : Nat) : EnvR K C S0 H0 gs al (ρ.set i .no) (σ.set i none) H := by
  have sub : Same (hid H (Vol S0 al ρ)) (hid H (Vol S0 al (ρ.set i .no))) := same_hid_sub fun a h => by
    rcases h with h | ⟨j, h, e⟩
    · exact .inl h
    · rcases ownAt_set h with ⟨_, z, _⟩ | ⟨_, z⟩
      · cases z
      · exact .inr ⟨j, z, e⟩
  have oo : ∀ {j}, ownAt (ρ.set i .no) j → ownAt ρ j := fun h => by
    rcases ownAt_set h with ⟨_, z, _⟩ | ⟨_, z⟩
    · cases z
    · exact z
  refine ⟨by simp [r.len], r.ok, r.ext, r.old, fun j e q => ?_, fun j e q => ?_, fun j e q => ?_, fun j q => r.new j (oo q), fun j k a b => r.inj j k (oo a) (oo b), fun x hx => (r.gh x hx).mono sub⟩
  · rcases set_at q with ⟨rfl, hl, z⟩ | ⟨ne, z⟩
    · cases z
    · obtain ⟨w, h1, h2⟩ := r.dat j e z
      exact ⟨w, by rw [List.getElem?_set_ne ne]; exact h1, h2.mono sub⟩
  · rcases set_at q with ⟨rfl, hl, z⟩ | ⟨ne, z⟩
    · cases z
    · obtain ⟨h1, w, h2, h3⟩ := r.own j e z
      exact ⟨by rw [List.getElem?_set_ne ne]; exact h1, w, h2, h3.mono sub⟩
  · rcases set_at q with ⟨rfl, hl, z⟩ | ⟨ne, z⟩
    · cases z
    · obtain ⟨h1, w, h2, h3⟩ := r.owd j e z
      exact ⟨by rw [List.getElem?_set_ne ne]; exact h1, w, h2, h3.mono sub⟩
end
/-- the clauses' readings, and what they are worth -/
theorem hds_ex {X : Cx} {C : Cf} {hds : List ExceptHandler} {l : List HdD} (h : DHs X C hds l) : ∃ l2 : List Hdl, HdsT X hds l2 ∧
    ∀ (S0 : AS) (H0 : Hp) (gs : Gs) (Dn : EndsD) (D' : Ends) (Wd : XWs) (W : WX), Good X.K C S0 H0 gs Dn D' → GoodX X.K C S0 H0 gs Wd W → GoodX X.K C S0 H0 gs (hRun X.K Wd Dn l) (wT X.K W D' l2) := by
  induction h with
  | nil => exact ⟨[], .nil, fun S0 H0 gs Dn D' Wd W _ gx => gx⟩
  | @cons x c ts b₀ suite np pos' hds l hc hsu r ih =>
    obtain ⟨l2, h1, h2⟩ := ih
    refine ⟨⟨c, none, fun D σ H => ∀ z, (hsu z).ex.choose D σ H⟩ :: l2, .cons hc (fun a pn => ⟨fun pins s σ H D I h => ((hsu (a, pn)).ex.choose_spec.1).run pins s σ H D I (h (a, pn))⟩) h1, fun S0 H0 gs Dn D' Wd W g gx al ρ σ H cls d Ca kvs r hw x1 => ?_⟩
    obtain ⟨b, e1, e2, e3⟩ := hw
    obtain rfl := x1.1
    exact ⟨b, e1, fun hb z => (hsu z).ex.choose_spec.2 S0 H0 gs al ρ σ H Dn D' r (e2 hb) g, fun hb => h2 S0 H0 gs Dn D' Wd W g gx al ρ σ H _ d Ca kvs r (e3 hb) x1⟩
  | @named x n c i ts b₀ suite np pos' hds l hc hi hln hsu r ih =>
    obtain ⟨l2, h1, h2⟩ := ih
    refine ⟨⟨c, some i, fun D σ H => ∀ z, (hsu z).ex.choose D σ H⟩ :: l2, .named hc hi hln (fun a pn => ⟨fun pins s σ H D I h => ((hsu (a, pn)).ex.choose_spec.1).run pins s σ H D I (h (a, pn))⟩) h1, fun S0 H0 gs Dn D' Wd W g gx al ρ σ H cls d Ca kvs r hw x1 => ?_⟩
    obtain ⟨b, e1, e2, e3⟩ := hw
    obtain ⟨rfl, x2⟩ := id x1
    refine ⟨b, e1, fun hb => ⟨Ca, rfl, fun a na z => ?_⟩, fun hb => h2 S0 H0 gs Dn D' Wd W g gx al ρ σ H _ d Ca kvs r (e3 hb) x1⟩
    have gn : Go C H (upd H a (exX Ca d a)) := Go.new r.ok na
    have nv : ¬ Vol S0 al ρ a := r.vok.fresh na
    have dv : DV X.K (hid (upd H a (exX Ca d a)) (Vol S0 al ρ)) (.ref a) (.exc Ca kvs) := by
      have e0 : hid (upd H a (exX Ca d a)) (Vol S0 al ρ) a = some (exX Ca d a) := hid_some.mpr ⟨nv, upd_same⟩
      rcases x2 with ⟨rfl, rfl⟩ | ⟨dd, fs, rfl, f1, f2⟩
      · exact .exc0 e0
      · exact .exc e0 (gn.vis r.vok _ _ f1) (f2.mono (gn.vis r.vok))
    refine (hsu z).ex.choose_spec.2 S0 H0 gs al _ _ _ _ _ ((r.go gn).setDat i dv) (e2 hb) ⟨fun al ρ σ H r h => g.nx al _ _ H (r.setNo i) h, g.rt, fun al ρ σ H r h => g.bk al _ _ H (r.setNo i) h, fun al ρ σ H r h => g.ct al _ _ H (r.setNo i) h⟩
section
variable {X : Cx} {C : Cf} {body : List Stmt} {h₀ : ExceptHandler} {hds : List ExceptHandler} {l : List HdD} {pos : Pos} {tb : TSx}
theorem try_parts (hb : ∀ (z : List (Addr × Obj) × (Value → Shared → Prop)), PassesOwn (model X.prog X.w) X.A X.env z.2 → DSsx (X.tr z.1 z.2) C body tb) :
    ∃ t : WX → TS, (∀ (W : WX) (pn : List (Addr × Obj)) (xe : Value → Shared → Prop), Takes (X.tr pn xe) W → PassesOwn (model X.prog X.w) X.A X.env xe → PSs (X.tr pn xe) body (t W)) ∧ EvSx X.K C t tb := by
  refine ⟨fun W D σ H => ∀ z hz, (hb z hz).ex.choose W D σ H, fun W pn xe tk hp => ⟨fun pins s σ H D I h => ((hb (pn, xe) hp).ex.choose_spec.1 W tk).run pins s σ H D I (h (pn, xe) hp)⟩, fun S0 H0 gs al ρ σ H Dn D' Wd W r hp g gx z hz => ?_⟩
  exact (hb z hz).ex.choose_spec.2 S0 H0 gs al ρ σ H Dn D' Wd W r hp g gx
theorem dsx_try (hs : X.stack = X.env :: X.outer) (hf : X.env.frame = some X.env.locals) (hex : X.ex = []) (hN : X.N.Nodup) (hb : ∀ (z : List (Addr × Obj) × (Value → Shared → Prop)), PassesOwn (model X.prog X.w) X.A X.env z.2 → DSsx (X.tr z.1 z.2) C body tb) (hh : DHs X C (h₀ :: hds) l) :
    DSx X C (.Try body (h₀ :: hds) [] [] pos) (xTry X.K tb l) := by
  obtain ⟨t, t1, t2⟩ := try_parts hb
  obtain ⟨l2, h1, h2⟩ := hds_ex hh
  exact ⟨⟨_, fun W tk => ps_tryT hs hf hex hN tk t1 h1, fun S0 H0 gs al ρ σ H Dn D' Wd W r hp g gx => t2 S0 H0 gs al ρ σ H Dn D' _ _ r hp g (h2 S0 H0 gs Dn D' Wd W g gx)⟩⟩
theorem ds_try (hs : X.stack = X.env :: X.outer) (hf : X.env.frame = some X.env.locals) (hex : X.ex = []) (hN : X.N.Nodup) (hb : ∀ (z : List (Addr × Obj) × (Value → Shared → Prop)), PassesOwn (model X.prog X.w) X.A X.env z.2 → DSsx (X.tr z.1 z.2) C body tb) (hh : DHs X C (h₀ :: hds) l) :
    DS X C (.Try body (h₀ :: hds) [] [] pos) (sTry X.K tb l) := by
  obtain ⟨t, t1, t2⟩ := try_parts hb
  obtain ⟨l2, h1, h2⟩ := hds_ex hh
  exact ⟨⟨_, ps_tryT hs hf hex hN takes_none5 t1 h1, fun S0 H0 gs al ρ σ H Dn D' r hp g => t2 S0 H0 gs al ρ σ H Dn D' _ _ r hp g (h2 S0 H0 gs Dn D' (fun _ _ _ => False) _ g fun _ _ _ _ _ _ _ _ _ z _ => z.elim)⟩⟩
end

/-! ### what of the text an error's class must have -/
structure XCls (K : PySem.W.Frag) (C : Addr) : Prop where
  xf : XfC K C
  cl : (PySem.W.clsIn K C).isSome = true
  ha : PySem.W.findIn K (.ref C) "__class__" = some (some (.builtin "object.__class__"))
  hn : PySem.W.specialIn K (.builtin "object.__class__") "__get__" = some (some (.builtin "getset_descriptor.__get__"))
  ht : PySem.W.takesIn K (.builtin "object.__class__") = some true
  hm : PySem.W.mroIn K C (.type "object") = some true
/-- e.f -/
def dXfld (K : PySem.W.Frag) (f : Str) (t : TD) : TD := fun E P => t E fun d => ∃ Ca kvs x, d = .exc Ca kvs ∧ XCls K Ca ∧ PySem.W.findIn K (.ref Ca) f = some none ∧ fldOf f kvs = some x ∧ P x
section
variable {X : Cx} {Cf0 : Cf} {e : Expr} {td : TD} {f : Str} {pos : Pos}
theorem de_xfld (h : DE X Cf0 e td) (hb : attributeBase e f X.env (eval e X.env) = eval e X.env := by rfl) : DE X Cf0 (.Attribute e f pos) (dXfld X.K f td) := by
  obtain ⟨te, h1, h2⟩ := h.ex
  have pe : PE X (.Attribute e f pos) (fun σ H Q => te σ H fun x H1 => ∃ a C dx fs v, x = .ref a ∧ H1 a = some (exX C (some dx) a) ∧ H1 dx = some (.xd fs) ∧ XCls X.K C ∧ PySem.W.findIn X.K (.ref C) f = some none ∧ fs.lookup f = some v ∧ Q v H1) := by
    refine ⟨fun pins s σ H Q I h => ?_⟩
    refine attr_of hb (thn (h1.run pins s σ H _ I h) fun u s1 hh => ?_)
    obtain ⟨x, H1, I1, rx, a, C, dx, fs, v, ex, ea, ed, T, hno, l, q⟩ := hh
    subst ex
    obtain rfl : u = Value.ref a := rx
    obtain ⟨⟨oe, vs, ho, hc, hd, hf⟩, _⟩ := (show ObjOk X.prog X.w H1 s1.heap a (exX C (some dx) a) from I1.hok a _ ea)
    obtain ⟨mA, hns, hr⟩ := (show ObjOk X.prog X.w H1 s1.heap dx (.xd fs) from I1.hok dx _ ed)
    obtain ⟨od, hod, hl⟩ := lookIn_ns hns
    obtain ⟨u, hu, ru⟩ := RelO.some_of (v := v) (o := mA f) (by rw [← l]; exact hr f)
    have J : PySem.W.InstAt s1.heap a oe C (some od) := ⟨ho, hc, by unfold PySem.W.notCls; rw [hf] <;> rfl, by rw [hd]; exact hod⟩
    exact HandSPX.exc_get I1.kIn J T.xf.ga T.xf.gg T.xf.exC (PySem.W.findObj_own T.xf.hdC hno rfl (by rw [hl, hu])) (handed_of ru) ⟨v, H1, I1.tok _, ru, q⟩
  refine ⟨⟨_, pe, fun S σ H E P Q r hp q => h2 S σ H E _ _ r hp fun v d H1 g1 p1 v1 => ?_⟩⟩
  obtain ⟨Ca, kvs, x, rfl, T, hno, l, p1⟩ := p1
  cases v1 with
  | exc e1 e2 k1 =>
    obtain ⟨w, l2, hw⟩ := dk_look k1 l
    exact ⟨_, _, _, _, w, rfl, same_hid _ _ e1, same_hid _ _ e2, T, hno, l2, q _ _ H1 g1 p1 hw⟩
  | exc0 e1 => cases l
/-- isinstance(e, C) of an error -/
def rIsX (K : PySem.W.Frag) (cv : Value) : List V → Hp → VK → Prop := fun xs H Q => ∃ (a C : Addr) (do_ : Option Addr) (c : V) (b : Bool), xs = [.ref a, c] ∧ (∀ u, RelV c u → u = cv) ∧ H a = some (exX C do_ a) ∧ (∀ dx, do_ = some dx → ∃ fs, H dx = some (.xd fs)) ∧ XCls K C ∧ PySem.W.kitOne K (.ref C) cv = some b ∧ (∀ z : cv = .type "tuple", False) ∧ Q (.bl b) H
theorem call_isX {cv : Value} (hcv : (∃ C, cv = .ref C) ∨ ∃ t, cv = .type t) : CallR X (.builtin "isinstance") (rIsX X.K cv) := by
  intro pins s σ H xs us Q I r h
  obtain ⟨a, C, do_, c, b, rfl, hcv2, ea, hdd, T, ek, _, q⟩ := h
  cases r with
  | cons rx rr =>
    cases rr with
    | cons rt rr =>
      cases rr
      cases rx
      have ec := hcv2 _ rt
      subst ec
      obtain ⟨⟨oe, vs, ho, hc, hd, hf⟩, _⟩ := (show ObjOk X.prog X.w H s.heap a (exX C do_ a) from I.hok a _ ea)
      have J : ∃ od, PySem.W.InstAt s.heap a oe C od := by
        cases do_ with
        | none => exact ⟨none, ho, hc, by unfold PySem.W.notCls; rw [hf] <;> rfl, by rw [hd]; trivial⟩
        | some dx =>
          obtain ⟨fs, ed⟩ := hdd dx rfl
          obtain ⟨mA, ⟨o, es, ep, e1, r⟩, hr⟩ := (show ObjOk X.prog X.w H s.heap dx (.xd fs) from I.hok dx _ ed)
          exact ⟨some o, ho, hc, by unfold PySem.W.notCls; rw [hf] <;> rfl, by rw [hd]; exact e1⟩
      obtain ⟨od, J⟩ := J
      refine PySem.W.kia_one (PySem.W.kitx_exc T.cl T.xf.ga T.xf.gg T.xf.exC T.ha T.hn T.ht T.hm) I.kIn J ek ?_ fun tk => ⟨.bl b, H, I.kept (t' := tk) fun _ _ z => z, rfl, q⟩
      rcases hcv with ⟨C2, rfl⟩ | ⟨t, rfl⟩ <;> exact fun z => nomatch z
end
def fIsX (K : PySem.W.Frag) (C : Addr) : FN
  | [.exc Ca _, .op (.ref C')], P => C' = C ∧ XCls K Ca ∧ ∃ b, PySem.W.kitOne K (.ref Ca) (.ref C) = some b ∧ P (.bl b)
  | _, _ => False
theorem cd_isX {K : PySem.W.Frag} {Cf0 : Cf} {C : Addr} : CallD K Cf0 (rIsX K (.ref C)) (fIsX K C) := by
  intro S H vs ds P Q ok hv h q
  match ds, h with
  | [.exc Ca kvs, .op (.ref C')], h =>
    obtain ⟨rfl, T, b, h3, p⟩ := h
    obtain ⟨v, w, rfl, hd, hw⟩ := two_dv hv
    have := hw.op_inv
    subst this
    have q2 : Q (.bl b) H := q _ _ H (Go.refl ok) p (.bl _)
    cases hd with
    | exc e1 e2 k1 => exact ⟨_, Ca, _, _, b, rfl, fun u r => r, same_hid _ _ e1, (fun dx z => by cases z; exact ⟨_, same_hid _ _ e2⟩), T, h3, (fun z => nomatch z), q2⟩
    | exc0 e1 => exact ⟨_, Ca, _, _, b, rfl, fun u r => r, same_hid _ _ e1, (fun dx z => by cases z), T, h3, (fun z => nomatch z), q2⟩
/-- isinstance(e, T), T a class of the machine -/
def fIsXT (K : PySem.W.Frag) (t : String) : FN
  | [.exc Ca _, .op (.ty t')], P => t' = t ∧ XCls K Ca ∧ ∃ b, PySem.W.kitOne K (.ref Ca) (.type t) = some b ∧ P (.bl b)
  | _, _ => False
theorem cd_isXT {K : PySem.W.Frag} {Cf0 : Cf} {t : String} (ht : t ≠ "tuple") : CallD K Cf0 (rIsX K (.type t)) (fIsXT K t) := by
  intro S H vs ds P Q ok hv h q
  match ds, h with
  | [.exc Ca kvs, .op (.ty t')], h =>
    obtain ⟨rfl, T, b, h3, p⟩ := h
    obtain ⟨v, w, rfl, hd, hw⟩ := two_dv hv
    have := hw.op_inv
    subst this
    have q2 : Q (.bl b) H := q _ _ H (Go.refl ok) p (.bl _)
    cases hd with
    | exc e1 e2 k1 => exact ⟨_, Ca, _, _, b, rfl, fun u r => r, same_hid _ _ e1, (fun dx z => by cases z; exact ⟨_, same_hid _ _ e2⟩), T, h3, (fun z => ht (Value.type.inj z)), q2⟩
    | exc0 e1 => exact ⟨_, Ca, _, _, b, rfl, fun u r => r, same_hid _ _ e1, (fun dx z => by cases z), T, h3, (fun z => ht (Value.type.inj z)), q2⟩
end L3
/-! x(lambda: body), x a def of the law that calls it in a try. -/
namespace L3
open PySem PySem.Spec PyProof.Rows L2 LamX

section
variable {X : Cx} {pins : List (Addr × Obj)} {σ : L2.St} {H : Hp} {s : Shared}
/-- only the maker's table and a new code object differ -/
def TabGo (P c' : Addr) (H H1 : Hp) : Prop := H1 = H ∨ ∃ (ps more : Array Value) (q : Str), H P = some (.tbl ps) ∧ H c' = none ∧ H1 = upd (upd H P (.tbl (ps ++ more))) c' (CodeO c' q)
theorem lam_new {T : List (Addr × Str)} {c P : Addr} {params : Arguments} {body : Expr} {scope : Scope} {pos : Pos} {E : Value → Shared → Prop} {Q : Value → Shared → Prop} (I : Inv X pins σ H s) (TB : TabB X.base X.mg c P) (hcode : X.env.code = .ref c)
    (hm : (P, X.env.qual ++ "<lambda>") ∈ T) (hu : ∀ p ∈ T, p.1 = P → p.2 = X.env.qual ++ "<lambda>") (hT : Tabs T H) (hdef : defaultsOf params X.env = ([], [])) (hfree : ∀ y ∈ scope.names, y.2 = .free → ∃ c, X.env.cells.lookup y.1 = some c)
    (h : ∀ (f c' : Addr) (pm ctv : Value) (H1 : Hp) (s' : Shared), Inv X pins σ H1 s' → TabGo P c' H H1 → Tabs T H1 →
      s'.heap.get? f = some (PySem.W.kla_obj "<lambda>" (X.env.qual ++ "<lambda>") params body scope (cloFrom X.env.cells scope.names []) pm c' ctv) → H1 f = none → f ∉ frs X.stack → H1 c' = some (CodeO c' (X.env.qual ++ "<lambda>")) → Q (.ref f) s') :
    wpAny (model X.prog X.w) X.A (eval (.Lambda params body scope pos) X.env) Q E s := by
  obtain ⟨ps, hP, ht, ha⟩ := hT _ hm
  have bP : s.heap.BuiltinsAt X.mg P := TB.bm.keeps I.bk
  have hP' : s.heap.get? P = some { cls := .none, data := .fields ps } := I.hok P _ hP
  have glb := I.mod.glob.keeps I.bk
  have cod := TB.code.keeps I.bk
  have nofr : ∀ f, s.heap.objs.size ≤ f → f ∉ frs X.stack := fun f hf z => (List.mem_cons.mp (I.stkSub _ z)).elim (fun e => absurd (Nat.lt_of_lt_of_le (e ▸ I.lt) hf) (Nat.lt_irrefl _)) (I.nofs hf)
  refine PySem.W.kla_eval hdef ?_
  cases hc : codeAmong pos ps.toList with
  | some cv =>
    obtain ⟨c', e, hco⟩ := ha pos cv hc
    subst e
    refine PySem.W.kla_makeFunctionHit (closure_ok hfree) I.ok.glob glb hcode cod hP' ht hc bP fun ctv h' tk hx hsz => ?_
    have up : ∀ b o, s.heap.get? b = some o → (h'.push (PySem.W.kla_obj "<lambda>" (X.env.qual ++ "<lambda>") params body scope (cloFrom X.env.cells scope.names []) ((X.mg "__name__").getD .none) c' ctv)).get? b = some o := fun b o e => Heap.get?_push_of_some _ (hx b o e)
    exact h h'.objs.size c' _ ctv H _ (I.kept (t' := tk) up) (.inl rfl) hT (Heap.get?_push_size _ rfl) (I.hok.fresh hsz) (nofr _ hsz) hco
  | none =>
    refine PySem.W.kla_makeFunction (closure_ok hfree) I.ok.glob glb hcode cod hP' ht hc TB.gP bP fun c' ctv h' tk hx hge hlt hrec htb => ?_
    obtain ⟨c2, oc, vs, t, e2, hoc, hd, hv⟩ := hrec
    obtain rfl : c' = c2 := Value.ref.inj e2
    have nC : H c' = none := I.hok.fresh hge
    have szF : s.heap.objs.size ≤ h'.objs.size := Nat.le_trans hge (Nat.le_of_lt hlt)
    have nPc : P ≠ c' := ne_of_none hP nC
    have J := inv_table (t' := tk) (more := #[rawInt pos.line, rawInt pos.col, .ref c']) (h' := h'.push (PySem.W.kla_obj "<lambda>" (X.env.qual ++ "<lambda>") params body scope (cloFrom X.env.cells scope.names []) ((X.mg "__name__").getD .none) c' ctv)) I hP
      (fun b o hb e => Heap.get?_push_of_some _ (hx b o hb e)) (Heap.get?_push_of_some _ htb) hge ⟨oc, vs, t, Heap.get?_push_of_some _ hoc, hd, hv⟩
    have other : ∀ b, b ≠ P → b ≠ c' → upd (upd H P (.tbl (ps ++ #[rawInt pos.line, rawInt pos.col, .ref c']))) c' (CodeO c' (X.env.qual ++ "<lambda>")) b = H b := fun b h1 h2 => by rw [upd_ne h2, upd_ne h1]
    have cd : ∀ b q, H b = some (CodeO b q) → upd (upd H P (.tbl (ps ++ #[rawInt pos.line, rawInt pos.col, .ref c']))) c' (CodeO c' (X.env.qual ++ "<lambda>")) b = some (CodeO b q) := fun b q e => by
      rw [other b (fun z => by rw [z, hP] at e; unfold CodeO at e; cases e) (ne_of_none e nC)]; exact e
    refine h h'.objs.size c' _ ctv _ _ J (.inr ⟨ps, _, _, hP, nC, rfl⟩) (fun p hp => ?_) (Heap.get?_push_size _ rfl) ?_ (nofr _ szF) upd_same
    · by_cases hb : p.1 = P
      · rw [hu p hp hb, hb]
        refine ⟨_, by rw [upd_ne nPc, upd_same], by rw [Array.toList_append]; exact PySem.TriplesOk_snoc _ _ _ _ ht, fun p' cv hcv => ?_⟩
        rw [Array.toList_append] at hcv
        rcases among_app _ ht hcv with z | z
        · obtain ⟨c0, e1, e2⟩ := ha p' cv z
          exact ⟨c0, e1, cd _ _ e2⟩
        · exact ⟨c', z, upd_same⟩
      · obtain ⟨ps', a1, a2, a3⟩ := hT p hp
        refine ⟨ps', by rw [other p.1 hb (ne_of_none a1 nC)]; exact a1, a2, fun p' cv hcv => ?_⟩
        obtain ⟨c0, e1, e2⟩ := a3 p' cv hcv
        exact ⟨c0, e1, cd _ _ e2⟩
    · rw [other _ (Nat.ne_of_gt (Nat.lt_of_lt_of_le (Heap.lt_size hP') szF)) (Nat.ne_of_gt hlt)]
      exact I.hok.fresh szF
/-- x(), in the def that got the lambda -/
theorem pe_actW {CXg : CXT} {Eg : XK} {Ng : List Str} {qg : Str} {sg : Scope} {g f c' : Addr} {cdg pm ctv : Value} {params : Arguments} {body : Expr} {scope : Scope} {k i : Nat} {a : Str} {pn : List (Addr × Obj)} {xe : Value → Shared → Prop} {W : WX} {tb : XK → TE} {p1 p2 : Pos}
    (I : Inv X pins σ H s) (L : LamS X.env.scope scope) (hf : s.heap.get? f = some (PySem.W.kla_obj "<lambda>" (X.env.qual ++ "<lambda>") params body scope (cloFrom X.env.cells scope.names []) pm c' ctv)) (hfn : H f = none) (hfr : f ∉ frs X.stack)
    (hbind : bindArgs (PySem.W.kla_fn "<lambda>" (X.env.qual ++ "<lambda>") params body scope (cloFrom X.env.cells scope.names []) pm (.ref c') ctv) ⟨[], []⟩ = pure [])
    (tk : Takes ((cxOf CXg X.prog X.w X.K X.mg X.base Ng qg sg g cdg X.A X.stack s H Eg).tr pn xe) W) (hr : Room (k + 1) (X.A.deeper (envOfC qg sg s.heap.objs.size g cdg)))
    (hbody : ∀ (A : Around) (outer : List Env) (s' : Shared) (H' : Hp) (E : XK), A.guards = X.A.guards → Room k (A.deeper (lamEnv X scope s'.heap.objs.size f c')) → PE (lamCx X A outer s' H' E scope f c') body (tb E))
    (hN : Ng[i]? = some a) (hv : Vis sg a) (hd : (a == ("__debug__" : Str)) = false) (hcd : (a == ("__classdict__" : Str)) = false) :
    PE ((cxOf CXg X.prog X.w X.K X.mg X.base Ng qg sg g cdg X.A X.stack s H Eg).tr pn xe) (.Call (.Name a p1) [] [] p2)
      (fun σZ HZ Q => σZ[i]? = some (some (.ref f)) ∧ HZ c' = some (CodeO c' (X.env.qual ++ "<lambda>")) ∧ tb (fun cls d H' => W cls d σZ H') σ HZ Q) := by
  refine ⟨fun pinsZ sZ σZ HZ Q IZ ⟨hs, hc, ht⟩ => ?_⟩
  refine wpAny_Call_Name_kw (thn ((pe_var (pos := p1) (i := i) hN hv hd hcd).run pinsZ sZ σZ HZ (fun v H1 => v = .ref f ∧ H1 = HZ) IZ ⟨.ref f, hs, rfl, rfl⟩) fun u s1 ⟨v, H1, I1, r1, ev, eH⟩ => ?_)
  subst ev eH
  obtain rfl : u = Value.ref f := r1
  have at1 := I1.base.keep f _ hf hfn hfr (fun z => nomatch (show f ∈ ([] : List Addr) from z))
  refine PySem.W.callWith_F0 ⟨_, _, _, _, at1⟩ ?_
  show wpAny _ _ (call (.ref f) []) _ _ _
  obtain ⟨⟨oc, vs, t, hoc, hdc, hvc⟩, _, _⟩ := I1.hok c' _ hc
  refine wpAny_call (codeAny_mono (R := CR (L2.CX X.prog X.w) (envOfC qg sg s.heap.objs.size g cdg :: X.stack) X.prog X.w H1 s1 Q (fun cls d H' => W cls d σZ H')) ?_ fun r s' hq => ?_)
  · refine PySem.W.kla_callFunE hr.depth at1 rfl L.co L.gen rfl ⟨c', oc, vs, t, rfl, hoc, hdc, hvc⟩ ?_
    rw [hbind]
    refine wpAny_pure (wpAny_newFunctionEnv (fun y hy => (L.own y hy).2) (fun y hy => absurd hy (by simp)) (fun h₁ hns hsb => ⟨I1.nolimit.fresh _ hsb, ?_⟩) L.kind)
    have J := lam_start2 (E := fun cls d H' => W cls d σZ H') (f := f) (c' := c') (tk := s1.toks + ([] : List (Str × Value)).length) I L I1.env0 hr.hd I1.base hns fun b o e => hsb.extBut b o (Nat.ne_of_lt (Heap.lt_size e)) (Heap.get?_push_of_some _ e)
    exact PySem.W.kla_codeExpr (wpAny_mono ((hbody (X.A.deeper (envOfC qg sg s.heap.objs.size g cdg)) (envOfC qg sg s.heap.objs.size g cdg :: X.stack) s1 H1 (fun cls d H' => W cls d σZ H') rfl (hr.deeper _)).run [] _ _ H1 Q J ht) (fun v s' ⟨w', H', J', rv, q⟩ => ⟨w', H', J'.os, J'.bare, J'.base, J'.hok, rv, q⟩) fun e s' hq => hq)
  · match r, hq with
    | .error e, hq => exact tk e s' (XE.of_call I1 (fun _ _ _ h => h) hq)
    | .ok (.ret u), hq => exact I1.after hq
    | .ok .next, hq => exact False.elim hq
    | .ok .brk, hq => exact False.elim hq
    | .ok .cont, hq => exact False.elim hq
end

/-- .. and a code object that stays -/
def withCode (C : Cf) (c : Addr) (q : Str) : Cf where
  G := C.G
  I := fun H => C.I H ∧ H c = some (CodeO c q)
  loc := fun H H' h hc i => ⟨C.loc H H' h hc i.1, hc _ _ i.2 ⟨_, _, rfl⟩⟩
  liv := fun H a i => C.liv H a i.1
/-- what is made of a lambda's worth -/
abbrev FTold := ((D → Prop) → XW → Prop) → (D → Prop) → Prop
/-- a def of the law that calls what it gets, in a try: what it gives for any worth of that call -/
structure Told (P : Program) (w : World) (K : PySem.W.Frag) (mg : Str → Option Value) (base : Heap) (x a : Str) (k : Nat) (fT : FTold) : Prop where
  ex : ∃ (st : Stmt) (N : List Str) (g : Addr) (fd : FuncData), Fun K x x st g fd ∧ mg x = some (.ref g) ∧ L2.Binds K fd [a] [] ∧ FnScope N [a] (defScope st) ∧ (N[0]? = some a ∧ Vis (defScope st) a ∧ (a == ("__debug__" : Str)) = false ∧ (a == ("__classdict__" : Str)) = false) ∧
    ∀ (cdv : Value) (A : Around) (fr : List Env) (s : Shared) (H : Hp) (C : Cf), A.guards = some [] → Room k (A.deeper (envOfC x (defScope st) s.heap.objs.size g cdv)) → ∀ (B : (D → Prop) → XW → Prop) (v : V) (Φ : Hp → Prop),
      (∀ (z : List (Addr × Obj) × (Value → Shared → Prop)) (p1 p2 : Pos), DEx ((cxOf CX0 P w K mg base N x (defScope st) g cdv A fr s H E0).tr z.1 z.2) C (.Call (.Name a p1) [] [] p2) (fun Wd E P => E[0]? = some (some (.sem v Φ)) ∧ B P Wd)) →
      ∃ ts, DSs (cxOf CX0 P w K mg base N x (defScope st) g cdv A fr s H E0).nox C (defBody st) ts ∧ ∀ R, fT B R → ts { nx := fun _ => R .non, rt := R } (startD N [.sem v Φ])
section
variable {X : Cx} {da : Addr} {ca : CA} {x a : Str} {k j : Nat} {fT : FTold} {c P : Addr} {params : Arguments} {body : Expr} {scope : Scope} {td : TDx} {p lpos pos : Pos}
theorem tabgo {P c' : Addr} {H H1 : Hp} (ok : (drw da ca).I H) (hP : ∃ q ∈ ca.T, q.1 = P) (hT : Tabs ca.T H1) (t : TabGo P c' H H1) : Go (drw da ca) H H1 := by
  rcases t with rfl | ⟨ps, more, q, h1, h2, rfl⟩
  · exact ⟨Ext.refl, ok⟩
  · have at_ : ∀ b, b ≠ P → b ≠ c' → upd (upd H P (.tbl (ps ++ more))) c' (CodeO c' q) b = H b := fun b h1 h2 => by rw [upd_ne h2, upd_ne h1]
    refine ⟨fun b o hg e => ?_, ?_, hT⟩
    · rw [at_ b (fun z => hg (.inr (.inr (by obtain ⟨q, h1, h2⟩ := hP; exact ⟨q, h1, h2.trans z.symm⟩)))) (ne_of_none e h2)]; exact e
    · obtain ⟨⟨cs, k0, m, b1, b2, r⟩, _⟩ := ok
      have n1 : da ≠ P := fun z => by rw [z, h1] at b1; cases b1
      have n2 : ca.a ≠ P := fun z => by rw [z, h1] at b2; cases b2
      exact ⟨cs, k0, m, by rw [at_ da n1 (ne_of_none b1 h2)]; exact b1, by rw [at_ ca.a n2 (ne_of_none b2 h2)]; exact b2, r⟩
theorem de_told (T : Told X.prog X.w X.K X.mg X.base x a (k + 1) fT) (hgd : X.A.guards = some []) (hr : Room j X.A) (hk : k + 2 ≤ j) (hg : Gl X x) (TB : TabB X.base X.mg c P) (hcode : X.env.code = .ref c) (hmT : (P, X.env.qual ++ "<lambda>") ∈ ca.T) (hu : ∀ p ∈ ca.T, p.1 = P → p.2 = X.env.qual ++ "<lambda>")
    (L : LamS X.env.scope scope) (hdef : defaultsOf params X.env = ([], [])) (hbind : ∀ (q : Str) (cl : List (Str × Addr)) (pm cv ctv : Value), bindArgs (PySem.W.kla_fn "<lambda>" q params body scope cl pm cv ctv) ⟨[], []⟩ = pure [])
    (hbody : ∀ (A : Around) (outer : List Env) (s : Shared) (H : Hp) (E : XK) (f c' : Addr), A.guards = some [] → Room k (A.deeper (lamEnv X scope s.heap.objs.size f c')) → DEx (lamCx X A outer s H E scope f c') (drw da ca) body td)
    (hdb : (x == ("__debug__" : Str)) = false := by decide) :
    DE X (drw da ca) (.Call (.Name x p) [.Lambda params body scope lpos] [] pos) (fun E P => fT (fun P' Wd => td Wd E P') P) := by
  obtain ⟨st, N, g, fd, FF, hm, hb, Sg, ⟨hN, hva, hda, hcda⟩, hG⟩ := T.ex
  obtain ⟨oc, od, kV, doc, pm0, an, cdv, ct, osl, efd, lk, hcd⟩ := id FF.ex
  refine ⟨⟨fun σ H Q => ∃ (S : AS) (E : En) (P : D → Prop), Rel X.K (drw da ca) S E σ H ∧ fT (fun P' Wd => td Wd E P') P ∧ ∀ v d H', Go (drw da ca) H H' → P d → DV X.K (hid H' S) v d → Q v H', ⟨fun pins s σ H Q I h => ?_⟩, fun S σ H E P Q rl hp q => ⟨S, E, P, rl, hp, q⟩⟩⟩
  obtain ⟨S, E, R, rl, hfT, q⟩ := h
  refine wpAny_Call_Name_kw (ld_glob I hg hm ?_ hdb)
  refine PySem.W.callWith_K (h₀ := X.base) I.ok.mod.kin FF.kp ?_ (by rfl) (by rfl)
  show wpAny _ _ (spliced ((false, eval (.Lambda params body scope lpos) X.env) :: backTo pos (starEach [] X.env))) _ _ s
  refine Calls.spliced_cons (lam_new I TB hcode hmT hu rl.ok.i.2 hdef (L.has I.ok) fun f c' pm' ctv H1 s' I1 tg T1 hf hfn hfr hco => ?_)
  refine Calls.spliced_nil ⟨I1.kIn, ?_⟩
  have g1 : Go (drw da ca) H H1 := tabgo rl.ok.i ⟨_, hmT, rfl⟩ T1 tg
  have rl1 := rl.go g1
  generalize hΦ : (fun Hv => ∀ (i : Nat) (d : D), E[i]? = some (some d) → ∃ v, σ[i]? = some (some v) ∧ DV X.K Hv v d : Hp → Prop) = Φ
  have stΦ : ∀ Ha Hb, Same Ha Hb → Φ Ha → Φ Hb := fun Ha Hb sm z => by
    rw [← hΦ] at z ⊢
    exact fun i d e => let ⟨v, h1, h2⟩ := z i d e; ⟨v, h1, h2.mono sm⟩
  have atΦ : Φ (hid H1 S) := by
    rw [← hΦ]
    exact rl1.at_
  have ncG : ¬ (drw da ca).G c' := fun z => by
    obtain ⟨⟨cs, k0, m, b1, b2, _⟩, ht⟩ := rl1.ok.i
    unfold CodeO at hco
    rcases z with z | z | ⟨p, hp, z⟩
    · rw [z, b1] at hco; cases hco
    · rw [z, b2] at hco; cases hco
    · obtain ⟨ps, a1, _⟩ := ht p hp
      rw [← z, a1] at hco; cases hco
  have okC : Ok (withCode (drw da ca) c' (X.env.qual ++ "<lambda>")) S H1 := ⟨⟨rl1.ok.i, hco⟩, rl1.ok.g, rl1.ok.l⟩
  subst efd
  refine wpAny_call (codeAny_mono (R := CR CX0 X.stack X.prog X.w H1 s' Q E0) ?_ fun r s2 hq => ?_)
  · refine run_ofS (N := N) (ps := [a]) (us := [.ref f]) (vs := [.ref f]) lk hcd Sg (hr.mono hk) I1.env0 (hb s' [.ref f] I1.kIn rfl) (.cons rfl .nil) rfl fun hr' => ?_
    -- what the call of the lambda is worth there
    obtain ⟨ts, d1, d2⟩ := hG cdv X.A X.stack s' H1 (withCode (drw da ca) c' (X.env.qual ++ "<lambda>")) hgd hr' (fun P' Wd => td Wd E P') (.ref f) Φ (fun z p1 p2 => by
      have hb2 : ∀ (A : Around) (outer : List Env) (s2 : Shared) (H2 : Hp) (E2 : XK), A.guards = X.A.guards → Room k (A.deeper (lamEnv X scope s2.heap.objs.size f c')) →
          PE (lamCx X A outer s2 H2 E2 scope f c') body (fun σ H Q => ∀ (y : Around × List Env × Shared × Hp) (h1 : y.1.guards = some []) (h2 : Room k (y.1.deeper (lamEnv X scope y.2.2.1.heap.objs.size f c'))), (hbody y.1 y.2.1 y.2.2.1 y.2.2.2 E2 f c' h1 h2).ex.choose (fun cls d _ H => E2 cls d H) σ H Q) := fun A outer s2 H2 E2 h1 h2 =>
        ⟨fun pins s σ H Q I h => (((hbody A outer s2 H2 E2 f c' (h1.trans hgd) h2).ex.choose_spec.1 _ (takes_of rfl rfl rfl rfl)).run pins s σ H Q I (h (A, outer, s2, H2) (h1.trans hgd) h2))⟩
      refine ⟨⟨_, fun W tk => pe_actW (tb := fun E2 σ H Q => ∀ (y : Around × List Env × Shared × Hp) (h1 : y.1.guards = some []) (h2 : Room k (y.1.deeper (lamEnv X scope y.2.2.1.heap.objs.size f c'))), (hbody y.1 y.2.1 y.2.2.1 y.2.2.2 E2 f c' h1 h2).ex.choose (fun cls d _ H => E2 cls d H) σ H Q) (i := 0) (p1 := p1) (p2 := p2) I1 L hf hfn hfr (hbind _ _ _ _ _) tk hr' hb2 hN hva hda hcda, fun S2 σ2 H2 E2 P2 Q2 Wd W r2 hp2 q2 qx2 => ?_⟩⟩
      obtain ⟨v, e1, dv⟩ := r2.at_ 0 _ hp2.1
      cases dv with
      | sem st hv =>
        rw [← hΦ] at hv
        have ok2 : Ok (drw da ca) S2 H2 := ⟨r2.ok.i.1, r2.ok.g, r2.ok.l⟩
        have up : ∀ {H'}, Go (drw da ca) H2 H' → Go (withCode (drw da ca) c' (X.env.qual ++ "<lambda>")) H2 H' := fun g => ⟨g.e, g.i, g.e _ _ ncG r2.ok.i.2⟩
        exact ⟨e1, r2.ok.i.2, fun y h1 h2 => (hbody y.1 y.2.1 y.2.2.1 y.2.2.2 _ f c' h1 h2).ex.choose_spec.2 S2 σ H2 E P2 Q2 Wd _ ⟨ok2, rl1.len, hv⟩ hp2.2 (fun v d H' g => q2 v d H' (up g)) fun cls d Ca kvs H' g => qx2 cls d Ca kvs H' (up g)⟩)
    obtain ⟨t, t1, t2⟩ := d1.ex
    refine ⟨t, t1.nox, ?_⟩
    have hl : ([V.ref f] : List V).length ≤ N.length := by
      have := congrArg List.length Sg.pre
      rw [List.length_take] at this
      simp at this ⊢
      omega
    refine t2 S H1 [] (fun _ => 0) _ (L2.start N [.ref f]) H1 _ _ (env_start okC (.cons (.sem stΦ atΦ) .nil) hl) (d2 R hfT) ⟨fun al ρ σ H' r h => ?_, fun v d H' e i h hv => ?_, fun al ρ σ H' r h => h.elim, fun al ρ σ H' r h => h.elim⟩
    · exact q .non .non H' (g1.trans ⟨r.ext, r.ok.i.1⟩) h .non
    · exact q v d H' (g1.trans ⟨e, i.1⟩) h hv
  · match r, hq with
    | .error e, hq => exact (show False from hq).elim
    | .ok (.ret u), hq => exact I1.after hq
    | .ok .next, hq => exact False.elim hq
    | .ok .brk, hq => exact False.elim hq
    | .ok .cont, hq => exact False.elim hq
end
end L3
/-! Any value among texts. -/
namespace L3
open PySem PySem.Spec PyProof.Rows L2
section
open PySem.SeqAt AutoSeq1 MeetsSeq
variable {A : Around} {s : Shared}
theorem dict_eq_no_str (l : Addr) (dt : Data) (dd : Option Addr) (sl : Array (Option Value)) (b : Str) (u : Tok) :
    Meets (Builtin.«dict.__eq__» ⟨[.ref l, .str b u], []⟩) (fun _ R s => s.heap.get? l = some { cls := .type "dict", dict := dd, data := dt, slots := sl } ∧ R (.ok (.ret .notImplemented)) s) :=
  .of_wp fun prog w A R s h => by obtain ⟨hp, g, d, tk, os⟩ := s; obtain ⟨hl, h⟩ := h; have f1 := F.sub_str_dict; wp_walk using wpAny_loadPart' hl; exact ⟨_, rfl, h⟩
theorem str_eq_no_dict (b : Str) (u : Tok) (l : Addr) (es : Array DictEntry) (ep : Nat) (dd : Option Addr) (sl : Array (Option Value)) :
    Meets (Builtin.«str.__eq__» ⟨[.str b u, .ref l], []⟩) (fun _ R s => s.heap.get? l = some { cls := .type "dict", dict := dd, data := .dict es ep, slots := sl } ∧ R (.ok (.ret .notImplemented)) s) :=
  .of_wp fun prog w A R s h => by obtain ⟨hp, g, d, tk, os⟩ := s; obtain ⟨hl, h⟩ := h; have f1 := F.sub_dict_str; wp_walk using wpAny_loadPart' hl; exact ⟨_, rfl, h⟩
theorem str_dict_at {l : Addr} {es : Array DictEntry} {ep : Nat} {dd : Option Addr} {sl : Array (Option Value)} (b : Str) (u : Tok) (ho : s.heap.get? l = some { cls := .type "dict", dict := dd, data := .dict es ep, slots := sl }) (hu : A.units < cLine) : EqAt A s (.str b u) (.ref l) false := fun prog w E Q h => by
  unfold eqBool
  refine wpAny_holding ?_
  refine wpAny_ite_split (fun hab => absurd (eq_of_beq hab) nofun) (fun _ => ?_)
  refine wpAny_bind ?_
  exact rc_eq_decline_or (k := false) (typeIs_str s b u) ⟨_, ho, rfl⟩ (by decide) F.sub_dict_str F.slot_str_eq F.slot_dict_eq_refl
    (fun _ hq => call_meets F.slot_str_eq (typeIs_str s b u) F.entry_str_eq (F.args_str_eq_2 _ _) (str_eq_no_dict b u l es ep dd sl) ⟨ho, hq⟩)
    (fun _ hq => call_meets F.slot_dict_eq_refl ⟨_, ho, rfl⟩ F.entry_dict_eq (F.args_dict_eq_2 _ _) (dict_eq_no_str l _ dd sl b u) ⟨ho, hq⟩)
    (fun _ hq => wpAny_of_eq (rfl : isSame (.str b u) (.ref l) = pure false) hq) (.inr hu) (wpAny_truthy_bool h)
end
/-- any value: among texts it is only if it is one of them -/
def inStrs (a : D) (xs : List Str) : Bool := match a with
  | .str x => decide (x ∈ xs)
  | _ => false
def fInA (n : Bool) : F2 := fun a b P => ∃ xs : List Str, (b = .lst (xs.map D.str) ∨ b = .tup (xs.map D.str)) ∧ (∃ t, tyOf a = some t) ∧ P (.bl (n != inStrs a xs))
def rInA (K : PySem.W.Frag) (n : Bool) : R2 := fun x y H Q => ∃ (a : D) (xs : List Str) (p : Addr), y = .ref p ∧ (SqL K H p (xs.map V.str) ∨ SqT K H p (xs.map V.str)) ∧ DV K H x a ∧ (∃ t, tyOf a = some t) ∧ Q (.bl (n != inStrs a xs)) H
/-- the answers item by item -/
def ansOf (a : D) (u : Value) : Bool := match a, u with
  | .str x, .str y _ => decide (y = x)
  | _, _ => false
theorem ans_any (a : D) : ∀ {xs : List Str} {us : List Value}, Vals (xs.map V.str) us → us.any (ansOf a) = inStrs a xs
  | [], _, .nil => by cases a <;> rfl
  | x :: xs, u :: us, .cons r t => by
    have ih := ans_any a t
    obtain ⟨k, rfl⟩ := r
    rw [List.any_cons, ih]
    cases a with
    | str z =>
      show (decide (x = z) || decide (z ∈ xs)) = decide (z ∈ x :: xs)
      by_cases e : x = z
      · subst e; simp
      · have e' : ¬ z = x := fun q => e q.symm
        simp [e, e']
    | _ => rfl
theorem item_at {X : Cx} {pins : List (Addr × Obj)} {σ : L2.St} {H : Hp} {s : Shared} {A : Around} {v : Value} {x : V} {a : D} (I : Inv X pins σ H s) (hu : A.units < cLine) (rx : RelV x v) (hx : DV X.K H x a) (ht : ∃ t, tyOf a = some t) (y : Str) (k : Tok) : SeqAt.EqAt A s (.str y k) v (ansOf a (.str y k)) := by
  cases hx with
  | non => cases rx; exact SeqAt.EqAt.str_none y k
  | bl b => cases rx; exact SeqAt.EqAt.str_bool y k b
  | int i => obtain ⟨t, rfl⟩ := rx; exact SeqAt.EqAt.str_int y k i t
  | str z =>
    obtain ⟨t, rfl⟩ := rx
    have := SeqAt.EqAt.str_str (A := A) (s := s) y k z t
    show SeqAt.EqAt A s (.str y k) (.str z t) (decide (y = z))
    rw [show decide (y = z) = (y == z) by by_cases e : y = z <;> simp [e]]
    exact this
  | lst e _ =>
    cases rx
    obtain ⟨its, r, pl, hz⟩ := I.list (.inl (.inl e))
    exact SeqAt.EqAt.str_list y k pl.isList hu
  | tup e _ =>
    cases rx
    obtain ⟨its, r, pl, hz⟩ := I.tuple e.sq
    exact SeqAt.EqAt.str_tuple y k pl hu
  | dic e _ =>
    cases rx
    obtain ⟨_, _, vs, _, o, es, ep, g, g2, hd, _⟩ := (show ObjOk X.prog X.w H s.heap _ (.dK _) from I.hok _ _ e)
    obtain ⟨c, d, dt, sl⟩ := o
    obtain ⟨rfl, _⟩ := g2
    simp only at hd
    subst hd
    exact str_dict_at y k g hu
  | dcf e _ =>
    cases rx
    obtain ⟨_, _, _, vs, _, o, es, ep, g, g2, hd, _⟩ := (show ObjOk X.prog X.w H s.heap _ (.frz _ (.dK _)) from I.hok _ _ e)
    obtain ⟨c, d, dt, sl⟩ := o
    obtain ⟨rfl, _⟩ := g2
    simp only at hd
    subst hd
    exact str_dict_at y k g hu
  | scr _ => obtain ⟨t, ht⟩ := ht; cases ht
  | op _ => obtain ⟨t, ht⟩ := ht; cases ht
  | ins _ _ => obtain ⟨t, ht⟩ := ht; cases ht
  | exc _ _ _ => obtain ⟨t, ht⟩ := ht; cases ht
  | exc0 _ => obtain ⟨t, ht⟩ := ht; cases ht
  | sem _ _ => obtain ⟨t, ht⟩ := ht; cases ht
theorem items_at {X : Cx} {pins : List (Addr × Obj)} {σ : L2.St} {H : Hp} {s : Shared} {A : Around} {v : Value} {x : V} {a : D} (I : Inv X pins σ H s) (hu : A.units < cLine) (rx : RelV x v) (hx : DV X.K H x a) (ht : ∃ t, tyOf a = some t) :
    ∀ {xs : List Str} {us : List Value}, Vals (xs.map V.str) us → ∀ u ∈ us, SeqAt.EqAt A s u v (ansOf a u)
  | [], _, .nil, u, hm => nomatch hm
  | y :: xs, w :: us, .cons r t, u, hm => by
    rcases List.mem_cons.mp hm with rfl | hm
    · obtain ⟨k, rfl⟩ := r; exact item_at I hu rx hx ht y k
    · exact items_at I hu rx hx ht t u hm
theorem op_inA {X : Cx} (hu : X.A.in1.units < cLine) : OpR X (compareOp .In) (rInA X.K false) := by
  intro pins s σ H x y v u Q I rx ry h
  obtain ⟨a, xs, p, rfl, hq, hx, ht, q⟩ := h
  cases ry
  have fin : ∀ {us : List Value}, Vals (xs.map V.str) us → EP X pins σ Q (.bool (us.toArray.any (ansOf a))) s := fun {us} r => ⟨.bl _, H, I, rfl, by
    rw [show us.toArray.any (ansOf a) = us.any (ansOf a) by simp, ans_any a r]
    simpa using q⟩
  rcases hq with hq | hq
  · obtain ⟨its, r, pl, hz⟩ := I.list hq
    exact SeqAt.in_listAt (ansOf a) pl.isList (fun w hw => items_at I hu rx hx ht r w (by simpa using hw)) (fin r)
  · obtain ⟨its, r, pl, hz⟩ := I.tuple hq
    exact SeqAt.in_tupleAt (ansOf a) pl (fun w hw => items_at I hu rx hx ht r w (by simpa using hw)) (fin r)
theorem op_notInA {X : Cx} (hu : X.A.in1.units < cLine) : OpR X (compareOp .NotIn) (rInA X.K true) := by
  intro pins s σ H x y v u Q I rx ry h
  obtain ⟨a, xs, p, rfl, hq, hx, ht, q⟩ := h
  cases ry
  have fin : ∀ {us : List Value}, Vals (xs.map V.str) us → EP X pins σ Q (.bool (!us.toArray.any (ansOf a))) s := fun {us} r => ⟨.bl _, H, I, rfl, by
    rw [show us.toArray.any (ansOf a) = us.any (ansOf a) by simp, ans_any a r]
    simpa using q⟩
  rcases hq with hq | hq
  · obtain ⟨its, r, pl, hz⟩ := I.list hq
    exact SeqAt.notIn_listAt (ansOf a) pl.isList (fun w hw => items_at I hu rx hx ht r w (by simpa using hw)) (fin r)
  · obtain ⟨its, r, pl, hz⟩ := I.tuple hq
    exact SeqAt.notIn_tupleAt (ansOf a) pl (fun w hw => items_at I hu rx hx ht r w (by simpa using hw)) (fin r)
theorem od_inA {K : PySem.W.Frag} {C : Cf} {n : Bool} : OpD K C (rInA K n) (fInA n) := by
  intro S H x y a b P Q ok hx hy h q
  obtain ⟨xs, e, ht, h⟩ := h
  rcases e with rfl | rfl
  · obtain ⟨p, vs, rfl, e, hv⟩ := two_lists ok hy
    have := hv.strs
    subst this
    exact ⟨a, xs, p, rfl, .inl (.inl (.inl e)), hx.mono same_hid, ht, q _ _ H (Go.refl ok) h (.bl _)⟩
  · obtain ⟨p, vs, rfl, e, hv⟩ := two_tups ok hy
    have := hv.strs
    subst this
    exact ⟨a, xs, p, rfl, .inr e, hx.mono same_hid, ht, q _ _ H (Go.refl ok) h (.bl _)⟩
end L3
/-! Methods that may raise, called by keywords; the law's row where the law makes lambdas. -/
namespace L3
open PySem PySem.Spec PyProof.Rows L2

section
variable {X : Cx} {Cf0 : Cf} {C : Addr} {o : Expr} {td : TDx} {m : Str} {pos apos : Pos} {k j : Nat} {F : Cf → FNx} {kws : List Keyword} {tk : TDs} {ks : List Str} {gD : List D → List D → List D}
theorem dex_metK {pl : Sem Bool} (c : MetXK X.prog X.w X.K X.mg X.base k C m ks gD F) (hgd : X.A.guards = some []) (hr : Room j X.A) (hk : k ≤ j) (h : DEx X Cf0 o td) (hkw : DK X Cf0 kws tk)
    (hall : (backToKw pos (keywordEach kws X.env)).all (·.1.isSome) = true := by rfl) (hks : (backToKw pos (keywordEach kws X.env)).filterMap (·.1) = ks := by rfl) (hpl : ((backTo pos (starEach [] X.env)).any (·.1) || (backToKw pos (keywordEach kws X.env)).any (·.1.isNone)) = false := by rfl)
    (ht : eval (.Call (.Attribute o m apos) [] kws pos) X.env = (do
      let ov ← eval o X.env
      standAt apos.atName
      let (f, first) ← holding [ov] (getMethod ov m pl)
      callWith pos f first (backTo pos (starEach [] X.env)) (backToKw pos (keywordEach kws X.env))) := by rfl) : DEx X Cf0 (.Call (.Attribute o m apos) [] kws pos) (xMeth C m (fun ds P Wd => ∃ d es, ds = d :: es ∧ F Cf0 (gD [d] es) P Wd) td (fun _ E P => tk E P)) := by
  obtain ⟨f, fd, ps, g, gV, cl, hm, G, hb, hd⟩ := c.ex
  obtain ⟨te, h1, h2⟩ := h.ex
  obtain ⟨tr, r1, r2⟩ := hkw.ex
  refine ⟨⟨fun W σ H Q => te W σ H fun x H1 => ∃ a dx fs, x = .ref a ∧ H1 a = some (.ins C dx fs) ∧ fs.lookup m = none ∧ tr σ H1 fun zs H2 => spX X.K F (gV [x] zs) H2 Q fun cls d H' => W cls d σ H', fun W tkW => ⟨fun pins s σ H Q I h => ?_⟩, fun S σ H E P Q Wd W rl hp q qx => ?_⟩⟩
  · refine PySem.W.methodCall_KW (pl := pl) (thn ((h1 W tkW).run pins s σ H _ I h) fun u s1 ⟨x, H1, I1, rx, a, dx, fs, ex, ea, l, q⟩ => ?_) ht
    subst ex
    obtain rfl : u = Value.ref a := rx
    refine getmeth_ok I1 ea cl hm l ?_
    refine PySem.W.callWith_KW0 (first := [.ref a]) (h₀ := X.base) I.ok.mod.kin hm.kp hall (thn (r1.run pos pins s1 σ H1 _ I1 q) fun ws s2 ⟨zs, H2, I2, rz, q2⟩ => ⟨I2.kIn, ?_⟩) hpl
    rw [hks]
    exact go_fnKW (us := [.ref a]) (vs := [.ref a]) G hgd (hr.mono hk) hb tkW I2 (.cons rfl .nil) rz q2
  · refine h2 S σ H E _ _ Wd W rl hp (fun v d H1 g1 p1 v1 => ?_) qx
    obtain ⟨ks', rfl, l, p1⟩ := p1
    cases v1 with
    | ins e1 k1 =>
      refine ⟨_, _, _, rfl, same_hid _ _ e1, dk_miss k1 l, r2 S σ H1 E _ _ (rl.go g1) p1 fun vs ds H2 g2 p2 v2 => ?_⟩
      have ok1 := rl.ok.go g1
      obtain ⟨d, es, e2, p2⟩ := p2
      cases e2
      exact ⟨Cf0, S, _, P, Wd, ok1.go g2, hd _ _ _ _ _ (.cons (DV.mono (g2.vis ok1) (.ins e1 k1)) .nil) v2, p2, fun v d H' g => q v d H' (g1.trans (g2.trans g)), fun cls d Ca kvs H' g => qx cls d Ca kvs H' (g1.trans (g2.trans g))⟩
end

/-! ### the law's row, its tables -/
section
variable {P : Program} {w : World} {K : PySem.W.Frag} {mg mb : Str → Option Value} {k : Nat} {fa a : Addr} {fd : FuncData} {x : Str} {s1 : Shared} {vs : List Value} {ns : List Int} {cs : List (Addr × Addr)} {T : List (Addr × Str)}
/-- what is followed at the entry: the tables too -/
noncomputable def entT (K : PySem.W.Frag) (a : Addr) (vs : List Value) (ns : List Int) (cs : List (Addr × Addr)) : Hp := fun b => if b ∈ cs.map (·.2) then some (.tbl #[]) else entH K a vs ns b
theorem entT_some {b : Addr} {o : HO} (h : entT K a vs ns cs b = some o) : (b ∈ cs.map (·.2) ∧ o = .tbl #[]) ∨ (b = a ∧ K.lookup a = none ∧ o = .frz (scrO vs) (.lst (ns.map V.int))) := by
  unfold entT at h
  split at h
  · rename_i z; exact .inl ⟨z, (Option.some.inj h).symm⟩
  · exact .inr (entH_some h)
theorem law_goT (KX : K.In s1.heap) (hns : s1.heap.Ns mainGlobals mg) (hb : s1.heap.Ns builtinsNs mb) (hbb : ∀ x : Str, x ≠ "__name__" → mb x = bootBuiltins x) (hlim : s1.heap.NoLimit) (hg : s1.gens = #[])
    (hC : ∀ p ∈ cs, PySem.W.CodeHd s1.heap p.1 p.2 ∧ s1.heap.get? p.2 = some (PySem.W.tabObj #[])) (nK : ∀ p ∈ cs, K.lookup p.2 = none) (hTc : ∀ p ∈ T, p.1 ∈ cs.map (·.2))
    (hbm : ∃ (bm : Addr) (ob : Obj), mg "__builtins__" = some (.ref bm) ∧ bm ≠ builtinsNs ∧ s1.heap.get? bm = some ob ∧ ob.cls = .type "module" ∧ ob.dict = some builtinsNs ∧ ob.data = .plain)
    (ha : s1.heap.get? a = some (scrO vs)) (hi : IntsAre vs ns) (hl : ns.length ≤ 63) (hr : Room k callerA) (hgd : callerA.guards = some [])
    (F : ∀ base : Heap, K.In base → base.Ns mainGlobals mg → (∀ p ∈ cs, LamX.TabB base mg p.1 p.2) → FnG P w K mg base CX0 k fa fd [x] (spLawT T K)) (hbind : ∀ (s : Shared) (u : Value), BindsTo s fd ⟨[u], []⟩ [(x, u)]) :
    codeAny (model P w) callerA (.call (.ref fa) ⟨[.ref a], []⟩) (fun r s' => r = .ok (.ret (.bool true)) ∧ OldK s1.heap s'.heap ∧ s'.os = s1.os ∧ AllBare s'.gens) s1 := by
  have rv := vals_ints hi
  have hsz : (ns.map V.int).length ≤ sizeLine := by rw [List.length_map]; exact Nat.le_trans hl (by decide)
  have isT : ∀ {b : Addr}, b ∈ cs.map (·.2) → s1.heap.get? b = some (PySem.W.tabObj #[]) := fun hb => by
    obtain ⟨p, hp, e⟩ := List.mem_map.mp hb
    rw [← e]
    exact (hC p hp).2
  have noK : ∀ {b : Addr}, b ∈ cs.map (·.2) → K.lookup b = none := fun hb => by
    obtain ⟨p, hp, e⟩ := List.mem_map.mp hb
    rw [← e]
    exact nK p hp
  have aT : a ∉ cs.map (·.2) := fun z => by
    have q := isT z
    rw [ha] at q
    cases q
  generalize hH : entT K a vs ns cs = H
  have Hs : ∀ {b : Addr} {o : HO}, H b = some o → (b ∈ cs.map (·.2) ∧ o = .tbl #[]) ∨ (b = a ∧ K.lookup a = none ∧ o = .frz (scrO vs) (.lst (ns.map V.int))) := fun h => entT_some (by rw [hH]; exact h)
  have HT : ∀ {b : Addr}, b ∈ cs.map (·.2) → H b = some (.tbl #[]) := fun hb => by rw [← hH]; exact if_pos hb
  have hS : SqL K H a (ns.map V.int) := by
    cases e : K.lookup a with
    | none =>
      refine .inl (.inr ⟨scrO vs, ?_⟩)
      rw [← hH]
      exact (if_neg aT).trans (if_pos ⟨rfl, e⟩)
    | some o =>
      have z := KX a o e
      rw [ha] at z
      cases z
      exact .inr ⟨_, vs.toArray, _, e, rfl, rfl, rfl, by rw [List.size_toArray, ← rv.length]; exact hsz, by simpa using rv⟩
  have hok : HOk P w H s1.heap := fun b o e => by
    rcases Hs e with ⟨z, rfl⟩ | ⟨rfl, _, rfl⟩
    · exact isT z
    · exact ⟨ha, hsz, vs, _, rv, ha⟩
  have hO : OnlyT H := fun b => by
    cases e : H b with
    | none => exact .inl rfl
    | some o =>
      rcases Hs e with ⟨_, rfl⟩ | ⟨_, _, rfl⟩
      · exact .inr (.inr ⟨_, rfl⟩)
      · exact .inr (.inl ⟨_, _, rfl⟩)
  -- what is neither a list nor a table is not followed
  have noA : ∀ {b : Addr} {o : Obj}, s1.heap.get? b = some o → o ≠ scrO vs → o ≠ PySem.W.tabObj #[] → H b = none := fun {b o} e n1 n2 => by
    cases q : H b with
    | none => rfl
    | some u =>
      rcases Hs q with ⟨z, _⟩ | ⟨rfl, _⟩
      · rw [isT z] at e; cases e; exact (n2 rfl).elim
      · rw [ha] at e; cases e; exact (n1 rfl).elim
  have noD : ∀ {b : Addr} {o : Obj} {es : Array DictEntry} {ep : Nat}, s1.heap.get? b = some o → o.data = .dict es ep → H b = none := fun {b o es ep} e d => noA e (fun z => by rw [z] at d; cases d) fun z => by rw [z] at d; cases d
  have nsK : ∀ {b : Addr} {m : Str → Option Value}, s1.heap.Ns b m → (hidT s1.heap H).Ns b m := fun {b m} ⟨o, es, ep, e, d, r⟩ => ⟨o, es, ep, hidT_get e (noD e d), d, r⟩
  have hKb : K.In (hidT s1.heap H) := fun b o e => hidT_get (KX b o e) (by
    cases q : H b with
    | none => rfl
    | some u =>
      rcases Hs q with ⟨z, _⟩ | ⟨rfl, z, _⟩
      · rw [noK z] at e; cases e
      · rw [z] at e; cases e)
  have hM : Mod K mg (hidT s1.heap H) := ⟨hKb, nsK hns, ⟨mb, nsK hb, hbb⟩, let ⟨mc, h1, h2⟩ := hlim; ⟨mc, nsK h1, h2⟩⟩
  have TB : ∀ p ∈ cs, LamX.TabB (hidT s1.heap H) mg p.1 p.2 := fun p hp => by
    have hTp := (hC p hp).2
    refine ⟨?_, ?_, fun z => ?_⟩
    · obtain ⟨o, us, file, tf, flags, tg, inF, text, tt, e1, r1, r⟩ := (hC p hp).1
      exact ⟨o, us, file, tf, flags, tg, inF, text, tt, hidT_get e1 (noA e1 (fun z => by rw [z] at r1; exact absurd (Value.type.inj (show Value.type "list" = .type "code" from r1)) (by decide)) fun z => by rw [z] at r1; cases r1), r1, r⟩
    · obtain ⟨bm, ob, b1, b2, b3, b4, b5, b6⟩ := hbm
      refine ⟨bm, ob, b1, b2, fun q => ?_, fun q => ?_, hidT_get b3 (noA b3 (fun z => by rw [z] at b4; exact absurd (Value.type.inj (show Value.type "list" = .type "module" from b4)) (by decide)) fun z => by rw [z] at b4; cases b4), b4, b5, b6⟩
      · obtain ⟨o, es, ep, e, hd, _⟩ := hns
        rw [q, e] at b3
        cases b3
        rw [hd] at b6
        cases b6
      · rw [q, hTp] at b3
        cases b3
        cases b4
    · obtain ⟨o, es, ep, e, hd, _⟩ := hns
      rw [z, hTp] at e
      cases e
      cases hd
  have e0 : Env0 P w K mg (hidT s1.heap H) callerA [] s1 H := ⟨rfl, hM, fun b o e => of_hidT e, Nat.le_of_eq (hidT_size _ _), trivial, (fun b hb => nomatch hb), hok, .of_eq hg⟩
  have run := (F _ hKb (nsK hns) TB).go callerA [] s1 H ⟨[.ref a], []⟩ [.ref a] [.ref a] (fun v _ => v = .bl true) (fun _ _ _ => False) hgd hr e0 (hbind s1 (.ref a)) (.cons rfl .nil) ⟨a, ns, rfl, hS, hl, hO, fun p hp => HT (hTc p hp), fun _ => rfl⟩
  refine codeAny_mono run fun r s' h => ?_
  rcases r with e | (_ | _ | _ | u)
  · exact h.elim
  · exact h.elim
  · exact h.elim
  · exact h.elim
  · obtain ⟨v, H', os, bare, un, hok', r', q⟩ := h
    have q : v = .bl true := q
    subst q
    cases r'
    -- what is no table is as it was
    have key : ∀ b o, b ∉ cs.map (·.2) → s1.heap.get? b = some o → s'.heap.get? b = some o := fun b o nb e => by
      cases q : H b with
      | none => exact un.keep b o e q (fun z => nomatch z) (fun z => nomatch z)
      | some u =>
        rcases Hs q with ⟨z, _⟩ | ⟨rfl, _, rfl⟩
        · exact absurd z nb
        · obtain ⟨e1, _⟩ := hok' b _ (un.frzs b _ _ q)
          rw [ha] at e
          cases e
          exact e1
    have grown : ∀ b, b ∈ cs.map (·.2) → ∃ more : Array Value, s'.heap.get? b = some (PySem.W.tabObj more) := fun b hb => by
      obtain ⟨more, z⟩ := un.tbls b #[] (HT hb)
      exact ⟨_, hok' b _ z⟩
    refine ⟨rfl, ⟨fun b o e => ?_, fun b o e => ?_⟩, os, bare⟩
    · by_cases hb : b ∈ cs.map (·.2)
      · obtain ⟨more, hm⟩ := grown b hb
        obtain ⟨p, hp, ep⟩ := List.mem_map.mp hb
        subst ep
        rw [(hC p hp).2] at e
        cases e
        exact .inr (.inl ⟨((hC p hp).1.tab (hC p hp).2).isCodeTable, rfl, #[], more, rfl, by rw [Array.empty_append]; exact hm⟩)
      · exact .inl (key b o hb e)
    · by_cases hb : b ∈ cs.map (·.2)
      · obtain ⟨more, hm⟩ := grown b hb
        exact ⟨_, hm⟩
      · exact ⟨o, key b o hb e⟩
end
theorem walk_lawT {l : PySem.W.OpenLaw} {k : Nat} {q : Program} {loose : List Str} {XP : (Str → Option Value) → Heap → Prop} {YP : World → Heap → Prop} {d : DefRec} {K : Params → PySem.W.Frag} {x : Str}
    (hn : l.most = some 63) (hdf : d.params.defaults = []) (hr : Room k callerA) (hY : ∀ (w : World) (h : Heap), YP w h → (K w.params).In h)
    (F : ∀ (w : World) (mg : Str → Option Value) (fa : Addr) (h : Heap), (K w.params).In h → h.Ns mainGlobals mg → mg d.name = some (.ref fa) → (∀ (y : Str) (e : DefRec) (c P : Addr), (recsOf q).find? (fun e => e.name == y) = some e → PySem.W.tabIn (K w.params) y = some (c, P) → PySem.W.CodeHd h c P ∧ h.get? P = some (PySem.W.tabObj #[])) →
      ∃ (fd : FuncData) (cs : List (Addr × Addr)) (T : List (Addr × Str)), (∀ p ∈ cs, PySem.W.CodeHd h p.1 p.2 ∧ h.get? p.2 = some (PySem.W.tabObj #[])) ∧ (∀ p ∈ cs, (K w.params).lookup p.2 = none) ∧ (∀ p ∈ T, p.1 ∈ cs.map (·.2)) ∧ (∀ (s : Shared) (u : Value), BindsTo s fd ⟨[u], []⟩ [(x, u)]) ∧
        ∀ base : Heap, (K w.params).In base → base.Ns mainGlobals mg → (∀ p ∈ cs, LamX.TabB base mg p.1 p.2) → FnG l.prog w (K w.params) mg base CX0 k fa fd [x] (spLawT T (K w.params))) :
    PySem.W.WalkO q loose XP YP l.row.toRowW d [] (fun f vs => PySem.call f vs) := by
  refine Att.attach_call hn hdf fun w s0 s1 mg mb fa o pm cd doc a vs ns G Y ho hd hcd hmg hobj hints hlen hg => ?_
  have KX := hY w _ Y
  obtain ⟨fd, cs, T, h1, h2, h3, hb, hF⟩ := F w mg fa _ KX G.T.g hmg fun y e c P hr ht => PySem.W.tab_of G.T KX hr ht
  exact law_goT KX G.T.g G.T.b G.T.builtins G.T.nolimit hg h1 h2 h3 G.T.bmain hobj hints hlen hr rfl hF hb
end L3
namespace L3
open PySem PySem.Spec PyProof.Rows L2
/-- .. its code object told -/
theorem _root_.L2.Fun.okGC {P : Program} {w : World} {K : PySem.W.Frag} {mg : Str → Option Value} {base : Heap} {CX : CXT} {x qual : Str} {st : Stmt} {f : Addr} {fd : FuncData} {N ps : List Str} {k : Nat} {sp : Sp} (F : Fun K x qual st f fd) (S : FnScope N ps (defScope st)) (len : ∀ vs H Q E, sp vs H Q E → vs.length = ps.length)
    (hbody : ∀ (cdv : Value), fd.code = cdv → ∀ (A : Around) (fr : List Env) (s : Shared) (H : Hp) (vs : List V) (Q : VK) (E : XK), A.guards = some [] → Room k (A.deeper (envOfC qual (defScope st) s.heap.objs.size f cdv)) → sp vs H Q E →
      ∃ t, PSs (cxOf CX P w K mg base N qual (defScope st) f cdv A fr s H E) (defBody st) t ∧ t { nx := fun _ H' => Q .non H', rt := Q } (start N vs) H) : FnG P w K mg base CX (k + 1) f fd ps sp := by
  obtain ⟨oc, od, kV, doc, pm, an, cdv, ct, osl, rfl, lk, hcd⟩ := F.ex
  refine ⟨len, fun A fr s H ar us vs Q E hgd hr e0 hb r hsp => ?_⟩
  have hl := len _ _ _ _ hsp
  have KX : K.In s.heap := e0.mod.kin.keeps fun b o e => (e0.bs b o e).1
  have lim : s.heap.NoLimit := e0.mod.nolimit.keeps fun b o e => (e0.bs b o e).1
  refine codeAny_call_function hr.depth (KX _ _ lk) rfl S.co S.gen rfl (PySem.W.codeRec_of KX hcd) (hb _ _ _ _ ?_)
  refine wpAny_newFunctionEnv_cells S.kind (fun ⟨n, v⟩ hy => ?_) fun env he s1 x => ?_
  · rcases S.par n (List.of_mem_zip hy).1 with q | q
    · exact .inl q
    · exact .inr ⟨q, PySem.W.cellsFrom_some _ _ _ (.inl q)⟩
  subst he
  refine ⟨lim.keeps x.toInCall.keep, codeAny_func ?_⟩
  obtain ⟨t, ht, hq⟩ := hbody cdv rfl A fr s H vs Q E hgd (hr.deeper _) hsp
  have I : Inv (cxOf CX P w K mg base N qual (defScope st) f cdv A fr s H E) [] (start N vs) H s1 := inv_start S hr.hd e0 hl r x
  refine wpAny_mono (ht.run [] s1 (start N vs) H _ I hq) (fun fl s' hs => ?_) fun e s' hs => hs
  match fl, hs with
  | .ret u, hs => obtain ⟨v, σ', H', J, rv, q⟩ := hs; exact ⟨v, H', J.os, J.bare, J.base, J.hok, rv, q⟩
  | .next, hs => obtain ⟨σ', H', J, q⟩ := hs; exact ⟨V.non, H', J.os, J.bare, J.base, J.hok, rfl, q⟩
  | .brk, hs => obtain ⟨_, _, _, q⟩ := hs; exact q.elim
  | .cont, hs => obtain ⟨_, _, _, q⟩ := hs; exact q.elim
section
variable {P : Program} {w : World} {K : PySem.W.Frag} {mg : Str → Option Value} {base : Heap}
/-- law(script): the draws are made, and then all is done with them -/
theorem law_ofTC {T : List (Addr × Str)} {st : Stmt} {N : List Str} {k : Nat} {f : Addr} {fd : FuncData} (FF : Fun K "law" "law" st f fd) (S : FnScope N ["script"] (defScope st)) (hN1 : 2 ≤ N.length)
    (body : ∀ (f : Addr) (cdv : Value), fd.code = cdv → ∀ (A : Around) (fr : List Env) (s : Shared) (H : Hp) (E : XK), A.guards = some [] → Room k (A.deeper (envOfC "law" (defScope st) s.heap.objs.size f cdv)) →
      ∃ (st1 : Stmt) (rest : List Stmt) (td : TD), defBody st = st1 :: rest ∧ (∃ te, PS (cxOf CX0 P w K mg base N "law" (defScope st) f cdv A fr s H E).nox st1 (tAsg te (gName 1)) ∧ EvD K cf0 te td) ∧
        (∀ (ns : List Int) (R : D → Prop), ns.length ≤ 63 → (∀ cs : List Int, cs ≠ [] → cs.length ≤ 63 → (∀ c ∈ cs, 0 ≤ c) → R (.lst [.lst (cs.map D.int), .int 0, .int 1])) → td (some (.scr ns) :: List.replicate (N.length - 1) none) R) ∧
        ∀ (da : Addr) (ca : CA), ca.T = T → ∃ ts, DSs (cxOf CX0 P w K mg base N "law" (defScope st) f cdv A fr s H E).nox (drw da ca) rest ts ∧
          ∀ ns : List Int, ns.length ≤ 63 → ts { nx := fun _ => False, rt := fun d => d = .bl true } (.dat (.scr ns) :: .dat (.op (.ref da)) :: List.replicate (N.length - 2) .no)) : FnG P w K mg base CX0 (k + 1) f fd ["script"] (spLawT T K) := by
  refine FF.okGC S (fun vs H Q E h => ?_) fun cdv hcdv A fr s H vs Q E hgd hr h => ?_
  · obtain ⟨a, ns, rfl, _⟩ := h
    rfl
  · obtain ⟨a, ns, rfl, hS, hl, hO, hT, q⟩ := h
    obtain ⟨st1, rest, td, hb, ⟨te, p1, p2⟩, h1, h2⟩ := body f cdv hcdv A fr s H E hgd hr
    rw [hb]
    -- what follows, for any addresses of the draws
    have hrest : ∃ u, PSs (cxOf CX0 P w K mg base N "law" (defScope st) f cdv A fr s H E).nox rest u ∧ ∀ (da : Addr) (ca : CA) (e : ca.T = T), ∀ (S0 : AS) (H0 : Hp) (al : Nat → Addr) (ρ : Rho) (σ : L2.St) (H1 : Hp) (Dn : EndsD) (D' : Ends), EnvR K (drw da ca) S0 H0 [] al ρ σ H1 → (h2 da ca e).choose Dn ρ → Good K (drw da ca) S0 H0 [] Dn D' → u D' σ H1 := by
      refine ⟨fun D' σ H1 => ∃ (z : Addr × CA) (e : z.2.T = T), ((h2 z.1 z.2 e).choose_spec.1.ex).choose D' σ H1, ⟨fun pins s σ H1 D' I hu => ?_⟩, fun da ca e S0 H0 al ρ σ H1 Dn D' r hd g => ⟨(da, ca), e, ((h2 da ca e).choose_spec.1.ex).choose_spec.2 S0 H0 [] al ρ σ H1 Dn D' r hd g⟩⟩
      obtain ⟨z, e, hz⟩ := hu
      exact ((h2 z.1 z.2 e).choose_spec.1.ex).choose_spec.1.run pins s σ H1 D' I hz
    obtain ⟨u, u1, u2⟩ := hrest
    refine ⟨_, (pss_cons p1 u1).nox, ?_⟩
    have ok0 : Ok cf0 (fun _ => False) H := ⟨trivial, fun a h => h, fun a h => h.elim⟩
    have hid0 : ∀ H1 : Hp, hid H1 (fun _ => False) = H1 := fun H1 => by funext b; unfold hid; rw [if_neg id]
    have sEq : L2.start N [V.ref a] = some (.ref a) :: List.replicate (N.length - 1) none := rfl
    rw [sEq]
    refine p2 (fun _ => False) _ H (some (.scr ns) :: List.replicate (N.length - 1) none) _ _ ⟨ok0, by simp, fun i d e => ?_⟩ (h1 ns (fun d => ∃ cs : List Int, cs ≠ [] ∧ cs.length ≤ 63 ∧ (∀ c ∈ cs, 0 ≤ c) ∧ d = .lst [.lst (cs.map D.int), .int 0, .int 1]) hl fun cs c1 c2 c3 => ⟨cs, c1, c2, c3, rfl⟩) fun v d H1 g1 p1 v1 => ?_
    · cases i with
      | zero =>
        have e' : some (some (D.scr ns)) = some (some d) := e
        cases e'
        exact ⟨.ref a, rfl, by rw [hid0]; exact .scr hS⟩
      | succ i =>
        have e' : (List.replicate (N.length - 1) (none : Option D))[i]? = some (some d) := e
        rw [List.getElem?_replicate] at e'
        split at e' <;> cases e'
    · obtain ⟨cs, c1, c2, c3, rfl⟩ := p1
      rw [hid0] at v1
      cases v1 with
      | @lst da vs ds e0 h0 =>
        cases h0 with
        | cons hc0 t0 =>
          obtain ⟨x, y, rfl, hx, hy⟩ := two_dv t0
          have hx := hx.int_inv
          have hy := hy.int_inv
          subst hx
          subst hy
          cases hc0 with
          | @lst ca ws ds e2 h2' =>
            have := h2'.ints
            subst this
            have ne : da ≠ ca := fun z => by
              rw [z, e2] at e0
              have := Option.some.inj e0
              injection this with this
              cases cs with
              | nil => exact c1 rfl
              | cons c r => rw [List.map_cons] at this; injection this with z1 z2; cases z1
            have di : (drw da ⟨ca, T⟩).I H1 := ⟨⟨cs, 0, 1, e0, e2, ne, c1, c2, by decide, by decide, by decide, c3⟩, fun p hp => LamX.TabS.nil (g1.e p.1 _ (fun n => n) (hT p hp))⟩
            have ok1 : Ok (drw da ⟨ca, T⟩) (fun b => b = da ∨ b = ca ∨ ∃ p ∈ T, p.1 = b) H1 := ⟨di, fun b h => h, fun b h => (drw da ⟨ca, T⟩).liv H1 b di h⟩
            show u _ ((some (.ref a) :: List.replicate (N.length - 1) none).set 1 (some (.ref da))) H1
            have hset : (some (V.ref a) :: List.replicate (N.length - 1) (none : Option V)).set 1 (some (.ref da)) = some (.ref a) :: some (.ref da) :: List.replicate (N.length - 2) none := by
              obtain ⟨n, hn⟩ : ∃ n, N.length = n + 2 := ⟨N.length - 2, by omega⟩
              rw [hn]
              rfl
            rw [hset]
            have notOwn : ∀ i, ¬ ownAt (Sl.dat (.scr ns) :: Sl.dat (.op (.ref da)) :: List.replicate (N.length - 2) Sl.no) i := fun i ⟨s, e, q⟩ => by
              match i with
              | 0 => cases (show some (Sl.dat (.scr ns)) = some s from e); cases q
              | 1 => cases (show some (Sl.dat (.op (.ref da))) = some s from e); cases q
              | i + 2 =>
                have e' : (List.replicate (N.length - 2) Sl.no)[i]? = some s := e
                rw [List.getElem?_replicate] at e'
                split at e' <;> cases e'
                cases q
            have hvol : Same (hid H1 (fun b => b = da ∨ b = ca ∨ ∃ p ∈ T, p.1 = b)) (hid H1 (Vol (fun b => b = da ∨ b = ca ∨ ∃ p ∈ T, p.1 = b) (fun _ => 0) (Sl.dat (.scr ns) :: Sl.dat (.op (.ref da)) :: List.replicate (N.length - 2) Sl.no))) := same_hid_sub fun b h => by
              rcases h with h | ⟨i, h, _⟩
              · exact h
              · exact (notOwn i h).elim
            have hscr : SqL K (hid H1 (fun b => b = da ∨ b = ca ∨ ∃ p ∈ T, p.1 = b)) a (ns.map V.int) := by
              rcases hS with (z | ⟨o, z⟩) | z
              · rcases hO a with n | ⟨o, xs, n⟩ | ⟨ps, n⟩
                · rw [z] at n; cases n
                · rw [z] at n; cases n
                · rw [z] at n; cases n
              · refine .inl (.inr ⟨o, hid_some.mpr ⟨fun n => ?_, g1.e a _ (fun n => n) z⟩⟩)
                have z1 := g1.e a _ (fun n => n) z
                rcases n with n | n | ⟨p, hp, n⟩
                · rw [n, e0] at z1; cases z1
                · rw [n, e2] at z1; cases z1
                · rw [← n, hT p hp] at z; cases z
              · exact .inr z
            refine u2 da ⟨ca, T⟩ rfl (fun b => b = da ∨ b = ca ∨ ∃ p ∈ T, p.1 = b) H1 (fun _ => 0) _ _ H1 { nx := fun _ => False, rt := fun d => d = .bl true } _ ⟨by simp, ok1, Ext.refl, ok1.l, fun i d e => ?_, fun i d e => (notOwn i ⟨_, e, rfl⟩).elim, fun i d e => (notOwn i ⟨_, e, rfl⟩).elim, fun i h => (notOwn i h).elim, fun i j h => (notOwn i h).elim, fun x hx => nomatch hx⟩ ((h2 da ⟨ca, T⟩ rfl).choose_spec.2 ns hl) ⟨fun al ρ σ H' r h => h.elim, fun v d H' e i h hv => ?_, fun al ρ σ H' r h => h.elim, fun al ρ σ H' r h => h.elim⟩
            · match i with
              | 0 =>
                cases (show some (Sl.dat (.scr ns)) = some (Sl.dat d) from e)
                exact ⟨.ref a, rfl, (DV.scr hscr).mono hvol⟩
              | 1 =>
                cases (show some (Sl.dat (.op (.ref da))) = some (Sl.dat d) from e)
                exact ⟨.ref da, rfl, .op _⟩
              | i + 2 =>
                have e' : (List.replicate (N.length - 2) Sl.no)[i]? = some (Sl.dat d) := e
                rw [List.getElem?_replicate] at e'
                split at e' <;> cases e'
            · have h : d = .bl true := h
              subst h
              rw [hv.bl_inv]
              exact q H'
end
end L3
/-! repr of data in which dicts stand, too. -/
namespace L3
open PySem PySem.Spec PyProof.Rows L2

mutual
/-- texts, numbers, dicts of such, tuples of these -/
def dicT : D → Bool
  | .tup ds => dicTs ds
  | .dic ks => flatKs ks
  | .dcf _ ks => flatKs ks
  | .non => true
  | .bl _ => true
  | .int i => decide (i.natAbs.log2 < 1920)
  | .str _ => true
  | .lst _ => false
  | .scr _ => false
  | .op _ => false
  | .ins _ _ => false
  | .exc _ _ => false
  | .sem _ _ => false
def dicTs : List D → Bool
  | [] => true
  | d :: r => dicT d && dicTs r
end
def reprOk2 (d : D) : Bool := noDic d || dicT d
mutual
theorem dicT_show : ∀ d : D, dicT d = true → (toP d).showable = true
  | .non, _ => by simp only [toP]; rfl
  | .bl _, _ => by simp only [toP]; rfl
  | .int i, h => by simp only [dicT] at h; simp only [toP]; exact h
  | .str _, _ => by simp only [toP]; rfl
  | .lst _, h => by simp only [dicT] at h; exact absurd h Bool.false_ne_true
  | .tup ds, h => by
    simp only [dicT] at h
    simp only [toP, PyData.showable]
    exact dicTs_show ds h
  | .dic ks, h => by simp only [dicT] at h; simp only [toP, PyData.showable]; exact keys_show h
  | .dcf _ ks, h => by simp only [dicT] at h; simp only [toP, PyData.showable]; exact keys_show h
  | .scr _, h => by simp only [dicT] at h; exact absurd h Bool.false_ne_true
  | .op _, h => by simp only [dicT] at h; exact absurd h Bool.false_ne_true
  | .ins _ _, h => by simp only [dicT] at h; exact absurd h Bool.false_ne_true
  | .exc _ _, h => by simp only [dicT] at h; exact absurd h Bool.false_ne_true
  | .sem _ _, h => by simp only [dicT] at h; exact absurd h Bool.false_ne_true
theorem dicTs_show : ∀ ds : List D, dicTs ds = true → PyData.showableAll (toPs ds) = true
  | [], _ => by simp only [toPs, PyData.showableAll]
  | d :: r, h => by
    simp only [dicTs, Bool.and_eq_true] at h
    simp only [toPs, PyData.showableAll, dicT_show d h.1, dicTs_show r h.2]
    rfl
end
section
variable {X : Cx} {pins : List (Addr × Obj)} {σ : L2.St} {H : Hp} {s : Shared}
mutual
theorem DV.rdT (I : Inv X pins σ H s) : ∀ {v : V} {d : D}, DV X.K H v d → dicT d = true → ∀ u, RelV v u → ∃ as, Reads s.heap u (toP d) as ∧ sysModules ∉ as
  | _, _, .non, _, u, r => by cases r; simp only [toP]; exact ⟨_, .none, List.not_mem_nil⟩
  | _, _, .bl b, _, u, r => by cases r; simp only [toP]; exact ⟨_, .bool b, List.not_mem_nil⟩
  | _, _, .int i, _, u, r => by obtain ⟨t, rfl⟩ := r; simp only [toP]; exact ⟨_, .int i t, List.not_mem_nil⟩
  | _, _, .str x, _, u, r => by obtain ⟨t, rfl⟩ := r; simp only [toP]; exact ⟨_, .str x t, List.not_mem_nil⟩
  | _, _, .lst _ _, f, u, r => by simp only [dicT] at f; exact absurd f Bool.false_ne_true
  | _, _, .tup e h, f, u, r => by
    cases r
    obtain ⟨its, rv, pl, _⟩ := I.tuple e.sq
    obtain ⟨ts, rd, n⟩ := DVs.rdT I h (by simpa only [dicT] using f) its rv
    obtain ⟨o, g1, c1, k, d1⟩ := pl
    simp only [toP]
    exact ⟨ts, Reads.tuple g1 c1 d1 (by simpa using rd), n⟩
  | _, _, @DV.dic _ _ a ks kvs e hk, f, u, r => by
    cases r
    simp only [dicT] at f
    obtain ⟨_, hsys, vs, rel, o, es, ep, ho1, hex, hd1, _, prs, _⟩ := (show ObjOk X.prog X.w H s.heap _ (.dK _) from I.hok _ _ e)
    obtain ⟨q1, q2⟩ := keys_reads (h := s.heap) hk rel prs f
    simp only [toP]
    refine ⟨[a], Reads.dict (as := []) (bs := []) ho1 hex.1 hd1 q1 q2, fun hm => ?_⟩
    have z : sysModules = a := by simpa using hm
    rw [← z] at hsys
    exact absurd hsys (by simp)
  | _, _, @DV.dcf _ _ a w kvs e hk, f, u, r => by
    cases r
    simp only [dicT] at f
    obtain ⟨_, _, hsys, vs, rel, o, es, ep, ho1, hex, hd1, _, prs, _⟩ := (show ObjOk X.prog X.w H s.heap _ (.frz _ (.dK _)) from I.hok _ _ e)
    obtain ⟨q1, q2⟩ := keys_reads (h := s.heap) hk rel prs f
    simp only [toP]
    refine ⟨[a], Reads.dict (as := []) (bs := []) ho1 hex.1 hd1 q1 q2, fun hm => ?_⟩
    have z : sysModules = a := by simpa using hm
    rw [← z] at hsys
    exact absurd hsys (by simp)
  | _, _, .scr _, f, u, r => by simp only [dicT] at f; exact absurd f Bool.false_ne_true
  | _, _, .op _, f, u, r => by simp only [dicT] at f; exact absurd f Bool.false_ne_true
  | _, _, .ins _ _, f, u, r => by simp only [dicT] at f; exact absurd f Bool.false_ne_true
  | _, _, .exc _ _ _, f, u, r => by simp only [dicT] at f; exact absurd f Bool.false_ne_true
  | _, _, .exc0 _, f, u, r => by simp only [dicT] at f; exact absurd f Bool.false_ne_true
  | _, _, .sem _ _, f, u, r => by simp only [dicT] at f; exact absurd f Bool.false_ne_true
theorem DVs.rdT (I : Inv X pins σ H s) : ∀ {vs : List V} {ds : List D}, DVs X.K H vs ds → dicTs ds = true → ∀ us, Vals vs us → ∃ as, ReadsAll s.heap us (toPs ds) as ∧ sysModules ∉ as
  | _, _, .nil, _, us, r => by cases r; simp only [toPs]; exact ⟨_, .nil, List.not_mem_nil⟩
  | _, _, .cons h t, f, us, r => by
    cases r with
    | cons r rt =>
      simp only [dicTs, Bool.and_eq_true] at f
      obtain ⟨as, r1, n1⟩ := DV.rdT I h f.1 _ r
      obtain ⟨bs, r2, n2⟩ := DVs.rdT I t f.2 _ rt
      simp only [toPs]
      exact ⟨_, .cons r1 r2, fun z => (List.mem_append.mp z).elim n1 n2⟩
end
/-- repr, for both its callers: of a text's field and by its name -/
theorem repr_any {A : Around} {Q : Value → Shared → Prop} {E : Value → Shared → Prop} (I : Inv X pins σ H s) (hgd : A.guards = some []) (hu : A.units + 62 < cLine) {v : V} {d : D} {u : Value} (rv : RelV v u) (hv : DV X.K H v d) (ho : reprOk2 d = true) (hdp : (toP d).depth ≤ 60) (hz : (showD d).length ≤ 100000)
    (fin : ∀ (h' : Heap) (tk tk' : Nat), (∀ b o, s.heap.get? b = some o → h'.get? b = some o) → Q (.str (showD d) tk) { s with heap := h', toks := tk' }) : wpAny (model X.prog X.w) A (pyReprObj u) Q E s := by
  have hz' : (toP d).shown.length ≤ sizeLine := small_line hz
  have keep0 : ∀ b o, s.heap.get? b = some o → s.heap.get? b = some o := fun _ _ e => e
  have big : dicT d = true → ∀ a, u = .ref a → wpAny (model X.prog X.w) A (pyReprObj u) Q E s := fun f a e => by
    subst e
    obtain ⟨as, rd, n⟩ := hv.rdT I f _ rv
    exact pyReprObj_of_reads rd (dicT_show d f) (fun _ => n) hgd (by omega) keep0 (fun h' u tk hk => fin h' u tk hk) hz'
  unfold reprOk2 at ho
  rw [Bool.or_eq_true] at ho
  cases hv with
  | non => cases rv; exact pyReprObj_none (fin s.heap _ _ keep0)
  | bl b => cases rv; exact pyReprObj_bool (by have z := fin s.heap s.toks (s.toks + 1) keep0; unfold showD at z; simp only [toP, PyData.shown] at z; exact z)
  | int i =>
    obtain ⟨t, rfl⟩ := rv
    simp only [noDic, dicT, or_self, decide_eq_true_eq] at ho
    exact pyReprObj_int ho (by have z := fin s.heap s.toks (s.toks + 1) keep0; unfold showD at z; simp only [toP, PyData.shown] at z; exact z)
  | str x =>
    obtain ⟨t, rfl⟩ := rv
    simp only [toP, PyData.shown] at hz'
    exact pyReprObj_str (by have z := fin s.heap s.toks (s.toks + 1) keep0; unfold showD at z; simp only [toP, PyData.shown] at z; exact z) hz'
  | lst e1 e2 =>
    cases rv
    rcases ho with ho | ho
    · obtain ⟨s1, s2, s3⟩ := noDic_show _ ho
      obtain ⟨as, rd⟩ := Dp.reads I _ _ _ ((DV.lst e1 e2).dp s3) rfl
      exact pyReprObj_of_reads rd s1 (PyData.noDict_hsm s2) hgd (by omega) keep0 (fun h' u tk hk => fin h' u tk hk) hz'
    · simp only [dicT] at ho; cases ho
  | tup e1 e2 =>
    cases rv
    rcases ho with ho | ho
    · obtain ⟨s1, s2, s3⟩ := noDic_show _ ho
      obtain ⟨as, rd⟩ := Dp.reads I _ _ _ ((DV.tup e1 e2).dp s3) rfl
      exact pyReprObj_of_reads rd s1 (PyData.noDict_hsm s2) hgd (by omega) keep0 (fun h' u tk hk => fin h' u tk hk) hz'
    · exact big ho _ rfl
  | dic _ _ => cases rv; rcases ho with ho | ho; · (simp only [noDic] at ho; cases ho)
               · exact big ho _ rfl
  | dcf _ _ => cases rv; rcases ho with ho | ho; · (simp only [noDic] at ho; cases ho)
               · exact big ho _ rfl
  | scr _ => simp [noDic, dicT] at ho
  | op _ => simp [noDic, dicT] at ho
  | ins _ _ => simp [noDic, dicT] at ho
  | exc _ _ _ => simp [noDic, dicT] at ho
  | exc0 _ => simp [noDic, dicT] at ho
  | sem _ _ => simp [noDic, dicT] at ho
end
def fReprX : FN
  | [d], P => reprOk2 d = true ∧ (toP d).depth ≤ 60 ∧ (showD d).length ≤ 100000 ∧ P (.str (showD d))
  | _, _ => False
def rReprX (K : PySem.W.Frag) : List V → Hp → VK → Prop := fun xs H Q => ∃ v d, xs = [v] ∧ DV K H v d ∧ reprOk2 d = true ∧ (toP d).depth ≤ 60 ∧ (showD d).length ≤ 100000 ∧ Q (.str (showD d)) H
theorem cd_reprX {K : PySem.W.Frag} {C : Cf} : CallD K C (rReprX K) fReprX := by
  intro S H vs ds P Q ok hv h q
  match ds, h with
  | [d], h =>
    obtain ⟨v, rfl, hd⟩ := one_dv hv
    exact ⟨v, d, rfl, hd.mono same_hid, h.1, h.2.1, h.2.2.1, q _ _ H (Go.refl ok) h.2.2.2 (.str _)⟩
theorem call_reprX {X : Cx} (hgd : X.A.guards = some []) (hu : X.A.units + 64 < cLine) : CallR X (.builtin "repr") (rReprX X.K) := by
  intro pins s σ H xs us Q I r h
  obtain ⟨v, d, rfl, hv, ho, hdp, hz, q⟩ := h
  by_cases n : noDic d = true
  · exact call_reprD hgd hu pins s σ H [v] us Q I r ⟨v, d, rfl, hv, by cases d <;> first | exact n | (simp only [noDic] at n; cases n), hdp, hz, q⟩
  · have f : dicT d = true := by
      unfold reprOk2 at ho
      rw [Bool.or_eq_true] at ho
      exact ho.resolve_left n
    cases r with
    | cons rv rt =>
      cases rt
      rename_i u
      have fin : ∀ (h' : Heap) (tk tk' : Nat), (∀ b o, s.heap.get? b = some o → h'.get? b = some o) → EP X pins σ Q (.str (showD d) tk) { s with heap := h', toks := tk' } := fun h' tk tk' hk => ⟨.str _, H, I.kept hk, ⟨tk, rfl⟩, q⟩
      have hz' : (toP d).shown.length ≤ sizeLine := small_line hz
      obtain ⟨as, rd, na⟩ := hv.rdT I f _ rv
      have ha : ∃ a, u = .ref a := by
        cases hv with
        | non => exact absurd rfl n
        | bl b => exact absurd rfl n
        | int i => simp only [dicT] at f; simp only [noDic] at n; exact absurd f n
        | str x => exact absurd rfl n
        | lst _ _ => simp only [dicT] at f; cases f
        | tup _ _ => exact ⟨_, rv⟩
        | dic _ _ => exact ⟨_, rv⟩
        | dcf _ _ => exact ⟨_, rv⟩
        | scr _ => simp only [dicT] at f; cases f
        | op _ => simp only [dicT] at f; cases f
        | ins _ _ => simp only [dicT] at f; cases f
        | exc _ _ _ => simp only [dicT] at f; cases f
        | exc0 _ => simp only [dicT] at f; cases f
        | sem _ _ => simp only [dicT] at f; cases f
      obtain ⟨a, rfl⟩ := ha
      exact repr_of_reads' rd (dicT_show d f) (fun _ => na) hgd (by omega) (fun _ _ e => e) (fun h' u tk hk => fin h' u tk hk) hz'
/-- f'words {e!r}' of any such value -/
def dFmtX (n : Nat) (t : TD) : TD := fun E P => t E fun d => reprOk2 d = true ∧ (toP d).depth ≤ 60 ∧ (showD d).length + n ≤ 100000 ∧ ∀ y : Str, P (.str y)
theorem fmt_reprX {X : Cx} (hgd : X.A.guards = some []) (hu : X.A.units + 64 < cLine) {e : Expr} {te : TE} {pos : Pos} (he : PE X e te) : PE X (.FormattedValue e 114 none pos) (fun σ H Q => te σ H fun x H1 => rReprX X.K [x] H1 Q) := by
  refine ⟨fun pins s0 σ H0 Q I0 h => ?_⟩
  refine wpAny_FormattedValue_repr (thn (he.run pins s0 σ H0 _ I0 h) fun u s hv => ?_)
  obtain ⟨v', H, I, rv, v, d, e1, hv, ho, hdp, hz, q⟩ := hv
  cases e1
  have hz' : (toP d).shown.length ≤ sizeLine := small_line hz
  have fin0 : ∀ (h' : Heap) (tk tk' : Nat), (∀ b o, s.heap.get? b = some o → h'.get? b = some o) → EP X pins σ Q (.str (showD d) tk) { s with heap := h', toks := tk' } := fun h' tk tk' hk => ⟨.str _, H, I.kept hk, ⟨tk, rfl⟩, q⟩
  exact repr_any I hgd (by omega) rv hv ho hdp hz fun h' tk tk' hk => wpAny_formatField_str (fin0 h' tk tk' hk) (fin0 h' tk' (tk' + 1) hk) hz'
theorem de_fmtX {X : Cx} {C : Cf} (hgd : X.A.guards = some []) (hu : X.A.units + 64 < cLine) {e : Expr} {t : TD} {x : Str} {j : Nat} {p1 p2 pos : Pos} {n : Nat} (he : DE X C e t) (hn : x.length = n) (hn2 : n ≤ 1000) : DE X C (.JoinedStr [.Constant (.str x) j p1, .FormattedValue e 114 none p2] pos) (dFmtX n t) := by
  obtain ⟨te, h1, h2⟩ := he.ex
  refine ⟨⟨_, pe_joined (PJ.cons pe_str (PJ.cons (fmt_reprX hgd hu h1) PJ.nil)), fun S σ H E P Q rl hp q => ?_⟩⟩
  have l0 : ∀ a b : Str, (a ++ b).length = a.length + b.length := fun a b => Str.length_append a b
  have le0 : (Str.empty : Str).length = 0 := rfl
  refine ⟨x, rfl, ?_, ?_⟩
  · rw [l0, le0]
    exact small_line (by omega)
  · refine h2 S σ H E _ _ rl hp fun v d H1 g1 p1 v1 => ?_
    obtain ⟨a1, a2, a3, a4⟩ := p1
    exact ⟨v, d, rfl, v1.mono same_hid, a1, a2, by omega, _, rfl, by rw [l0, l0, le0]; exact small_line (by omega), q _ _ H1 g1 (a4 _) (.str _)⟩
end L3
namespace L3
open PySem PySem.Spec PyProof.Rows L2

/-! ### t.upper() -/
def dUpper (t : TD) : TD := fun E P => t E fun d => ∃ a, d = .str a ∧ a.length ≤ 100000 ∧ P (.str (Txt.upper a))
theorem de_upper {X : Cx} {C : Cf} {o : Expr} {t : TD} {apos pos : Pos} (ho : DE X C o t) (hbase : attributeBase o "upper" X.env (eval o X.env) = eval o X.env := by rfl) (hline : (apos.endLine == pos.line) = true := by rfl) : DE X C (.Call (.Attribute o "upper" apos) [] [] pos) (dUpper t) := by
  obtain ⟨te, h1, h2⟩ := ho.ex
  refine ⟨⟨_, pe_upper h1 hbase hline, fun S σ H E P Q r hp q => ?_⟩⟩
  refine h2 S σ H E _ _ r hp fun v d H1 g1 p1 v1 => ?_
  obtain ⟨a, rfl, hl, p1⟩ := p1
  exact ⟨⟨a, v1.str_inv⟩, a, v1.str_inv, rfl, by omega, q _ _ H1 g1 p1 (.str _)⟩

/-! ### from here on the own lists and dicts are only read -/
def sThw (ts : TSd) : TSd := fun Dn ρ => ts Dn (thaw ρ)
theorem ds_thw {X : Cx} {C : Cf} {st : Stmt} {ts : TSd} (h : DS X C st ts) : DS X C st (sThw ts) := by
  obtain ⟨t, h1, h2⟩ := h.ex
  exact ⟨⟨t, h1, fun S0 H0 gs al ρ σ H Dn D' r hp g => h2 S0 H0 gs al (thaw ρ) σ H Dn D' r.thaw hp g⟩⟩
/-- a name of a class in an except clause -/
theorem names_own {X : Cx} {x : Str} {c : Value} (h : Gl X x) (m : X.mg x = some c) (d : (x == ("__debug__" : Str)) = false := by decide) : Names X x c := ⟨h, d, .inl m⟩
/-- a contract that is never asked for -/
def fNone : Cf → FN := fun _ _ _ => False
theorem cal_none {P : Program} {w : World} {K : PySem.W.Frag} {mg : Str → Option Value} {base : Heap} {x : Str} {st : Stmt} {ps : List Str} (k : Nat) (d : Dfn K mg x st ps) : Cal P w K mg base x k ps fNone := by
  obtain ⟨f, fd, FF, hm, hb⟩ := d.ex
  exact ⟨f, fd, ⟨fun vs H Q E ⟨_, _, _, _, _, _, h, _⟩ => h.elim, fun A fr s H ar us vs Q E _ _ _ _ _ ⟨_, _, _, _, _, _, h, _⟩ => h.elim⟩, hm, FF.kp, hb⟩
end L3
namespace LW
open PySem PySem.Spec PyProof.Rows L2 L3
local macro_rules | `(tactic| walk_at "vc") => `(tactic| simp only [sSeq, sNx, sBk, sCt, sSet, sIf, xSeq, xS, xIf, xRet, xSet, xExp, xRaise, xLift, xNil, xCons, dFz, oDc, iKy, dIsN, dFmtX, dXfld, sThw, thaw, thaw1, sRet, sRetN, sPar, sFor, sExp, dVar, dC, dOp, dCall, dCons, dNil, dTup, dLst, bOr, bNot, bAnd, bYes, dB, dTru, dOrT, dAndT, dNotT, dIf, dChain, view, frz, view1, frz1, startD, List.map_cons, List.map_nil, List.map_append, List.cons_append, List.nil_append, List.length_cons, List.length_nil, List.replicate, List.getElem?_cons_zero, List.getElem?_cons_succ, Option.some.injEq, exists_eq_left', exists_eq_left, gNm, geNm, iTx, iSq, iRg, dLc, List.set_cons_zero, List.set_cons_succ, wipeE, dSl, oNone, oSome, D.int.injEq, D.str.injEq, dJoin, dDnew, dDisp, dPairs, dNeg, sPars, kNil, kDat, kOwn, oLst, oDic, oLstOf, setRho, sApp, sAppF, sSetF, sAsg, gTp, gNms, dStar, dLenSet, iVar, iTp, siSeq, siEnd, tfFld, tfEnd, dFld, dTix, dMeth])
abbrev s_copied : Stmt := topS 2
theorem sc_copied : FnScope ["thing", "item", "key"] ["thing"] (defScope s_copied) := ⟨rfl, rfl, rfl, by decide +kernel, rfl, by decide +kernel, by decide +kernel⟩
abbrev s_NoName_init : Stmt := (clsB (topS 6)).getD 0 (.Pass ⟨0, 0, 0, 0⟩)
theorem sc_NoName_init : SuScope ["self", "name"] ["self", "name"] (defScope s_NoName_init) := ⟨rfl, rfl, rfl, by decide +kernel, rfl, by decide +kernel, by decide +kernel, by decide +kernel, rfl, rfl⟩
structure Txc (mg : Str → Option Value) : Prop where
  m_isinstance : mg "isinstance" = none
  m_list : mg "list" = none
  m_tuple : mg "tuple" = none
  m_dict : mg "dict" = none
/-- what can be copied -/
def cpOk : Nat → D → Bool
  | 0, _ => false
  | n + 1, d => match d with
    | .non => true
    | .bl _ => true
    | .int _ => true
    | .str _ => true
    | .lst ds => decide (ds.length ≤ 100000) && ds.all (cpOk n)
    | .tup ds => decide (ds.length ≤ 100000) && ds.all (cpOk n)
    | .dcf _ [] => true
    | _ => false
mutual
/-- which object a dict is doesn't matter -/
def unW : D → D
  | .lst ds => .lst (unWs ds)
  | .tup ds => .tup (unWs ds)
  | .dcf _ ks => .dic ks
  | d => d
def unWs : List D → List D
  | [] => []
  | d :: r => unW d :: unWs r
end
theorem unWs_map : ∀ ds : List D, unWs ds = ds.map unW
  | [] => by simp only [unWs, List.map_nil]
  | d :: r => by simp only [unWs, List.map_cons, unWs_map r]
theorem lc_un {tg : TGe} {te : TD} {E : En} : ∀ (ys acc : List D) (P : List D → Prop), (∀ d ∈ ys, ∀ Q : D → Prop, (∀ y, unW y = unW d → Q y) → tg d E fun E' => te E' Q) → (∀ d E (P Q : En → Prop), (∀ E', P E' → Q E') → tg d E P → tg d E Q) → (∀ zs : List D, zs.map unW = ys.map unW → P (acc ++ zs)) → lcRun tg bYes te E ys acc P
  | [], acc, P, _, _, hp => by
    have := hp [] rfl
    simpa [lcRun] using this
  | d :: r, acc, P, h, mono, hp => by
    refine mono d E _ _ (fun E' z => ?_) (h d List.mem_cons_self (fun y => lcRun tg bYes te E r (acc ++ [y]) P) fun y hy => lc_un r _ P (fun d hd => h d (List.mem_cons_of_mem _ hd)) mono fun zs hz => ?_)
    · show (if true = true then te E' (fun y => lcRun tg bYes te E r (acc ++ [y]) P) else lcRun tg bYes te E r acc P)
      rw [if_pos rfl]
      exact z
    · have := hp (y :: zs) (by simp [hy, hz])
      simpa using this
mutual
theorem unW_same : ∀ d : D, toP (unW d) = toP d ∧ noDic (unW d) = noDic d ∧ dicT (unW d) = dicT d
  | .non => ⟨rfl, rfl, rfl⟩
  | .bl _ => ⟨rfl, rfl, rfl⟩
  | .int _ => ⟨rfl, rfl, rfl⟩
  | .str _ => ⟨rfl, rfl, rfl⟩
  | .lst ds => by
    obtain ⟨h1, h2, h3⟩ := unWs_same ds
    simp only [unW, toP, noDic, dicT, h1, h2]
    exact ⟨trivial, trivial, trivial⟩
  | .tup ds => by
    obtain ⟨h1, h2, h3⟩ := unWs_same ds
    simp only [unW, toP, noDic, dicT, h1, h2, h3]
    exact ⟨trivial, trivial, trivial⟩
  | .dic _ => ⟨rfl, rfl, rfl⟩
  | .dcf _ _ => by simp only [unW, toP, noDic, dicT]; exact ⟨trivial, trivial, trivial⟩
  | .scr _ => ⟨rfl, rfl, rfl⟩
  | .op _ => ⟨rfl, rfl, rfl⟩
  | .ins _ _ => ⟨rfl, rfl, rfl⟩
  | .exc _ _ => ⟨rfl, rfl, rfl⟩
  | .sem _ _ => ⟨rfl, rfl, rfl⟩
theorem unWs_same : ∀ ds : List D, toPs (unWs ds) = toPs ds ∧ noDics (unWs ds) = noDics ds ∧ dicTs (unWs ds) = dicTs ds
  | [] => ⟨rfl, rfl, rfl⟩
  | d :: r => by
    obtain ⟨a1, a2, a3⟩ := unW_same d
    obtain ⟨b1, b2, b3⟩ := unWs_same r
    simp only [unWs, toPs, noDics, dicTs, a1, a2, a3, b1, b2, b3]
    exact ⟨trivial, trivial, trivial⟩
end
/-- one that differs by its dicts' objects alone is shown the same -/
theorem unW_eq {a b : D} (h : unW a = unW b) : toP a = toP b ∧ reprOk2 a = reprOk2 b ∧ showD a = showD b := by
  obtain ⟨a1, a2, a3⟩ := unW_same a
  obtain ⟨b1, b2, b3⟩ := unW_same b
  rw [h] at a1 a2 a3
  have e : toP a = toP b := a1.symm.trans b1
  refine ⟨e, ?_, congrArg PyData.shown e⟩
  unfold reprOk2
  rw [← a2, ← a3, b2, b3]
def fCopied (n : Nat) : Cf → FN := fun C ds P => ∃ d, ds = [d] ∧ cpOk n d = true ∧ ∀ d', unW d' = unW d → P d'
section
variable {P : Program} {w : World} {K : PySem.W.Frag} {mg : Str → Option Value} {base : Heap}
theorem flat_copied {d : D} {n : Nat} (h : cpOk (n + 1) d = true) : (∃ t, tyOf d = some t) := by
  unfold cpOk at h
  split at h <;> first | exact ⟨_, rfl⟩ | cases h
theorem cal_copied (T : Txc mg) (d : Dfn K mg "copied" s_copied ["thing"]) : ∀ n, Cal P w K mg base "copied" n ["thing"] (fCopied n)
  | 0 => (cal_none 0 d).imp fun C ds R ⟨d, _, h, _⟩ => by cases h
  | n + 1 => by
    have C_copied := cal_copied T d n
    refine cal_of d sc_copied (fun C ds R h => by obtain ⟨_, rfl, _⟩ := h; rfl) fun f cdv A fr s H E hgd hr C ds R h => ⟨_, (dss_cons (ds_if (dt_val (de_blt cd_isi call_isiD rfl T.m_isinstance boot_isinstance (da_cons (de_of (pv 0)) (da_cons (de_c (pe_bltn (v := .ty "list") rfl T.m_list boot_list rfl) fun _ => .op _) da_nil)))) (dss_one (ds_ret (de_lc (own := [("item", 1)]) rfl sc_copied.nd (blkOk_by (N := ["thing", "item", "key"]) (sc := defScope s_copied) (by decide +kernel)) (di_list (de_of (pv 0))) (fun b => dge_name (i := 1) ⟨sc_copied.nd, rfl, by first | exact .inl rfl | exact .inr rfl, by first | exact .inr rfl | exact .inl rfl⟩ (by decide)) (fun b => dts_nil) (fun b => (de_cal C_copied hgd hr (Nat.le_refl _) rfl (da_cons (de_of (pv 1)) da_nil)))))) dss_nil)
      (dss_cons (ds_if (dt_val (de_blt cd_isi call_isiD rfl T.m_isinstance boot_isinstance (da_cons (de_of (pv 0)) (da_cons (de_c (pe_bltn (v := .ty "tuple") rfl T.m_tuple boot_tuple rfl) fun _ => .op _) da_nil)))) (dss_one (ds_ret (de_typ cd_tup call_tuple_ofN rfl T.m_tuple boot_tuple (da_cons (de_lc (own := [("item", 1)]) rfl sc_copied.nd (blkOk_by (N := ["thing", "item", "key"]) (sc := defScope s_copied) (by decide +kernel)) (di_tup (de_of (pv 0))) (fun b => dge_name (i := 1) ⟨sc_copied.nd, rfl, by first | exact .inl rfl | exact .inr rfl, by first | exact .inr rfl | exact .inl rfl⟩ (by decide)) (fun b => dts_nil) (fun b => (de_cal C_copied hgd hr (Nat.le_refl _) rfl (da_cons (de_of (pv 1)) da_nil)))) da_nil)))) dss_nil)
      (dss_cons (ds_if (dt_val (de_blt cd_isi call_isiD rfl T.m_isinstance boot_isinstance (da_cons (de_of (pv 0)) (da_cons (de_c (pe_bltn (v := .ty "dict") rfl T.m_dict PyProof.Rows.boot_dict rfl) fun _ => .op _) da_nil)))) (dss_one (ds_ret (de_fz (df_dc (own := [("key", 2)]) rfl sc_copied.nd (blkOk_by (N := ["thing", "item", "key"]) (sc := defScope s_copied) (by decide +kernel)) (di_keys (de_of (pv 0))) (fun b => dge_name (i := 2) ⟨sc_copied.nd, rfl, by first | exact .inl rfl | exact .inr rfl, by first | exact .inr rfl | exact .inl rfl⟩ (by decide)) (fun b => dts_nil) (fun b => (de_of (pv 2))) (fun b => (de_cal C_copied hgd hr (Nat.le_refl _) rfl (da_cons (de_dget hr.units (de_of (pv 0)) (de_of (pv 2))) da_nil))))))) dss_nil)
      (dss_one (ds_ret (de_of (pv 0))))))), ?_⟩
    obtain ⟨d, rfl, ok, h⟩ := h
    walk_at "vc"
    obtain ⟨t, ht⟩ := flat_copied ok
    have hall : ∀ ds : List D, ds.all (cpOk n) = true → ∀ d ∈ ds, ∀ Q : D → Prop, (∀ y, unW y = unW d → Q y) → fCopied n C [d] Q := fun ds ha d hd Q q => ⟨d, rfl, List.all_eq_true.mp ha d hd, q⟩
    refine ⟨t, ht, by decide, _, rfl, ?_⟩
    unfold cpOk at ok
    split at ok
    · cases ht
      exact ⟨_, rfl, by decide, _, rfl, _, rfl, by decide, _, rfl, h _ rfl⟩
    · cases ht
      exact ⟨_, rfl, by decide, _, rfl, _, rfl, by decide, _, rfl, h _ rfl⟩
    · cases ht
      exact ⟨_, rfl, by decide, _, rfl, _, rfl, by decide, _, rfl, h _ rfl⟩
    · cases ht
      exact ⟨_, rfl, by decide, _, rfl, _, rfl, by decide, _, rfl, h _ rfl⟩
    · rename_i ds
      cases ht
      simp only [Bool.and_eq_true, decide_eq_true_eq] at ok
      refine ⟨ds, rfl, ok.1, ?_⟩
      refine lc_un _ [] _ (fun d hd Q q => ?_) (ge_mono 1) fun zs hz => ?_
      · walk_at "vc"
        exact hall ds ok.2 d hd Q q
      · exact h _ (by simp only [unW, unWs_map, List.nil_append, hz])
    · rename_i ds
      cases ht
      simp only [Bool.and_eq_true, decide_eq_true_eq] at ok
      refine ⟨_, rfl, by decide, _, rfl, ds, rfl, ok.1, ?_⟩
      refine lc_un _ [] _ (fun d hd Q q => ?_) (ge_mono 1) fun zs hz => ?_
      · walk_at "vc"
        exact hall ds ok.2 d hd Q q
      · have hl : zs.length ≤ 100000 := by
          have := congrArg List.length hz
          rw [List.length_map, List.length_map] at this
          omega
        exact h _ (by simp only [unW, unWs_map, List.nil_append, hz])
    · cases ht
      exact ⟨_, rfl, by decide, _, rfl, _, rfl, by decide, _, rfl, _, _, rfl, Nat.zero_le _, fun w => h _ rfl⟩
    · cases ok
/-- what an error may be made of -/
structure XOk (d : D) : Prop where
  cp : cpOk 5 d = true
  rp : reprOk2 d = true
  dp : (toP d).depth ≤ 50
  sz : (showD d).length ≤ 90000
def fXName : Cf → FN := fun C ds P => ∃ d, ds = [d] ∧ XOk d ∧ ∀ d', unW d' = unW d → P d'
theorem init_NoName {f C : Addr} {fd : FuncData} (ms : mg "super" = none) (C_copied : Cal P w K mg base "copied" 5 ["thing"] (fCopied 5)) (SF : SupF P K "NoName.__init__" C s_NoName_init f fd) (hno : PySem.W.findIn K (.ref C) "name" = some none) :
    FnG P w K mg base CX0 6 f fd ["self", "name"] (spErr K C "name" fXName) := by
  refine def_super SF sc_NoName_init rfl ms hno (fun cda cc A fr s H hgd hr C d R h => ⟨_, _, (de_fmtX (n := 14) hgd hr.units (de_of (pv 1)) rfl (by decide)), pv 0, (de_cal C_copied hgd hr (by decide) rfl (da_cons (de_of (pv 1)) da_nil)), ?_⟩) (fun _ _ _ => rfl) (fun _ _ _ => rfl) (fun _ _ _ => rfl) (fun _ _ _ => rfl)
  obtain ⟨d, e, ok, h⟩ := h
  cases e
  walk_at "vc"
  refine ⟨ok.rp, Nat.le_trans ok.dp (by decide), by have := ok.sz; omega, fun _ => ?_⟩
  exact ⟨_, rfl, ok.cp, h⟩
end
end LW
namespace LW
open PySem PySem.Spec PyProof.Rows L2 L3
local macro_rules | `(tactic| walk_at "vc") => `(tactic| simp only [sSeq, sNx, sBk, sCt, sSet, sIf, sRet, sRetN, sPar, sFor, sExp, dVar, dC, dOp, dCall, dCons, dNil, dTup, dLst, bOr, bNot, bAnd, bYes, dB, dTru, dOrT, dAndT, dNotT, dIf, dChain, view, frz, view1, frz1, startD, List.map_cons, List.map_nil, List.map_append, List.cons_append, List.nil_append, List.length_cons, List.length_nil, List.replicate, List.getElem?_cons_zero, List.getElem?_cons_succ, Option.some.injEq, exists_eq_left', exists_eq_left, gNm, geNm, iTx, iSq, iRg, dLc, List.set_cons_zero, List.set_cons_succ, wipeE, dSl, oNone, oSome, D.int.injEq, D.str.injEq, dJoin, dDnew, dDisp, dPairs, dNeg, sPars, kNil, kDat, kOwn, oLst, oDic, oLstOf, setRho, sApp, sAppF, dDGet, dDIn, dFz, oDicOf, oDc, iKy, dItemsL, sFz, sDput, sAppPop])
abbrev s_law_holes : Stmt := topS 44
theorem sc_law_holes : FnScope ["sheets", "label", "sheet"] ["sheets", "label"] (defScope s_law_holes) := ⟨rfl, rfl, rfl, by decide +kernel, rfl, by decide +kernel, by decide +kernel⟩
abbrev s_law_fitting : Stmt := topS 45
theorem sc_law_fitting : FnScope ["world", "goals", "some", "title"] ["world", "goals"] (defScope s_law_fitting) := ⟨rfl, rfl, rfl, by decide +kernel, rfl, by decide +kernel, by decide +kernel⟩
abbrev s_law_shuffled : Stmt := topS 39
theorem sc_law_shuffled : FnScope ["draws", "some", "left", "found"] ["draws", "some"] (defScope s_law_shuffled) := ⟨rfl, rfl, rfl, by decide +kernel, rfl, by decide +kernel, by decide +kernel⟩
structure Txw (mg : Str → Option Value) : Prop where
  m_len : mg "len" = none
  m_int : mg "int" = none
  m_range : mg "range" = none
  m_sorted : mg "sorted" = none
  m_tuple : mg "tuple" = none
  m_list : mg "list" = none
  m_dict : mg "dict" = none
  m_isinstance : mg "isinstance" = none
  m_str : mg "str" = none
section
variable {P : Program} {w : World} {K : PySem.W.Frag} {mg : Str → Option Value} {base : Heap}
/-! ### the slots of a class -/
theorem flt_lb {ss : List Sheet} (nd : (ss.map Sheet.lb).Nodup) {s : Sheet} (h : s ∈ ss) : ss.filter (fun o => decide (o.lb = s.lb)) = [s] := by
  induction ss with
  | nil => cases h
  | cons o r ih =>
    rw [List.map_cons, List.nodup_cons] at nd
    rw [List.filter_cons]
    rcases List.mem_cons.mp h with rfl | h
    · rw [if_pos (decide_eq_true rfl)]
      have : r.filter (fun o => decide (o.lb = s.lb)) = [] := by
        rw [List.filter_eq_nil_iff]
        intro o ho z
        exact nd.1 (List.mem_map.mpr ⟨o, ho, of_decide_eq_true z⟩)
      rw [this]
    · have ne : ¬ o.lb = s.lb := fun z => nd.1 (by rw [z]; exact List.mem_map.mpr ⟨s, h, rfl⟩)
      rw [if_neg (by rw [decide_eq_false ne]; exact Bool.false_ne_true)]
      exact ih nd.2 h
def fHoles : Cf → FN := fun C ds P => ∃ ss s, ds = [.lst (ss.map Sheet.d), .str (Sheet.lb s)] ∧ OkSheets ss ∧ s ∈ ss ∧ P (.tup (s.holes.map Hole.d))
theorem cal_law_holes (d : Dfn K mg "_law_holes" s_law_holes ["sheets", "label"]) : Cal P w K mg base "_law_holes" 1 ["sheets", "label"] fHoles := by
  refine cal_of d sc_law_holes (fun C ds R h => by obtain ⟨_, _, rfl, _⟩ := h; rfl) fun f cdv A fr s H E hgd hr C ds R h => ⟨_, (dss_one (ds_ret (de_ix od_ix ix_seq (de_lc (own := [("sheet", 2)]) rfl sc_law_holes.nd (blkOk_by (N := ["sheets", "label", "sheet"]) (sc := defScope s_law_holes) (by decide +kernel)) (di_list (de_of (pv 0))) (fun b => dge_name (i := 2) ⟨sc_law_holes.nd, rfl, by first | exact .inl rfl | exact .inr rfl, by first | exact .inr rfl | exact .inl rfl⟩ (by decide)) (fun b => dts_one (dt_cmp od_eq (op_eqb hr.units) (nomark _) (de_ix od_ix ix_seq (de_of (pv 2)) de_int) (de_of (pv 1)))) (fun b => (de_ix od_ix ix_seq (de_of (pv 2)) de_int))) de_int))), ?_⟩
  obtain ⟨ss, s, rfl, hs, hm, h⟩ := h
  have hf := hs.few
  walk_at "vc"
  refine ⟨_, rfl, by rw [List.length_map]; omega, ?_⟩
  refine lc_listF (fun o => decide (o.lb = s.lb)) Sheet.d (fun o => .tup (o.holes.map Hole.d)) ss [] _ (fun o ho Q R q1 q2 => ?_) ?_
  · simp only [Sheet.d] at q1 ⊢
    walk_at "vc"
    refine ⟨.str o.lb, atI_nat (j := 0) rfl, _, rfl, ?_⟩
    cases e : decide (o.lb = s.lb) with
    | true => rw [if_pos (by decide)]; exact ⟨_, atI_nat (j := 1) rfl, q1 e⟩
    | false => rw [if_neg (by decide)]; exact q2 e
  · rw [List.nil_append]
    exact ⟨.tup (s.holes.map Hole.d), atI_nat (j := 0) (by rw [List.getElem?_map, flt_lb hs.up.nodup hm]; rfl), h⟩
/-! ### in some order -/
theorem erase_perm {α : Type} : ∀ (ls : List α) (n : Nat) (y : α), ls[n]? = some y → (y :: ls.eraseIdx n).Perm ls
  | [], _, _, e => by simp at e
  | x :: r, 0, y, e => by
    rw [List.getElem?_cons_zero, Option.some.injEq] at e
    subst e
    exact List.Perm.refl _
  | x :: r, n + 1, y, e => by
    rw [List.getElem?_cons_succ] at e
    rw [List.eraseIdx_cons_succ]
    exact (List.Perm.swap x y _).trans ((erase_perm r n y e).cons x)
theorem perm_pop {α : Type} {fs ls xs : List α} {n : Nat} {y : α} (h : (fs ++ ls).Perm xs) (e : ls[n]? = some y) : ((fs ++ [y]) ++ ls.eraseIdx n).Perm xs := by
  refine List.Perm.trans ?_ h
  rw [List.append_assoc]
  exact (erase_perm ls n y e).append_left fs
def fShuffled : Cf → FN := fun C ds P => ∃ da ca, ∃ xs : List D, C = drw da ca ∧ ds = [.op (.ref da), .lst xs] ∧ xs.length ≤ 1000 ∧ (∀ x ∈ xs, okD x = true) ∧ ∀ zs : List D, zs.Perm xs → P (.lst zs)
theorem cal_law_shuffled (T : Txw mg) (C_law_draw : Cal P w K mg base "_law_draw" 1 ["draws", "many"] fDraw) (d : Dfn K mg "_law_shuffled" s_law_shuffled ["draws", "some"]) : Cal P w K mg base "_law_shuffled" 2 ["draws", "some"] fShuffled := by
  refine cal_of d sc_law_shuffled (fun C ds R h => by obtain ⟨_, _, _, _, rfl, _⟩ := h; rfl) fun f cdv A fr s H E hgd hr C ds R h => ⟨_, (dss_cons (ds_pars2 (i := 2) (j := 3) ⟨sc_law_shuffled.nd, rfl, by first | exact .inl rfl | exact .inr rfl, .inl rfl⟩ ⟨sc_law_shuffled.nd, rfl, by first | exact .inl rfl | exact .inr rfl, .inl rfl⟩ (by decide) rfl rfl rfl (dka_own (df_listOf rfl T.m_list (da_cons (de_of (pv 1)) da_nil)) (dka_own (df_lst da_nil) dka_nil)))
      (dss_cons (ds_while PassesOwn.never (dt_cmp od_ne (op_neb hr.units) (nomark _) (de_of (pv 2)) (de_lst da_nil)) (dss_one (ds_appPop (pv 3) (pv 2) (de_cal C_law_draw hgd hr (by decide) rfl (da_cons (de_of (pv 0)) (da_cons (de_blt cd_len call_lenAll rfl T.m_len boot_len (da_cons (de_of (pv 2)) da_nil)) da_nil))))))
      (dss_one (ds_ret (de_of (pv 3)))))), ?_⟩
  obtain ⟨da, ca, xs, rfl, rfl, hl, hok, h⟩ := h
  walk_at "vc"
  refine ⟨by decide, trivial, rfl, fun m ρ => ∃ ls fs : List D, (fs ++ ls).Perm xs ∧ m = ls.length ∧ ρ = [.dat (.op (.ref da)), .dat (.lst xs), .own ls, .own fs], ⟨xs.length, xs, [], List.Perm.refl _, rfl, rfl⟩, fun m ρ' hI => ?_⟩
  obtain ⟨ls, fs, hp, rfl, rfl⟩ := hI
  have hlen := hp.length_eq
  rw [List.length_append] at hlen
  have lok : ∀ x ∈ ls, okD x = true := fun x hx => hok x (hp.mem_iff.mp (List.mem_append_right _ hx))
  walk_at "vc"
  refine ⟨by decide, (eqOk_all lok).1, eqOk_nil, _, rfl, ?_⟩
  cases ls with
  | nil =>
    rw [show eqD (.lst []) (.lst []) = true from eqD_nil, if_neg (by decide)]
    rw [List.append_nil] at hp
    exact h fs hp
  | cons x r =>
    rw [show eqD (.lst (x :: r)) (.lst []) = false from eqD_cons_nil, if_pos (by decide)]
    have hpos : 0 < (x :: r).length := Nat.succ_pos _
    generalize hls : x :: r = ls at hp lok hlen hpos
    refine ⟨fun ρ2 => ∃ ls2 fs2 : List D, (fs2 ++ ls2).Perm xs ∧ ls2.length < ls.length ∧ ρ2 = [.dat (.op (.ref da)), .dat (.lst xs), .own ls2, .own fs2], fun ρ2 hN => ?_, ?_⟩
    · obtain ⟨ls2, fs2, g1, g2, g3⟩ := hN
      exact ⟨ls2.length, g2, ls2, fs2, g1, rfl, g3⟩
    · refine ⟨_, _, by decide, rfl, rfl, ls.length, rfl, da, ca, ls.length, rfl, rfl, by omega, by omega, fun z z0 z1 => ?_⟩
      obtain ⟨n, rfl⟩ : ∃ n : Nat, z = n := ⟨z.toNat, by omega⟩
      have hn : n < ls.length := by omega
      have en : ls[n]? = some ls[n] := List.getElem?_eq_getElem hn
      refine ⟨n, ls[n], rfl, en, by omega, by omega, ls.eraseIdx n, fs ++ [ls[n]], perm_pop hp en, ?_, rfl⟩
      rw [List.length_eraseIdx_of_lt hn]
      omega
/-! ### the words that fit a slot -/
def fFitting : Cf → FN := fun C ds P => ∃ x ws goals, ds = [x, .tup (goals.map D.str)] ∧ dicOf x = some (ws.map wD) ∧ (ws.map (·.1)).Nodup ∧ ws.length ≤ 24 ∧ goals.length ≤ 17 ∧ ∀ ys : List Str, ys.Perm (ws.map (·.1)) → Rising ys → P (.lst (fitL ws goals ys))
theorem cal_law_fitting (T : Txw mg) (d : Dfn K mg "_law_fitting" s_law_fitting ["world", "goals"]) : Cal P w K mg base "_law_fitting" 1 ["world", "goals"] fFitting := by
  refine cal_of d sc_law_fitting (fun C ds R h => by obtain ⟨_, _, _, rfl, _⟩ := h; rfl) fun f cdv A fr s H E hgd hr C ds R h => ⟨_, (dss_cons (ds_setLc (i := 2) (own := [("title", 3)]) ⟨sc_law_fitting.nd, rfl, by first | exact .inl rfl | exact .inr rfl, .inl rfl⟩ rfl rfl rfl (blkOk_by (N := ["world", "goals", "some", "title"]) (sc := defScope s_law_fitting) (by decide +kernel)) (di_list (de_blt cd_sortK (call_sortedD rfl) rfl T.m_sorted boot_sorted (da_cons (de_of (pv 0)) da_nil))) (fun b => dge_name (i := 3) ⟨sc_law_fitting.nd, rfl, by first | exact .inl rfl | exact .inr rfl, by first | exact .inr rfl | exact .inl rfl⟩ (by decide)) (fun b => dts_one (dt_cmp od_inQN op_inQ (by with_unfolding_all rfl) (de_dget hr.units (de_of (pv 0)) (de_of (pv 3))) (de_of (pv 1)))) (fun b => (de_of (pv 3))))
      (dss_one (ds_ret (de_op od_add op_addD (de_of (pv 2)) (de_op od_mul op_mulD (de_lst (da_cons de_int (da_cons de_int (da_cons (de_neg de_int) (da_cons de_int da_nil))))) (de_typ cd_int call_int1 rfl T.m_int boot_int (da_cons (de_cmp od_inQ op_inQ (by with_unfolding_all rfl) de_str (de_of (pv 1))) da_nil))))))), ?_⟩
  obtain ⟨x, ws, goals, rfl, hx, nd, hl, hg, h⟩ := h
  walk_at "vc"
  refine ⟨ws.map wD, ws.map (·.1), hx, wKeys ws, by rw [List.length_map]; omega, fun ys hp hs => ?_⟩
  have yl : ys.length ≤ 24 := by rw [hp.length_eq, List.length_map]; exact hl
  have hup : Rising ys := sorted_rising hp hs nd
  refine ⟨_, rfl, by rw [List.length_map]; omega, ?_⟩
  refine lc_listF (fits ws goals) D.str D.str ys [] _ (fun t ht Q R q1 q2 => ?_) ?_
  · walk_at "vc"
    obtain ⟨c, hc, _⟩ := wGet_mem (ws := ws) (hp.mem_iff.mp ht)
    refine ⟨_, .inr t, wV c, hx, rfl, by rw [getK_w, hc]; rfl, ?_⟩
    cases c with
    | none => exact .inl ⟨rfl, goals, rfl, false, rfl, by rw [if_neg (by decide)]; exact q2 (by unfold fits; rw [hc])⟩
    | some c =>
      refine .inr ⟨goals, rfl, _, rfl, ?_⟩
      have ef : fits ws goals t = decide (c ∈ goals) := by unfold fits; rw [hc]
      cases e : decide (c ∈ goals) with
      | true => rw [if_pos (by decide)]; exact q1 (ef.trans e)
      | false => rw [if_neg (by decide)]; exact q2 (ef.trans e)
  · rw [List.nil_append]
    have h1 := h ys hp hup
    unfold fitL fitN at h1
    refine ⟨by decide, goals, rfl, ?_⟩
    by_cases e : ("" : Str) ∈ goals
    · rw [if_pos e] at h1
      rw [decide_eq_true e]
      refine ⟨by decide, by decide, by decide, ?_⟩
      refine ⟨by rw [List.length_map]; have := List.length_filter_le (fits ws goals) ys; show _ + 4 ≤ 100000; omega, ?_⟩
      exact h1
    · rw [if_neg e] at h1
      rw [decide_eq_false e]
      refine ⟨by decide, by decide, by decide, ?_⟩
      refine ⟨by rw [List.length_map]; have := List.length_filter_le (fits ws goals) ys; show _ + 0 ≤ 100000; omega, ?_⟩
      exact h1
end
end LW
namespace LW
open PySem PySem.Spec PyProof.Rows L2 L3
local macro_rules | `(tactic| walk_at "vc") => `(tactic| simp only [sSeq, sNx, sBk, sCt, sSet, sIf, sRet, sRetN, sPar, sFor, sExp, dVar, dC, dOp, dCall, dCons, dNil, dTup, dLst, bOr, bNot, bAnd, bYes, dB, dTru, dOrT, dAndT, dNotT, dIf, dChain, view, frz, view1, frz1, startD, List.map_cons, List.map_nil, List.map_append, List.cons_append, List.nil_append, List.length_cons, List.length_nil, List.replicate, List.getElem?_cons_zero, List.getElem?_cons_succ, Option.some.injEq, exists_eq_left', exists_eq_left, gNm, geNm, iTx, iSq, iRg, dLc, List.set_cons_zero, List.set_cons_succ, wipeE, dSl, oNone, oSome, D.int.injEq, D.str.injEq, dJoin, dDnew, dDisp, dPairs, dNeg, sPars, kNil, kDat, kOwn, oLst, oDic, oLstOf, setRho, sApp, sAppF, dDGet, dDIn, dFz, oDicOf, oDc, iKy, dItemsL, sFz, sDput, sAppPop, sOwnF, fitsR, dIsN, oListK, sForN, sForT])
abbrev s_law_fillable : Stmt := topS 46
theorem sc_law_fillable : FnScope ["sheets", "world", "found", "turn", "title", "hole"] ["sheets", "world"] (defScope s_law_fillable) := ⟨rfl, rfl, rfl, by decide +kernel, rfl, by decide +kernel, by decide +kernel⟩
section
variable {P : Program} {w : World} {K : PySem.W.Frag} {mg : Str → Option Value} {base : Heap}
/-! ### the objects whose slots can be filled -/
def fFillable : Cf → FN := fun C ds P => ∃ ss x ws0 n, ds = [.lst (ss.map Sheet.d), x] ∧ OkSheets ss ∧ dicOf x = some (ws0.map wD) ∧ OkW ss n ws0 ∧ n ≤ 24 ∧ ∀ ws w, OkW ss n ws → Stable ss ws → P (.dcf w (ws.map wD))
theorem dLen_dic {d : D} {kvs : List (Key × D)} (h : dicOf d = some kvs) : dLen d = some kvs.length := by
  cases d <;> first | (cases h; rfl) | cases h
theorem not_before {α : Type} : ∀ {l : List α} {j : Nat} {x : α}, l.Nodup → l[j]? = some x → x ∉ l.take j
  | [], _, _, _, e, _ => by simp at e
  | y :: r, 0, x, _, _, h => by simp at h
  | y :: r, j + 1, x, nd, e, h => by
    have nd := List.nodup_cons.mp nd
    have e : r[j]? = some x := by simpa using e
    rw [List.take_succ_cons] at h
    rcases List.mem_cons.mp h with rfl | h
    · exact nd.1 (List.mem_of_getElem? e)
    · exact not_before nd.2 e h
theorem take_step {α : Type} {l : List α} {j : Nat} {x y : α} (e : l[j]? = some x) (h : y ∈ l.take (j + 1)) : y ∈ l.take j ∨ y = x := by
  rw [List.take_add_one, e] at h
  rcases List.mem_append.mp h with h | h
  · exact .inl h
  · exact .inr (by simpa using h)
theorem fitL_ok {ws : Wl} {goals ys : List Str} (h : ∀ y ∈ ys, NmS y) : ∀ d ∈ fitL ws goals ys, okD d = true := fun d hd => by
  rcases List.mem_append.mp hd with hd | hd
  · obtain ⟨y, hy, rfl⟩ := List.mem_map.mp hd
    exact okD_str (h y (List.mem_filter.mp hy).1).ok
  · unfold fitN at hd
    split at hd
    · simp only [List.mem_cons, List.not_mem_nil, or_false] at hd
      rcases hd with rfl | rfl | rfl | rfl <;> exact okD_int _
    · cases hd
theorem cal_law_fillable (T : Txw mg) (C_law_holes : Cal P w K mg base "_law_holes" 1 ["sheets", "label"] fHoles) (C_law_fitting : Cal P w K mg base "_law_fitting" 1 ["world", "goals"] fFitting) (d : Dfn K mg "_law_fillable" s_law_fillable ["sheets", "world"]) : Cal P w K mg base "_law_fillable" 2 ["sheets", "world"] fFillable := by
  refine cal_of d sc_law_fillable (fun C ds R h => by obtain ⟨_, _, _, _, rfl, _⟩ := h; rfl) fun f cdv A fr s H E hgd hr C ds R h => ⟨_, (dss_cons (ds_ownF (i := 2) ⟨sc_law_fillable.nd, rfl, by first | exact .inl rfl | exact .inr rfl, .inl rfl⟩ (df_dicOf rfl rfl T.m_dict (da_cons (de_listItems rfl (de_of (pv 1)) rfl T.m_list) da_nil)))
      (dss_cons (ds_for PassesOwn.never rfl (di_rng rfl T.m_range (da_cons (de_blt cd_len call_lenAll rfl T.m_len boot_len (da_cons (de_of (pv 1)) da_nil)) da_nil)) (dg_name (i := 3) ⟨sc_law_fillable.nd, rfl, by first | exact .inl rfl | exact .inr rfl, .inl rfl⟩) (dss_cons (ds_forN PassesOwn.never rfl (df_listK rfl rfl T.m_list (da_cons (de_of (pv 2)) da_nil)) (dg_name (i := 4) ⟨sc_law_fillable.nd, rfl, by first | exact .inl rfl | exact .inr rfl, .inl rfl⟩) (dss_one (ds_forT PassesOwn.never rfl (de_cal C_law_holes hgd hr (by decide) rfl (da_cons (de_of (pv 0)) (da_cons (de_dget hr.units (de_of (pv 2)) (de_of (pv 4))) da_nil))) (dg_name (i := 5) ⟨sc_law_fillable.nd, rfl, by first | exact .inl rfl | exact .inr rfl, .inl rfl⟩) (dss_one (ds_if (dt_w (dw_and (dt_cmp od_eq (op_eqb hr.units) (nomark _) (de_ix od_ix ix_seq (de_of (pv 5)) de_int) de_str) (dw_and1 (dt_cmp od_eq (op_eqb hr.units) (nomark _) (de_cal C_law_fitting hgd hr (by decide) rfl (da_cons (de_of (pv 2)) (da_cons (de_ix od_ix ix_seq (de_of (pv 5)) de_int) da_nil))) (de_lst da_nil))))) (dss_one (ds_dput (i := 2) hr.units (pv 2) (de_of (pv 4)) de_non)) dss_nil)))))
      (dss_one (ds_fz 2 (ds_ownF (i := 2) ⟨sc_law_fillable.nd, rfl, by first | exact .inl rfl | exact .inr rfl, .inl rfl⟩ (df_dicOf rfl rfl T.m_dict (da_cons (de_lc (own := [("title", 4)]) rfl sc_law_fillable.nd (blkOk_by (N := ["sheets", "world", "found", "turn", "title", "hole"]) (sc := defScope s_law_fillable) (by decide +kernel)) (di_keys (de_of (pv 2))) (fun b => dge_name (i := 4) ⟨sc_law_fillable.nd, rfl, by first | exact .inl rfl | exact .inr rfl, by first | exact .inr rfl | exact .inl rfl⟩ (by decide)) (fun b => dts_one (dt_notN (de_dget hr.units (de_of (pv 2)) (de_of (pv 4))))) (fun b => (de_tup (da_cons (de_of (pv 4)) (da_cons (de_dget hr.units (de_of (pv 2)) (de_of (pv 4))) da_nil))))) da_nil)))))))
      (dss_one (ds_fz 2 (ds_ret (de_of (pv 2))))))), ?_⟩
  obtain ⟨ss, x, ws0, n, rfl, hs, hx, hok, hn, h⟩ := h
  walk_at "vc"
  refine ⟨ws0.map wD, hx, ws0.map wD, rfl, rfl, ?_⟩
  rw [mergeD_nd (wKeys_nd hok.nd)]
  have hl0 := hok.few
  have hm0 : (ws0.map wD).length = ws0.length := List.length_map _
  refine ⟨_, dLen_dic hx, _, rfl, by omega, by omega, ?_⟩
  rw [show ((((ws0.map wD).length : Nat) : Int)).toNat = ws0.length by omega]
  refine ⟨fun i ρ => ∃ (ws : Wl) (s3 s4 s5 : Sl), OkW ss n ws ∧ (ws.length + i ≤ ws0.length ∨ Stable ss ws) ∧ ρ = [.dat (.lst (ss.map Sheet.d)), .dat x, .owd (ws.map wD), s3, s4, s5],
    ⟨ws0, _, _, _, hok, .inl (Nat.le_refl _), rfl⟩, fun i d ρ' hd hI => ?_, fun ρ' hI => ?_⟩
  · obtain ⟨ws, s3, s4, s5, ok, hor, rfl⟩ := hI
    have hwl := ok.few
    refine ⟨_, rfl, _, _, rfl, rfl, _, rfl, by rw [keysD_w]; exact frz_strs _, ?_⟩
    rw [keysD_w]
    refine ⟨fun j ρ => ∃ (us : Wl) (s4 s5 : Sl), Left ss ws j us ∧ (us = ws → ∀ p ∈ ws, p.1 ∈ (ws.map (·.1)).take j → okP ss ws p) ∧ ρ = [.dat (.lst (ss.map Sheet.d)), .dat x, .owd (us.map wD), .dat d, s4, s5],
      ⟨ws, _, _, Left.start, (fun _ p _ z => by rw [List.take_zero] at z; cases z), rfl⟩, fun j t ρ' ht hI => ?_, fun ρ' hI => ?_⟩
    · obtain ⟨us, s4, s5, lf, hD, rfl⟩ := hI
      rw [List.getElem?_map] at ht
      cases et : (ws.map (·.1))[j]? with
      | none => rw [et] at ht; cases ht
      | some tt =>
        rw [et] at ht
        cases ht
        obtain ⟨p0, hp0, e0⟩ := List.mem_map.mp (List.mem_of_getElem? et)
        subst e0
        obtain ⟨s, hsm, es⟩ := ok.cls p0 hp0
        have nu : (us.map (·.1)).Nodup := by rw [lf.a]; exact ok.nd
        have hin : p0 ∈ us := lf.b p0 hp0 (not_before ok.nd et)
        have hget := wGet_of nu hin
        have htk : p0.1 ∈ (ws.map (·.1)).take (j + 1) := by rw [List.take_add_one, et]; exact List.mem_append_right _ (by simp)
        refine ⟨_, rfl, _, rfl, _, rfl, us.map wD, .inr p0.1, .str s.lb, rfl, rfl, by rw [getK_w, hget, es]; rfl, ?_⟩
        refine ⟨ss, s, rfl, hs, hsm, ?_⟩
        refine ⟨_, rfl, frz_map (fun h _ => by simp only [Hole.d, frzD, frzDs, frz_strs, Bool.and_self]), ?_⟩
        refine ⟨fun l ρ => ∃ (us : Wl) (s5 : Sl), Left ss ws (j + 1) us ∧ (us = ws → (∀ p ∈ ws, p.1 ∈ (ws.map (·.1)).take j → okP ss ws p) ∧ ∀ h ∈ s.holes.take l, h.form = "one" → fitNE ws h.goals) ∧ ρ = [.dat (.lst (ss.map Sheet.d)), .dat x, .owd (us.map wD), .dat d, .dat (.str p0.1), s5],
          ⟨us, _, lf.more, (fun z => ⟨hD z, fun h hh => by rw [List.take_zero] at hh; cases hh⟩), rfl⟩, fun l hd' ρ' hh hI => ?_, fun ρ' hI => ?_⟩
        · obtain ⟨us2, s5, lf2, hD2, rfl⟩ := hI
          rw [List.getElem?_map] at hh
          cases eh : s.holes[l]? with
          | none => rw [eh] at hh; cases hh
          | some ho =>
            rw [eh] at hh
            cases hh
            have hhm : ho ∈ s.holes := List.mem_of_getElem? eh
            have oh := (hs.sheet s hsm).hole ho hhm
            have nu2 : (us2.map (·.1)).Nodup := by rw [lf2.a]; exact ok.nd
            have ul2 : us2.length ≤ 24 := by have := congrArg List.length lf2.a; rw [List.length_map, List.length_map] at this; omega
            have more : (ho.form = "one" → us2 = ws → fitNE ws ho.goals) → us2 = ws → (∀ p ∈ ws, p.1 ∈ (ws.map (·.1)).take j → okP ss ws p) ∧ ∀ h ∈ s.holes.take (l + 1), h.form = "one" → fitNE ws h.goals := fun hf z => by
              refine ⟨(hD2 z).1, fun h hh ef => ?_⟩
              rcases take_step eh hh with hh | rfl
              · exact (hD2 z).2 h hh ef
              · exact hf ef z
            simp only [Hole.d]
            walk_at "vc"
            refine ⟨.str ho.form, atI_nat (j := 2) rfl, _, rfl, ?_⟩
            cases ef : decide (ho.form = "one") with
            | false => rw [if_neg (by decide)]; exact ⟨us2, _, lf2, more (fun z => absurd z (of_decide_eq_false ef)), rfl⟩
            | true =>
              rw [if_pos (by decide)]
              refine ⟨_, atI_nat (j := 3) rfl, ?_⟩
              have gl : ho.goals.length ≤ 5 := by
                have := nodup_le ho.goals ("" :: ss.map Sheet.lb) oh.up.nodup fun g hg => (oh.mem g hg).elim (fun z => by rw [z]; exact List.mem_cons_self) (fun z => List.mem_cons_of_mem _ z)
                rw [List.length_cons, List.length_map] at this
                have := hs.few
                omega
              refine ⟨_, us2, ho.goals, rfl, rfl, nu2, ul2, by omega, fun ys hp hr => ?_⟩
              have nys : ∀ y ∈ ys, NmS y := fun y hy => by
                have z := hp.mem_iff.mp hy
                rw [lf2.a] at z
                obtain ⟨q, hq, rfl⟩ := List.mem_map.mp z
                exact ok.nm q hq
              refine ⟨by decide, (eqOk_all (fitL_ok nys)).1, eqOk_nil, _, rfl, ?_⟩
              cases e5 : fitL us2 ho.goals ys with
              | nil =>
                rw [show eqD (.lst []) (.lst []) = true from eqD_nil, if_pos (by decide)]
                have nf : ¬ fitNE us2 ho.goals := (fitL_nil hp).mp e5
                refine ⟨_, rfl, rfl, _, rfl, by rw [List.length_map]; omega, setN us2 p0.1, _, lf2.none htk (fun st => ?_), fun z => absurd z (setN_ne (c := s.lb) ?_), by rw [putD_w (by rw [lf2.a]; exact List.mem_map.mpr ⟨p0, hp0, rfl⟩)]⟩
                · rw [lf2.e st] at nf
                  exact nf (st p0 hp0 s hsm es ho hhm (of_decide_eq_true ef))
                · rw [← es]; exact hp0
              | cons d0 r0 =>
                rw [show eqD (.lst (d0 :: r0)) (.lst []) = false from eqD_cons_nil, if_neg (by decide)]
                refine ⟨us2, _, lf2, more (fun _ z => Classical.byContradiction fun nf => ?_), rfl⟩
                rw [← z] at nf
                rw [(fitL_nil hp).mpr nf] at e5
                cases e5
        · obtain ⟨us2, s5, lf2, hD2, rfl⟩ := hI
          refine ⟨us2, _, _, lf2, fun z p hp hq => ?_, rfl⟩
          rcases take_step et hq with hq | hq
          · exact (hD2 z).1 p hp hq
          · have e1 : p = p0 := nd_inj ok.nd hp hp0 hq
            subst e1
            intro s' hs' e' h hh ef
            rw [es] at e'
            have el : s.lb = s'.lb := Option.some.inj e'
            have e2 : [s] = [s'] := by rw [← flt_lb hs.up.nodup hsm, ← flt_lb hs.up.nodup hs', el]
            cases e2
            exact (hD2 z).2 h (by rw [List.length_map, List.take_length]; exact hh) ef
    · obtain ⟨us, s4, s5, lf, hD, rfl⟩ := hI
      have ul : us.length ≤ 24 := by have := congrArg List.length lf.a; rw [List.length_map, List.length_map] at this; omega
      have nu : (us.map (·.1)).Nodup := by rw [lf.a]; exact ok.nd
      refine ⟨_, rfl, fun w => ⟨_, rfl, w, _, rfl, by rw [keysD_w, List.length_map, List.length_map]; omega, ?_⟩⟩
      rw [keysD_w, List.map_map]
      refine lc_listF (fun p => p.2.isSome) (fun p => D.str p.1) (fun p => pairV (wD p)) us [] _ (fun p hp Q R q1 q2 => ?_) ?_
      · have hget := wGet_of nu hp
        walk_at "vc"
        refine ⟨_, .inr p.1, wV p.2, rfl, rfl, by rw [getK_w, hget]; rfl, ?_⟩
        cases ep : p.2 with
        | none => exact ⟨true, rfl, _, rfl, by rw [if_neg (by decide)]; exact q2 (by rw [ep]; rfl)⟩
        | some c =>
          refine ⟨false, rfl, _, rfl, ?_⟩
          rw [if_pos (by decide)]
          refine ⟨_, .inr p.1, .str c, rfl, rfl, by rw [getK_w, hget, ep]; rfl, by decide, ?_⟩
          have z := q1 (by rw [ep]; rfl)
          unfold pairV wD at z
          rw [ep] at z
          exact z
      · rw [List.nil_append]
        refine ⟨(alive us).map wD, by rw [List.map_map]; rfl, rfl, ?_⟩
        obtain ⟨a1, a2, a3⟩ := lf.alive ok
        rw [mergeD_nd (wKeys_nd a1.nd)]
        refine ⟨alive us, _, _, _, a1, ?_, rfl⟩
        by_cases z : us = ws
        · right
          rw [a3 z]
          intro p hp
          exact hD z p hp (by rw [List.length_map, List.take_length]; exact List.mem_map.mpr ⟨p, hp, rfl⟩)
        · left
          have := a2 z
          rcases hor with hor | hor
          · omega
          · exact absurd (lf.e hor) z
  · obtain ⟨ws, s3, s4, s5, ok, hor, rfl⟩ := hI
    refine ⟨_, rfl, fun w => ⟨_, rfl, h ws w ok ?_⟩⟩
    rcases hor with hor | hor
    · have hz : (rngD 0 ws0.length).length = ws0.length := by simp [rngD]
      rw [hz] at hor
      have : ws.length = 0 := by omega
      rw [List.length_eq_zero_iff.mp this]
      intro p hp
      cases hp
    · exact hor
end
end LW
namespace LW
open PySem PySem.Spec PyProof.Rows L2 L3
local macro_rules | `(tactic| walk_at "vc") => `(tactic| simp only [sSeq, sNx, sBk, sCt, sSet, sIf, sRet, sRetN, sPar, sFor, sExp, dVar, dC, dOp, dCall, dCons, dNil, dTup, dLst, bOr, bNot, bAnd, bYes, dB, dTru, dOrT, dAndT, dNotT, dIf, dChain, view, frz, view1, frz1, startD, List.map_cons, List.map_nil, List.map_append, List.cons_append, List.nil_append, List.length_cons, List.length_nil, List.replicate, List.getElem?_cons_zero, List.getElem?_cons_succ, Option.some.injEq, exists_eq_left', exists_eq_left, gNm, geNm, iTx, iSq, iRg, dLc, List.set_cons_zero, List.set_cons_succ, wipeE, dSl, oNone, oSome, D.int.injEq, D.str.injEq, dJoin, dDnew, dDisp, dPairs, dNeg, sPars, kNil, kDat, kOwn, oLst, oDic, oLstOf, setRho, sApp, sAppF, dDGet, dDIn, dFz, oDicOf, oDc, iKy, dItemsL, sFz, sDput, sAppPop, sOwnF, fitsR, dIsN, oListK, sForN, sForT, sCut])
abbrev s_law_filled : Stmt := topS 47
theorem sc_law_filled : FnScope ["draws", "world", "hole", "some", "count", "k", "picked", "titles", "word", "numbers"] ["draws", "world", "hole"] (defScope s_law_filled) := ⟨rfl, rfl, rfl, by decide +kernel, rfl, by decide +kernel, by decide +kernel⟩
section
variable {P : Program} {w : World} {K : PySem.W.Frag} {mg : Str → Option Value} {base : Heap}
/-! ### drawn contents of a slot -/
def fFilled : Cf → FN := fun C ds P => ∃ da ca ss x ws n crew, ∃ ho : Hole, C = drw da ca ∧ ds = [.op (.ref da), x, ho.d] ∧ dicOf x = some (ws.map wD) ∧ OkW ss n ws ∧ n ≤ 24 ∧ OkHole crew ho ∧ crew.length ≤ 16 ∧ (ho.form = "one" → fitNE ws ho.goals) ∧ ∀ c, OkCont ws ho c → P c.d
theorem of6 : ∀ y ∈ [D.int 0, D.int 0, D.int 1, D.int 1, D.int 2, D.int 4], ∃ c : Nat, c ≤ 4 ∧ y = .int c := fun y hy => by
  simp only [List.mem_cons, List.not_mem_nil, or_false] at hy
  rcases hy with rfl | rfl | rfl | rfl | rfl | rfl
  · exact ⟨0, by omega, rfl⟩
  · exact ⟨0, by omega, rfl⟩
  · exact ⟨1, by omega, rfl⟩
  · exact ⟨1, by omega, rfl⟩
  · exact ⟨2, by omega, rfl⟩
  · exact ⟨4, by omega, rfl⟩
theorem cal_law_filled (T : Txw mg) (C_law_draw : Cal P w K mg base "_law_draw" 1 ["draws", "many"] fDraw) (C_law_pick : Cal P w K mg base "_law_pick" 2 ["draws", "some"] fPick) (C_law_shuffled : Cal P w K mg base "_law_shuffled" 2 ["draws", "some"] fShuffled) (C_law_fitting : Cal P w K mg base "_law_fitting" 1 ["world", "goals"] fFitting)
    (d : Dfn K mg "_law_filled" s_law_filled ["draws", "world", "hole"]) : Cal P w K mg base "_law_filled" 3 ["draws", "world", "hole"] fFilled := by
  refine cal_of d sc_law_filled (fun C ds R h => by obtain ⟨_, _, _, _, _, _, _, _, _, rfl, _⟩ := h; rfl) fun f cdv A fr s H E hgd hr C ds R h => ⟨_, (dss_cons (ds_set (i := 3) ⟨sc_law_filled.nd, rfl, by first | exact .inl rfl | exact .inr rfl, .inl rfl⟩ (de_cal C_law_fitting hgd hr (by decide) rfl (da_cons (de_of (pv 1)) (da_cons (de_ix od_ix ix_seq (de_of (pv 2)) de_int) da_nil))))
      (dss_cons (ds_if (dt_cmp od_eq (op_eqb hr.units) (nomark _) (de_ix od_ix ix_seq (de_of (pv 2)) de_int) de_str) (dss_one (ds_ret (de_cal C_law_pick hgd hr (by decide) rfl (da_cons (de_of (pv 0)) (da_cons (de_of (pv 3)) da_nil))))) dss_nil)
      (dss_cut (ds_set (i := 4) ⟨sc_law_filled.nd, rfl, by first | exact .inl rfl | exact .inr rfl, .inl rfl⟩ (de_if (dt_cmp od_ne (op_neb hr.units) (nomark _) (de_of (pv 3)) (de_lst da_nil)) (de_cal C_law_pick hgd hr (by decide) rfl (da_cons (de_of (pv 0)) (da_cons (de_lst (da_cons de_int (da_cons de_int (da_cons de_int (da_cons de_int (da_cons de_int (da_cons de_int da_nil))))))) da_nil))) de_int))
      (dss_cons (ds_if (dt_cmp od_eq (op_eqb hr.units) (nomark _) (de_ix od_ix ix_seq (de_of (pv 2)) de_int) de_str) (dss_one (ds_ret (de_typ cd_tup call_tuple_ofN rfl T.m_tuple boot_tuple (da_cons (de_lc (own := [("k", 5)]) rfl sc_law_filled.nd (blkOk_by (N := ["draws", "world", "hole", "some", "count", "k", "picked", "titles", "word", "numbers"]) (sc := defScope s_law_filled) (by decide +kernel)) (di_rng rfl T.m_range (da_cons (de_of (pv 4)) da_nil)) (fun b => dge_name (i := 5) ⟨sc_law_filled.nd, rfl, by first | exact .inl rfl | exact .inr rfl, by first | exact .inr rfl | exact .inl rfl⟩ (by decide)) (fun b => dts_nil) (fun b => (de_cal C_law_pick hgd hr (by decide) rfl (da_cons (de_of (pv 0)) (da_cons (de_of (pv 3)) da_nil))))) da_nil)))) dss_nil)
      (dss_cons (ds_set (i := 6) ⟨sc_law_filled.nd, rfl, by first | exact .inl rfl | exact .inr rfl, .inl rfl⟩ (de_slice (de_cal C_law_shuffled hgd hr (by decide) rfl (da_cons (de_of (pv 0)) (da_cons (de_of (pv 3)) da_nil))) do_none (do_some (de_of (pv 4)))))
      (dss_cons (ds_set (i := 7) ⟨sc_law_filled.nd, rfl, by first | exact .inl rfl | exact .inr rfl, .inl rfl⟩ (de_blt cd_sortS cr_sortedS rfl T.m_sorted boot_sorted (da_cons (de_lc (own := [("word", 8)]) rfl sc_law_filled.nd (blkOk_by (N := ["draws", "world", "hole", "some", "count", "k", "picked", "titles", "word", "numbers"]) (sc := defScope s_law_filled) (by decide +kernel)) (di_list (de_of (pv 6))) (fun b => dge_name (i := 8) ⟨sc_law_filled.nd, rfl, by first | exact .inl rfl | exact .inr rfl, by first | exact .inr rfl | exact .inl rfl⟩ (by decide)) (fun b => dts_one (dt_val (de_blt cd_isi call_isiD rfl T.m_isinstance boot_isinstance (da_cons (de_of (pv 8)) (da_cons (de_c (pe_bltn (v := .ty "str") rfl T.m_str boot_str rfl) fun _ => .op _) da_nil))))) (fun b => (de_of (pv 8)))) da_nil)))
      (dss_cons (ds_set (i := 9) ⟨sc_law_filled.nd, rfl, by first | exact .inl rfl | exact .inr rfl, .inl rfl⟩ (de_blt cd_sortD (call_sortD hr.units) rfl T.m_sorted boot_sorted (da_cons (de_lc (own := [("word", 8)]) rfl sc_law_filled.nd (blkOk_by (N := ["draws", "world", "hole", "some", "count", "k", "picked", "titles", "word", "numbers"]) (sc := defScope s_law_filled) (by decide +kernel)) (di_list (de_of (pv 6))) (fun b => dge_name (i := 8) ⟨sc_law_filled.nd, rfl, by first | exact .inl rfl | exact .inr rfl, by first | exact .inr rfl | exact .inl rfl⟩ (by decide)) (fun b => dts_one (dt_not (dt_val (de_blt cd_isi call_isiD rfl T.m_isinstance boot_isinstance (da_cons (de_of (pv 8)) (da_cons (de_c (pe_bltn (v := .ty "str") rfl T.m_str boot_str rfl) fun _ => .op _) da_nil)))))) (fun b => (de_of (pv 8)))) da_nil)))
      (dss_one (ds_ret (de_typ cd_tup call_tuple_ofN rfl T.m_tuple boot_tuple (da_cons (de_op od_add op_addD (de_of (pv 9)) (de_of (pv 7))) da_nil))))))))))), ?_⟩
  obtain ⟨da, ca, ss, x, ws, n, crew, ho, rfl, rfl, hx, ok, hn, oh, hcr, hne, h⟩ := h
  simp only [Hole.d]
  walk_at "vc"
  refine ⟨_, atI_nat (j := 3) rfl, ?_⟩
  have hwl := ok.few
  have gl : ho.goals.length ≤ 17 := by
    have := nodup_le ho.goals ("" :: crew) oh.up.nodup fun g hg => (oh.mem g hg).elim (fun z => by rw [z]; exact List.mem_cons_self) (fun z => List.mem_cons_of_mem _ z)
    rw [List.length_cons] at this
    omega
  refine ⟨_, ws, ho.goals, rfl, hx, ok.nd, by omega, gl, fun ys hp hr => ?_⟩
  have nys : ∀ y ∈ ys, NmS y := fun y hy => by
    obtain ⟨q, hq, rfl⟩ := List.mem_map.mp (hp.mem_iff.mp hy)
    exact ok.nm q hq
  have okf := fitL_ok (ws := ws) (goals := ho.goals) nys
  have hk := fitK_ok (goals := ho.goals) hp
  have kn := fitK_nd (ws := ws) (goals := ho.goals) hr.nodup
  have yl : ys.length ≤ 24 := by rw [hp.length_eq, List.length_map]; omega
  have kl : (fitK ws ho.goals ys).length ≤ 28 := by
    unfold fitK numsK
    rw [List.length_append, List.length_map]
    have := List.length_filter_le (fits ws ho.goals) ys
    split
    · show _ + 4 ≤ 28; omega
    · show _ + 0 ≤ 28; omega
  have ne1 : ho.form = "one" → fitK ws ho.goals ys ≠ [] := fun z e => by
    have := (fitL_nil (goals := ho.goals) hp).mp (by rw [fitL_keys, e]; rfl)
    exact this (hne z)
  rw [fitL_keys] at okf ⊢
  generalize fitK ws ho.goals ys = ks at okf hk kn kl ne1
  refine ⟨.str ho.form, atI_nat (j := 2) rfl, _, rfl, ?_⟩
  cases ef : decide (ho.form = "one") with
  | true =>
    rw [if_pos (by decide)]
    have e1 := of_decide_eq_true ef
    refine ⟨da, ca, rfl, .inl ⟨_, .inl rfl, (fun z => ne1 e1 (List.map_eq_nil_iff.mp z)), by rw [List.length_map]; omega, fun y hy => ?_⟩⟩
    obtain ⟨k, hkm, rfl⟩ := List.mem_map.mp hy
    exact h (.one k) ⟨fun _ => ⟨k, rfl, hk k hkm⟩, fun z => absurd e1 z⟩
  | false =>
    rw [if_neg (by decide)]
    have n1 := of_decide_eq_false ef
    refine ⟨fun ρ => ∃ c : Nat, c ≤ 4 ∧ (0 < c → ks ≠ []) ∧ ρ = [.dat (.op (.ref da)), .dat x, .dat (.tup [.str ho.nm, .str ho.whn, .str ho.form, .tup (ho.goals.map D.str)]), .dat (.lst (ks.map keyV)), .dat (.int c), .no, .no, .no, .no, .no], ⟨by decide, (eqOk_all okf).1, eqOk_nil, _, rfl, ?_⟩, fun ρ' hI => ?_⟩
    · cases ek : ks with
      | nil =>
        rw [show eqD (.lst (List.map keyV [])) (.lst []) = true from eqD_nil, if_neg (by decide)]
        exact ⟨0, by omega, fun z => absurd z (by omega), rfl⟩
      | cons k r =>
        rw [show eqD (.lst (List.map keyV (k :: r))) (.lst []) = false from eqD_cons_nil, if_pos (by decide)]
        refine ⟨by decide, da, ca, rfl, .inl ⟨_, .inl rfl, (by intro z; cases z), by decide, fun y hy => ?_⟩⟩
        obtain ⟨c, hc, rfl⟩ := of6 y hy
        exact ⟨c, hc, fun _ z => (by cases z), rfl⟩
    · obtain ⟨c, hc, hc0, rfl⟩ := hI
      refine ⟨_, rfl, .str ho.form, atI_nat (j := 2) rfl, _, rfl, ?_⟩
      cases er : decide (ho.form = "row") with
      | true =>
        rw [if_pos (by decide)]
        have e2 := of_decide_eq_true er
        refine ⟨_, rfl, _, rfl, by omega, by omega, by simp [rngD]; omega, ?_⟩
        refine lc_any (fun y => ∃ k, y = keyV k ∧ k ∈ ks) _ [] _ (fun d hd Q q => ?_) (ge_mono 5) (fun zs zl zr => ?_)
        · have cp : 0 < c := by
            apply Classical.byContradiction
            intro z
            have : c = 0 := by omega
            subst this
            cases hd
          walk_at "vc"
          refine ⟨da, ca, rfl, .inl ⟨_, .inl rfl, (fun z => hc0 cp (List.map_eq_nil_iff.mp z)), by rw [List.length_map]; omega, fun y hy => ?_⟩⟩
          obtain ⟨k, hkm, rfl⟩ := List.mem_map.mp hy
          exact q _ ⟨k, rfl, hkm⟩
        · rw [List.nil_append]
          obtain ⟨kz, rfl⟩ := back_of (f := keyV) fun d hd => let ⟨k, e, _⟩ := zr d hd; ⟨k, e⟩
          have kzl : kz.length ≤ 4 := by simp [rngD] at zl; omega
          refine h (.many kz) ⟨fun z => absurd z n1, fun _ => ⟨kz, rfl, kzl, fun k hkz => ?_, fun z => ?_⟩⟩
          · obtain ⟨k', e, hk'⟩ := zr (keyV k) (List.mem_map.mpr ⟨k, hkz, rfl⟩)
            have e3 := congrArg L3.keyOf e
            rw [keyOf_keyV, keyOf_keyV] at e3
            rw [e3]; exact hk k' hk'
          · rw [z] at e2; exact absurd e2 (by decide +kernel)
      | false =>
        rw [if_neg (by decide)]
        have n2 := of_decide_eq_false er
        refine ⟨_, rfl, _, rfl, da, ca, _, rfl, rfl, by rw [List.length_map]; omega, okf, fun zs hz => ?_⟩
        obtain ⟨k2, rfl, p2⟩ := perm_back keyOf_keyV hz
        refine ⟨_, rfl, _, rfl, ?_⟩
        simp only [fSl, cut_take, ← List.map_take]
        have s3 : (k2.take c).Sublist k2 := List.take_sublist _ _
        have l3 : (k2.take c).length ≤ 4 := by rw [List.length_take]; omega
        have n3 : (k2.take c).Nodup := (p2.nodup_iff.mpr kn).sublist s3
        have m3 : ∀ k ∈ k2.take c, wordOk ws ho.goals k := fun k hk3 => hk k (p2.mem_iff.mp (s3.subset hk3))
        generalize k2.take c = k3 at l3 n3 m3
        obtain ⟨pl3, pn3⟩ := parts_of k3
        obtain ⟨nn, nt⟩ := pn3 n3
        refine ⟨_, rfl, _, rfl, by rw [List.length_map]; omega, ?_⟩
        refine lc_listF isNm keyV keyV k3 [] _ (fun k hk3 Q R q1 q2 => ?_) ?_
        · cases k with
          | inl i => walk_at "vc"; exact ⟨"int", rfl, by decide, _, rfl, by rw [if_neg (by decide)]; exact q2 rfl⟩
          | inr u => walk_at "vc"; exact ⟨"str", rfl, by decide, _, rfl, by rw [if_pos (by decide)]; exact q1 rfl⟩
        · rw [List.nil_append, names_flt]
          refine ⟨namesOf k3, rfl, by omega, fun ts tp tsr => ?_⟩
          refine ⟨_, rfl, _, rfl, by rw [List.length_map]; omega, ?_⟩
          refine lc_listF (fun k => !isNm k) keyV keyV k3 [] _ (fun k hk3 Q R q1 q2 => ?_) ?_
          · cases k with
            | inl i => walk_at "vc"; exact ⟨"int", rfl, by decide, _, rfl, by rw [if_pos (by decide)]; exact q1 rfl⟩
            | inr u => walk_at "vc"; exact ⟨"str", rfl, by decide, _, rfl, by rw [if_neg (by decide)]; exact q2 rfl⟩
          · rw [List.nil_append, nums_flt]
            refine ⟨srt_ints, ?_⟩
            obtain ⟨js, e, jp, jw⟩ := sortD_ints (numsOf k3)
            rw [e]
            have jl := jp.length_eq
            have tl := tp.length_eq
            refine ⟨_, rfl, _, rfl, by rw [List.length_map, List.length_map]; omega, ?_⟩
            have ee : js.map D.int ++ ts.map D.str = (js.map Sum.inl ++ ts.map Sum.inr : List Key).map keyV := by
              rw [List.map_append, List.map_map, List.map_map]; rfl
            show R (.tup (js.map D.int ++ ts.map D.str))
            rw [ee]
            refine h (.many (js.map Sum.inl ++ ts.map Sum.inr)) ⟨fun z => absurd z n1, fun _ => ⟨_, rfl, by rw [List.length_append, List.length_map, List.length_map]; omega, fun k hk4 => ?_, fun _ => ⟨js, ts, rfl, lt_of_le_nd jw (jp.nodup_iff.mpr nn), sorted_rising tp tsr nt⟩⟩⟩
            rcases List.mem_append.mp hk4 with hk4 | hk4
            · obtain ⟨i, hi, rfl⟩ := List.mem_map.mp hk4
              exact m3 _ (mem_nums (jp.mem_iff.mp hi))
            · obtain ⟨u, hu, rfl⟩ := List.mem_map.mp hk4
              exact m3 _ (mem_names (tp.mem_iff.mp hu))
end
end LW
namespace LW
open PySem PySem.Spec PyProof.Rows L2 L3
local macro_rules | `(tactic| walk_at "vc") => `(tactic| simp only [sSeq, sNx, sBk, sCt, sSet, sIf, sRet, sRetN, sPar, sFor, sExp, dVar, dC, dOp, dCall, dCons, dNil, dTup, dLst, bOr, bNot, bAnd, bYes, dB, dTru, dOrT, dAndT, dNotT, dIf, dChain, view, frz, view1, frz1, startD, List.map_cons, List.map_nil, List.map_append, List.cons_append, List.nil_append, List.length_cons, List.length_nil, List.replicate, List.getElem?_cons_zero, List.getElem?_cons_succ, Option.some.injEq, exists_eq_left', exists_eq_left, gNm, geNm, iTx, iSq, iRg, dLc, List.set_cons_zero, List.set_cons_succ, wipeE, dSl, oNone, oSome, D.int.injEq, D.str.injEq, dJoin, dDnew, dDisp, dPairs, dNeg, sPars, kNil, kDat, kOwn, oLst, oDic, oLstOf, setRho, sApp, sAppF, dDGet, dDIn, dFz, oDicOf, oDc, iKy, dItemsL, sFz, sDput, sAppPop, sOwnF, fitsR, dIsN, oListK, sForN, sForT, sCut])
abbrev s_law_world : Stmt := topS 48
theorem sc_law_world : FnScope ["draws", "sheets", "most", "some", "world", "title", "found", "holes", "hole"] ["draws", "sheets", "most"] (defScope s_law_world) := ⟨rfl, rfl, rfl, by decide +kernel, rfl, by decide +kernel, by decide +kernel⟩
section
variable {P : Program} {w : World} {K : PySem.W.Frag} {mg : Str → Option Value} {base : Heap}
/-! ### the objects of a graph -/
def fWorld : Cf → FN := fun C ds P => ∃ da ca ss, ∃ m : Nat, C = drw da ca ∧ ds = [.op (.ref da), .lst (ss.map Sheet.d), .int m] ∧ OkSheets ss ∧ m ≤ 15 ∧ ∀ os w, OkObs ss m os → P (.dcf w (os.map Ob.d))
theorem cal_law_world (T : Txw mg) (C_law_draw : Cal P w K mg base "_law_draw" 1 ["draws", "many"] fDraw) (C_law_pick : Cal P w K mg base "_law_pick" 2 ["draws", "some"] fPick) (C_law_labels : Cal P w K mg base "_law_labels" 3 ["draws", "many"] fLabels) (C_law_holes : Cal P w K mg base "_law_holes" 1 ["sheets", "label"] fHoles) (C_law_fillable : Cal P w K mg base "_law_fillable" 2 ["sheets", "world"] fFillable)
    (C_law_filled : Cal P w K mg base "_law_filled" 3 ["draws", "world", "hole"] fFilled) (d : Dfn K mg "_law_world" s_law_world ["draws", "sheets", "most"]) : Cal P w K mg base "_law_world" 4 ["draws", "sheets", "most"] fWorld := by
  refine cal_of d sc_law_world (fun C ds R h => by obtain ⟨_, _, _, _, _, rfl, _⟩ := h; rfl) fun f cdv A fr s H E hgd hr C ds R h => ⟨_, (dss_cons (ds_set (i := 3) ⟨sc_law_world.nd, rfl, by first | exact .inl rfl | exact .inr rfl, .inl rfl⟩ (de_cal C_law_labels hgd hr (by decide) rfl (da_cons (de_of (pv 0)) (da_cons (de_cal C_law_draw hgd hr (by decide) rfl (da_cons (de_of (pv 0)) (da_cons (de_op od_add op_addD (de_of (pv 2)) de_int) da_nil))) da_nil))))
      (dss_cons (ds_set (i := 4) ⟨sc_law_world.nd, rfl, by first | exact .inl rfl | exact .inr rfl, .inl rfl⟩ (de_cal C_law_fillable hgd hr (by decide) rfl (da_cons (de_of (pv 1)) (da_cons (de_fz (df_dicOf rfl rfl T.m_dict (da_cons (de_lc (own := [("title", 5)]) rfl sc_law_world.nd (blkOk_by (N := ["draws", "sheets", "most", "some", "world", "title", "found", "holes", "hole"]) (sc := defScope s_law_world) (by decide +kernel)) (di_list (de_of (pv 3))) (fun b => dge_name (i := 5) ⟨sc_law_world.nd, rfl, by first | exact .inl rfl | exact .inr rfl, by first | exact .inr rfl | exact .inl rfl⟩ (by decide)) (fun b => dts_nil) (fun b => (de_tup (da_cons (de_of (pv 5)) (da_cons (de_ix od_ix ix_seq (de_cal C_law_pick hgd hr (by decide) rfl (da_cons (de_of (pv 0)) (da_cons (de_of (pv 1)) da_nil))) de_int) da_nil))))) da_nil))) da_nil))))
      (dss_cons (ds_ownF (i := 6) ⟨sc_law_world.nd, rfl, by first | exact .inl rfl | exact .inr rfl, .inl rfl⟩ df_dic)
      (dss_cons (ds_for PassesOwn.never rfl (di_keys (de_of (pv 4))) (dg_name (i := 5) ⟨sc_law_world.nd, rfl, by first | exact .inl rfl | exact .inr rfl, .inl rfl⟩) (dss_cons (ds_set (i := 7) ⟨sc_law_world.nd, rfl, by first | exact .inl rfl | exact .inr rfl, .inl rfl⟩ (de_cal C_law_holes hgd hr (by decide) rfl (da_cons (de_of (pv 1)) (da_cons (de_dget hr.units (de_of (pv 4)) (de_of (pv 5))) da_nil))))
      (dss_one (ds_dput (i := 6) hr.units (pv 6) (de_of (pv 5)) (de_tup (da_cons (de_dget hr.units (de_of (pv 4)) (de_of (pv 5))) (da_cons (de_typ cd_tup call_tuple_ofN rfl T.m_tuple boot_tuple (da_cons (de_lc (own := [("hole", 8)]) rfl sc_law_world.nd (blkOk_by (N := ["draws", "sheets", "most", "some", "world", "title", "found", "holes", "hole"]) (sc := defScope s_law_world) (by decide +kernel)) (di_tup (de_of (pv 7))) (fun b => dge_name (i := 8) ⟨sc_law_world.nd, rfl, by first | exact .inl rfl | exact .inr rfl, by first | exact .inr rfl | exact .inl rfl⟩ (by decide)) (fun b => dts_nil) (fun b => (de_cal C_law_filled hgd hr (by decide) rfl (da_cons (de_of (pv 0)) (da_cons (de_of (pv 4)) (da_cons (de_of (pv 8)) da_nil)))))) da_nil)) da_nil)))))))
      (dss_one (ds_fz 6 (ds_ret (de_of (pv 6))))))))), ?_⟩
  obtain ⟨da, ca, ss, m, rfl, rfl, hs, hm, h⟩ := h
  have hsf := hs.few
  walk_at "vc"
  refine ⟨da, ca, m + 1, rfl, rfl, by omega, by omega, fun r r0 r1 => ?_⟩
  refine ⟨da, ca, r.toNat, rfl, by rw [Int.toNat_of_nonneg r0], by omega, fun xs xl xnd xnm => ?_⟩
  refine ⟨_, rfl, by rw [List.length_map]; omega, ?_⟩
  refine lc_two D.str (fun x y => ∃ s ∈ ss, y = pairV (wD (x, some (Sheet.lb s)))) xs [] _ (fun t ht Q q => ?_) (fun zs hz => ?_)
  · walk_at "vc"
    refine ⟨da, ca, rfl, .inl ⟨_, .inl rfl, (fun z => by have := hs.pos; rw [List.map_eq_nil_iff.mp z] at this; cases this), by rw [List.length_map]; omega, fun y hy => ?_⟩⟩
    obtain ⟨s, hsm, rfl⟩ := List.mem_map.mp hy
    exact ⟨.str s.lb, atI_nat (j := 0) rfl, by decide, q _ ⟨s, hsm, rfl⟩⟩
  · rw [List.nil_append]
    obtain ⟨ws0, rfl, e0, c0⟩ := two_ws hz
    have nd0 : (ws0.map (·.1)).Nodup := by rw [e0]; exact xnd
    have wl0 : ws0.length ≤ m := by have := congrArg List.length e0; rw [List.length_map] at this; omega
    have ok0 : OkW ss m ws0 := ⟨nd0, wl0, fun p hp => xnm p.1 (by rw [← e0]; exact List.mem_map.mpr ⟨p, hp, rfl⟩), c0⟩
    refine ⟨ws0.map wD, by rw [List.map_map]; rfl, fun w0 => ?_⟩
    rw [mergeD_nd (wKeys_nd nd0)]
    refine ⟨ss, _, ws0, m, rfl, hs, rfl, ok0, by omega, fun ws w ok st => ?_⟩
    refine ⟨by decide, w, _, rfl, fun j ρ => ∃ (os : List Ob) (s5 s7 s8 : Sl), os.map Ob.nm = (ws.map (·.1)).take j ∧ (∀ o ∈ os, (o.nm, some o.cl.lb) ∈ ws ∧ o.cl ∈ ss ∧ Two (OkCont ws) o.cl.holes o.cs) ∧ ρ = [.dat (.op (.ref da)), .dat (.lst (ss.map Sheet.d)), .dat (.int m), .dat (.lst (xs.map D.str)), .dat (.dcf w (ws.map wD)), s5, .owd (os.map Ob.d), s7, s8],
      ⟨[], _, _, _, rfl, (fun o ho => nomatch ho), rfl⟩, fun j t ρ' ht hI => ?_, fun ρ' hI => ?_⟩
    · obtain ⟨os, s5, s7, s8, h1, h2, rfl⟩ := hI
      rw [keysD_w, List.getElem?_map] at ht
      cases et : (ws.map (·.1))[j]? with
      | none => rw [et] at ht; cases ht
      | some tt =>
        rw [et] at ht
        cases ht
        obtain ⟨p0, hp0, e0⟩ := List.mem_map.mp (List.mem_of_getElem? et)
        subst e0
        obtain ⟨s, hsm, es⟩ := ok.cls p0 hp0
        have hget := wGet_of ok.nd hp0
        have gk : getK (ws.map wD) (.inr p0.1) = some (.str s.lb) := by rw [getK_w, hget, es]; rfl
        have osl := hs.sheet s hsm
        refine ⟨_, rfl, _, rfl, _, rfl, _, .inr p0.1, _, rfl, rfl, gk, ?_⟩
        refine ⟨ss, s, rfl, hs, hsm, ?_⟩
        refine ⟨_, rfl, ?_⟩
        refine ⟨_, rfl, _, rfl, _, .inr p0.1, _, rfl, rfl, gk, ?_⟩
        refine ⟨_, rfl, _, rfl, by rw [List.length_map]; have := osl.few; omega, ?_⟩
        refine lc_two Hole.d (fun h y => ∃ c, y = Cont.d c ∧ OkCont ws h c) s.holes [] _ (fun ho hh Q q => ?_) (fun zs hz => ?_)
        · walk_at "vc"
          exact ⟨da, ca, ss, _, ws, m, ss.map Sheet.lb, ho, rfl, rfl, rfl, ok, by omega, osl.hole ho hh, by rw [List.length_map]; omega, fun z => st p0 hp0 s hsm es ho hh z, fun c hc => q _ ⟨c, rfl, hc⟩⟩
        · rw [List.nil_append]
          obtain ⟨cs, rfl, hcs⟩ := two_conts hz
          have fz : frzD (.tup [.str s.lb, .tup (cs.map Cont.d)]) = true := frz_ob ⟨p0.1, s, cs⟩
          have nj : p0.1 ∉ os.map Ob.nm := by rw [h1]; exact not_before ok.nd et
          have ol : os.length ≤ 24 := by
            have := congrArg List.length h1
            rw [List.length_map, List.length_take, List.length_map] at this
            have := ok.few
            omega
          refine ⟨by decide, fz, _, rfl, _, rfl, by rw [List.length_map]; omega, os ++ [⟨p0.1, s, cs⟩], .dat (.str p0.1), .dat (.tup (s.holes.map Hole.d)), s8, ?_, fun o ho => ?_, ?_⟩
          · rw [List.map_append, h1, List.take_add_one, et]; rfl
          · rcases List.mem_append.mp ho with ho | ho
            · exact h2 o ho
            · rw [List.mem_singleton.mp ho]
              exact ⟨by rw [← es]; exact hp0, hsm, hcs⟩
          · rw [putD_new (by rw [ob_keys]; intro z; obtain ⟨x, hx, e⟩ := List.mem_map.mp z; exact nj (Sum.inr.inj e ▸ hx)), List.map_append]
            rfl
    · obtain ⟨os, s5, s7, s8, h1, h2, rfl⟩ := hI
      refine ⟨_, rfl, fun w2 => ⟨_, rfl, h os w2 ?_⟩⟩
      have kl : (keysD (ws.map wD)).length = (ws.map (·.1)).length := by rw [keysD_w, List.length_map]
      rw [kl, List.take_length] at h1
      have ew : wOf os = ws := same_ws ok.nd ((wOf_fst os).trans h1) fun p hp => by
        obtain ⟨o, ho, rfl⟩ := List.mem_map.mp hp
        exact (h2 o ho).1
      have ol : os.length = ws.length := by have := congrArg List.length h1; rwa [List.length_map, List.length_map] at this
      refine ⟨by rw [h1]; exact ok.nd, by have := ok.few; omega, fun o ho => ok.nm _ (h2 o ho).1, fun o ho => (h2 o ho).2.1, fun o ho => ?_⟩
      rw [ew]
      exact (h2 o ho).2.2
end
end LW
namespace LW
open PySem PySem.Spec PyProof.Rows L2 L3
local macro_rules | `(tactic| walk_at "vc") => `(tactic| simp only [sSeq, sNx, sBk, sCt, sSet, sIf, sRet, sRetN, sPar, sFor, sExp, dVar, dC, dOp, dCall, dCons, dNil, dTup, dLst, bOr, bNot, bAnd, bYes, dB, dTru, dOrT, dAndT, dNotT, dIf, dChain, view, frz, view1, frz1, startD, List.map_cons, List.map_nil, List.map_append, List.cons_append, List.nil_append, List.length_cons, List.length_nil, List.replicate, List.getElem?_cons_zero, List.getElem?_cons_succ, Option.some.injEq, exists_eq_left', exists_eq_left, gNm, geNm, iTx, iSq, iRg, dLc, List.set_cons_zero, List.set_cons_succ, wipeE, dSl, oNone, oSome, D.int.injEq, D.str.injEq, dJoin, dDnew, dDisp, dPairs, dNeg, sPars, kNil, kDat, kOwn, oLst, oDic, oLstOf, setRho, sApp, sAppF, dDGet, dDIn, dFz, oDicOf, oDc, iKy, dItemsL, sFz, sDput, sAppPop, sOwnF, fitsR, dIsN, oListK, sForN, sForT, sCut, iZp])
abbrev s_is_whole : Stmt := topS 14
theorem sc_is_whole : FnScope ["thing", "least", "most"] ["thing", "least", "most"] (defScope s_is_whole) := ⟨rfl, rfl, rfl, by decide +kernel, rfl, by decide +kernel, by decide +kernel⟩
abbrev s_is_number : Stmt := topS 26
theorem sc_is_number : FnScope ["thing"] ["thing"] (defScope s_is_number) := ⟨rfl, rfl, rfl, by decide +kernel, rfl, by decide +kernel, by decide +kernel⟩
abbrev s_place_in_set : Stmt := topS 27
theorem sc_place_in_set : FnScope ["word"] ["word"] (defScope s_place_in_set) := ⟨rfl, rfl, rfl, by decide +kernel, rfl, by decide +kernel, by decide +kernel⟩
abbrev s_is_word : Stmt := topS 31
theorem sc_is_word : FnScope ["thing"] ["thing"] (defScope s_is_word) := ⟨rfl, rfl, rfl, by decide +kernel, rfl, by decide +kernel, by decide +kernel⟩
abbrev s_words_of : Stmt := topS 32
theorem sc_words_of : FnScope ["form", "content"] ["form", "content"] (defScope s_words_of) := ⟨rfl, rfl, rfl, by decide +kernel, rfl, by decide +kernel, by decide +kernel⟩
abbrev s_is_allowed_word : Stmt := topS 34
theorem sc_is_allowed_word : FnScope ["objects", "targets", "word"] ["objects", "targets", "word"] (defScope s_is_allowed_word) := ⟨rfl, rfl, rfl, by decide +kernel, rfl, by decide +kernel, by decide +kernel⟩
abbrev s_is_content : Stmt := topS 30
theorem sc_is_content : FnScope ["form", "thing", "word"] ["form", "thing"] (defScope s_is_content) := ⟨rfl, rfl, rfl, by decide +kernel, rfl, by decide +kernel, by decide +kernel⟩
theorem boot_bool : bootBuiltins "bool" = some (.type "bool") := by decide +kernel
/-- what the graphs' defs find in their module -/
structure Txgr (mg : Str → Option Value) : Prop where
  m_len : mg "len" = none
  m_isinstance : mg "isinstance" = none
  m_str : mg "str" = none
  m_int : mg "int" = none
  m_bool : mg "bool" = none
  m_dict : mg "dict" = none
  m_all : mg "all" = none
  m_list : mg "list" = none
  m_tuple : mg "tuple" = none
  m_sorted : mg "sorted" = none
  m_zip : mg "zip" = none
  v_LARGEST_NUMBER : ∃ t, mg "LARGEST_NUMBER" = some (.int 999 t)
  v_MOST_OBJECTS : ∃ t, mg "MOST_OBJECTS" = some (.int 24 t)
  v_MOST_WORDS : ∃ t, mg "MOST_WORDS" = some (.int 4 t)
section
variable {P : Program} {w : World} {K : PySem.W.Frag} {mg : Str → Option Value} {base : Heap}
/-! ### words -/
def wOk : Key → Prop
  | .inl i => -999 ≤ i ∧ i ≤ 999
  | .inr t => NmS t
def numK (lo hi : Int) : Key → Bool
  | .inl i => decide (lo ≤ i) && decide (i ≤ hi)
  | .inr _ => false
def fIsWhole : Cf → FN := fun C ds P => ∃ k lo hi, ds = [keyV k, .int lo, .int hi] ∧ P (.bl (numK lo hi k))
theorem cal_is_whole (T : Txgr mg) (d : Dfn K mg "is_whole" s_is_whole ["thing", "least", "most"]) : Cal P w K mg base "is_whole" 1 ["thing", "least", "most"] fIsWhole := by
  refine cal_of d sc_is_whole (fun C ds R h => by obtain ⟨_, _, _, rfl, _⟩ := h; rfl) fun f cdv A fr s H E hgd hr C ds R h => ⟨_, (dss_one (ds_ret (de_andT (de_blt cd_isi call_isiD rfl T.m_isinstance boot_isinstance (da_cons (de_of (pv 0)) (da_cons (de_c (pe_bltn (v := .ty "int") rfl T.m_int boot_int rfl) fun _ => .op _) da_nil))) (de_andT (de_notT (de_blt cd_isi call_isiD rfl T.m_isinstance boot_isinstance (da_cons (de_of (pv 0)) (da_cons (de_c (pe_bltn (v := .ty "bool") rfl T.m_bool boot_bool rfl) fun _ => .op _) da_nil)))) (de_one (de_chain od_ord od_ord op_leD op_leD (de_of (pv 1)) (de_of (pv 0)) (de_of (pv 2)))))))), ?_⟩
  obtain ⟨k, lo, hi, rfl, h⟩ := h
  cases k with
  | inl i =>
    simp only [keyV]
    walk_at "vc"
    have h : R (.bl (decide (lo ≤ i) && decide (i ≤ hi))) := h
    refine ⟨"int", rfl, by decide, _, rfl, ?_⟩
    rw [if_pos (by decide)]
    refine ⟨"int", rfl, by decide, _, rfl, true, rfl, ?_⟩
    rw [if_pos rfl]
    refine ⟨decide (lo ≤ i), rfl, ?_⟩
    by_cases e : lo ≤ i
    · rw [decide_eq_true e] at h ⊢
      rw [if_pos rfl]
      exact h
    · rw [decide_eq_false e] at h ⊢
      rw [if_neg Bool.false_ne_true]
      exact h
  | inr t =>
    simp only [keyV]
    walk_at "vc"
    refine ⟨"str", rfl, by decide, _, rfl, ?_⟩
    rw [if_neg (by decide)]
    exact h
def fIsNumber : Cf → FN := fun C ds P => ∃ k, ds = [keyV k] ∧ P (.bl (numK (-999) 999 k))
theorem cal_is_number (T : Txgr mg) (C_is_whole : Cal P w K mg base "is_whole" 1 ["thing", "least", "most"] fIsWhole) (d : Dfn K mg "is_number" s_is_number ["thing"]) : Cal P w K mg base "is_number" 2 ["thing"] fIsNumber := by
  obtain ⟨tL, e_LARGEST_NUMBER⟩ := T.v_LARGEST_NUMBER
  refine cal_of d sc_is_number (fun C ds R h => by obtain ⟨_, rfl, _⟩ := h; rfl) fun f cdv A fr s H E hgd hr C ds R h => ⟨_, (dss_one (ds_ret (de_cal C_is_whole hgd hr (by decide) rfl (da_cons (de_of (pv 0)) (da_cons (de_neg (de_c (pe_glob (v := .int 999) rfl e_LARGEST_NUMBER ⟨_, rfl⟩) fun _ => .int _)) (da_cons (de_c (pe_glob (v := .int 999) rfl e_LARGEST_NUMBER ⟨_, rfl⟩) fun _ => .int _) da_nil)))))), ?_⟩
  obtain ⟨k, rfl, h⟩ := h
  walk_at "vc"
  exact ⟨k, -999, 999, rfl, h⟩
def fPlace : Cf → FN := fun C ds P => ∃ k, ds = [keyV k] ∧ P (wPair k)
theorem cal_place_in_set (T : Txgr mg) (d : Dfn K mg "place_in_set" s_place_in_set ["word"]) : Cal P w K mg base "place_in_set" 1 ["word"] fPlace := by
  refine cal_of d sc_place_in_set (fun C ds R h => by obtain ⟨_, rfl, _⟩ := h; rfl) fun f cdv A fr s H E hgd hr C ds R h => ⟨_, (dss_one (ds_ret (de_tup (da_cons (de_blt cd_isi call_isiD rfl T.m_isinstance boot_isinstance (da_cons (de_of (pv 0)) (da_cons (de_c (pe_bltn (v := .ty "str") rfl T.m_str boot_str rfl) fun _ => .op _) da_nil))) (da_cons (de_of (pv 0)) da_nil))))), ?_⟩
  obtain ⟨k, rfl, h⟩ := h
  cases k with
  | inl i =>
    simp only [keyV]
    walk_at "vc"
    exact ⟨"int", rfl, by decide, by decide, by rw [show isTy "int" "str" = false by decide]; exact h⟩
  | inr u =>
    simp only [keyV]
    walk_at "vc"
    exact ⟨"str", rfl, by decide, by decide, by rw [show isTy "str" "str" = true by decide]; exact h⟩
def fIsWord : Cf → FN := fun C ds P => ∃ k, ds = [keyV k] ∧ wOk k ∧ P (.bl true)
theorem cal_is_word (C_is_number : Cal P w K mg base "is_number" 2 ["thing"] fIsNumber) (C_is_name : Cal P w K mg base "is_name" 1 ["thing"] fIsName) (d : Dfn K mg "_is_word" s_is_word ["thing"]) : Cal P w K mg base "_is_word" 3 ["thing"] fIsWord := by
  refine cal_of d sc_is_word (fun C ds R h => by obtain ⟨_, rfl, _⟩ := h; rfl) fun f cdv A fr s H E hgd hr C ds R h => ⟨_, (dss_one (ds_ret (de_orT (de_cal C_is_number hgd hr (by decide) rfl (da_cons (de_of (pv 0)) da_nil)) (de_one (de_cal C_is_name hgd hr (by decide) rfl (da_cons (de_of (pv 0)) da_nil)))))), ?_⟩
  obtain ⟨k, rfl, hk, h⟩ := h
  walk_at "vc"
  refine ⟨k, rfl, ?_⟩
  cases k with
  | inl i =>
    have hk : -999 ≤ i ∧ i ≤ 999 := hk
    have e : numK (-999) 999 (.inl i) = true := by unfold numK; simp only [decide_eq_true hk.1, decide_eq_true hk.2, Bool.and_self]
    rw [e]
    refine ⟨true, rfl, ?_⟩
    rw [if_pos rfl]
    exact h
  | inr t =>
    refine ⟨false, rfl, ?_⟩
    rw [if_neg Bool.false_ne_true]
    have hk : NmS t := hk
    exact ⟨.str t, rfl, nm_okV hk, by rw [nm_is hk]; exact h⟩
/-! ### words in order -/
def fAscW : Cf → FN := fun C ds P => ∃ ks : List Key, ds = [.lst (ks.map wPair)] ∧ ks.length ≤ 1000 ∧ ks.Pairwise (fun a b => ltW a b = true) ∧ P (.bl true)
theorem cal_asc_words (T : Txs K mg) (d : Dfn K mg "is_ascending" s_is_ascending ["items"]) : Cal P w K mg base "is_ascending" 1 ["items"] fAscW := by
  refine cal_of d sc_is_ascending (fun C ds R h => by obtain ⟨xs, rfl, _⟩ := h; rfl) fun f cdv A fr s H E hgd hr C ds R h => ⟨_, (dss_one (ds_ret (de_blt cd_all (cr_all rfl) rfl T.m_all boot_all (da_cons (de_lc (own := [("at", 1)]) rfl sc_is_ascending.nd (blkOk_by (N := ["items", "at"]) (sc := defScope s_is_ascending) (by decide +kernel)) (di_rng rfl T.m_range (da_cons (de_op od_sub op_sub (de_blt cd_len call_lenAll rfl T.m_len boot_len (da_cons (de_of (pv 0)) da_nil)) de_int) da_nil)) (fun b => dge_name (i := 1) ⟨sc_is_ascending.nd, rfl, by first | exact .inl rfl | exact .inr rfl, by first | exact .inr rfl | exact .inl rfl⟩ (by decide)) (fun b => dts_nil) (fun b => (de_cmp od_ltW (op_ltW hr.units) (nomark _) (de_ix od_ix ix_seq (de_of (pv 0)) (de_of (pv 1))) (de_ix od_ix ix_seq (de_of (pv 0)) (de_op od_add op_addD (de_of (pv 1)) de_int))))) da_nil)))), ?_⟩
  obtain ⟨xs, rfl, hl, hup, h⟩ := h
  walk_at "vc"
  refine ⟨xs.length, by show some (xs.map wPair).length = _; rw [List.length_map], ?_⟩
  refine ⟨trivial, _, rfl, by show -2 ^ 62 ≤ ((xs.length : Int) - 1); omega, by show ((xs.length : Int) - 1) < 2 ^ 62; omega, by simp [rngD]; omega, ?_⟩
  have hrn : ∀ d ∈ rngD 0 ((xs.length : Int) - 1).toNat, ∃ i : Nat, i + 1 < xs.length ∧ d = .int i := fun d hd => by
    unfold rngD at hd
    obtain ⟨i, hi, rfl⟩ := List.mem_map.mp hd
    rw [List.mem_range] at hi
    exact ⟨i, by omega, by rw [show (0 : Int) + (i : Int) = i by omega]⟩
  refine lc_map (fun _ => .bl true) _ [] _ (fun d hd Q q => ?_) (ge_mono 1) ?_
  · obtain ⟨i, hi, rfl⟩ := hrn d hd
    walk_at "vc"
    have e1 : (xs.map wPair)[i]? = some (wPair xs[i]) := by rw [List.getElem?_map, List.getElem?_eq_getElem (by omega)]; rfl
    have e2 : (xs.map wPair)[i + 1]? = some (wPair xs[i + 1]) := by rw [List.getElem?_map, List.getElem?_eq_getElem hi]; rfl
    refine ⟨wPair xs[i], atI_nat e1, wPair xs[i + 1], by rw [show ((i : Int) + 1) = ((i + 1 : Nat) : Int) by omega]; exact atI_nat e2, xs[i], xs[i + 1], rfl, rfl, ?_⟩
    have hlt := List.pairwise_iff_getElem.mp hup i (i + 1) (by omega) hi (by omega)
    rw [hlt]
    exact q
  · refine ⟨List.replicate (rngD 0 ((xs.length : Int) - 1).toNat).length true, ?_, ?_⟩
    · rw [List.nil_append, List.map_const', List.map_replicate]
    · rw [List.all_replicate]
      split
      · exact h
      · exact h
/-! ### contents -/
def wordsC : Cont → List Key
  | .one k => [k]
  | .many ks => ks
structure OkForm (form : Str) (c : Cont) : Prop where
  one : form = "one" → ∃ k, c = .one k ∧ wOk k
  many : form ≠ "one" → ∃ ks, c = .many ks ∧ ks.length ≤ 4 ∧ (∀ k ∈ ks, wOk k) ∧ (form ≠ "row" → ks.Pairwise fun a b => ltW a b = true)
def fWordsOf : Cf → FN := fun C ds P => ∃ form c, ds = [.str form, Cont.d c] ∧ OkForm form c ∧ P (.tup ((wordsC c).map keyV))
theorem cal_words_of (d : Dfn K mg "_words_of" s_words_of ["form", "content"]) : Cal P w K mg base "_words_of" 1 ["form", "content"] fWordsOf := by
  refine cal_of d sc_words_of (fun C ds R h => by obtain ⟨_, _, rfl, _⟩ := h; rfl) fun f cdv A fr s H E hgd hr C ds R h => ⟨_, (dss_one (ds_ret (de_if (dt_cmp od_eq (op_eqb hr.units) (nomark _) (de_of (pv 0)) de_str) (de_tup (da_cons (de_of (pv 1)) da_nil)) (de_of (pv 1))))), ?_⟩
  obtain ⟨form, c, rfl, hf, h⟩ := h
  walk_at "vc"
  refine ⟨_, rfl, ?_⟩
  cases e : decide (form = "one") with
  | true =>
    rw [if_pos (by decide)]
    obtain ⟨k, rfl, _⟩ := hf.one (of_decide_eq_true e)
    exact ⟨by decide, h⟩
  | false =>
    rw [if_neg (by decide)]
    obtain ⟨ks, rfl, _⟩ := hf.many (of_decide_eq_false e)
    exact h
def fIsContent : Cf → FN := fun C ds P => ∃ form c, ds = [.str form, Cont.d c] ∧ OkForm form c ∧ P (.bl true)
theorem cal_is_content (T : Txgr mg) (C_is_word : Cal P w K mg base "_is_word" 3 ["thing"] fIsWord) (C_place_in_set : Cal P w K mg base "place_in_set" 1 ["word"] fPlace) (C_is_ascending : Cal P w K mg base "is_ascending" 1 ["items"] fAscW) (d : Dfn K mg "_is_content" s_is_content ["form", "thing"]) : Cal P w K mg base "_is_content" 4 ["form", "thing"] fIsContent := by
  obtain ⟨tM, e_MOST_WORDS⟩ := T.v_MOST_WORDS
  refine cal_of d sc_is_content (fun C ds R h => by obtain ⟨_, _, rfl, _⟩ := h; rfl) fun f cdv A fr s H E hgd hr C ds R h => ⟨_, (dss_cons (ds_if (dt_cmp od_eq (op_eqb hr.units) (nomark _) (de_of (pv 0)) de_str) (dss_one (ds_ret (de_cal C_is_word hgd hr (by decide) rfl (da_cons (de_of (pv 1)) da_nil)))) dss_nil)
      (dss_cons (ds_if (dt_w (dw_or (dt_not (dt_val (de_blt cd_isi call_isiD rfl T.m_isinstance boot_isinstance (da_cons (de_of (pv 1)) (da_cons (de_c (pe_bltn (v := .ty "tuple") rfl T.m_tuple boot_tuple rfl) fun _ => .op _) da_nil))))) (dw_or1 (dt_cmp od_ord op_gtD (nomark _) (de_blt cd_len call_lenAll rfl T.m_len boot_len (da_cons (de_of (pv 1)) da_nil)) (de_c (pe_glob (v := .int 4) rfl e_MOST_WORDS ⟨_, rfl⟩) fun _ => .int _))))) (dss_one (ds_ret de_bl)) dss_nil)
      (dss_cons (ds_if (dt_not (dt_val (de_blt cd_all (cr_all rfl) rfl T.m_all boot_all (da_cons (de_lc (own := [("word", 2)]) rfl sc_is_content.nd (blkOk_by (N := ["form", "thing", "word"]) (sc := defScope s_is_content) (by decide +kernel)) (di_tup (de_of (pv 1))) (fun b => dge_name (i := 2) ⟨sc_is_content.nd, rfl, by first | exact .inl rfl | exact .inr rfl, by first | exact .inr rfl | exact .inl rfl⟩ (by decide)) (fun b => dts_nil) (fun b => (de_cal C_is_word hgd hr (by decide) rfl (da_cons (de_of (pv 2)) da_nil)))) da_nil)))) (dss_one (ds_ret de_bl)) dss_nil)
      (dss_one (ds_ret (de_orT (de_cmp od_eq (op_eqb hr.units) (nomark _) (de_of (pv 0)) de_str) (de_one (de_cal C_is_ascending hgd hr (by decide) rfl (da_cons (de_lc (own := [("word", 2)]) rfl sc_is_content.nd (blkOk_by (N := ["form", "thing", "word"]) (sc := defScope s_is_content) (by decide +kernel)) (di_tup (de_of (pv 1))) (fun b => dge_name (i := 2) ⟨sc_is_content.nd, rfl, by first | exact .inl rfl | exact .inr rfl, by first | exact .inr rfl | exact .inl rfl⟩ (by decide)) (fun b => dts_nil) (fun b => (de_cal C_place_in_set hgd hr (by decide) rfl (da_cons (de_of (pv 2)) da_nil)))) da_nil))))))))), ?_⟩
  obtain ⟨form, c, rfl, hf, h⟩ := h
  walk_at "vc"
  refine ⟨_, rfl, ?_⟩
  cases e : decide (form = "one") with
  | true =>
    rw [if_pos (by decide)]
    obtain ⟨k, rfl, hk⟩ := hf.one (of_decide_eq_true e)
    exact ⟨k, rfl, hk, h⟩
  | false =>
    rw [if_neg (by decide)]
    obtain ⟨ks, rfl, hl, hw, hs⟩ := hf.many (of_decide_eq_false e)
    simp only [Cont.d]
    refine ⟨"tuple", rfl, by decide, _, rfl, ?_⟩
    rw [if_neg (by decide)]
    refine ⟨ks.length, by show some (ks.map keyV).length = _; rw [List.length_map], _, rfl, ?_⟩
    rw [if_neg (by rw [decide_eq_true_eq]; omega)]
    refine ⟨_, rfl, _, rfl, by rw [List.length_map]; omega, ?_⟩
    refine lc_list keyV (fun _ => .bl true) ks [] _ (fun k hk Q q => ?_) (ge_mono 2) ?_
    · walk_at "vc"
      exact ⟨k, rfl, hw k hk, q⟩
    · rw [List.nil_append]
      refine ⟨List.replicate ks.length true, by rw [List.map_const', List.map_replicate], true, ?_, ?_⟩
      · rw [List.all_replicate]
        split <;> rfl
      · rw [if_neg (by decide)]
        refine ⟨_, rfl, ?_⟩
        cases e2 : decide (form = "row") with
        | true => rw [if_pos (by decide)]; exact h
        | false =>
          rw [if_neg (by decide)]
          refine ⟨_, rfl, _, rfl, by rw [List.length_map]; omega, ?_⟩
          refine lc_list keyV wPair ks [] _ (fun k hk Q q => ?_) (ge_mono 2) ?_
          · walk_at "vc"
            exact ⟨k, rfl, q⟩
          · exact ⟨ks, rfl, by omega, hs (of_decide_eq_false e2), h⟩
end
end LW
namespace LW
open PySem PySem.Spec PyProof.Rows L2 L3
local macro_rules | `(tactic| walk_at "vc") => `(tactic| simp only [sSeq, sNx, sBk, sCt, sSet, sIf, sRet, sRetN, sPar, sFor, sExp, dVar, dC, dOp, dCall, dCons, dNil, dTup, dLst, bOr, bNot, bAnd, bYes, dB, dTru, dOrT, dAndT, dNotT, dIf, dChain, view, frz, view1, frz1, startD, List.map_cons, List.map_nil, List.map_append, List.cons_append, List.nil_append, List.length_cons, List.length_nil, List.replicate, List.getElem?_cons_zero, List.getElem?_cons_succ, Option.some.injEq, exists_eq_left', exists_eq_left, gNm, geNm, iTx, iSq, iRg, dLc, List.set_cons_zero, List.set_cons_succ, wipeE, dSl, oNone, oSome, D.int.injEq, D.str.injEq, dJoin, dDnew, dDisp, dPairs, dNeg, sPars, kNil, kDat, kOwn, oLst, oDic, oLstOf, setRho, sApp, sAppF, dDGet, dDIn, dFz, oDicOf, oDc, iKy, dItemsL, sFz, sDput, sAppPop, sOwnF, fitsR, dIsN, oListK, sForN, sForT, sCut, iZp, dMeth, dFld])
abbrev s_is_allowed_object : Stmt := topS 33
theorem sc_is_allowed_object : FnScope ["schema", "objects", "pair", "slot", "content", "word"] ["schema", "objects", "pair"] (defScope s_is_allowed_object) := ⟨rfl, rfl, rfl, by decide +kernel, rfl, by decide +kernel, by decide +kernel⟩
section
variable {P : Program} {w : World} {K : PySem.W.Frag} {mg : Str → Option Value} {base : Heap}
theorem getK_ob : ∀ {os : List Ob}, (os.map Ob.nm).Nodup → ∀ {o : Ob}, o ∈ os → getK (os.map Ob.d) (.inr o.nm) = some o.v
  | [], _, _, h => by cases h
  | p :: r, nd, o, h => by
    have nd := List.nodup_cons.mp nd
    have ih := @getK_ob r nd.2
    unfold getK at ih ⊢
    rw [List.map_cons, List.find?_cons]
    rcases List.mem_cons.mp h with rfl | h
    · rw [show decide ((Ob.d o).1 = .inr o.nm) = true from decide_eq_true rfl]; rfl
    · have ne : ¬ (Ob.d p).1 = .inr o.nm := fun z => nd.1 (by rw [show p.nm = o.nm from Sum.inr.inj z]; exact List.mem_map.mpr ⟨o, h, rfl⟩)
      rw [decide_eq_false ne]
      exact ih h
theorem fits_ob {os : List Ob} (nd : (os.map Ob.nm).Nodup) {goals : List Str} {t : Str} (h : t ∈ (wOf os).map (·.1)) (f : fits (wOf os) goals t = true) : ∃ o ∈ os, o.nm = t ∧ o.cl.lb ∈ goals := by
  rw [wOf_fst] at h
  obtain ⟨o, ho, rfl⟩ := List.mem_map.mp h
  refine ⟨o, ho, rfl, ?_⟩
  have z := wGet_of (ws := wOf os) (by rw [wOf_fst]; exact nd) (p := (o.nm, some o.cl.lb)) (List.mem_map.mpr ⟨o, ho, rfl⟩)
  unfold fits at f
  rw [z] at f
  exact of_decide_eq_true f
/-! ### words that a slot may have -/
def fAllowedWord : Cf → FN := fun C ds P => ∃ x os goals k, ds = [x, .tup (goals.map D.str), keyV k] ∧ dicOf x = some (os.map Ob.d) ∧ (os.map Ob.nm).Nodup ∧ wordOk (wOf os) goals k ∧ P (.bl true)
theorem cal_is_allowed_word (T : Txgr mg) (d : Dfn K mg "is_allowed_word" s_is_allowed_word ["objects", "targets", "word"]) : Cal P w K mg base "is_allowed_word" 1 ["objects", "targets", "word"] fAllowedWord := by
  refine cal_of d sc_is_allowed_word (fun C ds R h => by obtain ⟨_, _, _, _, rfl, _⟩ := h; rfl) fun f cdv A fr s H E hgd hr C ds R h => ⟨_, (dss_cons (ds_if (dt_val (de_blt cd_isi call_isiD rfl T.m_isinstance boot_isinstance (da_cons (de_of (pv 2)) (da_cons (de_c (pe_bltn (v := .ty "int") rfl T.m_int boot_int rfl) fun _ => .op _) da_nil)))) (dss_one (ds_ret (de_cmp od_inQ op_inQ (by with_unfolding_all rfl) de_str (de_of (pv 1))))) dss_nil)
      (dss_one (ds_ret (de_andT (de_din hr.units (de_of (pv 2)) (de_of (pv 0))) (de_one (de_cmp od_inQ op_inQ (by with_unfolding_all rfl) (de_ix od_ix ix_seq (de_dget hr.units (de_of (pv 0)) (de_of (pv 2))) de_int) (de_of (pv 1)))))))), ?_⟩
  obtain ⟨x, os, goals, k, rfl, hx, nd, hk, h⟩ := h
  cases k with
  | inl i =>
    have hk : ("" : Str) ∈ goals ∧ -999 ≤ i ∧ i ≤ 999 := hk
    simp only [keyV]
    walk_at "vc"
    refine ⟨"int", rfl, by decide, _, rfl, ?_⟩
    rw [if_pos (by decide)]
    refine ⟨goals, rfl, ?_⟩
    rw [decide_eq_true hk.1]
    exact h
  | inr t =>
    obtain ⟨o, ho, rfl, hg⟩ := fits_ob nd hk.1 hk.2
    have gk := getK_ob nd ho
    simp only [keyV]
    walk_at "vc"
    refine ⟨"str", rfl, by decide, _, rfl, ?_⟩
    rw [if_neg (by decide)]
    refine ⟨_, .inr o.nm, hx, rfl, true, by rw [gk]; rfl, ?_⟩
    rw [if_pos rfl]
    refine ⟨_, .inr o.nm, _, hx, rfl, gk, .str o.cl.lb, atI_nat (j := 0) rfl, goals, rfl, ?_⟩
    rw [decide_eq_true hg]
    exact h
/-! ### objects whose words are allowed -/
theorem okForm {os : List Ob} {crew : List Str} {ho : Hole} {c : Cont} (oh : OkHole crew ho) (nm : ∀ o ∈ os, NmS o.nm) (h : OkCont (wOf os) ho c) : OkForm ho.form c := by
  have wk : ∀ k, wordOk (wOf os) ho.goals k → wOk k := fun k hk => by
    cases k with
    | inl i => exact hk.2
    | inr t =>
      have z := hk.1
      rw [wOf_fst] at z
      obtain ⟨o, h1, rfl⟩ := List.mem_map.mp z
      exact nm o h1
  refine ⟨fun e => ?_, fun e => ?_⟩
  · obtain ⟨k, rfl, hk⟩ := h.one e
    exact ⟨k, rfl, wk k hk⟩
  · obtain ⟨ks, rfl, hl, hk, hs⟩ := h.many e
    refine ⟨ks, rfl, hl, fun k z => wk k (hk k z), fun nr => ?_⟩
    have es : ho.form = "set" := by
      rcases oh.form with z | z | z
      · exact absurd z e
      · exact absurd z nr
      · exact z
    obtain ⟨js, ts, rfl, h1, h2⟩ := hs es
    refine List.pairwise_append.mpr ⟨?_, ?_, fun a ha b hb => ?_⟩
    · rw [List.pairwise_map]
      exact h1.imp fun {a b} z => decide_eq_true z
    · rw [List.pairwise_map]
      exact h2.imp fun {a b} z => decide_eq_true (show a.cps.toList < b.cps.toList from z)
    · obtain ⟨i, _, rfl⟩ := List.mem_map.mp ha
      obtain ⟨u, _, rfl⟩ := List.mem_map.mp hb
      rfl
theorem two_get {α β : Type} {R : α → β → Prop} : ∀ {l : List α} {m : List β} {i : Nat} {a : α} {b : β}, Two R l m → l[i]? = some a → m[i]? = some b → R a b
  | _, _, _, _, _, .nil, e, _ => by simp at e
  | _, _, 0, _, _, .cons h _, e, e2 => by
    cases (show some _ = some _ from e)
    cases (show some _ = some _ from e2)
    exact h
  | _, _, i + 1, _, _, .cons _ t, e, e2 => two_get (i := i) t (by simpa using e) (by simpa using e2)
theorem words_ok {ws : Wl} {ho : Hole} {c : Cont} (h : OkCont ws ho c) : ∀ k ∈ wordsC c, wordOk ws ho.goals k := fun k hk => by
  by_cases e : ho.form = "one"
  · obtain ⟨k', rfl, h1⟩ := h.one e
    rw [List.mem_singleton.mp hk]; exact h1
  · obtain ⟨ks, rfl, _, h1, _⟩ := h.many e
    exact h1 k hk
theorem words_few {form : Str} {c : Cont} (h : OkForm form c) : (wordsC c).length ≤ 4 := by
  by_cases e : form = "one"
  · obtain ⟨k, rfl, _⟩ := h.one e; show 1 ≤ 4; omega
  · obtain ⟨ks, rfl, hl, _⟩ := h.many e; exact hl
def fAllowedObject (a_Schema : Addr) : Cf → FN := fun C ds P => ∃ ss x os o, ds = [schemaD a_Schema ss, x, Ob.v o] ∧ dicOf x = some (os.map Ob.d) ∧ OkSheets ss ∧ (os.map Ob.nm).Nodup ∧ (∀ o ∈ os, NmS o.nm) ∧ o.cl ∈ ss ∧ Two (OkCont (wOf os)) o.cl.holes o.cs ∧ P (.bl true)
theorem cal_is_allowed_object {a_Schema : Addr} (T : Txgr mg) (M_slots : MetI P w K mg base 1 a_Schema "slots" (fSlots a_Schema)) (C_words_of : Cal P w K mg base "_words_of" 1 ["form", "content"] fWordsOf) (C_is_allowed_word : Cal P w K mg base "is_allowed_word" 1 ["objects", "targets", "word"] fAllowedWord)
    (d : Dfn K mg "_is_allowed_object" s_is_allowed_object ["schema", "objects", "pair"]) : Cal P w K mg base "_is_allowed_object" 2 ["schema", "objects", "pair"] (fAllowedObject a_Schema) := by
  refine cal_of d sc_is_allowed_object (fun C ds R h => by obtain ⟨_, _, _, _, rfl, _⟩ := h; rfl) fun f cdv A fr s H E hgd hr C ds R h => ⟨_, (dss_cons (ds_for PassesOwn.never rfl (di_zip rfl T.m_zip (da_cons (de_met M_slots hgd hr (by decide) (de_of (pv 0)) (da_cons (de_ix od_ix ix_seq (de_of (pv 2)) de_int) da_nil)) (da_cons (de_ix od_ix ix_seq (de_of (pv 2)) de_int) da_nil))) (dg_tup rfl (dgs_cons (i := 3) ⟨sc_is_allowed_object.nd, rfl, by first | exact .inl rfl | exact .inr rfl, .inl rfl⟩ (dgs_cons (i := 4) ⟨sc_is_allowed_object.nd, rfl, by first | exact .inl rfl | exact .inr rfl, .inl rfl⟩ dgs_nil))) (dss_one (ds_if (dt_not (dt_val (de_blt cd_all (cr_all rfl) rfl T.m_all boot_all (da_cons (de_lc (own := [("word", 5)]) rfl sc_is_allowed_object.nd (blkOk_by (N := ["schema", "objects", "pair", "slot", "content", "word"]) (sc := defScope s_is_allowed_object) (by decide +kernel)) (di_tup (de_cal C_words_of hgd hr (by decide) rfl (da_cons (de_ix od_ix ix_seq (de_of (pv 3)) de_int) (da_cons (de_of (pv 4)) da_nil)))) (fun b => dge_name (i := 5) ⟨sc_is_allowed_object.nd, rfl, by first | exact .inl rfl | exact .inr rfl, by first | exact .inr rfl | exact .inl rfl⟩ (by decide)) (fun b => dts_nil) (fun b => (de_cal C_is_allowed_word hgd hr (by decide) rfl (da_cons (de_of (pv 1)) (da_cons (de_ix od_ix ix_seq (de_of (pv 3)) de_int) (da_cons (de_of (pv 5)) da_nil)))))) da_nil)))) (dss_one (ds_ret de_bl)) dss_nil)))
      (dss_one (ds_ret de_bl))), ?_⟩
  obtain ⟨ss, x, os, o, rfl, hx, hs, nd, nm, hc, two, h⟩ := h
  have osl := hs.sheet o.cl hc
  simp only [Ob.v]
  walk_at "vc"
  refine ⟨_, rfl, rfl, .str o.cl.lb, atI_nat (j := 0) rfl, ss, o.cl, rfl, hs, hc, ?_⟩
  refine ⟨_, atI_nat (j := 1) rfl, _, _, rfl, ?_⟩
  refine ⟨fun i ρ => ∃ s3 s4 : Sl, ρ = [.dat (schemaD a_Schema ss), .dat x, .dat (.tup [.str o.cl.lb, .tup (o.cs.map Cont.d)]), s3, s4, .no], ⟨_, _, rfl⟩, fun i d ρ' hd hI => ?_, fun ρ' hI => h⟩
  obtain ⟨s3, s4, rfl⟩ := hI
  unfold zipD at hd
  rw [List.getElem?_zipWith, List.getElem?_map, List.getElem?_map] at hd
  cases e1 : o.cl.holes[i]? with
  | none => rw [e1] at hd; cases hd
  | some ho =>
    cases e2 : o.cs[i]? with
    | none => rw [e1, e2] at hd; cases hd
    | some c =>
      rw [e1, e2] at hd
      cases hd
      have hk := two_get two e1 e2
      have oh := osl.hole ho (List.mem_of_getElem? e1)
      have okf := okForm oh nm hk
      have wl := words_few okf
      refine ⟨_, rfl, ?_⟩
      simp only [Hole.d, gNms]
      refine ⟨_, rfl, .str ho.form, atI_nat (j := 2) rfl, _, rfl, ho.form, c, rfl, okf, _, rfl, by rw [List.length_map]; omega, ?_⟩
      refine lc_list keyV (fun _ => .bl true) (wordsC c) [] _ (fun k hk2 Q q => ?_) (ge_mono 5) ?_
      · walk_at "vc"
        exact ⟨_, atI_nat (j := 3) rfl, x, os, ho.goals, k, rfl, hx, nd, words_ok hk k hk2, q⟩
      · rw [List.nil_append]
        refine ⟨List.replicate (wordsC c).length true, by rw [List.map_const', List.map_replicate], true, ?_, ?_⟩
        · rw [List.all_replicate]; split <;> rfl
        · rw [if_neg (by decide)]
          exact ⟨_, _, rfl⟩
end
end LW
namespace LW
open PySem PySem.Spec PyProof.Rows L2 L3
local macro_rules | `(tactic| walk_at "vc") => `(tactic| simp only [sSeq, sNx, sBk, sCt, sSet, sIf, sRet, sRetN, sPar, sFor, sExp, dVar, dC, dOp, dCall, dCons, dNil, dTup, dLst, bOr, bNot, bAnd, bYes, dB, dTru, dOrT, dAndT, dNotT, dIf, dChain, view, frz, view1, frz1, startD, List.map_cons, List.map_nil, List.map_append, List.cons_append, List.nil_append, List.length_cons, List.length_nil, List.replicate, List.getElem?_cons_zero, List.getElem?_cons_succ, Option.some.injEq, exists_eq_left', exists_eq_left, gNm, geNm, iTx, iSq, iRg, dLc, List.set_cons_zero, List.set_cons_succ, wipeE, dSl, oNone, oSome, D.int.injEq, D.str.injEq, dJoin, dDnew, dDisp, dPairs, dNeg, sPars, kNil, kDat, kOwn, oLst, oDic, oLstOf, setRho, sApp, sAppF, dDGet, dDIn, dFz, oDicOf, oDc, iKy, dItemsL, sFz, sDput, sAppPop, sOwnF, fitsR, dIsN, oListK, sForN, sForT, sCut, iZp, dMeth, dFld, sAsg, gTp, gNms])
abbrev s_is_object : Stmt := topS 29
theorem sc_is_object : FnScope ["schema", "thing", "class_name", "contents", "slots", "slot", "content"] ["schema", "thing"] (defScope s_is_object) := ⟨rfl, rfl, rfl, by decide +kernel, rfl, by decide +kernel, by decide +kernel⟩
abbrev s_has_names : Stmt := topS 28
theorem sc_has_names : FnScope ["thing", "key"] ["thing"] (defScope s_has_names) := ⟨rfl, rfl, rfl, by decide +kernel, rfl, by decide +kernel, by decide +kernel⟩
section
variable {P : Program} {w : World} {K : PySem.W.Frag} {mg : Str → Option Value} {base : Heap}
/-! ### names of objects -/
def fHasNames : Cf → FN := fun C ds P => ∃ (w : Fz) (os : List Ob), ds = [.dcf w (os.map Ob.d)] ∧ os.length ≤ 24 ∧ (∀ o ∈ os, NmS o.nm) ∧ P (.bl true)
theorem cal_has_names (T : Txgr mg) (C_is_name : Cal P w K mg base "is_name" 1 ["thing"] fIsName) (d : Dfn K mg "_has_names" s_has_names ["thing"]) : Cal P w K mg base "_has_names" 2 ["thing"] fHasNames := by
  obtain ⟨tM, e_MOST_OBJECTS⟩ := T.v_MOST_OBJECTS
  refine cal_of d sc_has_names (fun C ds R h => by obtain ⟨_, _, rfl, _⟩ := h; rfl) fun f cdv A fr s H E hgd hr C ds R h => ⟨_, (dss_cons (ds_if (dt_w (dw_or (dt_not (dt_val (de_blt cd_isi call_isiD rfl T.m_isinstance boot_isinstance (da_cons (de_of (pv 0)) (da_cons (de_c (pe_bltn (v := .ty "dict") rfl T.m_dict PyProof.Rows.boot_dict rfl) fun _ => .op _) da_nil))))) (dw_or1 (dt_cmp od_ord op_gtD (nomark _) (de_blt cd_len call_lenAll rfl T.m_len boot_len (da_cons (de_of (pv 0)) da_nil)) (de_c (pe_glob (v := .int 24) rfl e_MOST_OBJECTS ⟨_, rfl⟩) fun _ => .int _))))) (dss_one (ds_ret de_bl)) dss_nil)
      (dss_one (ds_ret (de_blt cd_all (cr_all rfl) rfl T.m_all boot_all (da_cons (de_lc (own := [("key", 1)]) rfl sc_has_names.nd (blkOk_by (N := ["thing", "key"]) (sc := defScope s_has_names) (by decide +kernel)) (di_keys (de_of (pv 0))) (fun b => dge_name (i := 1) ⟨sc_has_names.nd, rfl, by first | exact .inl rfl | exact .inr rfl, by first | exact .inr rfl | exact .inl rfl⟩ (by decide)) (fun b => dts_nil) (fun b => (de_cal C_is_name hgd hr (by decide) rfl (da_cons (de_of (pv 1)) da_nil)))) da_nil))))), ?_⟩
  obtain ⟨w, os, rfl, hl, nm, h⟩ := h
  walk_at "vc"
  refine ⟨"dict", rfl, by decide, _, rfl, ?_⟩
  rw [if_neg (by decide)]
  refine ⟨os.length, by show some (os.map Ob.d).length = _; rw [List.length_map], _, rfl, ?_⟩
  rw [if_neg (by rw [decide_eq_true_eq]; omega)]
  have ek : keysD (os.map Ob.d) = os.map fun o => D.str o.nm := by
    unfold keysD
    rw [List.map_map]; rfl
  refine ⟨w, _, rfl, ?_⟩
  rw [ek]
  refine ⟨by rw [List.length_map]; omega, ?_⟩
  refine lc_list (fun o => D.str (Ob.nm o)) (fun _ => .bl true) os [] _ (fun o ho Q q => ?_) (ge_mono 1) ?_
  · walk_at "vc"
    exact ⟨_, rfl, nm_okV (nm o ho), by rw [nm_is (nm o ho)]; exact q⟩
  · rw [List.nil_append]
    refine ⟨List.replicate os.length true, by rw [List.map_const', List.map_replicate], ?_⟩
    rw [List.all_replicate]
    split <;> exact h
/-! ### objects of their form -/
theorem zipD_map : ∀ (hs : List Hole) (cs : List Cont), zipD (hs.map Hole.d) (cs.map Cont.d) = (hs.zip cs).map fun p => D.tup [p.1.d, p.2.d]
  | [], _ => rfl
  | _ :: _, [] => rfl
  | h :: hs, c :: cs => by
    have ih := zipD_map hs cs
    unfold zipD at ih ⊢
    rw [List.map_cons, List.map_cons, List.zipWith_cons_cons, ih]
    rfl
theorem two_zip {α β : Type} {R : α → β → Prop} : ∀ {l : List α} {m : List β}, Two R l m → ∀ {p : α × β}, p ∈ l.zip m → R p.1 p.2
  | _, _, .nil, p, hp => by cases hp
  | _, _, .cons h t, p, hp => by
    rw [List.zip_cons_cons] at hp
    rcases List.mem_cons.mp hp with rfl | hp
    · exact h
    · exact two_zip t hp
def fIsObject (a_Schema : Addr) : Cf → FN := fun C ds P => ∃ ss o, ds = [schemaD a_Schema ss, Ob.v o] ∧ OkSheets ss ∧ o.cl ∈ ss ∧ Two (fun (h : Hole) c => OkForm h.form c) o.cl.holes o.cs ∧ P (.bl true)
theorem cal_is_object {a_Schema : Addr} (T : Txgr mg) (P_names : PropI P w K mg base 1 a_Schema "names" "_names") (M_slots : MetI P w K mg base 1 a_Schema "slots" (fSlots a_Schema)) (C_is_content : Cal P w K mg base "_is_content" 4 ["form", "thing"] fIsContent)
    (d : Dfn K mg "_is_object" s_is_object ["schema", "thing"]) : Cal P w K mg base "_is_object" 5 ["schema", "thing"] (fIsObject a_Schema) := by
  refine cal_of d sc_is_object (fun C ds R h => by obtain ⟨_, _, rfl, _⟩ := h; rfl) fun f cdv A fr s H E hgd hr C ds R h => ⟨_, (dss_cons (ds_if (dt_w (dw_or (dt_not (dt_val (de_blt cd_isi call_isiD rfl T.m_isinstance boot_isinstance (da_cons (de_of (pv 1)) (da_cons (de_c (pe_bltn (v := .ty "tuple") rfl T.m_tuple boot_tuple rfl) fun _ => .op _) da_nil))))) (dw_or1 (dt_cmp od_ne (op_neb hr.units) (nomark _) (de_blt cd_len call_lenAll rfl T.m_len boot_len (da_cons (de_of (pv 1)) da_nil)) de_int)))) (dss_one (ds_ret de_bl)) dss_nil)
      (dss_cons (ds_asg (de_of (pv 1)) (dg_tup rfl (dgs_cons (i := 2) ⟨sc_is_object.nd, rfl, by first | exact .inl rfl | exact .inr rfl, .inl rfl⟩ (dgs_cons (i := 3) ⟨sc_is_object.nd, rfl, by first | exact .inl rfl | exact .inr rfl, .inl rfl⟩ dgs_nil))))
      (dss_cons (ds_if (dt_w (dw_or (dt_cmp od_inQ op_notInQ (by with_unfolding_all rfl) (de_of (pv 2)) (de_prop P_names hr (by decide) (de_of (pv 0)))) (dw_or1 (dt_not (dt_val (de_blt cd_isi call_isiD rfl T.m_isinstance boot_isinstance (da_cons (de_of (pv 3)) (da_cons (de_c (pe_bltn (v := .ty "tuple") rfl T.m_tuple boot_tuple rfl) fun _ => .op _) da_nil)))))))) (dss_one (ds_ret de_bl)) dss_nil)
      (dss_cons (ds_set (i := 4) ⟨sc_is_object.nd, rfl, by first | exact .inl rfl | exact .inr rfl, .inl rfl⟩ (de_met M_slots hgd hr (by decide) (de_of (pv 0)) (da_cons (de_of (pv 2)) da_nil)))
      (dss_cons (ds_if (dt_cmp od_ne (op_neb hr.units) (nomark _) (de_blt cd_len call_lenAll rfl T.m_len boot_len (da_cons (de_of (pv 3)) da_nil)) (de_blt cd_len call_lenAll rfl T.m_len boot_len (da_cons (de_of (pv 4)) da_nil))) (dss_one (ds_ret de_bl)) dss_nil)
      (dss_one (ds_ret (de_blt cd_all (cr_all rfl) rfl T.m_all boot_all (da_cons (de_lc (own := [("slot", 5), ("content", 6)]) rfl sc_is_object.nd (blkOk_by (N := ["schema", "thing", "class_name", "contents", "slots", "slot", "content"]) (sc := defScope s_is_object) (by decide +kernel)) (di_zip rfl T.m_zip (da_cons (de_of (pv 4)) (da_cons (de_of (pv 3)) da_nil))) (fun b => dge_tup rfl (dges_cons (i := 5) ⟨sc_is_object.nd, rfl, by first | exact .inl rfl | exact .inr rfl, by first | exact .inr rfl | exact .inl rfl⟩ (by decide) (dges_cons (i := 6) ⟨sc_is_object.nd, rfl, by first | exact .inl rfl | exact .inr rfl, by first | exact .inr rfl | exact .inl rfl⟩ (by decide) dges_nil))) (fun b => dts_nil) (fun b => (de_cal C_is_content hgd hr (by decide) rfl (da_cons (de_ix od_ix ix_seq (de_of (pv 5)) de_int) (da_cons (de_of (pv 6)) da_nil))))) da_nil))))))))), ?_⟩
  obtain ⟨ss, o, rfl, hs, hc, two, h⟩ := h
  have osl := hs.sheet o.cl hc
  simp only [Ob.v]
  walk_at "vc"
  refine ⟨"tuple", rfl, by decide, _, rfl, ?_⟩
  rw [if_neg (by decide)]
  refine ⟨2, rfl, _, rfl, ?_⟩
  rw [if_neg (by decide)]
  refine ⟨_, rfl, ?_⟩
  simp only [gNms]
  walk_at "vc"
  refine ⟨_, _, rfl, rfl, ss.map Sheet.lb, rfl, _, rfl, ?_⟩
  have hm : o.cl.lb ∈ ss.map Sheet.lb := List.mem_map.mpr ⟨o.cl, hc, rfl⟩
  rw [decide_eq_true hm, if_neg (by decide)]
  refine ⟨"tuple", rfl, by decide, _, rfl, ?_⟩
  rw [if_neg (by decide)]
  refine ⟨_, rfl, rfl, ss, o.cl, rfl, hs, hc, ?_⟩
  refine ⟨o.cs.length, by show some (o.cs.map Cont.d).length = _; rw [List.length_map], o.cl.holes.length, by show some (o.cl.holes.map Hole.d).length = _; rw [List.length_map], _, rfl, ?_⟩
  rw [if_neg (by rw [two.len]; simp)]
  have few := osl.few
  have zl : (o.cl.holes.zip o.cs).length ≤ 4 := by rw [List.length_zip]; omega
  refine ⟨_, _, rfl, ?_⟩
  rw [zipD_map]
  refine ⟨by rw [List.length_map]; omega, ?_⟩
  refine lc_list (fun p : Hole × Cont => D.tup [p.1.d, p.2.d]) (fun _ => .bl true) (o.cl.holes.zip o.cs) [] _ (fun p hp Q q => ?_) (gtp_mono [5, 6]) ?_
  · simp only [Hole.d]
    refine ⟨_, rfl, ?_⟩
    simp only [geNms]
    walk_at "vc"
    exact ⟨.str p.1.form, atI_nat (j := 2) rfl, p.1.form, p.2, rfl, two_zip two hp, q⟩
  · rw [List.nil_append]
    refine ⟨List.replicate (o.cl.holes.zip o.cs).length true, by rw [List.map_const', List.map_replicate], ?_⟩
    rw [List.all_replicate]
    split <;> exact h
end
end LW
namespace LW
open PySem PySem.Spec PyProof.Rows L2 L3
local macro_rules | `(tactic| walk_at "vc") => `(tactic| simp only [sSeq, sNx, sBk, sCt, sSet, sIf, sRet, sRetN, sPar, sFor, sExp, dVar, dC, dOp, dCall, dCons, dNil, dTup, dLst, bOr, bNot, bAnd, bYes, dB, dTru, dOrT, dAndT, dNotT, dIf, dChain, view, frz, view1, frz1, startD, List.map_cons, List.map_nil, List.map_append, List.cons_append, List.nil_append, List.length_cons, List.length_nil, List.replicate, List.getElem?_cons_zero, List.getElem?_cons_succ, Option.some.injEq, exists_eq_left', exists_eq_left, gNm, geNm, iTx, iSq, iRg, dLc, List.set_cons_zero, List.set_cons_succ, wipeE, dSl, oNone, oSome, D.int.injEq, D.str.injEq, dJoin, dDnew, dDisp, dPairs, dNeg, sPars, kNil, kDat, kOwn, oLst, oDic, oLstOf, setRho, sApp, sAppF, dDGet, dDIn, dFz, oDicOf, oDc, iKy, dItemsL, sFz, sDput, sAppPop, sOwnF, fitsR, dIsN, oListK, sForN, sForT, sCut, iZp, dMeth, dFld, sAsg, gTp, gNms, sSetF, dStar, dLenSet, iVar, iTp, siSeq, siEnd, tfFld, tfEnd])
abbrev s_Graph_init : Stmt := (clsB (topS 25)).getD 0 (.Pass ⟨0, 0, 0, 0⟩)
theorem sc_Graph_init : FnScope ["self", "schema", "objects", "names", "name"] ["self", "schema", "objects"] (defScope s_Graph_init) := ⟨rfl, rfl, rfl, by decide +kernel, rfl, by decide +kernel, by decide +kernel⟩
section
variable {P : Program} {w : World} {K : PySem.W.Frag} {mg : Str → Option Value} {base : Heap}
/-! ### the graph itself -/
theorem perm_lift {α β : Type} {f : α → β} {m ys : List β} (h : m.Perm ys) : ∀ {l : List α}, l.map f = m → ∃ l' : List α, l'.Perm l ∧ l'.map f = ys := by
  induction h with
  | nil => intro l e; rw [List.map_eq_nil_iff.mp e]; exact ⟨[], .refl _, rfl⟩
  | cons x _ ih =>
    intro l e
    cases l with
    | nil => cases e
    | cons a r =>
      rw [List.map_cons] at e
      injection e with e1 e2
      obtain ⟨l', p, q⟩ := ih e2
      exact ⟨a :: l', p.cons a, by rw [List.map_cons, e1, q]⟩
  | swap x y m =>
    intro l e
    match l, e with
    | a :: b :: r, e =>
      rw [List.map_cons, List.map_cons] at e
      injection e with e1 e2
      injection e2 with e2 e3
      exact ⟨b :: a :: r, .swap _ _ _, by rw [List.map_cons, List.map_cons, e1, e2, e3]⟩
  | trans _ _ ih1 ih2 =>
    intro l e
    obtain ⟨l1, p1, q1⟩ := ih1 e
    obtain ⟨l2, p2, q2⟩ := ih2 q1
    exact ⟨l2, p2.trans p1, q2⟩
theorem two_mem {α β : Type} {R S : α → β → Prop} : ∀ {l : List α} {m : List β}, Two R l m → (∀ a b, a ∈ l → R a b → S a b) → Two S l m
  | _, _, .nil, _ => .nil
  | _, _, .cons h t, f => .cons (f _ _ List.mem_cons_self h) (two_mem t fun a b ha hb => f a b (List.mem_cons_of_mem _ ha) hb)
theorem dc_list {α : Type} {tg : TGe} {tk tv : TD} {E : En} (f : α → D) (kv : α → Key × D) (mono : ∀ d E (P Q : En → Prop), (∀ E', P E' → Q E') → tg d E P → tg d E Q) : ∀ (l : List α) (acc : List (Key × D)) (P : List (Key × D) → Prop), ((acc ++ l.map kv).map (·.1)).Nodup →
    (∀ a ∈ l, ∀ Q : Key → D → Prop, Q (kv a).1 (kv a).2 → tg (f a) E fun E' => tk E' fun y => ∃ k, keyD y = some k ∧ tv E' fun z => Q k z) → P (acc ++ l.map kv) → dcRun tg bYes tk tv E (l.map f) acc P
  | [], acc, P, _, _, hp => by simpa [dcRun] using hp
  | a :: r, acc, P, nd, h, hp => by
    have e : acc ++ (a :: r).map kv = (acc ++ [kv a]) ++ r.map kv := by rw [List.append_assoc]; rfl
    have nn : (kv a).1 ∉ acc.map (·.1) := by
      intro z
      rw [List.map_append, List.map_cons, List.map_cons] at nd
      exact (List.nodup_append.mp nd).2.2 _ z _ List.mem_cons_self rfl
    refine mono (f a) E _ _ (fun E' z => ?_) (h a List.mem_cons_self (fun k z => dcRun tg bYes tk tv E (r.map f) (putD acc k z) P) ?_)
    · show (if true = true then (tk E' fun y => ∃ k, keyD y = some k ∧ tv E' fun z => dcRun tg bYes tk tv E (r.map f) (putD acc k z) P) else dcRun tg bYes tk tv E (r.map f) acc P)
      rw [if_pos rfl]
      exact z
    · rw [putD_new nn]
      exact dc_list f kv mono r (acc ++ [kv a]) P (by rw [← e]; exact nd) (fun b hb => h b (List.mem_cons_of_mem _ hb)) (by rw [← e]; exact hp)
/-- a graph as a datum -/
def graphD (Gr Sc : Addr) (ss : List Sheet) (w : Fz) (os : List Ob) : D := .ins Gr [(.inr "_schema", schemaD Sc ss), (.inr "_objects", .dcf w (os.map Ob.d))]
def fGraph (Gr Sc : Addr) : Cf → FN := fun C ds P => ∃ (ss : List Sheet) (w : Fz) (os : List Ob) (n : Nat), ds = [schemaD Sc ss, .dcf w (os.map Ob.d)] ∧ OkSheets ss ∧ OkObs ss n os ∧ n ≤ 24 ∧ ∀ os' w', os'.Perm os → Rising (os'.map Ob.nm) → P (graphD Gr Sc ss w' os')
theorem init_graph {Gr Sc f : Addr} {fd : FuncData} (T : Txgr mg) (c_Graph : Cls K Gr) (n_schema : NoAttr K Gr "_schema") (n_objects : NoAttr K Gr "_objects") (C_has_names : Cal P w K mg base "_has_names" 2 ["thing"] fHasNames) (C_is_object : Cal P w K mg base "_is_object" 5 ["schema", "thing"] (fIsObject Sc))
    (C_is_allowed_object : Cal P w K mg base "_is_allowed_object" 2 ["schema", "objects", "pair"] (fAllowedObject Sc)) (FF : Fun K "__init__" "Graph.__init__" s_Graph_init f fd) : FnG P w K mg base CX0 6 f fd ["self", "schema", "objects"] (spI K Gr (fGraph Gr Sc)) := by
  refine init_ok FF sc_Graph_init (fun C ds R h => by obtain ⟨_, _, _, _, rfl, _⟩ := h; rfl) fun cdv A fr s H E hgd hr C0 ds R h y dx => ⟨_, (dsi_cons (ds_if (dt_not (dt_val (de_cal C_has_names hgd hr (by decide) rfl (da_cons (de_of (pv 2)) da_nil)))) (dss_one ds_dead) dss_nil)
      (dsi_cons (ds_set (i := 3) ⟨sc_Graph_init.nd, rfl, by first | exact .inl rfl | exact .inr rfl, .inl rfl⟩ (de_blt cd_sortK (call_sortedD rfl) rfl T.m_sorted boot_sorted (da_cons (de_of (pv 2)) da_nil)))
      (dsi_cons (ds_for PassesOwn.never rfl (di_list (de_of (pv 3))) (dg_name (i := 4) ⟨sc_Graph_init.nd, rfl, by first | exact .inl rfl | exact .inr rfl, .inl rfl⟩) (dss_one (ds_if (dt_not (dt_val (de_cal C_is_object hgd hr (by decide) rfl (da_cons (de_of (pv 1)) (da_cons (de_dget hr.units (de_of (pv 2)) (de_of (pv 4))) da_nil))))) (dss_one ds_dead) dss_nil)))
      (dsi_cons (ds_for PassesOwn.never rfl (di_list (de_of (pv 3))) (dg_name (i := 4) ⟨sc_Graph_init.nd, rfl, by first | exact .inl rfl | exact .inr rfl, .inl rfl⟩) (dss_one (ds_if (dt_not (dt_val (de_cal C_is_allowed_object hgd hr (by decide) rfl (da_cons (de_of (pv 1)) (da_cons (de_of (pv 2)) (da_cons (de_dget hr.units (de_of (pv 2)) (de_of (pv 4))) da_nil)))))) (dss_one ds_dead) dss_nil)))
      (dsi_end (ti_cons c_Graph n_schema (pv 0) (fun C => (de_of (pv 1))) (ti_cons c_Graph n_objects (pv 0) (fun C => (de_fz (df_dc (own := [("name", 4)]) rfl sc_Graph_init.nd (blkOk_by (N := ["self", "schema", "objects", "names", "name"]) (sc := defScope s_Graph_init) (by decide +kernel)) (di_list (de_of (pv 3))) (fun b => dge_name (i := 4) ⟨sc_Graph_init.nd, rfl, by first | exact .inl rfl | exact .inr rfl, by first | exact .inr rfl | exact .inl rfl⟩ (by decide)) (fun b => dts_nil) (fun b => (de_of (pv 4))) (fun b => (de_dget hr.units (de_of (pv 2)) (de_of (pv 4))))))) ti_nil))))))), ?_⟩
  obtain ⟨ss, w, os, n, rfl, hs, ok, hn, h⟩ := h
  have few := ok.few
  walk_at "vc"
  refine ⟨w, os, rfl, by omega, ok.nm, _, rfl, ?_⟩
  rw [if_neg (by decide)]
  refine ⟨_, os.map Ob.nm, rfl, ob_keys os, by rw [List.length_map]; omega, fun ys hp hsr => ?_⟩
  have hr := sorted_rising hp hsr ok.nd
  obtain ⟨os', pm, rfl⟩ := perm_lift hp.symm rfl
  have mem : ∀ o ∈ os', o ∈ os := fun o ho => pm.mem_iff.mp ho
  have gk : ∀ o ∈ os', getK (os.map Ob.d) (.inr o.nm) = some o.v := fun o ho => getK_ob ok.nd (mem o ho)
  have ol : os'.length ≤ 24 := by rw [pm.length_eq]; omega
  have at' : ∀ (i : Nat) (d : D), ((os'.map Ob.nm).map D.str)[i]? = some d → ∃ o ∈ os', d = .str o.nm := fun i d e => by
    obtain ⟨t, ht, rfl⟩ := List.mem_map.mp (List.mem_of_getElem? e)
    obtain ⟨o, ho, rfl⟩ := List.mem_map.mp ht
    exact ⟨o, ho, rfl⟩
  refine ⟨_, rfl, fun _ ρ => ∃ s4 : Sl, ρ = [.dat (.op (.ref y)), .dat (schemaD Sc ss), .dat (.dcf w (os.map Ob.d)), .dat (.lst ((os'.map Ob.nm).map D.str)), s4], ⟨_, rfl⟩, fun i d ρ' hd hI => ?_, fun ρ' hI => ?_⟩
  · obtain ⟨s4, rfl⟩ := hI
    obtain ⟨o, ho, rfl⟩ := at' i d hd
    refine ⟨_, rfl, _, rfl, _, rfl, _, .inr o.nm, _, rfl, rfl, gk o ho, ss, o, rfl, hs, ok.cl o (mem o ho), ?_, true, rfl, ?_⟩
    · have osl := hs.sheet o.cl (ok.cl o (mem o ho))
      exact two_mem (ok.cs o (mem o ho)) fun hh c h1 h2 => okForm (osl.hole hh h1) ok.nm h2
    · rw [if_neg (by decide)]
      exact ⟨_, rfl⟩
  · obtain ⟨s4, rfl⟩ := hI
    refine ⟨_, rfl, _, rfl, fun _ ρ => ∃ s4 : Sl, ρ = [.dat (.op (.ref y)), .dat (schemaD Sc ss), .dat (.dcf w (os.map Ob.d)), .dat (.lst ((os'.map Ob.nm).map D.str)), s4], ⟨_, rfl⟩, fun i d ρ' hd hI => ?_, fun ρ' hI => ?_⟩
    · obtain ⟨s4, rfl⟩ := hI
      obtain ⟨o, ho, rfl⟩ := at' i d hd
      refine ⟨_, rfl, _, rfl, _, rfl, _, rfl, _, .inr o.nm, _, rfl, rfl, gk o ho, ss, _, os, o, rfl, rfl, hs, ok.nd, ok.nm, ok.cl o (mem o ho), ok.cs o (mem o ho), true, rfl, ?_⟩
      rw [if_neg (by decide)]
      exact ⟨_, rfl⟩
    · obtain ⟨s4, rfl⟩ := hI
      refine ⟨rfl, _, rfl, rfl, by decide, _, rfl, _, rfl, by rw [List.length_map, List.length_map]; omega, ?_⟩
      rw [List.map_map]
      refine dc_list (fun o => D.str (Ob.nm o)) Ob.d (ge_mono 4) os' [] _ ?_ (fun o ho Q q => ?_) ?_
      · rw [List.nil_append, ob_keys]
        exact List.Pairwise.map _ (fun a b h z => h (Sum.inr.inj z)) hr.nodup
      · walk_at "vc"
        exact ⟨.inr o.nm, rfl, _, .inr o.nm, _, rfl, rfl, gk o ho, q⟩
      · rw [List.nil_append]
        exact fun w2 => ⟨by show (if ("_objects" : Str) = "_schema" then _ else _) = none; rw [if_neg (by decide)]; rfl, by decide, h os' w2 pm hr⟩
end
end LW
/-! An own error over ValueError, made by keywords. -/
namespace L3
open PySem PySem.Spec PySem.HandSPX
open Builtin Builtin.ObjectAttr
section
variable {M : Model} {A : Around} {E : Value → Shared → Prop} {h : Heap} {g : Array GenState} {d : Drawn} {t : Nat} {os : OsState}
variable {nm q : Str} {C N : Addr} {bs bm bmB : List Value} {hdct : Bool} {sn : List Str} {sub : List Value} {ab : Bool} {col : Option Bool} {dd : Option Addr} {k0 k1 k2 k3 k5 : Option Value} {B newId initId : String}
theorem check_newK (F : ExcBaseFacts B newId initId bmB) (hT : ∀ X : String, bm.contains (.type X) = bmB.contains (.type X)) {kn : Str} {kv : Value} {Q : Unit → Shared → Prop}
    (hC : h.get? C = some (excClassObj nm q C N bs bm hdct sn sub ab col dd k0 k1 k2 k3 k5 newId)) (hq : Q () ⟨h, g, d, t, os⟩) : wpAny M A (checkBuiltinCall newId ⟨[.ref C], [(kn, kv)]⟩) Q E ⟨h, g, d, t, os⟩ := by
  have hcont : (Value.ref C :: bm).contains (.type B) = true := by rw [List.contains_cons, hT, F.hasB, Bool.or_true]
  have hstar := F.noStar
  simp only [checkBuiltinCall, F.newKind, F.newSplit, F.newRow]
  repeat (first | refine wpAny_loadPart_at hC ?_ | (refine wpAny_isSubtype_exc hC ?_; rw [hcont]) | refine wpAny_staticBase_exc hC ?_ | refine wpAny_madeBy_exc hC ?_ | simp only [bne_self_eq_false, Bool.false_eq_true, if_false] | wp_step)
  exact hq
end
section
variable {prog : Program} {w : World} {A : Around} {E : Value → Shared → Prop} {R : Result → Shared → Prop} {h : Heap} {g : Array GenState} {d : Drawn} {t : Nat} {os : OsState}
variable {nm q : Str} {C N : Addr} {bs bm bmB : List Value} {hdct : Bool} {sn : List Str} {sub : List Value} {ab : Bool} {col : Option Bool} {dd : Option Addr} {k0 k1 k2 k3 k5 : Option Value} {B newId initId : String}
theorem newK (F : ExcBaseFacts B newId initId bmB) (hT : ∀ X : String, bm.contains (.type X) = bmB.contains (.type X)) {kn : Str} {kv : Value}
    (hC : h.get? C = some (excClassObj nm q C N bs bm hdct sn sub ab col dd k0 k1 k2 k3 k5 newId))
    (hq : R (.ok (.ret (.ref (h.objs.size + 1)))) ⟨(h.push (W.kdv_tup [])).push (excO C h.objs.size), g, d, t, os⟩) :
    codeAny (model prog w) A (.builtin newId ⟨[.ref C], [(kn, kv)]⟩) R ⟨h, g, d, t, os⟩ := by
  have hends := F.ends
  have hcB : (Value.ref C :: bm).contains (.type B) = true := by rw [List.contains_cons, hT, F.hasB, Bool.or_true]
  have hcA : (Value.ref C :: bm).contains (.type "AttributeError") = false := by rw [List.contains_cons, hT, F.noAttr]; rfl
  have hcN : (Value.ref C :: bm).contains (.type "NameError") = false := by rw [List.contains_cons, hT, F.noName]; rfl
  refine codeAny_builtinAt F.entry ?_
  unfold Builtin.«BaseException.__new__»
  refine wpAt_bind ?_
  show wpAt _ _ _ (stack >>= _) _ _ _
  refine wpAt_bind (wpAt_stack fun p below => wpAt_of_wpAny ?_)
  wp_walk
  refine wpAt_of_wpAny ?_
  rw [F.owner]
  repeat (first | with_reducible refine wpAny_madeHere_exc F.canon hC ?_ | with_reducible refine wpAny_loadPart_at hC ?_ | (with_reducible refine wpAny_isSubtype_exc hC ?_; first | rw [hcB] | rw [hcA] | rw [hcN]) | wp_step)
  show R _ _
  rw [Heap.size_push]
  exact hq
theorem type_callK (F : ExcBaseFacts B newId initId bmB) (hT : ∀ X : String, bm.contains (.type X) = bmB.contains (.type X)) {kn : Str} {kv : Value} {fI : Addr} {Q : Fin → Shared → Prop}
    (hC : h.get? C = some (excClassObj nm q C N bs bm hdct sn sub ab col dd k0 k1 k2 k3 k5 newId))
    (hi : W.Looks (model prog w) h (typeLookup (.ref C) "__init__") (some (.ref fI))) (hb : ∀ self, W.Looks (model prog w) h (bindSpecial (.ref fI) self) (.ref fI, [self]))
    (hq : codeAny (model prog w) A (.call (.ref fI) ⟨[.ref (h.objs.size + 1)], [(kn, kv)]⟩)
      (fun r s' => match r with | .ok (.ret v) => v = .none ∧ Q (.done (.ret (.ref (h.objs.size + 1)))) s' | .ok _ => False | .error e => E e s')
      ⟨(h.push (W.kdv_tup [])).push (excO C h.objs.size), g, d, t, os⟩) :
    wpAny (model prog w) A (Builtin.«type.__call__» ⟨[.ref C], [(kn, kv)]⟩) Q E ⟨h, g, d, t, os⟩ := by
  repeat (first | with_reducible refine wpAny_loadPart_at hC ?_ | with_reducible refine wpAny_madeBy_exc hC ?_ | wp_step)
  refine codeAny_call_builtin_code (Code.quiet_builtin _ F.quiet) (check_newK F hT hC ?_)
  refine newK F hT hC ?_
  show wpAny _ _ _ _ _ _
  have k : ∀ b o, h.get? b = some o → ((h.push (W.kdv_tup [])).push (excO C h.objs.size)).get? b = some o := fun b o e => Heap.get?_push_of_some _ (Heap.get?_push_of_some _ e)
  have hC₁ := k _ _ hC
  have hget : ((h.push (W.kdv_tup [])).push (excO C h.objs.size)).get? (h.objs.size + 1) = some (excO C h.objs.size) := by heap_get
  have hcC : (Value.ref C :: bm).contains (.ref C) = true := by simp
  have i1 := hi.keeps k
  have b1 := (hb (.ref (h.objs.size + 1))).keeps k
  unfold isInstance
  repeat (first | with_reducible refine wpAny_loadPart_at hget ?_ | (with_reducible refine wpAny_isSubtype_exc hC₁ ?_; rw [hcC]) | wp_step)
  show wpAny _ _ (typeLookup (.ref C) _) _ _ _
  refine i1.at ?_
  refine wpAny_holding (wpAny_bind (b1.at ?_))
  refine wpAny_bind (wpAny_call (codeAny_mono hq fun r s' z => ?_))
  rcases r with e | (v | _ | _ | _) <;> first | exact z | exact z.elim | skip
  obtain ⟨rfl, z⟩ := z
  first
    | exact wpAny_pure (wpAny_pure z)
    | (wp_walk; exact z)
theorem call_ownK (F : ExcBaseFacts B newId initId bmB) (hT : ∀ X : String, bm.contains (.type X) = bmB.contains (.type X)) {kn : Str} {kv : Value} {fI : Addr}
    (hC : h.get? C = some (excClassObj nm q C N bs bm hdct sn sub ab col dd k0 k1 k2 k3 k5 newId))
    (hi : W.Looks (model prog w) h (typeLookup (.ref C) "__init__") (some (.ref fI))) (hb : ∀ self, W.Looks (model prog w) h (bindSpecial (.ref fI) self) (.ref fI, [self]))
    (hq : codeAny (model prog w) (A.under (.builtin "type.__call__" ⟨[.ref C], [(kn, kv)]⟩)) (.call (.ref fI) ⟨[.ref (h.objs.size + 1)], [(kn, kv)]⟩) (W.InitBack (h.objs.size + 1) R)
      ⟨(h.push (W.kdv_tup [])).push (excO C h.objs.size), g, d, t, os⟩) :
    codeAny (model prog w) A (.call (.ref C) ⟨[], [(kn, kv)]⟩) R ⟨h, g, d, t, os⟩ := by
  have f1 := tc_lookup
  have f2 := tc_bind (.ref C)
  have hTy : (⟨h, g, d, t, os⟩ : Shared).TypeIs (.ref C) "type" := ⟨_, hC, rfl⟩
  refine codeAny_of_tree ?_
  show wpAny _ _ (callAny (.ref C) _) _ _ _
  repeat (any_goals (first | assumption | with_reducible refine wpAny_loadPart_at hC ?_ | wp_step))
  refine ⟨rfl, ?_⟩
  refine codeAny_call_builtin_at (Code.quiet_builtin _ (by decide +kernel)) entry_typeCall ?_
  refine wpAny_check_type_call_sub hC ?_
  refine type_callK F hT hC hi hb ?_
  refine codeAny_mono hq fun r s' z => ?_
  rcases r with e | (v | _ | _ | _) <;> exact z
end
end L3
namespace L3
open PySem PySem.Spec PyProof.Rows L2
/-- an own error that is made by its name with one keyword argument -/
structure MakXK (P : Program) (w : World) (K : PySem.W.Frag) (mg : Str → Option Value) (base : Heap) (k : Nat) (x : Str) (C : Addr) (fn nm : Str) (F : Cf → FN) : Prop where
  ex : ∃ (fI : Addr) (fd : FuncData), OexC K C ∧ PySem.W.findIn K (.ref C) "__init__" = some (some (.ref fI)) ∧ PySem.W.typeIn K (.ref fI) = some (.type "function") ∧ FnG P w K mg base CX0 k fI fd ["self", nm] (spErr K C fn F) ∧
    (∀ (s : Shared) (a u : Value), K.In s.heap → BindsTo s fd ⟨[a], [(nm, u)]⟩ [("self", a), (nm, u)]) ∧ mg x = some (.ref C)
section
variable {X : Cx} {C : Addr} {x fn nm : Str} {k : Nat} {F : Cf → FN} {pins : List (Addr × Obj)} {σ : L2.St} {H : Hp} {s : Shared}
theorem run_mkxK (M : MakXK X.prog X.w X.K X.mg X.base k x C fn nm F) (hgd : X.A.guards = some []) (hr : Room (k + 1) X.A) (I : Inv X pins σ H s) {Cf0 : Cf} {S : AS} {v : V} {u : Value} {d : D} {P : D → Prop}
    (ok : Ok Cf0 S H) (rv : RelV v u) (hv : DV X.K (hid H S) v d) (hF : F Cf0 [d] P) :
    wpAny (model X.prog X.w) X.A (call (.ref C) [] [(nm, u)]) (fun z s' => ∃ (a dx t0 : Addr) (y : V) (d' : D) (H' : Hp) (G : Heap), z = .ref a ∧ Inv X pins σ H' { s' with heap := G } ∧ (∀ b o, G.get? b = some o → s'.heap.get? b = some o) ∧ G.get? a = none ∧
      s'.heap.get? a = some ({ cls := .ref C, dict := some dx, data := .fields #[.ref t0, .none, .none, .none, .bool false, .none] } : Obj) ∧ H' a = none ∧ H' dx = some (.xd [(fn, y)]) ∧ Go Cf0 H H' ∧ ¬ S a ∧ ¬ S dx ∧ DV X.K (hid H' S) y d' ∧ P d' ∧ s'.os = s.os ∧ AllBare s'.gens) X.xe s := by
  obtain ⟨fI, fd, T, iC, tI, G0, hb, hm⟩ := M.ex
  obtain ⟨nm', q, N, bs, bm, sn, sub, ab, col, dd, k0, k1, k2, k3, k5, hC, hbm⟩ := T.cls
  obtain ⟨hp, g, dr, tk, os⟩ := s
  have hsz : hp.objs.size ≤ hp.objs.size + 1 := Nat.le_succ _
  have hn : H (hp.objs.size + 1) = none := I.hok.fresh hsz
  have nS : ¬ S (hp.objs.size + 1) := ok.fresh hn
  have nG : ¬ Cf0.G (hp.objs.size + 1) := fun z => nS (ok.g _ z)
  have kk : ∀ b o, hp.get? b = some o → ((hp.push (PySem.W.kdv_tup [])).push (PySem.HandSPX.excO C hp.objs.size)).get? b = some o := fun b o e => Heap.get?_push_of_some _ (Heap.get?_push_of_some _ e)
  have hget : ((hp.push (PySem.W.kdv_tup [])).push (PySem.HandSPX.excO C hp.objs.size)).get? (hp.objs.size + 1) = some (PySem.HandSPX.excO C hp.objs.size) := by heap_get
  have I2 : Inv X pins σ (upd H (hp.objs.size + 1) (exo (hp.objs.size + 1) C none)) ⟨(hp.push (PySem.W.kdv_tup [])).push (PySem.HandSPX.excO C hp.objs.size), g, dr, tk, os⟩ :=
    I.laid (t' := tk) (a := hp.objs.size + 1) (o := exo (hp.objs.size + 1) C none) (h' := (hp.push (PySem.W.kdv_tup [])).push (PySem.HandSPX.excO C hp.objs.size)) kk hsz (exo_ok hget)
  have g0 : Go Cf0 H (upd H (hp.objs.size + 1) (exo (hp.objs.size + 1) C none)) := Go.new ok hn
  have ok1 := ok.go g0
  generalize hS : (fun b => S b ∨ b = hp.objs.size + 1 : AS) = S'
  have ok2 : Ok Cf0 S' (upd H (hp.objs.size + 1) (exo (hp.objs.size + 1) C none)) := ⟨ok1.i, fun b hb => by rw [← hS]; exact .inl (ok1.g b hb), fun b hb => by
    rw [← hS] at hb
    rcases hb with hb | rfl
    · exact ok1.l b hb
    · rw [upd_same]; intro z; cases z⟩
  have hv2 : DV X.K (hid (upd H (hp.objs.size + 1) (exo (hp.objs.size + 1) C none)) S') v d := hv.mono fun b o hb => by
    obtain ⟨hb1, hb2⟩ := hid_some.mp hb
    have n1 : b ≠ hp.objs.size + 1 := ne_of_none hb2 hn
    exact hid_some.mpr ⟨fun z => by rw [← hS] at z; exact z.elim hb1 n1, by rw [upd_ne n1]; exact hb2⟩
  have hq : spErr X.K C fn F [.ref (hp.objs.size + 1), v] (upd H (hp.objs.size + 1) (exo (hp.objs.size + 1) C none)) (fun z H2 => z = .non ∧ ∃ (dx : Addr) (y : V) (d' : D) (H1 : Hp), H2 = upd (upd H1 dx (exd dx [(fn, y)])) (hp.objs.size + 1) (exo (hp.objs.size + 1) C (some dx)) ∧
      Go Cf0 (upd H (hp.objs.size + 1) (exo (hp.objs.size + 1) C none)) H1 ∧ H1 dx = none ∧ dx ≠ hp.objs.size + 1 ∧ P d' ∧ DV X.K (hid H1 S') y d') (fun _ _ _ => False) :=
    ⟨Cf0, S', hp.objs.size + 1, v, d, P, rfl, upd_same, nG, ok2, hv2, hF, fun y d' dx H1 g1 n1 n2 p1 v1 => ⟨rfl, dx, y, d', H1, rfl, g1, n1, n2, p1, v1⟩⟩
  refine wpAny_call (call_ownK PySem.F.excBase_ValueError (fun Y => PySem.HandSPX.refsVE_contains Y bm hbm) (I.kIn _ _ hC) (PySem.W.looks_findIn I.kIn iC) (fun self => PySem.W.bind_fn I.kIn self tI)
    (codeAny_mono (G0.go _ X.stack _ _ ⟨[Value.ref (hp.objs.size + 1)], [(nm, u)]⟩ [Value.ref (hp.objs.size + 1), u] [V.ref (hp.objs.size + 1), v] _ (fun _ _ _ => False) (make_guards.trans hgd) (hr.make C [] [(nm, u)]) (I2.env0.make C [] [(nm, u)]) (hb _ _ u I2.kIn) (.cons rfl (.cons rv .nil)) hq) fun r s' hq' => ?_))
  match r, hq' with
  | .error er, hq' => exact (go_end (pass0 (X := X)) I2 (r := .error er) hq')
  | .ok .next, hq' => exact False.elim hq'
  | .ok .brk, hq' => exact False.elim hq'
  | .ok .cont, hq' => exact False.elim hq'
  | .ok (.ret z), hq' =>
    obtain ⟨z', H2, os2, bare2, un2, hok2, rz, ez, dx, y, d', H1, e2, g1, n1, n2, p1, v1⟩ := hq'
    subst ez
    obtain ⟨h2, g2, d2, t2, os'⟩ := s'
    have ea : H2 (hp.objs.size + 1) = some (exo (hp.objs.size + 1) C (some dx)) := by rw [e2, upd_same]
    have ed : H2 dx = some (exd dx [(fn, y)]) := by rw [e2, upd_ne n2, upd_same]
    have nd0 : H dx = none := by
      cases e : H dx with
      | none => rfl
      | some o =>
        have nGd : ¬ Cf0.G dx := fun z => Cf0.liv H1 dx g1.i z n1
        have := g1.e dx o nGd (by rw [upd_ne n2]; exact e)
        rw [n1] at this; cases this
    obtain ⟨t0, G, J, kG, ge, hoe, na⟩ := mk_end0 (d2 := d2) (t2 := t2) I hsz kk un2 hok2 os2 bare2 ea ed nd0
    refine ⟨rz, hp.objs.size + 1, dx, t0, y, d', _, G, rfl, J, kG, ge, hoe, na, upd_same, ?_, nS, ok.fresh nd0, ?_, p1, os2, bare2⟩
    · have nGd : ¬ Cf0.G dx := fun z => Cf0.liv H1 dx g1.i z n1
      have at_ : ∀ b, b ≠ hp.objs.size + 1 → b ≠ dx → (upd (del H2 (hp.objs.size + 1)) dx (.xd [(fn, y)])) b = H1 b := fun b h1 h2 => by rw [upd_ne h2, del_ne h1, e2, upd_ne h1, upd_ne h2]
      refine ⟨fun b o hg hb => ?_, Cf0.loc H1 _ (fun b hb => at_ b (fun z => nG (z ▸ hb)) (fun z => nGd (z ▸ hb))) (fun b o hb hc => ?_) g1.i⟩
      · have h1 : b ≠ hp.objs.size + 1 := ne_of_none hb hn
        rw [at_ b h1 (ne_of_none hb nd0)]
        exact g1.e b o hg (by rw [upd_ne h1]; exact hb)
      · have h2 : b ≠ dx := ne_of_none hb n1
        have h1 : b ≠ hp.objs.size + 1 := fun z => by
          have := g1.e _ _ nG (upd_same (o := exo (hp.objs.size + 1) C none) (H := H))
          rw [z, this] at hb
          cases hb
          exact exo_nc hc
        rw [at_ b h1 h2]; exact hb
    · refine v1.mono fun b o hb => ?_
      obtain ⟨hb1, hb2⟩ := hid_some.mp hb
      rw [← hS] at hb1
      have n3 : b ≠ hp.objs.size + 1 := fun z => hb1 (.inr z)
      have n4 : b ≠ dx := ne_of_none hb2 n1
      exact hid_some.mpr ⟨fun z => hb1 (.inl z), by rw [upd_ne n4, del_ne n3, e2, upd_ne n3, upd_ne n4]; exact hb2⟩
end
end L3
/-! enumerate: each pair a new tuple with no dict of its own. -/
namespace L3
open PySem PySem.Spec PyProof.Rows L2

def IteF (K : PySem.W.Frag) (a : Addr) : It :=
  ⟨(Ite K a).go,
    fun i H v H' => ∃ T x o, Obj.dict o = none ∧ v = .ref T ∧ H T = none ∧ H' = upd H T (.frz o (.tup [.int (i : Nat), x])) ∧ ∀ xs, SqL K H a xs → xs[i]? = some x,
    (Ite K a).stop⟩
theorem turn_enumF {P : Program} {w : World} {K : PySem.W.Frag} {elts : List Expr} {kk : Nat} {tpos : Pos} (a e it : Addr) :
    Turn P w K (.Tuple elts kk tpos) (IteF K a) [e, it] e (fun i h => (∃ old, IsEnum h e it ((i : Nat) : Int) old) ∧ h.IsListIter it a i ∧ e ≠ it) where
  mem := (turn_enum (P := P) (w := w) (K := K) (elts := elts) (kk := kk) (tpos := tpos) a e it).mem
  obj := (turn_enum (P := P) (w := w) (K := K) (elts := elts) (kk := kk) (tpos := tpos) a e it).obj
  keep := (turn_enum (P := P) (w := w) (K := K) (elts := elts) (kk := kk) (tpos := tpos) a e it).keep
  done := (turn_enum (P := P) (w := w) (K := K) (elts := elts) (kk := kk) (tpos := tpos) a e it).done
  self := (turn_enum (P := P) (w := w) (K := K) (elts := elts) (kk := kk) (tpos := tpos) a e it).self
  item := by
    intro X hP hw hK hc i pins s σ H E I hf st hg
    subst hP hw hK
    obtain ⟨⟨old, he⟩, hit, hne⟩ := st
    obtain ⟨xs, x, hq, hx⟩ := hg
    obtain ⟨its, rv, p, hz⟩ := I.list hq
    obtain ⟨u, hu, ru⟩ := rv.get hx
    have hel : e < s.heap.objs.size := Heap.lt_size he
    have hil : it < s.heap.objs.size := by obtain ⟨_, q, _⟩ := hit; exact Heap.lt_size q
    refine wpAny_pyNext_enum_item he hit p.isList (x := u) (by simpa using hu) hne fun h' ho hit' hT hsz hk => ?_
    refine ⟨_, rfl, wpAny_letOwnedTupleGo_enum (s := { s with heap := h', toks := s.toks + 1 }) ho fun h'' he' sb => ?_⟩
    have hT2 : h''.get? s.heap.objs.size = some { cls := .type "tuple", data := .seq #[.int i s.toks, u] } := (sb.2 _ (Nat.ne_of_gt hel)).trans hT
    have new : ObjOk X.prog X.w (upd H s.heap.objs.size (.frz { cls := .type "tuple", data := .seq #[.int i s.toks, u] } (.tup [.int (i : Nat), x]))) h'' s.heap.objs.size (.frz { cls := .type "tuple", data := .seq #[.int i s.toks, u] } (.tup [.int (i : Nat), x])) :=
      ⟨hT2, by show 2 ≤ sizeLine; decide, [.int i s.toks, u], .cons ⟨_, rfl⟩ (.cons ru .nil), ⟨_, hT2, rfl, _, rfl⟩⟩
    have I1 : Inv X pins σ (upd H s.heap.objs.size (.frz { cls := .type "tuple", data := .seq #[.int i s.toks, u] } (.tup [.int (i : Nat), x]))) { s with heap := h'', toks := s.toks + 1 } :=
      I.turnedNew (ch := [e, it]) (fun b ob hb q => (sb.2 b (fun z => hb (by simp [z]))).trans (hk b ob (fun z => hb (by simp [z])) (fun z => hb (by simp [z])) q)) hf (Nat.le_refl _) new
    refine ⟨.ref s.heap.objs.size, _, I1, rfl, ⟨_, x, _, rfl, rfl, I.hok.fresh (Nat.le_refl _), rfl, fun ys hy => by rw [I.list_inj hy hq]; exact hx⟩, ⟨⟨u, ?_⟩, hit'.at fun o q => (sb.2 it (Ne.symm hne)).trans q, hne⟩, fun b hb => ?_⟩
    · have e1 : ((i + 1 : Nat) : Int) = (i : Int) + 1 := by omega
      rw [e1]; exact he'
    · have hb' : b < s.heap.objs.size := by
        have e' : b = e ∨ b = it := by simpa using hb
        rcases e' with z | z
        · rw [z]; exact hel
        · rw [z]; exact hil
      rw [upd_ne (Nat.ne_of_lt hb')]
      exact (hf b hb).1
def iEnumF (K : PySem.W.Frag) (ta : TA) : TI := fun σ H R => ta σ H fun vs H1 => ∃ a xs, vs = [.ref a] ∧ SqL K H1 a xs ∧ R (IteF K a) H1
theorem pi_enumF {X : Cx} {e : Expr} {ta : TA} {p pos tpos : Pos} {elts : List Expr} {kk : Nat} (hg : Gl X "enumerate") (hm : X.mg "enumerate" = none) (ha : PA X [e] ta) (hs : starEach [e] X.env = [(false, eval e X.env)] := by rfl) :
    PI X (.Tuple elts kk tpos) (.Call (.Name "enumerate" p) [e] [] pos) (iEnumF X.K ta) := by
  refine ⟨fun pins s σ H R I h => ?_⟩
  refine Call_ (ld_blt I hg hm boot_enumerate (PyProof.Rows.callWith_type1 (thn (ha.run pos pins s σ H _ I h) fun us s1 ⟨vs, H1, I1, r1, q1⟩ => ?_) hs rfl))
  obtain ⟨a, xs, ex, hq, q⟩ := q1
  subst ex
  cases r1 with
  | cons r rr =>
    cases rr
    cases r
    obtain ⟨its, rv, p', hz⟩ := I1.list hq
    refine call_enumerate_list p'.isList fun h' he hit hsz hk => wpAny_pyIter_enum he ?_
    have I2 : Inv X pins σ H1 { s1 with heap := h' } := I1.kept (t' := s1.toks) hk
    refine ⟨s1.heap.objs.size + 1, [s1.heap.objs.size + 1, s1.heap.objs.size], _, _, H1, rfl, I2, turn_enumF a (s1.heap.objs.size + 1) s1.heap.objs.size, ⟨⟨.none, he⟩, hit, Nat.succ_ne_self _⟩, fun b hb => ?_, q⟩
    have hle : s1.heap.objs.size ≤ b := by
      have e' : b = s1.heap.objs.size + 1 ∨ b = s1.heap.objs.size := by simpa using hb
      rcases e' with z | z <;> rw [z] <;> first | exact Nat.le_refl _ | exact Nat.le_add_right _ _
    exact I1.fpOk hle (I1.hok.fresh hle)
def enumD (ds : List D) : List D := ds.mapIdx fun i d => .tup [.int (i : Nat), d]
def iEn (t : TDs) : TDs := fun E P => t E fun ds => ∃ xs, ds = [.lst xs] ∧ P (enumD xs)
theorem enumD_at {ds : List D} {i : Nat} : (enumD ds)[i]? = (ds[i]?).map fun d => D.tup [.int (i : Nat), d] := by
  unfold enumD
  rw [List.getElem?_mapIdx]
theorem enumD_len {ds : List D} : (enumD ds).length = ds.length := by
  unfold enumD
  rw [List.length_mapIdx]
theorem walkD_enum {K : PySem.W.Frag} {C : Cf} {a : Addr} {ds : List D} : WalkD K C (IteF K a) (enumD ds) [(.ref a, .lst ds)] := by
  have get : ∀ {S H}, GsOk K H S [(.ref a, .lst ds)] → ∃ vs, SqL K H a vs ∧ DVs K (hid H S) vs ds := fun g => by
    have h := g _ List.mem_cons_self
    cases h with
    | lst e h => exact ⟨_, .inl (.inl (same_hid _ _ e)), h⟩
  refine ⟨fun S i H ok g hi => ?_, fun S H ok g => ?_, fun S i H x H' ok g hi y => ?_⟩
  · obtain ⟨vs, h1, h2⟩ := get g
    rw [enumD_len] at hi
    have l1 : i < vs.length := by rw [h2.len]; exact hi
    exact ⟨vs, vs[i], h1, List.getElem?_eq_getElem l1⟩
  · obtain ⟨vs, h1, h2⟩ := get g
    exact ⟨vs, h1, by rw [enumD_len, h2.len]; exact Nat.le_refl _⟩
  · obtain ⟨vs, h1, h2⟩ := get g
    obtain ⟨T, x1, o, nd, rfl, nT, rfl, f1⟩ := y
    obtain ⟨d1, e1, v1⟩ := h2.getV (f1 vs h1)
    have gn : Go C H (upd H T (.frz o (.tup [.int (i : Nat), x1]))) := Go.new ok nT
    refine ⟨.tup [.int (i : Nat), d1], ?_, gn, .tup ⟨o, nd, hid_new ok nT⟩ (.cons (.int _) (.cons (v1.mono (gn.vis ok)) .nil))⟩
    rw [enumD_at, e1]
    rfl
theorem di_enum {X : Cx} {C : Cf} {e : Expr} {tds : TDs} {p pos tpos : Pos} {elts : List Expr} {kk : Nat} (hg : Gl X "enumerate") (hm : X.mg "enumerate" = none) (ha : DA X C [e] tds) (hs : starEach [e] X.env = [(false, eval e X.env)] := by rfl) :
    DI X C (.Tuple elts kk tpos) (.Call (.Name "enumerate" p) [e] [] pos) (iEn tds) := by
  obtain ⟨ta, h1, h2⟩ := ha.ex
  refine ⟨⟨_, pi_enumF hg hm h1 hs, fun S σ H E P R rl hp q => h2 S σ H E _ _ rl hp fun vs ds H1 g1 p1 v1 => ?_⟩⟩
  obtain ⟨xs, rfl, p1⟩ := p1
  obtain ⟨v, rfl, hv⟩ := one_dv v1
  cases hv with
  | @lst a us _ e1 hx =>
    refine ⟨a, us, rfl, .inl (.inl (same_hid _ _ e1)), q _ _ [(.ref a, .lst xs)] H1 g1 p1 (fun x hx' => ?_) walkD_enum⟩
    rw [List.mem_singleton.mp hx']
    exact .lst e1 hx

/-! ### new errors as values -/
section
variable {X : Cx} {pins : List (Addr × Obj)} {σ : L2.St} {H : Hp} {s : Shared}
theorem pe_mk {e : Expr} {t : L2.St → Hp → XK → Prop} (h : PMk X e t) : PE X e (fun σ H Q => t σ H fun cls d H' => ∃ Ca, cls = .ref Ca ∧ ∀ a, H' a = none → Q (.ref a) (upd H' a (exX Ca d a))) := by
  refine ⟨fun pins s σ H Q I h' => wpAny_mono (h pins s σ H _ I h') (fun u s1 hu => ?_) fun _ _ x => x⟩
  obtain ⟨a, oe, vs, sI, H', cls, d, rfl, J, k, hne, ha, hz, hd, h1, na, os, ag, r, Ca, rfl, q⟩ := hu
  have new : ObjOk X.prog X.w (upd H' a (exX Ca d a)) s1.heap a (exX Ca d a) := ⟨⟨oe, vs, ha, hz.1, hz.2, hd⟩, ⟨oe, ha⟩, fun _ _ ⟨o, v, q, r⟩ k => ⟨o, v, k o q, r⟩⟩
  have J2 := J.laidN (t' := s1.toks) k hne na new
  exact ⟨.ref a, _, ⟨J2.ok, os.trans J2.os, ag, J2.base, J2.loc, J2.cell, J2.free, J2.freeC, J2.pin, J2.hok, J2.len⟩, rfl, q a na⟩
end
def dMkx (Ca : Addr) (fn : Str) (f : FN) (t : TD) : TD := fun E P => t E fun d => f [d] fun d' => P (.exc Ca [(.inr fn, d')])
section
variable {X : Cx} {Cf0 : Cf} {C : Addr} {x fn nm : Str} {k j : Nat} {F : Cf → FN} {e : Expr} {td : TD} {te : TE} {p pos : Pos}
/-- what the making of an own error wishes -/
def tMkx (K : PySem.W.Frag) (Cf0 : Cf) (C : Addr) (fn : Str) (F : Cf → FN) (te : TE) : L2.St → Hp → XK → Prop := fun σ H Q => te σ H fun v H1 => ∃ (S : AS) (d : D) (P : D → Prop), Ok Cf0 S H1 ∧ DV K (hid H1 S) v d ∧ F Cf0 [d] P ∧ ∀ (y : V) (d' : D) (dx : Addr) (H' : Hp), Go Cf0 H1 H' → H' dx = some (.xd [(fn, y)]) → ¬ S dx → DV K (hid H' S) y d' → P d' → Q (.ref C) (some dx) H'
theorem pmk_mkx (M : MakX X.prog X.w X.K X.mg X.base k x C fn nm F) (hgd : X.A.guards = some []) (hr : Room j X.A) (hk : k + 1 ≤ j) (hg : Gl X x) (h1 : PE X e te) (hdb : (x == ("__debug__" : Str)) = false := by decide)
    (he : starEach [e] X.env = (false, eval e X.env) :: starEach [] X.env := by rfl) : PMk X (.Call (.Name x p) [e] [] pos) (tMkx X.K Cf0 C fn F te) := by
  obtain ⟨fI, fd, T, iC, tI, G0, hb, hm⟩ := id M.ex
  intro pins s σ H Q I h
  refine wpAny_Call_Name_kw (ld_glob I hg hm ?_ hdb)
  refine PySem.W.callWith_K (h₀ := X.base) I.ok.mod.kin T.kC ?_ he rfl
  rw [he]
  refine Calls.spliced_cons (thn (h1.run pins s σ H _ I h) fun u s1 ⟨v, H1, I1, r1, S, d, P, ok, hv, hF, q⟩ => ?_)
  refine Calls.spliced_nil ⟨I1.kIn, ?_⟩
  refine thn (run_mkx M hgd (hr.mono hk) I1 ok r1 hv hF) fun z s' hz => ?_
  obtain ⟨a, dx, t0, y, d', H', G, rfl, J, kG, ge, hoe, na, hdx, g, nS, nSd, vy, pd, os, ag⟩ := hz
  exact ⟨a, _, _, { s' with heap := G }, H', .ref C, some dx, rfl, J, kG, ge, hoe, ⟨rfl, rfl⟩, rfl, rfl, na, rfl, ag, raises_own T.exC T.tyC, q y d' dx H' g hdx nSd vy pd⟩
theorem pmk_mkxK {kws : List Keyword} {tk : TA} (M : MakXK X.prog X.w X.K X.mg X.base k x C fn nm F) (hgd : X.A.guards = some []) (hr : Room j X.A) (hk : k + 1 ≤ j) (hg : Gl X x) (hkw : PK X kws tk) (hdb : (x == ("__debug__" : Str)) = false := by decide)
    (hall : (backToKw pos (keywordEach kws X.env)).all (·.1.isSome) = true := by rfl) (hks : (backToKw pos (keywordEach kws X.env)).filterMap (·.1) = [nm] := by rfl) (hpl : ((backTo pos (starEach [] X.env)).any (·.1) || (backToKw pos (keywordEach kws X.env)).any (·.1.isNone)) = false := by rfl) :
    PMk X (.Call (.Name x p) [] kws pos) (fun σ H Q => tk σ H fun vs H1 => ∃ v, vs = [v] ∧ tMkx X.K Cf0 C fn F (fun _ H Q => Q v H) σ H1 Q) := by
  obtain ⟨fI, fd, T, iC, tI, G0, hb, hm⟩ := id M.ex
  intro pins s σ H Q I h
  refine wpAny_Call_Name_kw (ld_glob I hg hm ?_ hdb)
  refine PySem.W.callWith_KW0 (h₀ := X.base) I.ok.mod.kin T.kC hall (thn (hkw.run pos pins s σ H _ I h) fun ws s1 ⟨vs, H1, I1, rz, v, ev, S, d, P, ok, hv, hF, q⟩ => ⟨I1.kIn, ?_⟩) hpl
  subst ev
  cases rz with
  | cons r1 rr =>
    cases rr
    rw [hks]
    refine thn (run_mkxK M hgd (hr.mono hk) I1 ok r1 hv hF) fun z s' hz => ?_
    obtain ⟨a, dx, t0, y, d', H', G, rfl, J, kG, ge, hoe, na, hdx, g, nS, nSd, vy, pd, os, ag⟩ := hz
    exact ⟨a, _, _, { s' with heap := G }, H', .ref C, some dx, rfl, J, kG, ge, hoe, ⟨rfl, rfl⟩, rfl, rfl, na, rfl, ag, raises_own T.exC T.tyC, q y d' dx H' g hdx nSd vy pd⟩
/-- x(e) -/
theorem de_mkx (M : MakX X.prog X.w X.K X.mg X.base k x C fn nm F) (hgd : X.A.guards = some []) (hr : Room j X.A) (hk : k + 1 ≤ j) (hg : Gl X x) (h : DE X Cf0 e td) (hdb : (x == ("__debug__" : Str)) = false := by decide)
    (he : starEach [e] X.env = (false, eval e X.env) :: starEach [] X.env := by rfl) : DE X Cf0 (.Call (.Name x p) [e] [] pos) (dMkx C fn (F Cf0) td) := by
  obtain ⟨te, h1, h2⟩ := h.ex
  refine ⟨⟨_, pe_mk (pmk_mkx (Cf0 := Cf0) M hgd hr hk hg h1 hdb he), fun S σ H E P Q r hp q => ?_⟩⟩
  refine h2 S σ H E _ _ r hp fun v d H1 g1 p1 v1 => ⟨S, d, _, r.ok.go g1, v1, p1, fun y d' dx H' g2 hdx nSd vy pd => ⟨C, rfl, fun a na => ?_⟩⟩
  have ok2 := (r.ok.go g1).go g2
  have gn : Go Cf0 H' (upd H' a (exX C (some dx) a)) := Go.new ok2 na
  exact q _ _ _ (g1.trans (g2.trans gn)) pd (.exc (fs := [(fn, y)]) (hid_new ok2 na) (hid_some.mpr ⟨nSd, by rw [upd_ne (ne_of_none hdx na)]; exact hdx⟩) (.cons (vy.mono (gn.vis ok2)) .nil))
/-- x(nm=e) -/
def dMkxK (Ca : Addr) (fn : Str) (f : FN) (t : TDs) : TD := fun E P => t E fun ds => ∃ d, ds = [d] ∧ f [d] fun d' => P (.exc Ca [(.inr fn, d')])
theorem de_mkxK {kws : List Keyword} {tk : TDs} (M : MakXK X.prog X.w X.K X.mg X.base k x C fn nm F) (hgd : X.A.guards = some []) (hr : Room j X.A) (hk : k + 1 ≤ j) (hg : Gl X x) (hkw : DK X Cf0 kws tk) (hdb : (x == ("__debug__" : Str)) = false := by decide)
    (hall : (backToKw pos (keywordEach kws X.env)).all (·.1.isSome) = true := by rfl) (hks : (backToKw pos (keywordEach kws X.env)).filterMap (·.1) = [nm] := by rfl) (hpl : ((backTo pos (starEach [] X.env)).any (·.1) || (backToKw pos (keywordEach kws X.env)).any (·.1.isNone)) = false := by rfl) :
    DE X Cf0 (.Call (.Name x p) [] kws pos) (dMkxK C fn (F Cf0) tk) := by
  obtain ⟨tr, r1, r2⟩ := hkw.ex
  refine ⟨⟨_, pe_mk (pmk_mkxK (Cf0 := Cf0) M hgd hr hk hg r1 hdb hall hks hpl), fun S σ H E P Q r hp q => ?_⟩⟩
  refine r2 S σ H E _ _ r hp fun vs ds H1 g1 p1 v1 => ?_
  obtain ⟨d, rfl, p1⟩ := p1
  obtain ⟨v, rfl, hv⟩ := one_dv v1
  refine ⟨v, rfl, S, d, _, r.ok.go g1, hv, p1, fun y d' dx H' g2 hdx nSd vy pd => ⟨C, rfl, fun a na => ?_⟩⟩
  have ok2 := (r.ok.go g1).go g2
  have gn : Go Cf0 H' (upd H' a (exX C (some dx) a)) := Go.new ok2 na
  exact q _ _ _ (g1.trans (g2.trans gn)) pd (.exc (fs := [(fn, y)]) (hid_new ok2 na) (hid_some.mpr ⟨nSd, by rw [upd_ne (ne_of_none hdx na)]; exact hdx⟩) (.cons (vy.mono (gn.vis ok2)) .nil))
/-- x('words'), x without its own __init__ -/
def dMk0 (Ca : Addr) : TD := fun _ P => P (.exc Ca [])
theorem de_mk0 {m : Str} {i : Nat} {p2 : Pos} {bmB : List Value} {B newId initId : String} (FB : ExcBaseFacts B newId initId bmB) (q : PySem.W.excIn X.K C bmB newId = true) (gC : X.mg x = some (.ref C)) (kC : PySem.W.keepIn X.K (.ref C) = true) (r : Raises X (.ref C)) (hg : Gl X x)
    (hdb : (x == ("__debug__" : Str)) = false := by decide) : DE X Cf0 (.Call (.Name x p) [.Constant (.str m) i p2] [] pos) (dMk0 C) := by
  refine ⟨⟨_, pe_mk (pmk_own FB q gC kC r hg hdb), fun S σ H E P Q rl hp q => ⟨C, rfl, fun a na => ?_⟩⟩⟩
  have gn : Go Cf0 H (upd H a (exX C none a)) := Go.new rl.ok na
  exact q _ _ _ gn hp (.exc0 (hid_new rl.ok na))
end
end L3
namespace L3
open PySem PySem.Spec PyProof.Rows L2

/-! ### a number among numbers -/
def fInI (n : Bool) : F2
  | .int x, .tup ds, P => ∃ xs : List Int, ds = xs.map D.int ∧ P (.bl (n != decide (x ∈ xs)))
  | .int x, .lst ds, P => ∃ xs : List Int, ds = xs.map D.int ∧ P (.bl (n != decide (x ∈ xs)))
  | _, _, _ => False
theorem inV_ints (x : Int) : ∀ xs : List Int, inV (.int x) (xs.map V.int) = decide (x ∈ xs)
  | [] => rfl
  | y :: r => by
    have ih := inV_ints x r
    unfold inV at ih ⊢
    rw [List.map_cons, List.any_cons, ih]
    show ((y == x) || decide (x ∈ r)) = decide (x ∈ y :: r)
    by_cases e : y = x
    · subst e; simp
    · have e' : (y == x) = false := beq_eq_false_iff_ne.mpr e
      have e'' : ¬ x = y := fun z => e z.symm
      rw [e']
      simp [e'']
theorem flat_ints : ∀ xs : List Int, (xs.map V.int).all flatV = true
  | [] => rfl
  | x :: r => by rw [List.map_cons, List.all_cons, flat_ints r]; rfl
theorem od_inI {K : PySem.W.Frag} {C : Cf} {n : Bool} : OpD K C (rIn K n) (fInI n) := by
  intro S H x y a b P Q ok hx hy h q
  have fin : ∀ (z : Int) (xs : List Int), P (.bl (n != decide (z ∈ xs))) → Q (.bl (if n then !inV (.int z) (xs.map V.int) else inV (.int z) (xs.map V.int))) H := fun z xs hp => by
    have e : (if n then !inV (.int z) (xs.map V.int) else inV (.int z) (xs.map V.int)) = (n != decide (z ∈ xs)) := by
      rw [inV_ints]
      cases n <;> simp
    rw [e]
    exact q _ _ H (Go.refl ok) hp (.bl _)
  cases a with
  | int z => cases b with
    | lst ds =>
      obtain ⟨xs, rfl, h⟩ := h
      obtain ⟨p, vs, rfl, e, hv⟩ := two_lists ok hy
      have := hv.ints
      subst this
      rw [hx.int_inv]
      exact ⟨p, _, rfl, .inl (.inl (.inl e)), rfl, flat_ints xs, fin z xs h⟩
    | tup ds =>
      obtain ⟨xs, rfl, h⟩ := h
      obtain ⟨p, vs, rfl, e, hv⟩ := two_tups ok hy
      have := hv.ints
      subst this
      rw [hx.int_inv]
      exact ⟨p, _, rfl, .inr e, rfl, flat_ints xs, fin z xs h⟩
    | _ => exact h.elim
  | _ => exact h.elim

/-! ### repr of a list in which dicts stand -/
def reprOk3 : D → Bool
  | .lst ds => noDics ds || dicTs ds
  | d => reprOk2 d
theorem showsBy_lst {prog : Program} {w : World} {h₀ : Heap} {a : Addr} {o : Obj} {vs : Array Value} {n : Nat} {xs : List PyData} {as : List Addr} (h1 : h₀.get? a = some o) (h2 : o.cls = .type "list") (h3 : o.data = .seq vs n) (h4 : ReadsAll h₀ vs.toList xs as)
    (hs : PyData.showableAll xs = true) (hsm : sysModules ∉ as) (hsz : (PyData.list xs).shown.length ≤ sizeLine) : ShowsBy prog w h₀ a (.list xs) "list" "list.__repr__" := by
  have hz' : (listText (PyData.shownAll xs)).length ≤ sizeLine := by simpa only [PyData.shown] using hsz
  obtain ⟨bs, hb, hk⟩ := ReprAllK.of_readsAll (prog := prog) (w := w) h4 hs (fun _ => hsm) (fun t ht => Nat.le_trans (listText_mem_le ht) hz')
  have hna : a ∉ bs := not_mem_of_deeper (.list h1 h2 h3 h4) (by simp only [PyData.depth]; omega) hb
  refine ⟨F.slot_list_repr.toG, F.slot_list_str, F.slot_list_format, fun s hk0 => ⟨o, hk0 _ _ h1, h2⟩, fun A E s Q hg hu hk0 hQ => ?_⟩
  simp only [PyData.depth] at hu
  simp only [PyData.shown] at hQ
  obtain ⟨l⟩ := vs
  cases l with
  | nil =>
    have h4' : ReadsAll h₀ [] xs _ := h4
    cases h4'
    simp only [PyData.shownAll, listText_nil] at hQ
    exact call_list_repr_empty ⟨o, hk0 _ _ h1, h2⟩ (hk0 _ _ h1) h3 (hQ s.heap _ _ fun _ _ e => e)
  | cons x l => exact call_list_reprK h1 h2 h3 hna (by simpa using hk.length_eq) (fun i y e => hk.item i y (by simpa using e)) hg (fun b _ => Clear.nil b) hu hk0 hQ hz'
def fReprL : FN
  | [d], P => reprOk3 d = true ∧ (toP d).depth ≤ 60 ∧ (showD d).length ≤ 100000 ∧ P (.str (showD d))
  | _, _ => False
def rReprL (K : PySem.W.Frag) : List V → Hp → VK → Prop := fun xs H Q => ∃ v d, xs = [v] ∧ DV K H v d ∧ reprOk3 d = true ∧ (toP d).depth ≤ 60 ∧ (showD d).length ≤ 100000 ∧ Q (.str (showD d)) H
theorem cd_reprL {K : PySem.W.Frag} {C : Cf} : CallD K C (rReprL K) fReprL := by
  intro S H vs ds P Q ok hv h q
  match ds, h with
  | [d], h =>
    obtain ⟨v, rfl, hd⟩ := one_dv hv
    exact ⟨v, d, rfl, hd.mono same_hid, h.1, h.2.1, h.2.2.1, q _ _ H (Go.refl ok) h.2.2.2 (.str _)⟩
theorem call_reprL {X : Cx} (hgd : X.A.guards = some []) (hu : X.A.units + 64 < cLine) : CallR X (.builtin "repr") (rReprL X.K) := by
  intro pins s σ H xs us Q I r h
  obtain ⟨v, d, rfl, hv, ho, hdp, hz, q⟩ := h
  by_cases n : reprOk2 d = true
  · exact call_reprX hgd hu pins s σ H [v] us Q I r ⟨v, d, rfl, hv, n, hdp, hz, q⟩
  · cases hv with
    | @lst a vs ds e hd =>
      have n1 : ¬ noDics ds = true := fun z => n (by unfold reprOk2; simp only [noDic, z, Bool.true_or])
      have f : dicTs ds = true := by
        have ho : (noDics ds || dicTs ds) = true := ho
        rw [Bool.or_eq_true] at ho
        exact ho.resolve_left n1
      cases r with
      | cons rv rt =>
        cases rt
        cases rv
        obtain ⟨its, rvs, pl, _⟩ := I.list (.inl (.inl e))
        obtain ⟨o, g1, c1, k1, d1⟩ := pl.isList
        obtain ⟨as, rd, na⟩ := hd.rdT I f its rvs
        have hz' : (PyData.list (toPs ds)).shown.length ≤ sizeLine := by
          have := small_line hz
          unfold showD at this
          simpa only [toP] using this
        have S := showsBy_lst (prog := X.prog) (w := X.w) g1 c1 d1 (by simpa using rd) (dicTs_show ds f) na hz'
        have hdp2 : (PyData.list (toPs ds)).depth ≤ 60 := by simpa only [toP] using hdp
        exact call_repr_slot (by omega) (S.typeIs s fun _ _ e => e) S.slotRepr (S.call X.A.in1 X.xe s _ hgd (by show X.A.units + 1 + (PyData.list (toPs ds)).depth < cLine; omega) (fun _ _ e => e) fun h' u tk hk => ⟨_, _, rfl, .str _, H, I.kept hk, ⟨u, by unfold showD; simp only [toP]⟩, q⟩)
    | _ => exact absurd ho n
end L3
namespace L3
open PySem PySem.Spec PyProof.Rows L2

/-! ### what raises nothing may stand where something could be raised -/
section
variable {P : Program} {w : World} {K : PySem.W.Frag} {mg : Str → Option Value} {base : Heap}
theorem FnG.toX {k : Nat} {f : Addr} {fd : FuncData} {ps : List Str} {F : Cf → FN} (G : FnG P w K mg base CX0 k f fd ps (spD K F)) : FnG P w K mg base (L2.CX P w) k f fd ps (spX K fun C ds R _ => F C ds R) := by
  refine ⟨fun vs H Q E ⟨C, S, ds, R, Wd, ok, hv, hf, q, _⟩ => G.len vs H Q E ⟨C, S, ds, R, ok, hv, hf, q⟩, fun A fr s H ar us vs Q E hg hr e0 hb hvs ⟨C, S, ds, R, Wd, ok, hv, hf, q, _⟩ => ?_⟩
  refine codeAny_mono (G.go A fr s H ar us vs Q E hg hr e0 hb hvs ⟨C, S, ds, R, ok, hv, hf, q⟩) fun r s' h => ?_
  match r, h with
  | .error e, h => exact False.elim h
  | .ok (.ret u), h => exact h
  | .ok .next, h => exact h
  | .ok .brk, h => exact h
  | .ok .cont, h => exact h
theorem Cal.toX {x : Str} {k : Nat} {ps : List Str} {F : Cf → FN} (c : Cal P w K mg base x k ps F) : CalX P w K mg base x k ps fun C ds R _ => F C ds R := let ⟨f, fd, G, r⟩ := c.ex; ⟨f, fd, G.toX, r⟩
theorem MetI.toX {k : Nat} {C : Addr} {m : Str} {F : Cf → FN} (c : MetI P w K mg base k C m F) : MetX P w K mg base k C m fun C ds R _ => F C ds R := let ⟨f, fd, ps, h1, h2, G, r⟩ := c.ex; ⟨f, fd, ps, h1, h2, G.toX, r⟩
end

/-! ### a text == any value -/
section
open PySem.SeqAt AutoSeq1 MeetsSeq
variable {A : Around} {s : Shared}
theorem rc_str_dict {l : Addr} {es : Array DictEntry} {ep : Nat} {dd : Option Addr} {sl : Array (Option Value)} (b : Str) (u : Tok) (ho : s.heap.get? l = some { cls := .type "dict", dict := dd, data := .dict es ep, slots := sl }) (hu : A.units < cLine) : SeqAt.RcAt A s (.str b u) (.ref l) false := fun prog w E Q h =>
  rc_eq_decline_or (k := false) (typeIs_str s b u) ⟨_, ho, rfl⟩ (by decide) F.sub_dict_str F.slot_str_eq F.slot_dict_eq_refl
    (fun _ hq => call_meets F.slot_str_eq (typeIs_str s b u) F.entry_str_eq (F.args_str_eq_2 _ _) (str_eq_no_dict b u l es ep dd sl) ⟨ho, hq⟩)
    (fun _ hq => call_meets F.slot_dict_eq_refl ⟨_, ho, rfl⟩ F.entry_dict_eq (F.args_dict_eq_2 _ _) (dict_eq_no_str l _ dd sl b u) ⟨ho, hq⟩)
    (fun _ hq => wpAny_of_eq (rfl : isSame (.str b u) (.ref l) = pure false) hq) (.inr hu) h
end
/-- the object at p is a dict -/
def IsDi (K : PySem.W.Frag) (H : Hp) (v : V) : Prop := ∃ p, v = .ref p ∧ ((∃ ks, H p = some (.dK ks)) ∨ ∃ o ks, H p = some (.frz o (.dK ks)))
def rEqT (K : PySem.W.Frag) : R2 := fun x y H Q => (∃ z, x = .str z ∧ IsDi K H y ∧ Q (.bl false) H) ∨ rEqb K x y H Q
def isDic : D → Bool
  | .dic _ => true
  | .dcf _ _ => true
  | _ => false
def fEqT : F2 := fun a b P => (∃ x, a = .str x ∧ isDic b = true ∧ P (.bl false)) ∨ fEq a b P
theorem op_eqT0 {X : Cx} (hu : X.A.units + 64 < cLine) : OpR X (compareOp .Eq) (fun x y H Q => ∃ z, x = .str z ∧ IsDi X.K H y ∧ Q (.bl false) H) := by
  intro pins s σ H x y v u Q I rx ry h
  obtain ⟨z, rfl, ⟨p, rfl, hd⟩, q⟩ := h
  obtain ⟨t, rfl⟩ := rx
  cases ry
  have fin : EP X pins σ Q (.bool false) s := ⟨.bl false, H, I, rfl, q⟩
  have obj : ∃ (dd : Option Addr) (es : Array DictEntry) (ep : Nat) (sl : Array (Option Value)), s.heap.get? p = some { cls := .type "dict", dict := dd, data := .dict es ep, slots := sl } := by
    rcases hd with ⟨ks, e⟩ | ⟨o0, ks, e⟩
    · obtain ⟨_, _, vs, _, o, es, ep, g, g2, hd, _⟩ := (show ObjOk X.prog X.w H s.heap _ (.dK _) from I.hok _ _ e)
      obtain ⟨c, d, dt, sl⟩ := o
      obtain ⟨rfl, _⟩ := g2
      simp only at hd
      subst hd
      exact ⟨_, _, _, _, g⟩
    · obtain ⟨_, _, _, vs, _, o, es, ep, g, g2, hd, _⟩ := (show ObjOk X.prog X.w H s.heap _ (.frz _ (.dK _)) from I.hok _ _ e)
      obtain ⟨c, d, dt, sl⟩ := o
      obtain ⟨rfl, _⟩ := g2
      simp only at hd
      subst hd
      exact ⟨_, _, _, _, g⟩
  obtain ⟨dd, es, ep, sl, g⟩ := obj
  show wpAny _ X.A (richCompare .Eq _ _) _ _ _
  exact rc_str_dict z t g (by omega) X.prog X.w X.xe _ fin
theorem op_eqT {X : Cx} (hu : X.A.units + 64 < cLine) : OpR X (compareOp .Eq) (rEqT X.K) := (op_eqT0 hu).or (op_eqb hu)
theorem od_eqT {K : PySem.W.Frag} {C : Cf} : OpD K C (rEqT K) fEqT := by
  intro S H x y a b P Q ok hx hy h q
  rcases h with ⟨z, rfl, hd, h⟩ | h
  · refine .inl ⟨z, hx.str_inv, ?_, q _ _ H (Go.refl ok) h (.bl _)⟩
    cases hy with
    | dic e _ => exact ⟨_, rfl, .inl ⟨_, same_hid _ _ e⟩⟩
    | dcf e _ => exact ⟨_, rfl, .inr ⟨_, _, same_hid _ _ e⟩⟩
    | _ => cases hd
  · exact .inr (od_eq S H x y a b P Q ok hx hy h q)
end L3
namespace LW
open PySem PySem.Spec PyProof.Rows L2 L3
local macro_rules | `(tactic| walk_at "vc") => `(tactic| simp only [sSeq, sCut, sNx, sBk, sCt, sSet, sIf, xSeq, xS, xIf, xRet, xSet, xExp, xRaise, xLift, xNil, xCons, dFz, oDc, iKy, dIsN, dFmtX, dXfld, sThw, thaw, thaw1, sRet, sRetN, sPar, sFor, sExp, dVar, dC, dOp, dCall, dCons, dNil, dTup, dLst, bOr, bNot, bAnd, bYes, dB, dTru, dOrT, dAndT, dNotT, dIf, dChain, view, frz, view1, frz1, startD, List.map_cons, List.map_nil, List.map_append, List.cons_append, List.nil_append, List.length_cons, List.length_nil, List.replicate, List.getElem?_cons_zero, List.getElem?_cons_succ, Option.some.injEq, exists_eq_left', exists_eq_left, gNm, geNm, iTx, iSq, iRg, dLc, List.set_cons_zero, List.set_cons_succ, wipeE, dSl, oNone, oSome, D.int.injEq, D.str.injEq, dJoin, dDnew, dDisp, dPairs, dNeg, sPars, kNil, kDat, kOwn, oLst, oDic, oLstOf, setRho, sApp, sAppF, sSetF, sAsg, gTp, gNms, dStar, dLenSet, iVar, iTp, siSeq, siEnd, tfFld, tfEnd, dFld, dTix, dMeth])
/-! ### odd values -/
theorem strOk_of {x : Str} (h : ∀ c ∈ x.cps.toList, c < 0x110000) : PyData.strOk x = true := by
  unfold PyData.strOk
  rw [← Array.all_toList, List.all_eq_true]
  intro c hc
  exact decide_eq_true (h c hc)
theorem strOk_at {x : Str} (h : PyData.strOk x = true) : ∀ c ∈ x.cps.toList, c < 0x110000 := by
  unfold PyData.strOk at h
  rw [← Array.all_toList, List.all_eq_true] at h
  exact fun c hc => of_decide_eq_true (h c hc)
theorem strOk_app {x y : Str} (h : PyData.strOk x = true) (k : PyData.strOk y = true) : PyData.strOk (x ++ y) = true := strOk_of fun c hc => by
  have hc : c ∈ (x.cps ++ y.cps).toList := hc
  rw [Array.toList_append] at hc
  rcases List.mem_append.mp hc with hc | hc
  · exact strOk_at h c hc
  · exact strOk_at k c hc
theorem cut_mem {z : Str} {lo hi : Option Int} : ∀ c ∈ (cutS z lo hi).cps.toList, c ∈ z.cps.toList := fun c hc => by
  unfold cutS at hc
  exact List.mem_of_mem_drop (List.mem_of_mem_take (by simpa using hc))
theorem cut_len {z : Str} {lo hi : Option Int} : (cutS z lo hi).length ≤ z.length := by
  unfold cutS
  show ((List.take _ (List.drop _ _)).toArray).size ≤ _
  rw [List.size_toArray, List.length_take, List.length_drop]
  have : z.cps.toList.length = z.length := by simp [Str.length]
  omega
theorem str_len_append (x y : Str) : (x ++ y).length = x.length + y.length := Str.length_append x y
theorem xok_str {x : Str} (h : PyData.strOk x = true) (hl : x.length ≤ 1000) : XOk (.str x) := by
  have := len_str h
  refine ⟨rfl, rfl, (by simp only [toP, PyData.depth]; decide), by omega⟩
/-- a pair whose second item is such a value, as it is shown -/
theorem pair_shown {n : Str} {x y : D} (hn : PyData.strOk n = true) (hl : n.length ≤ 100) (h : unW x = unW y) (xo : XOk y) : reprOk2 (.tup [.str n, x]) = true ∧ (toP (.tup [.str n, x])).depth ≤ 60 ∧ (showD (.tup [.str n, x])).length ≤ 100000 ∧ showD (.tup [.str n, x]) = showD (.tup [.str n, y]) := by
  obtain ⟨e1, e2, e3⟩ := unW_eq h
  have r := xo.rp
  have dp := xo.dp
  have sz := xo.sz
  rw [← e2] at r
  rw [← e1] at dp
  rw [← e3] at sz
  have l1 := len_str hn
  have l2 := len_tup [.str n, x]
  rw [sumL_cons, sumL_cons] at l2
  have l3 : sumL ([] : List D) = 0 := rfl
  have l4 : ([.str n, x] : List D).length = 2 := rfl
  refine ⟨?_, ?_, by omega, ?_⟩
  · unfold reprOk2 at r ⊢
    rw [Bool.or_eq_true] at r
    simp only [noDic, noDics, dicT, dicTs, Bool.true_and, Bool.and_true, Bool.or_eq_true]
    exact r
  · simp only [toP, toPs, PyData.depth, PyData.depthAll]
    omega
  · unfold showD
    simp only [toP, toPs, e1]
theorem xok_txts {xs : List Str} (h : ∀ x ∈ xs, PyData.strOk x = true ∧ x.length ≤ 1000) (hl : xs.length ≤ 5) : XOk (.tup (xs.map D.str)) ∧ XOk (.lst (xs.map D.str)) := by
  have c1 : (xs.map D.str).all (cpOk 4) = true := by
    rw [List.all_eq_true]
    intro d hd
    obtain ⟨x, _, rfl⟩ := List.mem_map.mp hd
    rfl
  have n1 : noDics (xs.map D.str) = true := noDics_of fun d hd => by
    obtain ⟨x, _, rfl⟩ := List.mem_map.mp hd
    rfl
  have l1 : ∀ d ∈ xs.map D.str, (showD d).length ≤ 10002 := fun d hd => by
    obtain ⟨x, hx, rfl⟩ := List.mem_map.mp hd
    have := len_str (h x hx).1
    have := (h x hx).2
    omega
  have hl2 : (xs.map D.str).length ≤ 5 := by rw [List.length_map]; exact hl
  have hl3 : (xs.map D.str).length ≤ 100000 := by omega
  have t1 : ∀ d ∈ xs.map D.str, Tx 0 d := tx_txts fun x hx => (h x hx).1
  have d1 := (Tx.tup t1).ok.2.2
  have d2 := (Tx.lst t1).ok.2.2
  refine ⟨⟨?_, ?_, by omega, by have := tup_le l1 hl2; omega⟩, ⟨?_, ?_, by omega, by have := lst_le l1 hl2; omega⟩⟩
  · unfold cpOk; simp only [c1, decide_eq_true hl3, Bool.and_self]
  · unfold reprOk2; simp only [noDic, n1, Bool.true_or]
  · unfold cpOk; simp only [c1, decide_eq_true hl3, Bool.and_self]
  · unfold reprOk2; simp only [noDic, n1, Bool.true_or]
theorem xok_dcf (w : Fz) : XOk (.dcf w []) := ⟨rfl, rfl, by simp only [toP, toPk]; decide, by
  have : showD (.dcf w []) = showD (.dic []) := rfl
  rw [this]
  decide +kernel⟩
theorem inStrs_of {y : D} {xs : List Str} (h : inStrs y xs = true) : ∃ x, y = .str x ∧ x ∈ xs := by
  unfold inStrs at h
  split at h
  · exact ⟨_, rfl, of_decide_eq_true h⟩
  · cases h
theorem xok_non : XOk .non := ⟨rfl, rfl, by decide +kernel, by decide +kernel⟩
theorem xok_bl (b : Bool) : XOk (.bl b) := by cases b <;> exact ⟨rfl, rfl, by decide +kernel, by decide +kernel⟩
theorem xok_01 {i : Int} (h : i = 0 ∨ i = 1 ∨ i = -1) : XOk (.int i) := by rcases h with rfl | rfl | rfl <;> exact ⟨rfl, by decide +kernel, by decide +kernel, by decide +kernel⟩
def oddAll (w : Fz) : List D := [.non, .bl true, .bl false, .int 0, .int 1, .int (-1), .str "", .str "own", .str "first", .str "row", .str "A", .str "a"] ++ [.str "zzzzzzz", .tup [], .lst [], .dcf w [], .tup [.str ""], .tup [.str "a"], .tup [.str "a", .str "a"]]
theorem odd_all (w : Fz) : ∀ y ∈ oddAll w, XOk y := by
  intro y hy
  have e : ∀ x ∈ (["", "own", "first", "row", "A", "a", "zzzzzzz"] : List Str), PyData.strOk x = true ∧ x.length ≤ 1000 := by decide +kernel
  have t : ∀ x ∈ (["", "own", "first", "row", "A", "a", "zzzzzzz"] : List Str), XOk (.str x) := fun x hx => xok_str (e x hx).1 (e x hx).2
  have m : ∀ (xs : List Str), xs.length ≤ 5 → (∀ x ∈ xs, x ∈ (["", "own", "first", "row", "A", "a", "zzzzzzz"] : List Str)) → XOk (.tup (xs.map D.str)) ∧ XOk (.lst (xs.map D.str)) := fun xs hl hx => xok_txts (fun x h => e x (hx x h)) hl
  simp only [oddAll, List.cons_append, List.nil_append, List.mem_cons, List.not_mem_nil, or_false] at hy
  rcases hy with rfl | rfl | rfl | rfl | rfl | rfl | rfl | rfl | rfl | rfl | rfl | rfl | rfl | rfl | rfl | rfl | rfl | rfl | rfl
  · exact xok_non
  · exact xok_bl _
  · exact xok_bl _
  · exact xok_01 (.inl rfl)
  · exact xok_01 (.inr (.inl rfl))
  · exact xok_01 (.inr (.inr rfl))
  · exact t _ (by simp)
  · exact t _ (by simp)
  · exact t _ (by simp)
  · exact t _ (by simp)
  · exact t _ (by simp)
  · exact t _ (by simp)
  · exact t _ (by simp)
  · exact (m [] (by decide) (fun _ h => nomatch h)).1
  · exact (m [] (by decide) (fun _ h => nomatch h)).2
  · exact xok_dcf w
  · exact (m [""] (by decide) (by simp)).1
  · exact (m ["a"] (by decide) (by simp)).1
  · exact (m ["a", "a"] (by decide) (by simp)).1
/-- one given by position, the others by name -/
def hd1 {α : Type} : List α → List α → List α
  | [a], zs => a :: zs
  | _, _ => []
abbrev hd1D : List D → List D → List D := hd1
theorem hd1_rel {vs zs : List V} {us ws : List Value} (r1 : Vals vs us) (r2 : Vals zs ws) : Vals (hd1 vs zs) (hd1 us ws) := by
  cases r1 with
  | nil => exact .nil
  | cons r t =>
    cases t with
    | nil => exact .cons r r2
    | cons _ _ => exact .nil
theorem hd1D_dvs {K : PySem.W.Frag} {H : Hp} {vs zs : List V} {ds es : List D} (h : DVs K H vs ds) (k : DVs K H zs es) : DVs K H (hd1 vs zs) (hd1D ds es) := by
  cases h with
  | nil => exact .nil
  | cons r t =>
    cases t with
    | nil => exact .cons r k
    | cons _ _ => exact .nil
end LW
namespace LW
open PySem PySem.Spec PyProof.Rows L2 L3
local macro_rules | `(tactic| walk_at "vc") => `(tactic| simp only [sSeq, sCut, sTry, xTry, hRun, sNx, sBk, sCt, sSet, sIf, xSeq, xS, xIf, xRet, xSet, xExp, xRaise, xLift, xNil, xCons, dFz, oDc, iKy, dIsN, dFmtX, dXfld, sThw, thaw, thaw1, sRet, sRetN, sPar, sFor, sExp, dVar, dC, dOp, dCall, dCons, dNil, dTup, dLst, bOr, bNot, bAnd, bYes, dB, dTru, dOrT, dAndT, dNotT, dIf, dChain, view, frz, view1, frz1, startD, List.map_cons, List.map_nil, List.map_append, List.cons_append, List.nil_append, List.length_cons, List.length_nil, List.replicate, List.getElem?_cons_zero, List.getElem?_cons_succ, Option.some.injEq, exists_eq_left', exists_eq_left, gNm, geNm, iTx, iSq, iRg, dLc, List.set_cons_zero, List.set_cons_succ, wipeE, dSl, oNone, oSome, D.int.injEq, D.str.injEq, dJoin, dDnew, dDisp, dPairs, dNeg, sPars, kNil, kDat, kOwn, oLst, oDic, oLstOf, setRho, sApp, sAppF, sSetF, sAsg, gTp, gNms, dStar, dLenSet, iVar, iTp, siSeq, siEnd, tfFld, tfEnd, dFld, dTix, dMeth])
abbrev s_law_told : Stmt := topS 50
theorem sc_law_told : FnScope ["work", "error", "found", "e"] ["work"] (defScope s_law_told) := ⟨rfl, rfl, rfl, by decide +kernel, rfl, by decide +kernel, by decide +kernel⟩
structure Txt (K : PySem.W.Frag) (mg : Str → Option Value) (aB aS aG aN aR : Addr) : Prop where
  m_isinstance : mg "isinstance" = none
  e_BuildError : mg "BuildError" = some (.ref aB)
  e_BadSchema : mg "BadSchema" = some (.ref aS)
  e_BadGraph : mg "BadGraph" = some (.ref aG)
  e_NoName : mg "NoName" = some (.ref aN)
  e_BadRoots : mg "BadRoots" = some (.ref aR)
/-- what of the text NoName has, when it is caught and looked at -/
structure NoNameF (K : PySem.W.Frag) (aB aS aG aN : Addr) : Prop where
  exm : PySem.W.exmOne K (.ref aN) (.ref aB) = some true
  xc : XCls K aN
  hno : PySem.W.findIn K (.ref aN) "name" = some none
  kS : PySem.W.kitOne K (.ref aN) (.ref aS) = some false
  kG : PySem.W.kitOne K (.ref aN) (.ref aG) = some false
  kN : PySem.W.kitOne K (.ref aN) (.ref aN) = some true
section
variable {P : Program} {w : World} {K : PySem.W.Frag} {mg : Str → Option Value} {base : Heap}
/-- the worth, or the name that nothing has -/
def fTold (aN : Addr) : FTold := fun B R => ∀ (P : D → Prop) (Wd : XW), (∀ d, R (.tup [.str "value", d]) → P d) → (∀ x, R (.tup [.str "name", x]) → Wd aN [(.inr "name", x)]) → B P Wd
theorem told_law_told {aB a_BadSchema a_BadGraph a_NoName a_BadRoots : Addr} (T : Txt K mg aB a_BadSchema a_BadGraph a_NoName a_BadRoots) (NF : NoNameF K aB a_BadSchema a_BadGraph a_NoName) (d : Dfn K mg "_law_told" s_law_told ["work"]) : Told P w K mg base "_law_told" "work" 11 (fTold a_NoName) := by
  obtain ⟨g, fd, FF, hm, hb⟩ := d.ex
  have e_BuildError := T.e_BuildError
  have e_BadSchema := T.e_BadSchema
  have e_BadGraph := T.e_BadGraph
  have e_NoName := T.e_NoName
  have e_BadRoots := T.e_BadRoots
  refine ⟨_, _, g, fd, FF, hm, hb, sc_law_told, ⟨rfl, .inl rfl, by decide, by decide⟩, fun cdv A fr s H C hgd hr B v Φ hw => ⟨_, (dss_cons (ds_set (i := 1) ⟨sc_law_told.nd, rfl, by first | exact .inl rfl | exact .inr rfl, .inl rfl⟩ de_non)
      (dss_cons (ds_try rfl rfl rfl sc_law_told.nd (fun z hp => (dssx_one (dsx_set (i := 2) ⟨sc_law_told.nd, rfl, by first | exact .inl rfl | exact .inr rfl, .inl rfl⟩ (hw z _ _)))) (DHs.named (i := 3) (names_own rfl e_BuildError) rfl rfl (fun z => (dss_one (ds_set (i := 1) ⟨sc_law_told.nd, rfl, by first | exact .inl rfl | exact .inr rfl, .inl rfl⟩ (de_of (pv 3))))) .nil))
      (dss_cons (ds_if (dt_isN (de_of (pv 1))) (dss_one (ds_ret (de_tup (da_cons de_str (da_cons (de_of (pv 2)) da_nil))))) dss_nil)
      (dss_cons (ds_if (dt_val (de_blt (cd_isX (C := a_BadSchema)) (call_isX (.inl ⟨_, rfl⟩)) rfl T.m_isinstance boot_isinstance (da_cons (de_of (pv 1)) (da_cons (de_c (pe_glob (v := .ref a_BadSchema) rfl e_BadSchema rfl) fun _ => .op _) da_nil)))) (dss_one (ds_ret (de_tup (da_cons de_str (da_cons (de_xfld (de_of (pv 1))) da_nil))))) dss_nil)
      (dss_cons (ds_if (dt_val (de_blt (cd_isX (C := a_BadGraph)) (call_isX (.inl ⟨_, rfl⟩)) rfl T.m_isinstance boot_isinstance (da_cons (de_of (pv 1)) (da_cons (de_c (pe_glob (v := .ref a_BadGraph) rfl e_BadGraph rfl) fun _ => .op _) da_nil)))) (dss_one (ds_ret (de_tup (da_cons de_str (da_cons (de_xfld (de_of (pv 1))) da_nil))))) dss_nil)
      (dss_cons (ds_if (dt_val (de_blt (cd_isX (C := a_NoName)) (call_isX (.inl ⟨_, rfl⟩)) rfl T.m_isinstance boot_isinstance (da_cons (de_of (pv 1)) (da_cons (de_c (pe_glob (v := .ref a_NoName) rfl e_NoName rfl) fun _ => .op _) da_nil)))) (dss_one (ds_ret (de_tup (da_cons de_str (da_cons (de_xfld (de_of (pv 1))) da_nil))))) dss_nil)
      (dss_one (ds_ret (de_if (dt_val (de_blt (cd_isX (C := a_BadRoots)) (call_isX (.inl ⟨_, rfl⟩)) rfl T.m_isinstance boot_isinstance (da_cons (de_of (pv 1)) (da_cons (de_c (pe_glob (v := .ref a_BadRoots) rfl e_BadRoots rfl) fun _ => .op _) da_nil)))) (de_tup (da_cons de_str (da_cons (de_xfld (de_of (pv 1))) da_nil))) (de_tup (da_cons de_str da_nil))))))))))), fun R h => ?_⟩⟩
  walk_at "vc"
  refine ⟨trivial, h _ _ (fun d hd => ?_) (fun x hx => ?_)⟩
  · refine ⟨true, rfl, true, rfl, ?_⟩
    rw [if_pos rfl]
    exact ⟨by decide, hd⟩
  · refine ⟨true, NF.exm, fun _ => ?_, fun z => nomatch z⟩
    refine ⟨false, rfl, false, rfl, ?_⟩
    rw [if_neg Bool.false_ne_true]
    refine ⟨rfl, NF.xc, false, NF.kS, _, rfl, ?_⟩
    rw [if_neg Bool.false_ne_true]
    refine ⟨rfl, NF.xc, false, NF.kG, _, rfl, ?_⟩
    rw [if_neg Bool.false_ne_true]
    refine ⟨rfl, NF.xc, true, NF.kN, _, rfl, ?_⟩
    rw [if_pos rfl]
    exact ⟨_, _, x, rfl, NF.xc, NF.hno, rfl, by decide, hx⟩
end
end LW
namespace LW
open PySem PySem.Spec PyProof.Rows L2 L3
local macro_rules | `(tactic| walk_at "vc") => `(tactic| simp only [sSeq, xFor, iZp, dDGet, dDIn, sFz, sDput, oDicOf, oDc, iKy, dMeth, dFld, dXfld, iEn, xMeth,  sNx, sBk, sCt, sSet, sIf, xSeq, xS, xIf, xRet, xSet, xExp, xRaise, xLift, xNil, xCons, dFz, oDc, iKy, dIsN, dFmtX, dXfld, sThw, thaw, thaw1, sRet, sRetN, sPar, sFor, sExp, dVar, dC, dOp, dCall, dCons, dNil, dTup, dLst, bOr, bNot, bAnd, bYes, dB, dTru, dOrT, dAndT, dNotT, dIf, dChain, view, frz, view1, frz1, startD, List.map_cons, List.map_nil, List.map_append, List.cons_append, List.nil_append, List.length_cons, List.length_nil, List.replicate, List.getElem?_cons_zero, List.getElem?_cons_succ, Option.some.injEq, exists_eq_left', exists_eq_left, gNm, geNm, iTx, iSq, iRg, dLc, List.set_cons_zero, List.set_cons_succ, wipeE, dSl, oNone, oSome, D.int.injEq, D.str.injEq, dJoin, dDnew, dDisp, dPairs, dNeg, sPars, kNil, kDat, kOwn, oLst, oDic, oLstOf, setRho, sApp, sAppF, sSetF, sAsg, gTp, gNms, dStar, dLenSet, iVar, iTp, siSeq, siEnd, tfFld, tfEnd, dFld, dTix, dMeth])
abbrev s_Graph_class_of : Stmt := (clsB (topS 25)).getD 5 (.Pass ⟨0, 0, 0, 0⟩)
theorem sc_Graph_class_of : FnScope ["self", "name"] ["self", "name"] (defScope s_Graph_class_of) := ⟨rfl, rfl, rfl, by decide +kernel, rfl, by decide +kernel, by decide +kernel⟩
abbrev s_Graph_words : Stmt := (clsB (topS 25)).getD 6 (.Pass ⟨0, 0, 0, 0⟩)
theorem sc_Graph_words : FnScope ["self", "name", "slot", "slots", "row", "content"] ["self", "name", "slot"] (defScope s_Graph_words) := ⟨rfl, rfl, rfl, by decide +kernel, rfl, by decide +kernel, by decide +kernel⟩
section
variable {P : Program} {w : World} {K : PySem.W.Frag} {mg : Str → Option Value} {base : Heap}
theorem getK_no {z : Str} : ∀ {os : List Ob}, z ∉ os.map Ob.nm → getK (os.map Ob.d) (.inr z) = none
  | [], _ => rfl
  | o :: r, h => by
    have h1 : ¬ o.nm = z := fun e => h (by rw [List.map_cons, e]; exact List.mem_cons_self)
    have ih := getK_no (os := r) fun q => h (by rw [List.map_cons]; exact List.mem_cons_of_mem _ q)
    unfold getK at ih ⊢
    rw [List.map_cons, List.find?_cons, decide_eq_false (show ¬ (Ob.d o).1 = .inr z from fun e => h1 (Sum.inr.inj e))]
    exact ih
theorem zip_at {hs : List Hole} {cs : List Cont} {j : Nat} {d : D} (h : ((hs.zip cs).map fun p => D.tup [p.1.d, p.2.d])[j]? = some d) : ∃ q, (hs.zip cs)[j]? = some q ∧ d = .tup [q.1.d, q.2.d] := by
  rw [List.getElem?_map] at h
  obtain ⟨q, h1, h2⟩ := Option.map_eq_some_iff.mp h
  exact ⟨q, h1, h2.symm⟩
theorem nm_inj {hs : List Hole} {i j : Nat} {a b : Hole} (nd : (hs.map Hole.nm).Nodup) (ha : hs[i]? = some a) (hb : hs[j]? = some b) (e : a.nm = b.nm) : i = j := by
  have l1 := (List.getElem?_eq_some_iff.mp ha).1
  refine (List.getElem?_inj (by rw [List.length_map]; exact l1) nd).mp ?_
  rw [List.getElem?_map, List.getElem?_map, ha, hb]
  show some a.nm = some b.nm
  rw [e]
theorem fld_gs (Gr Sc : Addr) (ss : List Sheet) (w : Fz) (os : List Ob) : fldOf "_schema" [(.inr "_schema", schemaD Sc ss), (.inr "_objects", .dcf w (os.map Ob.d))] = some (schemaD Sc ss) := rfl
/-- the class of an object, or the error that says which name -/
def fClassX (Gr Sc aN : Addr) : Cf → FNx := fun C ds P Wd => ∃ ss w os n d, ds = [graphD Gr Sc ss w os, d] ∧ OkObs ss n os ∧ XOk d ∧ okV d ∧ ((∃ o ∈ os, d = .str o.nm ∧ P (.str o.cl.lb)) ∨ (inStrs d (os.map Ob.nm) = false ∧ ∀ d', unW d' = unW d → Wd aN [(.inr "name", d')]))
theorem met_classX {Gr Sc aN f : Addr} {fd : FuncData} (c_Graph : Cls K Gr) (n_schema : NoAttr K Gr "_schema") (n_objects : NoAttr K Gr "_objects") (X_NoName : MakX P w K mg base 6 "NoName" aN "name" "name" fXName) (C_is_name : Cal P w K mg base "is_name" 1 ["thing"] fIsName)
    (FF : Fun K "class_of" "Graph.class_of" s_Graph_class_of f fd) : FnG P w K mg base (L2.CX P w) 8 f fd ["self", "name"] (spX K (fClassX Gr Sc aN)) := by
  refine def_okX FF sc_Graph_class_of (fun C ds R Wd h => by obtain ⟨_, _, _, _, _, rfl, _⟩ := h; rfl) fun cdv A fr s H E hgd hr hp C ds R Wd h => ⟨_, (dssx_cons (dsx_if (dt_w (dw_or (dt_not (dt_val (de_cal C_is_name hgd hr (by decide) rfl (da_cons (de_of (pv 1)) da_nil)))) (dw_or1 (dt_dnotin hr.units (de_of (pv 1)) (de_fld c_Graph n_objects (de_of (pv 0))))))) (dssx_one (dsx_raise X_NoName hgd hr (by decide) rfl rfl (de_of (pv 1)))) dssx_nil)
      (dssx_one (dsx_of (ds_ret (de_ix od_ix ix_seq (de_dget hr.units (de_fld c_Graph n_objects (de_of (pv 0))) (de_of (pv 1))) de_int))))), ?_⟩
  obtain ⟨ss, w, os, n, d, rfl, ok, xo, od, h⟩ := h
  simp only [graphD]
  walk_at "vc"
  refine ⟨d, rfl, od, _, rfl, ?_⟩
  rcases h with ⟨o, ho, rfl, h⟩ | ⟨hn, h⟩
  · have gk := getK_ob ok.nd ho
    rw [nm_is (ok.nm o ho), if_neg (by decide)]
    refine ⟨_, _, rfl, rfl, _, .inr o.nm, rfl, rfl, _, rfl, ?_⟩
    rw [gk, if_neg (by show ¬ (true != true) = true; decide)]
    exact ⟨_, _, rfl, rfl, _, .inr o.nm, _, rfl, rfl, gk, .str o.cl.lb, atI_nat (j := 0) rfl, h⟩
  · cases e : nameD d with
    | false =>
      rw [if_pos (by decide), if_pos trivial]
      exact ⟨d, rfl, xo, h⟩
    | true =>
      obtain ⟨z, rfl⟩ : ∃ z, d = .str z := by cases d <;> first | exact ⟨_, rfl⟩ | cases e
      have gk : getK (os.map Ob.d) (.inr z) = none := getK_no (of_decide_eq_false hn)
      rw [if_neg (by decide)]
      refine ⟨_, _, rfl, rfl, _, .inr z, rfl, rfl, _, rfl, ?_⟩
      rw [gk, if_pos (by decide)]
      exact ⟨_, rfl, xo, h⟩
def fClass (Gr Sc : Addr) : Cf → FN := fun C ds P => ∃ ss w os n o, ds = [graphD Gr Sc ss w os, .str (Ob.nm o)] ∧ OkObs ss n os ∧ o ∈ os ∧ P (.str o.cl.lb)
theorem met_class {Gr Sc f : Addr} {fd : FuncData} (c_Graph : Cls K Gr) (n_objects : NoAttr K Gr "_objects") (C_is_name : Cal P w K mg base "is_name" 1 ["thing"] fIsName)
    (FF : Fun K "class_of" "Graph.class_of" s_Graph_class_of f fd) : FnG P w K mg base CX0 2 f fd ["self", "name"] (spD K (fClass Gr Sc)) := by
  refine def_ok FF sc_Graph_class_of (fun C ds R h => by obtain ⟨_, _, _, _, _, rfl, _⟩ := h; rfl) fun cdv A fr s H E hgd hr C ds R h => ⟨_, (dss_cons (ds_if (dt_w (dw_or (dt_not (dt_val (de_cal C_is_name hgd hr (by decide) rfl (da_cons (de_of (pv 1)) da_nil)))) (dw_or1 (dt_dnotin hr.units (de_of (pv 1)) (de_fld c_Graph n_objects (de_of (pv 0))))))) (dss_one ds_dead) dss_nil)
      (dss_one (ds_ret (de_ix od_ix ix_seq (de_dget hr.units (de_fld c_Graph n_objects (de_of (pv 0))) (de_of (pv 1))) de_int)))), ?_⟩
  obtain ⟨ss, w, os, n, o, rfl, ok, ho, h⟩ := h
  simp only [graphD]
  walk_at "vc"
  have gk := getK_ob ok.nd ho
  refine ⟨_, rfl, nm_okV (ok.nm o ho), _, rfl, ?_⟩
  rw [nm_is (ok.nm o ho), if_neg (by decide)]
  refine ⟨_, _, rfl, rfl, _, .inr o.nm, rfl, rfl, _, rfl, ?_⟩
  rw [gk, if_neg (by show ¬ (true != true) = true; decide)]
  exact ⟨_, _, rfl, rfl, _, .inr o.nm, _, rfl, rfl, gk, .str o.cl.lb, atI_nat (j := 0) rfl, h⟩
/-- the words of a slot -/
def fWords (Gr Sc : Addr) : Cf → FN := fun C ds P => ∃ ss w os n o, ∃ i : Nat, ∃ h c, ds = [graphD Gr Sc ss w os, .str (Ob.nm o), .str (Hole.nm h)] ∧ OkSheets ss ∧ OkObs ss n os ∧ o ∈ os ∧ o.cl.holes[i]? = some h ∧ o.cs[i]? = some c ∧ P (.tup ((wordsC c).map keyV))
theorem met_words {Gr Sc f : Addr} {fd : FuncData} (T : Txgr mg) (c_Graph : Cls K Gr) (n_schema : NoAttr K Gr "_schema") (n_objects : NoAttr K Gr "_objects") (M_class_of : MetI P w K mg base 2 Gr "class_of" (fClass Gr Sc)) (M_slots : MetI P w K mg base 1 Sc "slots" (fSlots Sc)) (C_words_of : Cal P w K mg base "_words_of" 1 ["form", "content"] fWordsOf)
    (FF : Fun K "words" "Graph.words" s_Graph_words f fd) : FnG P w K mg base CX0 4 f fd ["self", "name", "slot"] (spD K (fWords Gr Sc)) := by
  refine def_ok FF sc_Graph_words (fun C ds R h => by obtain ⟨_, _, _, _, _, _, _, _, rfl, _⟩ := h; rfl) fun cdv A fr s H E hgd hr C ds R h => ⟨_, (dss_cons (ds_set (i := 3) ⟨sc_Graph_words.nd, rfl, by first | exact .inl rfl | exact .inr rfl, .inl rfl⟩ (de_met M_slots hgd hr (by decide) (de_fld c_Graph n_schema (de_of (pv 0))) (da_cons (de_met M_class_of hgd hr (by decide) (de_of (pv 0)) (da_cons (de_of (pv 1)) da_nil)) da_nil)))
      (dss_cons (ds_for PassesOwn.never rfl (di_zip rfl T.m_zip (da_cons (de_of (pv 3)) (da_cons (de_ix od_ix ix_seq (de_dget hr.units (de_fld c_Graph n_objects (de_of (pv 0))) (de_of (pv 1))) de_int) da_nil))) (dg_tup rfl (dgs_cons (i := 4) ⟨sc_Graph_words.nd, rfl, by first | exact .inl rfl | exact .inr rfl, .inl rfl⟩ (dgs_cons (i := 5) ⟨sc_Graph_words.nd, rfl, by first | exact .inl rfl | exact .inr rfl, .inl rfl⟩ dgs_nil))) (dss_one (ds_if (dt_cmp od_eq (op_eqb hr.units) (nomark _) (de_ix od_ix ix_seq (de_of (pv 4)) de_int) (de_of (pv 2))) (dss_one (ds_ret (de_cal C_words_of hgd hr (by decide) rfl (da_cons (de_ix od_ix ix_seq (de_of (pv 4)) de_int) (da_cons (de_of (pv 5)) da_nil))))) dss_nil)))
      (dss_one ds_dead))), ?_⟩
  obtain ⟨ss, w, os, n, o, i, hh, c, rfl, hs, ok, ho, e1, e2, h⟩ := h
  simp only [graphD]
  walk_at "vc"
  have osl := hs.sheet o.cl (ok.cl o ho)
  have gk := getK_ob ok.nd ho
  have two : Two (fun (h : Hole) c => OkForm h.form c) o.cl.holes o.cs := two_mem (ok.cs o ho) fun hh c h1 h2 => okForm (osl.hole hh h1) ok.nm h2
  refine ⟨_, _, rfl, rfl, _, rfl, rfl, _, rfl, rfl, ss, w, os, n, o, rfl, ok, ho, ss, o.cl, rfl, hs, ok.cl o ho, ?_⟩
  refine ⟨_, _, rfl, rfl, _, .inr o.nm, _, rfl, rfl, gk, _, atI_nat (j := 1) rfl, o.cl.holes.map Hole.d, o.cs.map Cont.d, rfl, ?_⟩
  rw [zipD_map]
  refine ⟨fun j ρ => j ≤ i ∧ ∃ a4 a5, ρ = [.dat (graphD Gr Sc ss w os), .dat (.str o.nm), .dat (.str hh.nm), .dat (.tup (o.cl.holes.map Hole.d)), a4, a5], ⟨Nat.zero_le _, _, _, rfl⟩, fun j d ρ' hd hI => ?_, fun ρ' hI => ?_⟩
  · obtain ⟨hj, a4, a5, rfl⟩ := hI
    obtain ⟨q, hq, rfl⟩ := zip_at hd
    obtain ⟨q1, q2⟩ := List.getElem?_zip_eq_some.mp hq
    refine ⟨_, rfl, ?_⟩
    walk_at "vc"
    refine ⟨_, atI0, _, rfl, ?_⟩
    have fo := two_zip two (List.mem_of_getElem? hq)
    by_cases e : j = i
    · subst e
      rw [e1] at q1
      rw [e2] at q2
      have z1 := Option.some.inj q1
      have z2 := Option.some.inj q2
      rw [← z1, ← z2] at fo ⊢
      rw [decide_eq_true rfl, if_pos (by decide)]
      exact ⟨_, atI_nat (j := 2) rfl, _, _, rfl, fo, h⟩
    · have ne : q.1.nm ≠ hh.nm := fun z => e (nm_inj osl.nd q1 e1 z)
      rw [decide_eq_false ne, if_neg (by decide)]
      exact ⟨by omega, _, _, rfl⟩
  · obtain ⟨hj, _⟩ := hI
    have l1 := (List.getElem?_eq_some_iff.mp e1).1
    have l2 := (List.getElem?_eq_some_iff.mp e2).1
    rw [List.length_map, List.length_zip] at hj
    omega
end
end LW
namespace LW
open PySem PySem.Spec PyProof.Rows L2 L3
local macro_rules | `(tactic| walk_at "vc") => `(tactic| simp only [sSeq, xFor, iZp, dDGet, dDIn, sFz, sDput, oDicOf, oDc, iKy, dMeth, dFld, dXfld, iEn, xMeth,  sNx, sBk, sCt, sSet, sIf, xSeq, xS, xIf, xRet, xSet, xExp, xRaise, xLift, xNil, xCons, dFz, oDc, iKy, dIsN, dFmtX, dXfld, sThw, thaw, thaw1, sRet, sRetN, sPar, sFor, sExp, dVar, dC, dOp, dCall, dCons, dNil, dTup, dLst, bOr, bNot, bAnd, bYes, dB, dTru, dOrT, dAndT, dNotT, dIf, dChain, view, frz, view1, frz1, startD, List.map_cons, List.map_nil, List.map_append, List.cons_append, List.nil_append, List.length_cons, List.length_nil, List.replicate, List.getElem?_cons_zero, List.getElem?_cons_succ, Option.some.injEq, exists_eq_left', exists_eq_left, gNm, geNm, iTx, iSq, iRg, dLc, List.set_cons_zero, List.set_cons_succ, wipeE, dSl, oNone, oSome, D.int.injEq, D.str.injEq, dJoin, dDnew, dDisp, dPairs, dNeg, sPars, kNil, kDat, kOwn, oLst, oDic, oLstOf, setRho, sApp, sAppF, sSetF, sAsg, gTp, gNms, dStar, dLenSet, iVar, iTp, siSeq, siEnd, tfFld, tfEnd, dFld, dTix, dMeth])
theorem eqD_str_no {a : Str} {d : D} (h : ∀ z, d ≠ .str z) : eqD (.str a) d = false := by
  cases d <;> first | exact absurd rfl (h _) | (unfold eqD; simp only [toP]; rfl)
theorem two_at {α β : Type} {R : α → β → Prop} {l : List α} {m : List β} {i : Nat} {a : α} (t : Two R l m) (e : l[i]? = some a) : ∃ b, m[i]? = some b := by
  have h := (List.getElem?_eq_some_iff.mp e).1
  rw [t.len] at h
  exact ⟨m[i], List.getElem?_eq_getElem h⟩
/-- a text == any value -/
def strEq (a : Str) : D → Bool
  | .str z => decide (a = z)
  | _ => false
theorem eqT_str {a : Str} {d : D} {R : D → Prop} (ha : eqOk (.str a) = true) (ho : isDic d = true ∨ eqOk d = true) (h : R (.bl (strEq a d))) : fEqT (.str a) d R := by
  by_cases s : ∃ z, d = .str z
  · obtain ⟨z, rfl⟩ := s
    refine .inr ?_
    show R (.bl (false != decide (a = z)))
    rw [Bool.false_bne]
    exact h
  · have e : strEq a d = false := by cases d <;> first | rfl | exact absurd ⟨_, rfl⟩ s
    rw [e] at h
    rcases ho with hd | hd
    · exact .inl ⟨a, rfl, hd, h⟩
    · refine .inr ?_
      have g : eqOk (.str a) = true ∧ eqOk d = true ∧ R (.bl (false != eqD (.str a) d)) := ⟨ha, hd, by rw [eqD_str_no fun z q => s ⟨z, q⟩]; exact h⟩
      cases d <;> first | exact absurd ⟨_, rfl⟩ s | exact g
section
variable {P : Program} {w : World} {K : PySem.W.Frag} {mg : Str → Option Value} {base : Heap}
def fWordsX (Gr Sc aN : Addr) : Cf → FNx := fun C ds P Wd => ∃ ss w os n d1 d2, ds = [graphD Gr Sc ss w os, d1, d2] ∧ OkSheets ss ∧ OkObs ss n os ∧ XOk d1 ∧ okV d1 ∧ XOk d2 ∧ (isDic d2 = true ∨ eqOk d2 = true) ∧
  ((∃ o ∈ os, d1 = .str o.nm ∧ ((∃ h ∈ o.cl.holes, d2 = .str h.nm ∧ ∀ y, P y) ∨ (inStrs d2 (o.cl.holes.map Hole.nm) = false ∧ ∀ d', unW d' = unW d2 → Wd aN [(.inr "name", d')]))) ∨ (inStrs d1 (os.map Ob.nm) = false ∧ ∀ d', unW d' = unW d1 → Wd aN [(.inr "name", d')]))
theorem met_wordsX {Gr Sc aN f : Addr} {fd : FuncData} (T : Txgr mg) (c_Graph : Cls K Gr) (n_schema : NoAttr K Gr "_schema") (n_objects : NoAttr K Gr "_objects") (X_NoName : MakX P w K mg base 6 "NoName" aN "name" "name" fXName) (X_class_of : MetX P w K mg base 8 Gr "class_of" (fClassX Gr Sc aN))
    (X_slots : MetX P w K mg base 1 Sc "slots" fun C ds R _ => fSlots Sc C ds R) (C_words_of : Cal P w K mg base "_words_of" 1 ["form", "content"] fWordsOf)
    (FF : Fun K "words" "Graph.words" s_Graph_words f fd) : FnG P w K mg base (L2.CX P w) 10 f fd ["self", "name", "slot"] (spX K (fWordsX Gr Sc aN)) := by
  refine def_okX FF sc_Graph_words (fun C ds R Wd h => by obtain ⟨_, _, _, _, _, _, rfl, _⟩ := h; rfl) fun cdv A fr s H E hgd hr hp C ds R Wd h => ⟨_, (dssx_cons (dsx_set (i := 3) ⟨sc_Graph_words.nd, rfl, by first | exact .inl rfl | exact .inr rfl, .inl rfl⟩ (dex_met X_slots hgd hr (by decide) (dex_of (de_fld c_Graph n_schema (de_of (pv 0)))) (dax_cons (dex_met X_class_of hgd hr (by decide) (dex_of (de_of (pv 0))) (dax_cons (dex_of (de_of (pv 1))) dax_nil)) dax_nil)))
      (dssx_cons (dsx_of (ds_for hp rfl (di_zip rfl T.m_zip (da_cons (de_of (pv 3)) (da_cons (de_ix od_ix ix_seq (de_dget hr.units (de_fld c_Graph n_objects (de_of (pv 0))) (de_of (pv 1))) de_int) da_nil))) (dg_tup rfl (dgs_cons (i := 4) ⟨sc_Graph_words.nd, rfl, by first | exact .inl rfl | exact .inr rfl, .inl rfl⟩ (dgs_cons (i := 5) ⟨sc_Graph_words.nd, rfl, by first | exact .inl rfl | exact .inr rfl, .inl rfl⟩ dgs_nil))) (dss_one (ds_if (dt_cmp od_eqT (op_eqT hr.units) (nomark _) (de_ix od_ix ix_seq (de_of (pv 4)) de_int) (de_of (pv 2))) (dss_one (ds_ret (de_cal C_words_of hgd hr (by decide) rfl (da_cons (de_ix od_ix ix_seq (de_of (pv 4)) de_int) (da_cons (de_of (pv 5)) da_nil))))) dss_nil))))
      (dssx_one (dsx_raise X_NoName hgd hr (by decide) rfl rfl (de_of (pv 2)))))), ?_⟩
  obtain ⟨ss, w, os, n, d1, d2, rfl, hs, ok, xo1, od1, xo2, q2, h⟩ := h
  simp only [graphD]
  walk_at "vc"
  refine ⟨_, _, rfl, rfl, _, rfl, rfl, _, rfl, rfl, ss, w, os, n, d1, rfl, ok, xo1, od1, ?_⟩
  rcases h with ⟨o, ho, rfl, h⟩ | ⟨hn, h⟩
  · refine .inl ⟨o, ho, rfl, ?_⟩
    have osl := hs.sheet o.cl (ok.cl o ho)
    have gk := getK_ob ok.nd ho
    have two : Two (fun (h : Hole) c => OkForm h.form c) o.cl.holes o.cs := two_mem (ok.cs o ho) fun hh c h1 h2 => okForm (osl.hole hh h1) ok.nm h2
    refine ⟨ss, o.cl, rfl, hs, ok.cl o ho, ?_⟩
    refine ⟨_, _, rfl, rfl, _, .inr o.nm, _, rfl, rfl, gk, _, atI_nat (j := 1) rfl, o.cl.holes.map Hole.d, o.cs.map Cont.d, rfl, ?_⟩
    rw [zipD_map]
    -- a turn: the slot is met, or the walk goes on
    have turn : ∀ (j : Nat) (q : Hole × Cont), (o.cl.holes.zip o.cs)[j]? = some q → OkForm q.1.form q.2 ∧ eqOk (.str q.1.nm) = true := fun j q hq => by
      have fo := two_zip two (List.mem_of_getElem? hq)
      have q1 := (List.getElem?_zip_eq_some.mp hq).1
      have nm := (osl.hole q.1 (List.mem_of_getElem? q1)).nm
      exact ⟨fo, (Tx.str nm.ok : Tx 0 _).eqOk (by decide)⟩
    have hok : ∀ {hh : Hole}, hh ∈ o.cl.holes → eqOk (.str hh.nm) = true := fun hm => (Tx.str ((osl.hole _ hm).nm.ok) : Tx 0 _).eqOk (by decide)
    rcases h with ⟨hh, hm, rfl, h⟩ | ⟨hn2, h⟩
    · obtain ⟨i, e1⟩ := List.getElem?_of_mem hm
      obtain ⟨c, e2⟩ : ∃ c, o.cs[i]? = some c := two_at two e1
      refine ⟨fun j ρ => j ≤ i ∧ ∃ a4 a5, ρ = [.dat (graphD Gr Sc ss w os), .dat (.str o.nm), .dat (.str hh.nm), .dat (.tup (o.cl.holes.map Hole.d)), a4, a5], ⟨Nat.zero_le _, _, _, rfl⟩, fun j d ρ' hd hI => ?_, fun ρ' hI => ?_⟩
      · obtain ⟨hj, a4, a5, rfl⟩ := hI
        obtain ⟨q, hq, rfl⟩ := zip_at hd
        obtain ⟨q1, q2⟩ := List.getElem?_zip_eq_some.mp hq
        obtain ⟨fo, eo⟩ := turn j q hq
        refine ⟨_, rfl, ?_⟩
        walk_at "vc"
        refine ⟨_, atI0, ?_⟩
        refine eqT_str eo (.inr (hok hm)) ⟨_, rfl, ?_⟩
        by_cases e : j = i
        · subst e
          rw [e1] at q1
          have z1 := Option.some.inj q1
          rw [show strEq q.1.nm (.str hh.nm) = true from decide_eq_true (by rw [z1]), if_pos rfl]
          exact ⟨_, atI_nat (j := 2) rfl, _, _, rfl, fo, h _⟩
        · have ne : q.1.nm ≠ hh.nm := fun z => e (nm_inj osl.nd q1 e1 z)
          rw [show strEq q.1.nm (.str hh.nm) = false from decide_eq_false ne, if_neg Bool.false_ne_true]
          exact ⟨by omega, _, _, rfl⟩
      · obtain ⟨hj, _⟩ := hI
        have l1 := (List.getElem?_eq_some_iff.mp e1).1
        have l2 := (List.getElem?_eq_some_iff.mp e2).1
        rw [List.length_map, List.length_zip] at hj
        omega
    · refine ⟨fun j ρ => ∃ a4 a5, ρ = [.dat (graphD Gr Sc ss w os), .dat (.str o.nm), .dat d2, .dat (.tup (o.cl.holes.map Hole.d)), a4, a5], ⟨_, _, rfl⟩, fun j d ρ' hd hI => ?_, fun ρ' hI => ?_⟩
      · obtain ⟨a4, a5, rfl⟩ := hI
        obtain ⟨q, hq, rfl⟩ := zip_at hd
        obtain ⟨q1, _⟩ := List.getElem?_zip_eq_some.mp hq
        obtain ⟨fo, eo⟩ := turn j q hq
        refine ⟨_, rfl, ?_⟩
        walk_at "vc"
        refine ⟨_, atI0, ?_⟩
        refine eqT_str eo q2 ⟨_, rfl, ?_⟩
        have ne : strEq q.1.nm d2 = false := by
          cases d2 with
          | str z =>
            refine decide_eq_false fun z1 => ?_
            have hn2 : z ∉ o.cl.holes.map Hole.nm := of_decide_eq_false hn2
            exact hn2 (List.mem_map.mpr ⟨q.1, List.mem_of_getElem? q1, z1⟩)
          | _ => rfl
        rw [ne, if_neg Bool.false_ne_true]
        exact ⟨_, _, rfl⟩
      · obtain ⟨a4, a5, rfl⟩ := hI
        walk_at "vc"
        exact ⟨d2, rfl, xo2, h⟩
  · exact .inr ⟨hn, h⟩
end
end LW
namespace LW
open PySem PySem.Spec PyProof.Rows L2 L3
local macro_rules | `(tactic| walk_at "vc") => `(tactic| simp only [sSeq, sCut, sAsg, gTp, gNms, sApp, sOwn, sOwnF, oDic, dMeth,  xFor, iZp, dDGet, dDIn, sFz, sDput, oDicOf, oDc, iKy, dMeth, dFld, dXfld, iEn, xMeth,  sNx, sBk, sCt, sSet, sIf, xSeq, xS, xIf, xRet, xSet, xExp, xRaise, xLift, xNil, xCons, dFz, oDc, iKy, dIsN, dFmtX, dXfld, sThw, thaw, thaw1, sRet, sRetN, sPar, sFor, sExp, dVar, dC, dOp, dCall, dCons, dNil, dTup, dLst, bOr, bNot, bAnd, bYes, dB, dTru, dOrT, dAndT, dNotT, dIf, dChain, view, frz, view1, frz1, startD, List.map_cons, List.map_nil, List.map_append, List.cons_append, List.nil_append, List.length_cons, List.length_nil, List.replicate, List.getElem?_cons_zero, List.getElem?_cons_succ, Option.some.injEq, exists_eq_left', exists_eq_left, gNm, geNm, iTx, iSq, iRg, dLc, List.set_cons_zero, List.set_cons_succ, wipeE, dSl, oNone, oSome, D.int.injEq, D.str.injEq, dJoin, dDnew, dDisp, dPairs, dNeg, sPars, kNil, kDat, kOwn, oLst, oDic, oLstOf, setRho, sApp, sAppF, sSetF, sAsg, gTp, gNms, dStar, dLenSet, iVar, iTp, siSeq, siEnd, tfFld, tfEnd, dFld, dTix, dMeth])
abbrev s_law_words_of : Stmt := topS 49
theorem sc_law_words_of : FnScope ["sheets", "world", "title", "label", "contents", "found", "hole", "one"] ["sheets", "world", "title"] (defScope s_law_words_of) := ⟨rfl, rfl, rfl, by decide +kernel, rfl, by decide +kernel, by decide +kernel⟩
abbrev s_law_all_titles : Stmt := topS 51
theorem sc_law_all_titles : FnScope ["sheets", "found", "label", "holes", "seen", "hole"] ["sheets"] (defScope s_law_all_titles) := ⟨rfl, rfl, rfl, by decide +kernel, rfl, by decide +kernel, by decide +kernel⟩
section
variable {P : Program} {w : World} {K : PySem.W.Frag} {mg : Str → Option Value} {base : Heap}
/-! ### objects in another order -/
theorem wordOk_perm {ws ws' : Wl} (nd : (ws.map (·.1)).Nodup) (nd' : (ws'.map (·.1)).Nodup) (h : ∀ p, p ∈ ws → p ∈ ws') {goals : List Str} {k : Key} (hk : wordOk ws goals k) : wordOk ws' goals k := by
  cases k with
  | inl i => exact hk
  | inr t =>
    obtain ⟨h1, h2⟩ := hk
    obtain ⟨c, e1, e2⟩ := wGet_mem h1
    have e3 := wGet_of nd' (h _ e2)
    refine ⟨List.mem_map.mpr ⟨_, h _ e2, rfl⟩, ?_⟩
    unfold fits at h2 ⊢
    rw [e1] at h2
    rw [e3]
    exact h2
theorem okCont_perm {ws ws' : Wl} (nd : (ws.map (·.1)).Nodup) (nd' : (ws'.map (·.1)).Nodup) (h : ∀ p, p ∈ ws → p ∈ ws') {hh : Hole} {c : Cont} (hc : OkCont ws hh c) : OkCont ws' hh c :=
  ⟨fun e => let ⟨k, e1, e2⟩ := hc.one e; ⟨k, e1, wordOk_perm nd nd' h e2⟩, fun e => let ⟨ks, e1, e2, e3, e4⟩ := hc.many e; ⟨ks, e1, e2, fun k hk => wordOk_perm nd nd' h (e3 k hk), e4⟩⟩
theorem okObs_perm {ss : List Sheet} {n : Nat} {os os' : List Ob} (ok : OkObs ss n os) (p : os'.Perm os) : OkObs ss n os' := by
  have nd' : (os'.map Ob.nm).Nodup := (p.map _).nodup_iff.mpr ok.nd
  refine ⟨nd', by rw [p.length_eq]; exact ok.few, fun o ho => ok.nm o (p.mem_iff.mp ho), fun o ho => ok.cl o (p.mem_iff.mp ho), fun o ho => two_mem (ok.cs o (p.mem_iff.mp ho)) fun a b _ hab => okCont_perm (by rw [wOf_fst]; exact ok.nd) (by rw [wOf_fst]; exact nd') (fun q hq => ?_) hab⟩
  unfold wOf at hq ⊢
  obtain ⟨o2, h2, e2⟩ := List.mem_map.mp hq
  exact List.mem_map.mpr ⟨o2, p.mem_iff.mpr h2, e2⟩
/-! ### words(slot=.., name=..) -/
def hd1r {α : Type} : List α → List α → List α
  | [a], zs => a :: zs.reverse
  | _, _ => []
theorem hd1r_3 {us ws : List Value} (h : (hd1r us ws).length = 3) : ∃ a b c, us = [a] ∧ ws = [b, c] := by
  match us, ws, h with
  | [a], [b, c], _ => exact ⟨a, b, c, rfl, rfl⟩
  | [], _, h => cases h
  | _ :: _ :: _, _, h => cases h
  | [a], [], h => cases h
  | [a], [_], h => cases h
  | [a], _ :: _ :: _ :: r, h =>
    unfold hd1r at h
    simp only [List.length_cons, List.length_reverse] at h
    omega
theorem vals_snoc {v : V} {u : Value} (r : RelV v u) : ∀ {vs : List V} {us : List Value}, Vals vs us → Vals (vs ++ [v]) (us ++ [u])
  | _, _, .nil => .cons r .nil
  | _, _, .cons h t => .cons h (vals_snoc r t)
theorem vals_rev : ∀ {vs : List V} {us : List Value}, Vals vs us → Vals vs.reverse us.reverse
  | _, _, .nil => .nil
  | _, _, .cons h t => by rw [List.reverse_cons, List.reverse_cons]; exact vals_snoc h (vals_rev t)
theorem dvs_rev {K : PySem.W.Frag} {H : Hp} : ∀ {vs : List V} {ds : List D}, DVs K H vs ds → DVs K H vs.reverse ds.reverse
  | _, _, .nil => .nil
  | _, _, .cons h t => by rw [List.reverse_cons, List.reverse_cons]; exact (dvs_rev t).app (.cons h .nil)
theorem hd1r_rel {vs zs : List V} {us ws : List Value} (r1 : Vals vs us) (r2 : Vals zs ws) : Vals (hd1r vs zs) (hd1r us ws) := by
  cases r1 with
  | nil => exact .nil
  | cons r t =>
    cases t with
    | nil => exact .cons r (vals_rev r2)
    | cons _ _ => exact .nil
structure Txh (mg : Str → Option Value) : Prop where
  m_zip : mg "zip" = none
  m_sorted : mg "sorted" = none
/-- a hole, and the words that stand there -/
def rowD (q : Hole × Cont) : D := .tup [q.1.d, .tup ((wordsC q.2).map keyV)]
def fWordsLaw : Cf → FN := fun C ds P => ∃ ss w os n o, ds = [.lst (ss.map Sheet.d), .dcf w (os.map Ob.d), .str (Ob.nm o)] ∧ OkSheets ss ∧ OkObs ss n os ∧ o ∈ os ∧ P (.lst ((o.cl.holes.zip o.cs).map rowD))
theorem cal_law_words_of (T : Txh mg) (C_law_holes : Cal P w K mg base "_law_holes" 1 ["sheets", "label"] fHoles) (d : Dfn K mg "_law_words_of" s_law_words_of ["sheets", "world", "title"]) : Cal P w K mg base "_law_words_of" 2 ["sheets", "world", "title"] fWordsLaw := by
  refine cal_of d sc_law_words_of (fun C ds R h => by obtain ⟨_, _, _, _, _, rfl, _⟩ := h; rfl) fun f cdv A fr s H E hgd hr C ds R h => ⟨_, (dss_cons (ds_asg (de_dget hr.units (de_of (pv 1)) (de_of (pv 2))) (dg_tup rfl (dgs_cons (i := 3) ⟨sc_law_words_of.nd, rfl, by first | exact .inl rfl | exact .inr rfl, .inl rfl⟩ (dgs_cons (i := 4) ⟨sc_law_words_of.nd, rfl, by first | exact .inl rfl | exact .inr rfl, .inl rfl⟩ dgs_nil))))
      (dss_cons (ds_own (i := 5) ⟨sc_law_words_of.nd, rfl, by first | exact .inl rfl | exact .inr rfl, .inl rfl⟩ da_nil)
      (dss_cons (ds_for PassesOwn.never rfl (di_zip rfl T.m_zip (da_cons (de_cal C_law_holes hgd hr (by decide) rfl (da_cons (de_of (pv 0)) (da_cons (de_of (pv 3)) da_nil))) (da_cons (de_of (pv 4)) da_nil))) (dg_tup rfl (dgs_cons (i := 6) ⟨sc_law_words_of.nd, rfl, by first | exact .inl rfl | exact .inr rfl, .inl rfl⟩ (dgs_cons (i := 7) ⟨sc_law_words_of.nd, rfl, by first | exact .inl rfl | exact .inr rfl, .inl rfl⟩ dgs_nil))) (dss_one (ds_app (pv 5) (de_tup (da_cons (de_of (pv 6)) (da_cons (de_if (dt_cmp od_eq (op_eqb hr.units) (nomark _) (de_ix od_ix ix_seq (de_of (pv 6)) de_int) de_str) (de_tup (da_cons (de_of (pv 7)) da_nil)) (de_of (pv 7))) da_nil))))))
      (dss_one (ds_ret (de_of (pv 5))))))), ?_⟩
  obtain ⟨ss, w, os, n, o, rfl, hs, ok, ho, h⟩ := h
  walk_at "vc"
  have osl := hs.sheet o.cl (ok.cl o ho)
  have gk := getK_ob ok.nd ho
  have two : Two (fun (h : Hole) c => OkForm h.form c) o.cl.holes o.cs := two_mem (ok.cs o ho) fun hh c h1 h2 => okForm (osl.hole hh h1) ok.nm h2
  refine ⟨_, .inr o.nm, _, rfl, rfl, gk, [.str o.cl.lb, .tup (o.cs.map Cont.d)], rfl, ?_⟩
  walk_at "vc"
  refine ⟨by decide, ss, o.cl, rfl, hs, ok.cl o ho, o.cl.holes.map Hole.d, o.cs.map Cont.d, rfl, ?_⟩
  rw [zipD_map]
  have zl : (o.cl.holes.zip o.cs).length ≤ 4 := by
    rw [List.length_zip]
    have := osl.few
    omega
  refine ⟨fun j ρ => ∃ a6 a7, ρ = [.dat (.lst (ss.map Sheet.d)), .dat (.dcf w (os.map Ob.d)), .dat (.str o.nm), .dat (.str o.cl.lb), .dat (.tup (o.cs.map Cont.d)), .own (((o.cl.holes.zip o.cs).take j).map rowD), a6, a7], ⟨_, _, rfl⟩, fun j d ρ' hd hI => ?_, fun ρ' hI => ?_⟩
  · obtain ⟨a6, a7, rfl⟩ := hI
    obtain ⟨q, hq, rfl⟩ := zip_at hd
    have fo := two_zip two (List.mem_of_getElem? hq)
    have nxt : ∀ d : D, d = .tup ((wordsC q.2).map keyV) → ((((o.cl.holes.zip o.cs).take j).map rowD) ++ [.tup [q.1.d, d]] : List D) = ((o.cl.holes.zip o.cs).take (j + 1)).map rowD := fun d e => by
      rw [List.take_add_one, hq, List.map_append, e]
      rfl
    have lt : ((((o.cl.holes.zip o.cs).take j).map rowD)).length < 100000 := by rw [List.length_map, List.length_take]; omega
    refine ⟨_, rfl, ?_⟩
    walk_at "vc"
    refine ⟨_, rfl, .str q.1.form, atI_nat (j := 2) rfl, _, rfl, ?_⟩
    cases e : decide (q.1.form = "one") with
    | true =>
      obtain ⟨k, ek, _⟩ := fo.one (of_decide_eq_true e)
      rw [if_pos (by decide)]
      exact ⟨by decide, by decide, lt, _, _, by rw [nxt _ (by rw [ek]; rfl)]⟩
    | false =>
      obtain ⟨ks, ek, _⟩ := fo.many (of_decide_eq_false e)
      rw [if_neg (by decide)]
      exact ⟨by decide, lt, _, _, by rw [nxt _ (by rw [ek]; rfl)]⟩
  · obtain ⟨a6, a7, rfl⟩ := hI
    walk_at "vc"
    rw [List.length_map, ← List.length_map (f := rowD), List.take_of_length_le (Nat.le_of_eq (List.length_map ..).symm)] at *
    exact h
abbrev tkv (x : Str) : Key × D := (.inr x, .bl true)
theorem putD_tk (xs : List Str) (x : Str) : ∃ ys : List Str, putD (xs.map tkv) (.inr x) (.bl true) = ys.map tkv ∧ ys.length ≤ xs.length + 1 ∧ ∀ y ∈ ys, y ∈ xs ∨ y = x := by
  unfold putD
  split
  · refine ⟨xs, ?_, by omega, fun y hy => .inl hy⟩
    rw [List.map_map]
    refine List.map_congr_left fun y _ => ?_
    show (if (tkv y).1 = .inr x then _ else _) = tkv y
    by_cases e : (tkv y).1 = .inr x
    · rw [if_pos e]
    · rw [if_neg e]
  · refine ⟨xs ++ [x], by rw [List.map_append]; rfl, by rw [List.length_append]; exact Nat.le_refl _, fun y hy => ?_⟩
    rcases List.mem_append.mp hy with z | z
    · exact .inl z
    · exact .inr (List.mem_singleton.mp z)
def fTitles : Cf → FN := fun C ds P => ∃ ss, ds = [.lst (ss.map Sheet.d)] ∧ OkSheets ss ∧ ∀ xs : List Str, xs.length ≤ 16 → (∀ x ∈ xs, NmS x) → P (.lst (xs.map D.str))
theorem cal_law_all_titles (T : Txh mg) (d : Dfn K mg "_law_all_titles" s_law_all_titles ["sheets"]) : Cal P w K mg base "_law_all_titles" 1 ["sheets"] fTitles := by
  refine cal_of d sc_law_all_titles (fun C ds R h => by obtain ⟨_, rfl, _⟩ := h; rfl) fun f cdv A fr s H E hgd hr C ds R h => ⟨_, (dss_cons (ds_ownF (i := 1) ⟨sc_law_all_titles.nd, rfl, by first | exact .inl rfl | exact .inr rfl, .inl rfl⟩ df_dic)
      (dss_cons (ds_for PassesOwn.never rfl (di_list (de_of (pv 0))) (dg_tup rfl (dgs_cons (i := 2) ⟨sc_law_all_titles.nd, rfl, by first | exact .inl rfl | exact .inr rfl, .inl rfl⟩ (dgs_cons (i := 3) ⟨sc_law_all_titles.nd, rfl, by first | exact .inl rfl | exact .inr rfl, .inl rfl⟩ (dgs_cons (i := 4) ⟨sc_law_all_titles.nd, rfl, by first | exact .inl rfl | exact .inr rfl, .inl rfl⟩ dgs_nil)))) (dss_one (ds_for PassesOwn.never rfl (di_tup (de_of (pv 3))) (dg_name (i := 5) ⟨sc_law_all_titles.nd, rfl, by first | exact .inl rfl | exact .inr rfl, .inl rfl⟩) (dss_one (ds_dput (i := 1) hr.units (pv 1) (de_ix od_ix ix_seq (de_of (pv 5)) de_int) de_bl)))))
      (dss_one (ds_ret (de_blt cd_sortK (call_sortedD rfl) rfl T.m_sorted boot_sorted (da_cons (de_of (pv 1)) da_nil)))))), ?_⟩
  obtain ⟨ss, rfl, hs, h⟩ := h
  walk_at "vc"
  refine ⟨rfl, _, rfl, fun i ρ => ∃ xs : List Str, ∃ a2 a3 a4 a5, xs.length ≤ 4 * i ∧ (∀ x ∈ xs, NmS x) ∧ ρ = [.dat (.lst (ss.map Sheet.d)), .owd (xs.map tkv), a2, a3, a4, a5], ⟨[], _, _, _, _, Nat.zero_le _, (fun _ h => nomatch h), rfl⟩, fun i d ρ' hd hI => ?_, fun ρ' hI => ?_⟩
  · obtain ⟨xs, a2, a3, a4, a5, hl, hn, rfl⟩ := hI
    obtain ⟨s1, hs1, rfl⟩ := List.mem_map.mp (List.mem_of_getElem? hd)
    have osl := hs.sheet s1 hs1
    have hi : i < 4 := by
      have := (List.getElem?_eq_some_iff.mp hd).1
      rw [List.length_map] at this
      have := hs.few
      omega
    refine ⟨_, rfl, ?_⟩
    walk_at "vc"
    refine ⟨_, rfl, fun m ρ => ∃ xs : List Str, ∃ a5, xs.length ≤ 4 * i + m ∧ (∀ x ∈ xs, NmS x) ∧ ρ = [.dat (.lst (ss.map Sheet.d)), .owd (xs.map tkv), .dat (.str s1.lb), .dat (.tup (s1.holes.map Hole.d)), .dat (seenD s1.seen), a5], ⟨xs, _, hl, hn, rfl⟩, fun m d2 ρ' hd2 hI => ?_, fun ρ' hI => ?_⟩
    · obtain ⟨xs, a5, hl, hn, rfl⟩ := hI
      obtain ⟨hh, hm, rfl⟩ := List.mem_map.mp (List.mem_of_getElem? hd2)
      have hmm : m < 4 := by
        have := (List.getElem?_eq_some_iff.mp hd2).1
        rw [List.length_map] at this
        have := osl.few
        omega
      walk_at "vc"
      refine ⟨_, rfl, rfl, _, atI0, .inr hh.nm, rfl, by rw [List.length_map]; omega, ?_⟩
      obtain ⟨ys, e, l2, n2⟩ := putD_tk xs hh.nm
      refine ⟨ys, _, by omega, fun y hy => ?_, by rw [e]⟩
      rcases n2 y hy with z | z
      · exact hn y z
      · rw [z]; exact (osl.hole hh hm).nm
    · obtain ⟨xs, a5, hl, hn, rfl⟩ := hI
      rw [List.length_map] at hl
      have := osl.few
      exact ⟨xs, _, _, _, _, by omega, hn, rfl⟩
  · obtain ⟨xs, a2, a3, a4, a5, hl, hn, rfl⟩ := hI
    rw [List.length_map] at hl
    have := hs.few
    walk_at "vc"
    refine ⟨_, xs, rfl, by rw [List.map_map]; rfl, by omega, fun ys hp _ => ?_⟩
    exact h ys (by rw [hp.length_eq]; omega) fun y hy => hn y (hp.mem_iff.mp hy)
end
end LW
namespace LW
open PySem PySem.Spec PyProof.Rows L2 L3
local macro_rules | `(tactic| walk_at "vc") => `(tactic| simp only [sSeq, sThw,  sCut, sAsg, gTp, gNms, sApp, sOwn, sOwnF, oDic, dMeth,  xFor, iZp, dDGet, dDIn, sFz, sDput, oDicOf, oDc, iKy, dMeth, dFld, dXfld, iEn, xMeth,  sNx, sBk, sCt, sSet, sIf, xSeq, xS, xIf, xRet, xSet, xExp, xRaise, xLift, xNil, xCons, dFz, oDc, iKy, dIsN, dFmtX, dXfld, sThw, thaw, thaw1, sRet, sRetN, sPar, sFor, sExp, dVar, dC, dOp, dCall, dCons, dNil, dTup, dLst, bOr, bNot, bAnd, bYes, dB, dTru, dOrT, dAndT, dNotT, dIf, dChain, view, frz, view1, frz1, startD, List.map_cons, List.map_nil, List.map_append, List.cons_append, List.nil_append, List.length_cons, List.length_nil, List.replicate, List.getElem?_cons_zero, List.getElem?_cons_succ, Option.some.injEq, exists_eq_left', exists_eq_left, gNm, geNm, iTx, iSq, iRg, dLc, List.set_cons_zero, List.set_cons_succ, wipeE, dSl, oNone, oSome, D.int.injEq, D.str.injEq, dJoin, dDnew, dDisp, dPairs, dNeg, sPars, kNil, kDat, kOwn, oLst, oDic, oLstOf, setRho, sApp, sAppF, sSetF, sAsg, gTp, gNms, dStar, dLenSet, iVar, iTp, siSeq, siEnd, tfFld, tfEnd, dFld, dTix, dMeth])
abbrev s_law : Stmt := topS 52
theorem sc_law : FnScope ["script", "draws", "turn", "sheets", "world", "whole", "title", "hole", "words", "told", "some", "spots", "again", "spot", "due", "own"] ["script"] (defScope s_law) := ⟨rfl, rfl, rfl, by decide +kernel, rfl, by decide +kernel, by decide +kernel⟩
structure Txl (mg : Str → Option Value) : Prop where
  m_range : mg "range" = none
  m_min : mg "min" = none
  m_len : mg "len" = none
  m_isinstance : mg "isinstance" = none
  m_str : mg "str" = none
  m_repr : mg "repr" = none
  m_sorted : mg "sorted" = none
abbrev lamQ : Str := (envOfC "law" (defScope s_law) 0 0 .none).qual ++ "<lambda>"
/-! ### what is shown, what is handed -/
theorem show_int : ∀ n : Nat, n < 1000 → (showD (.int (n : Nat))).length ≤ 5 ∧ (showD (.int (-(n : Nat)))).length ≤ 5 := by decide +kernel
theorem key_shown {k : Key} (h : wOk k) : noDic (keyV k) = true ∧ (showD (keyV k)).length ≤ 62 := by
  cases k with
  | inl i =>
    have h : -999 ≤ i ∧ i ≤ 999 := h
    refine ⟨?_, ?_⟩
    · refine decide_eq_true ?_
      have hn : i.natAbs < 1000 := by omega
      exact Nat.lt_of_le_of_lt (Nat.log2_le_self _) (by omega)
    · have hn : i.natAbs < 1000 := by omega
      obtain ⟨h1, h2⟩ := show_int _ hn
      rcases Int.natAbs_eq i with e | e
      · rw [show keyV (.inl i) = .int i from rfl, e]; omega
      · rw [show keyV (.inl i) = .int i from rfl, e]; omega
  | inr t => exact ⟨rfl, nm_len (.inr h)⟩
theorem depth_keys : ∀ ks : List Key, PyData.depthAll (toPs (ks.map keyV)) ≤ 1
  | [] => by simp only [List.map_nil, toPs, PyData.depthAll]; decide
  | k :: r => by
    have ih := depth_keys r
    simp only [List.map_cons, toPs, PyData.depthAll]
    cases k with
    | inl i => simp only [keyV, toP, PyData.depth]; omega
    | inr t => simp only [keyV, toP, PyData.depth]; omega
theorem words_few4 {f : Str} {c : Cont} (h : OkForm f c) : (wordsC c).length ≤ 4 ∧ ∀ k ∈ wordsC c, wOk k := by
  by_cases e : f = "one"
  · obtain ⟨k, rfl, hk⟩ := h.one e
    exact ⟨by show 1 ≤ 4; decide, fun k2 h2 => by rw [List.mem_singleton.mp h2]; exact hk⟩
  · obtain ⟨ks, rfl, hl, hw, _⟩ := h.many e
    exact ⟨hl, hw⟩
theorem words_shown {f : Str} {c : Cont} (h : OkForm f c) : reprOk2 (.lst [.tup ((wordsC c).map keyV), .tup ((wordsC c).map keyV)]) = true ∧ (toP (.lst [.tup ((wordsC c).map keyV), .tup ((wordsC c).map keyV)])).depth ≤ 60 ∧ (showD (.lst [.tup ((wordsC c).map keyV), .tup ((wordsC c).map keyV)])).length ≤ 100000 := by
  obtain ⟨hl, hw⟩ := words_few4 h
  have n1 : noDics ((wordsC c).map keyV) = true := noDics_of fun d hd => by
    obtain ⟨k, hk, rfl⟩ := List.mem_map.mp hd
    exact (key_shown (hw k hk)).1
  have l1 : (showD (.tup ((wordsC c).map keyV))).length ≤ 259 := tup_le (b := 62) (n := 4) (fun d hd => by
    obtain ⟨k, hk, rfl⟩ := List.mem_map.mp hd
    exact (key_shown (hw k hk)).2) (by rw [List.length_map]; exact hl)
  have dk := depth_keys (wordsC c)
  refine ⟨?_, ?_, ?_⟩
  · unfold reprOk2
    simp only [noDic, noDics, n1, Bool.and_self, Bool.true_or]
  · simp only [toP, toPs, PyData.depth, PyData.depthAll]
    omega
  · have := lst_le (b := 259) (n := 2) (ds := [.tup ((wordsC c).map keyV), .tup ((wordsC c).map keyV)]) (fun d hd => by
      simp only [List.mem_cons, List.not_mem_nil, or_false, or_self] at hd
      rw [hd]; exact l1) (Nat.le_refl 2)
    omega
/-- a value that may be asked for -/
structure AskOk (y : D) : Prop where
  xo : XOk y
  ok : okV y
  eq : isDic y = true ∨ eqOk y = true
theorem ask_str {x : Str} (h : PyData.strOk x = true) (hl : x.length ≤ 1000) : AskOk (.str x) := ⟨xok_str h hl, ⟨⟨_, rfl⟩, fun y e => by cases e; exact ⟨by omega, h⟩⟩, .inr ((Tx.str h : Tx 0 _).eqOk (by decide))⟩
theorem ask_no {y : D} (xo : XOk y) (t : ∃ t, tyOf y = some t) (n : ∀ x, y ≠ .str x) (e : isDic y = true ∨ eqOk y = true) : AskOk y := ⟨xo, ⟨t, fun x q => absurd q (n x)⟩, e⟩
theorem ask_tail (w : Fz) : ∀ y ∈ ([.str "qqqqqq", .str "", .non, .int 0, .bl true, .lst [], .dcf w [], .tup [.str "a"]] : List D), AskOk y := by
  intro y hy
  have e : ∀ x ∈ (["qqqqqq", "", "a"] : List Str), PyData.strOk x = true ∧ x.length ≤ 1000 := by decide +kernel
  simp only [List.mem_cons, List.not_mem_nil, or_false] at hy
  rcases hy with rfl | rfl | rfl | rfl | rfl | rfl | rfl | rfl
  · exact ask_str (e _ (by simp)).1 (e _ (by simp)).2
  · exact ask_str (e _ (by simp)).1 (e _ (by simp)).2
  · exact ask_no xok_non ⟨_, rfl⟩ (fun _ z => nomatch z) (.inr (by decide +kernel))
  · exact ask_no (xok_01 (.inl rfl)) ⟨_, rfl⟩ (fun _ z => nomatch z) (.inr (by decide +kernel))
  · exact ask_no (xok_bl _) ⟨_, rfl⟩ (fun _ z => nomatch z) (.inr (by decide +kernel))
  · exact ask_no (xok_txts (xs := []) (fun _ h => nomatch h) (by decide)).2 ⟨_, rfl⟩ (fun _ z => nomatch z) (.inr (by decide +kernel))
  · exact ask_no (xok_dcf w) ⟨_, rfl⟩ (fun _ z => nomatch z) (.inl rfl)
  · exact ask_no (xok_txts (xs := ["a"]) (fun x hx => by rw [List.mem_singleton.mp hx]; exact e _ (by simp)) (by decide)).1 ⟨_, rfl⟩ (fun _ z => nomatch z) (.inr (by decide +kernel))
theorem odd_some {ys : List Str} (yn : ∀ y ∈ ys, NmS y) (w : Fz) : ∀ y ∈ ys.map D.str ++ [.str "qqqqqq", .str "", .non, .int 0, .bl true, .lst [], .dcf w [], .tup [.str "a"]], AskOk y := fun y hy => by
  rcases List.mem_append.mp hy with hy | hy
  · obtain ⟨x, hx, rfl⟩ := List.mem_map.mp hy
    have := yn x hx
    exact ask_str this.ok (by have := this.le; omega)
  · exact ask_tail w y hy
theorem odd_some2 {ys : List Str} (yn : ∀ y ∈ ys, NmS y) (w : Fz) : ∀ y ∈ ys.map D.str ++ [.str "qqqqqq", .str "", .non, .int 0, .bl true, .lst [], .dcf w []], AskOk y := fun y hy => by
  refine odd_some yn w y ?_
  rcases List.mem_append.mp hy with hy | hy
  · exact List.mem_append_left _ hy
  · refine List.mem_append_right _ ?_
    simp only [List.mem_cons, List.not_mem_nil, or_false] at hy ⊢
    rcases hy with h | h | h | h | h | h | h <;> simp [h]
/-- what is to be heard -/
def DueOk (os : List Ob) (y z due : D) : Prop := (∃ o ∈ os, y = .str o.nm ∧ ((∃ h ∈ o.cl.holes, z = .str h.nm ∧ due = .tup [.str "value", z]) ∨ (inStrs z (o.cl.holes.map Hole.nm) = false ∧ due = .tup [.str "name", z]))) ∨ (inStrs y (os.map Ob.nm) = false ∧ due = .tup [.str "name", y])
def HeardAs (due t : D) : Prop := (∃ c v, due = .tup [.str "value", c] ∧ t = .tup [.str "value", v]) ∨ ∃ x d0, unW x = unW d0 ∧ XOk d0 ∧ due = .tup [.str "name", d0] ∧ t = .tup [.str "name", x]
theorem told_words {Gr Sc aN : Addr} {C : Cf} {ss : List Sheet} {w : Fz} {n : Nat} {os : List Ob} {y z due : D} {R : D → Prop} {B : (D → Prop) → XW → Prop} (hs : OkSheets ss) (ok : OkObs ss n os) (ay : AskOk y) (az : AskOk z) (hd : DueOk os y z due) (hR : ∀ t, HeardAs due t → R t)
    (hB : ∀ P Wd, fWordsX Gr Sc aN C [graphD Gr Sc ss w os, y, z] P Wd → B P Wd) : fTold aN B R := fun P Wd hv hn => by
  refine hB _ _ ⟨ss, w, os, n, y, z, rfl, hs, ok, ay.xo, ay.ok, az.xo, az.eq, ?_⟩
  rcases hd with ⟨o, ho, rfl, ⟨h1, hm, rfl, rfl⟩ | ⟨hz, rfl⟩⟩ | ⟨h1, rfl⟩
  · exact .inl ⟨o, ho, rfl, .inl ⟨h1, hm, rfl, fun v => hv _ (hR _ (.inl ⟨_, v, rfl, rfl⟩))⟩⟩
  · exact .inl ⟨o, ho, rfl, .inr ⟨hz, fun d' hd' => hn _ (hR _ (.inr ⟨d', _, hd', az.xo, rfl, rfl⟩))⟩⟩
  · exact .inr ⟨h1, fun d' hd' => hn _ (hR _ (.inr ⟨d', _, hd', ay.xo, rfl, rfl⟩))⟩
section
variable {P : Program} {w : World} {K : PySem.W.Frag} {mg : Str → Option Value} {base : Heap}
theorem law_fn {f a_Schema a_Graph a_NoName c Pt : Addr} {fd : FuncData} (FF : Fun K "law" "law" s_law f fd) (T : Txl mg) (hfc : fd.code = .ref c) (TB : LamX.TabB base mg c Pt) (C_law_state : Cal P w K mg base "_law_state" 1 ["script"] fState) (C_law_sheets : Cal P w K mg base "_law_sheets" 5 ["draws", "many", "most"] fSheets)
    (C_law_pick : Cal P w K mg base "_law_pick" 2 ["draws", "some"] fPick) (C_law_world : Cal P w K mg base "_law_world" 4 ["draws", "sheets", "most"] fWorld) (C_Schema : MakI P w K mg base 5 "Schema" a_Schema (fSchema a_Schema)) (C_Graph : MakI P w K mg base 6 "Graph" a_Graph (fGraph a_Graph a_Schema))
    (C_law_words_of : Cal P w K mg base "_law_words_of" 2 ["sheets", "world", "title"] fWordsLaw) (C_law_all_titles : Cal P w K mg base "_law_all_titles" 1 ["sheets"] fTitles) (C_law_holes : Cal P w K mg base "_law_holes" 1 ["sheets", "label"] fHoles)
    (M_words : MetI P w K mg base 4 a_Graph "words" (fWords a_Graph a_Schema)) (MK_words_slot_name : MetK P w K mg base 4 a_Graph "words" ["slot", "name"] List.reverse (fWords a_Graph a_Schema))
    (X_words : MetX P w K mg base 10 a_Graph "words" (fWordsX a_Graph a_Schema a_NoName)) (T_law_told : Told P w K mg base "_law_told" "work" 11 (fTold a_NoName)) :
    FnG P w K mg base CX0 13 f fd ["script"] (spLawT [(Pt, lamQ)] K) := by
  refine law_ofTC FF sc_law (by decide) fun f cdv hcd A fr s H E hgd hr => ?_
  have hcode : cdv = .ref c := hcd.symm.trans hfc
  refine ⟨_, _, _, rfl, ds1 (i := 1) ⟨sc_law.nd, rfl, by first | exact .inl rfl | exact .inr rfl, .inl rfl⟩ (de_cal C_law_state hgd hr (by decide) rfl (da_cons (de_of (pv 0)) da_nil)), fun ns R hl h => ?_, fun da ca eT => ?_⟩
  · walk_at "vc"
    exact ⟨ns, rfl, h⟩
  have HM : (Pt, lamQ) ∈ ca.T := by rw [eT]; exact List.mem_singleton.mpr rfl
  have HU : ∀ p ∈ ca.T, p.1 = Pt → p.2 = lamQ := fun p hp _ => by rw [eT] at hp; rw [List.mem_singleton.mp hp]
  refine ⟨_, (dss_cons (ds_for PassesOwn.never rfl (di_rng rfl T.m_range (da_cons (de_op od_add op_addD de_int (de_blt cd_min (call_min2 rfl) rfl T.m_min boot_min (da_cons (de_blt cd_len call_lenAll rfl T.m_len boot_len (da_cons (de_of (pv 0)) da_nil)) (da_cons de_int da_nil)))) da_nil)) (dg_name (i := 2) ⟨sc_law.nd, rfl, by first | exact .inl rfl | exact .inr rfl, .inl rfl⟩) (dss_cons (ds_set (i := 3) ⟨sc_law.nd, rfl, by first | exact .inl rfl | exact .inr rfl, .inl rfl⟩ (de_cal C_law_sheets hgd hr (by decide) rfl (da_cons (de_of (pv 1)) (da_cons de_int (da_cons de_int da_nil)))))
      (dss_cons (ds_set (i := 4) ⟨sc_law.nd, rfl, by first | exact .inl rfl | exact .inr rfl, .inl rfl⟩ (de_cal C_law_world hgd hr (by decide) rfl (da_cons (de_of (pv 1)) (da_cons (de_of (pv 3)) (da_cons de_int da_nil)))))
      (dss_cons (ds_set (i := 5) ⟨sc_law.nd, rfl, by first | exact .inl rfl | exact .inr rfl, .inl rfl⟩ (de_mk C_Graph hgd hr (by decide) rfl (da_cons (de_mk C_Schema hgd hr (by decide) rfl (da_cons (de_of (pv 3)) da_nil)) (da_cons (de_of (pv 4)) da_nil))))
      (dss_cons (ds_for PassesOwn.never rfl (di_keys (de_of (pv 4))) (dg_name (i := 6) ⟨sc_law.nd, rfl, by first | exact .inl rfl | exact .inr rfl, .inl rfl⟩) (dss_one (ds_for PassesOwn.never rfl (di_list (de_cal C_law_words_of hgd hr (by decide) rfl (da_cons (de_of (pv 3)) (da_cons (de_of (pv 4)) (da_cons (de_of (pv 6)) da_nil))))) (dg_tup rfl (dgs_cons (i := 7) ⟨sc_law.nd, rfl, by first | exact .inl rfl | exact .inr rfl, .inl rfl⟩ (dgs_cons (i := 8) ⟨sc_law.nd, rfl, by first | exact .inl rfl | exact .inr rfl, .inl rfl⟩ dgs_nil))) (dss_cons (ds_set (i := 9) ⟨sc_law.nd, rfl, by first | exact .inl rfl | exact .inr rfl, .inl rfl⟩ (de_lst (da_cons (de_met M_words hgd hr (by decide) (de_of (pv 5)) (da_cons (de_of (pv 6)) (da_cons (de_ix od_ix ix_seq (de_of (pv 7)) de_int) da_nil))) (da_cons (de_metK MK_words_slot_name hgd hr (by decide) (de_of (pv 5)) (dk_cons (de_ix od_ix ix_seq (de_of (pv 7)) de_int) (dk_cons (de_of (pv 6)) dk_nil))) da_nil))))
      (dss_one (ds_if (dt_cmp od_ne (op_neb hr.units) (nomark _) (de_blt cd_reprX (call_reprX hgd hr.units) rfl T.m_repr boot_repr (da_cons (de_of (pv 9)) da_nil)) (de_blt cd_reprX (call_reprX hgd hr.units) rfl T.m_repr boot_repr (da_cons (de_lst (da_cons (de_of (pv 8)) (da_cons (de_of (pv 8)) da_nil))) da_nil))) (dss_one (ds_ret de_bl)) dss_nil))))))
      (dss_cons (ds_set (i := 10) ⟨sc_law.nd, rfl, by first | exact .inl rfl | exact .inr rfl, .inl rfl⟩ (de_op od_add op_addD (de_blt cd_sortK (call_sortedD rfl) rfl T.m_sorted boot_sorted (da_cons (de_of (pv 4)) da_nil)) (de_lst (da_cons de_str (da_cons de_str (da_cons de_non (da_cons de_int (da_cons de_bl (da_cons (de_lst da_nil) (da_cons (de_fz df_dic) (da_cons (de_tup (da_cons de_str da_nil)) da_nil)))))))))))
      (dss_cons (ds_set (i := 11) ⟨sc_law.nd, rfl, by first | exact .inl rfl | exact .inr rfl, .inl rfl⟩ (de_op od_add op_addD (de_cal C_law_all_titles hgd hr (by decide) rfl (da_cons (de_of (pv 3)) da_nil)) (de_lst (da_cons de_str (da_cons de_str (da_cons de_non (da_cons de_int (da_cons de_bl (da_cons (de_lst da_nil) (da_cons (de_fz df_dic) da_nil))))))))))
      (dss_one (ds_for PassesOwn.never rfl (di_rng rfl T.m_range (da_cons de_int da_nil)) (dg_name (i := 12) ⟨sc_law.nd, rfl, by first | exact .inl rfl | exact .inr rfl, .inl rfl⟩) (dss_cons (ds_parsT2 (i := 6) (j := 13) ⟨sc_law.nd, rfl, by first | exact .inl rfl | exact .inr rfl, .inl rfl⟩ ⟨sc_law.nd, rfl, by first | exact .inl rfl | exact .inr rfl, .inl rfl⟩ (by decide) rfl (dka_dat (de_cal C_law_pick hgd hr (by decide) rfl (da_cons (de_of (pv 1)) (da_cons (de_of (pv 10)) da_nil))) (dka_dat (de_cal C_law_pick hgd hr (by decide) rfl (da_cons (de_of (pv 1)) (da_cons (de_of (pv 11)) da_nil))) dka_nil)))
      (dss_cons (ds_set (i := 14) ⟨sc_law.nd, rfl, by first | exact .inl rfl | exact .inr rfl, .inl rfl⟩ (de_tup (da_cons de_str (da_cons (de_of (pv 6)) da_nil))))
      (dss_cut (ds_if (dt_w (dw_and (dt_val (de_blt cd_isi call_isiD rfl T.m_isinstance boot_isinstance (da_cons (de_of (pv 6)) (da_cons (de_c (pe_bltn (v := .ty "str") rfl T.m_str boot_str rfl) fun _ => .op _) da_nil)))) (dw_and1 (dt_din hr.units (de_of (pv 6)) (de_of (pv 4)))))) (dss_cons (ds_setLc (i := 15) (own := [("hole", 7)]) ⟨sc_law.nd, rfl, by first | exact .inl rfl | exact .inr rfl, .inl rfl⟩ rfl rfl rfl (blkOk_by (N := ["script", "draws", "turn", "sheets", "world", "whole", "title", "hole", "words", "told", "some", "spots", "again", "spot", "due", "own"]) (sc := defScope s_law) (by decide +kernel)) (di_tup (de_cal C_law_holes hgd hr (by decide) rfl (da_cons (de_of (pv 3)) (da_cons (de_ix od_ix ix_seq (de_dget hr.units (de_of (pv 4)) (de_of (pv 6))) de_int) da_nil)))) (fun b => dge_name (i := 7) ⟨sc_law.nd, rfl, by first | exact .inl rfl | exact .inr rfl, by first | exact .inr rfl | exact .inl rfl⟩ (by decide)) (fun b => dts_nil) (fun b => (de_ix od_ix ix_seq (de_of (pv 7)) de_int)))
      (dss_one (ds_set (i := 14) ⟨sc_law.nd, rfl, by first | exact .inl rfl | exact .inr rfl, .inl rfl⟩ (de_if (dt_cmp od_inA (op_inA (hu_of hr)) (by with_unfolding_all rfl) (de_of (pv 13)) (de_of (pv 15))) (de_tup (da_cons de_str (da_cons (de_of (pv 13)) da_nil))) (de_tup (da_cons de_str (da_cons (de_of (pv 13)) da_nil))))))) dss_nil)
      (dss_cons (ds_set (i := 9) ⟨sc_law.nd, rfl, by first | exact .inl rfl | exact .inr rfl, .inl rfl⟩ (de_told T_law_told hgd hr (by decide) rfl TB hcode HM HU (LamX.lamS_by (show LamX.lamSB (defScope s_law) _ = true by decide +kernel)) rfl (fun _ _ _ _ _ => rfl) (fun A outer s H E f c1 hgd hr => (dex_met X_words hgd hr (by decide) (dex_of (de_of (pv 5))) (dax_cons (dex_of (de_of (pv 6))) (dax_cons (dex_of (de_of (pv 13))) dax_nil))))))
      (dss_one (ds_if (dt_w (dw_or (dt_cmp od_ne (op_neb hr.units) (nomark _) (de_ix od_ix ix_seq (de_of (pv 9)) de_int) (de_ix od_ix ix_seq (de_of (pv 14)) de_int)) (dw_or1 (dt_w (dw_and (dt_cmp od_eq (op_eqb hr.units) (nomark _) (de_ix od_ix ix_seq (de_of (pv 14)) de_int) de_str) (dw_and1 (dt_cmp od_ne (op_neb hr.units) (nomark _) (de_blt cd_reprX (call_reprX hgd hr.units) rfl T.m_repr boot_repr (da_cons (de_of (pv 9)) da_nil)) (de_blt cd_reprX (call_reprX hgd hr.units) rfl T.m_repr boot_repr (da_cons (de_of (pv 14)) da_nil))))))))) (dss_one (ds_ret de_bl)) dss_nil)))))))))))))))
      (dss_one (ds_ret de_bl))), fun ns hl => ?_⟩
  walk_at "vc"
  refine ⟨ns.length, rfl, ?_⟩
  generalize hm : (if (20 : Int) < (ns.length : Int) then (20 : Int) else (ns.length : Int)) = m
  have hm2 : 0 ≤ m ∧ m ≤ 63 := by rw [← hm]; split <;> omega
  simp only [fMin, hm]
  refine ⟨5 + m, rfl, by omega, by omega, ?_⟩
  refine ⟨fun _ ρ => ∃ a2 a3 a4 a5 a6 a7 a8 a9 a10 a11 a12 a13 a14 a15, ρ = [.dat (.scr ns), .dat (.op (.ref da)), a2, a3, a4, a5, a6, a7, a8, a9, a10, a11, a12, a13, a14, a15], ⟨_, _, _, _, _, _, _, _, _, _, _, _, _, _, rfl⟩, fun i d ρ' hd hI => ?_, fun _ _ => trivial⟩
  obtain ⟨a2, a3, a4, a5, a6, a7, a8, a9, a10, a11, a12, a13, a14, a15, rfl⟩ := hI
  walk_at "vc"
  refine ⟨da, ca, 4, 4, rfl, rfl, by decide, by decide, by decide, fun ss hs _ _ => ?_⟩
  have hf := hs.few
  refine ⟨da, ca, ss, 10, rfl, rfl, hs, by decide, fun os w1 ok => ?_⟩
  refine ⟨ss, .inl rfl, hs, ss, w1, os, 10, rfl, hs, ok, by decide, fun os' w' pm hr => ?_⟩
  have ok' := okObs_perm ok pm
  have kd : keysD (os.map Ob.d) = os.map fun o => D.str o.nm := by
    unfold keysD
    rw [List.map_map]
    rfl
  refine ⟨w1, _, rfl, ?_⟩
  rw [kd]
  refine ⟨fun _ ρ => ∃ b6 b7 b8 b9 b10 b11 b12 b13 b14 b15, ρ = [.dat (.scr ns), .dat (.op (.ref da)), .dat d, .dat (.lst (ss.map Sheet.d)), .dat (.dcf w1 (os.map Ob.d)), .dat (graphD a_Graph a_Schema ss w' os'), b6, b7, b8, b9, b10, b11, b12, b13, b14, b15], ⟨_, _, _, _, _, _, _, _, _, _, rfl⟩, fun j d2 ρ' hd2 hI => ?_, fun ρ' hI => ?_⟩
  · obtain ⟨b6, b7, b8, b9, b10, b11, b12, b13, b14, b15, rfl⟩ := hI
    obtain ⟨o, ho, rfl⟩ := List.mem_map.mp (List.mem_of_getElem? hd2)
    have ho' : o ∈ os' := pm.mem_iff.mpr ho
    have osl := hs.sheet o.cl (ok.cl o ho)
    walk_at "vc"
    refine ⟨ss, w1, os, 10, o, rfl, hs, ok, ho, _, rfl, ?_⟩
    refine ⟨fun _ ρ => ∃ c7 c8 c9, ∃ q6 : Sl, ρ = [.dat (.scr ns), .dat (.op (.ref da)), .dat d, .dat (.lst (ss.map Sheet.d)), .dat (.dcf w1 (os.map Ob.d)), .dat (graphD a_Graph a_Schema ss w' os'), .dat (.str o.nm), c7, c8, c9, b10, b11, b12, b13, b14, b15], ⟨_, _, _, b6, rfl⟩, fun t e ρ' ht hI => ?_, fun ρ' hI => ?_⟩
    · obtain ⟨c7, c8, c9, _, rfl⟩ := hI
      rw [List.getElem?_map] at ht
      obtain ⟨q, hq, rfl⟩ := Option.map_eq_some_iff.mp ht
      obtain ⟨q1, q2⟩ := List.getElem?_zip_eq_some.mp hq
      unfold rowD
      refine ⟨_, rfl, ?_⟩
      walk_at "vc"
      have two : Two (fun (h : Hole) c => OkForm h.form c) o.cl.holes o.cs := two_mem (ok.cs o ho) fun hh c h1 h2 => okForm (osl.hole hh h1) ok.nm h2
      have fo := two_zip two (List.mem_of_getElem? hq)
      obtain ⟨w1, w2, w3⟩ := words_shown fo
      refine ⟨_, rfl, rfl, .str q.1.nm, atI_nat (j := 0) rfl, ss, w', os', 10, o, t, q.1, q.2, rfl, hs, ok', ho', q1, q2, ?_⟩
      refine ⟨_, rfl, rfl, .str q.1.nm, atI_nat (j := 0) rfl, _, _, rfl, ss, w', os', 10, o, t, q.1, q.2, rfl, hs, ok', ho', q1, q2, by decide, ?_⟩
      refine ⟨w1, w2, w3, by decide, w1, w2, w3, _, rfl, ?_⟩
      rw [decide_eq_true rfl, if_neg (by decide)]
      exact ⟨_, _, _, b6, rfl⟩
    · obtain ⟨c7, c8, c9, _, rfl⟩ := hI
      exact ⟨_, _, _, _, _, _, _, _, _, _, rfl⟩
  · obtain ⟨b6, b7, b8, b9, b10, b11, b12, b13, b14, b15, rfl⟩ := hI
    walk_at "vc"
    refine ⟨_, os.map Ob.nm, rfl, ob_keys os, by rw [List.length_map]; have := ok.few; omega, fun ys hp hsr => ?_⟩
    have yl : ys.length ≤ 10 := by rw [hp.length_eq, List.length_map]; exact ok.few
    have yn : ∀ y ∈ ys, NmS y := fun y hy => by
      obtain ⟨o, ho, rfl⟩ := List.mem_map.mp (hp.mem_iff.mp hy)
      exact ok.nm o ho
    refine ⟨by decide, fun w2 => ⟨by decide, by decide, by rw [List.length_map]; show ys.length + 8 ≤ 100000; omega, ?_⟩⟩
    refine ⟨ss, rfl, hs, fun xs xl xn => ⟨by decide, fun w3 => ⟨by decide, by rw [List.length_map]; show xs.length + 7 ≤ 100000; omega, ?_⟩⟩⟩
    refine ⟨6, rfl, by decide, by decide, ?_⟩
    generalize hS : ys.map D.str ++ [.str "qqqqqq", .str "", .non, .int 0, .bl true, .lst [], .dcf w2 [], .tup [.str "a"]] = someL
    generalize hT : xs.map D.str ++ [.str "qqqqqq", .str "", .non, .int 0, .bl true, .lst [], .dcf w3 []] = spotL
    refine ⟨fun _ ρ => ∃ e6 e7 e8 e9 e12 e13 e14 e15, ρ = [.dat (.scr ns), .dat (.op (.ref da)), .dat d, .dat (.lst (ss.map Sheet.d)), .dat (.dcf w1 (os.map Ob.d)), .dat (graphD a_Graph a_Schema ss w' os'), e6, e7, e8, e9, .dat (.lst someL), .dat (.lst spotL), e12, e13, e14, e15], ⟨_, _, _, _, _, _, _, _, rfl⟩, fun t d3 ρ' _ hI => ?_, fun ρ' hI => ?_⟩
    · obtain ⟨e6, e7, e8, e9, e12, e13, e14, e15, rfl⟩ := hI
      walk_at "vc"
      refine ⟨da, ca, rfl, .inl ⟨_, .inl rfl, (by rw [← hS]; simp), by rw [← hS, List.length_append, List.length_map]; show ys.length + 8 ≤ 100000; omega, fun y hy => ?_⟩⟩
      refine ⟨da, ca, rfl, .inl ⟨_, .inl rfl, (by rw [← hT]; simp), by rw [← hT, List.length_append, List.length_map]; show xs.length + 7 ≤ 100000; omega, fun z hz => ?_⟩⟩
      have hy' := odd_some yn w2 y (by rw [hS]; exact hy)
      have hz' := odd_some2 xn w3 z (by rw [hT]; exact hz)
      refine ⟨trivial, rfl, by decide, fun ρ => ∃ e7 e8 e9 e15, ∃ due : D, DueOk os' y z due ∧ ρ = [.dat (.scr ns), .dat (.op (.ref da)), .dat d, .dat (.lst (ss.map Sheet.d)), .dat (.dcf w1 (os.map Ob.d)), .dat (graphD a_Graph a_Schema ss w' os'), .dat y, e7, e8, e9, .dat (.lst someL), .dat (.lst spotL), .dat d3, .dat z, .dat due, e15], ?_, ?_⟩
      · obtain ⟨ty, hty⟩ := hy'.ok.1
        refine ⟨ty, hty, by decide, _, rfl, ?_⟩
        by_cases ey : ∃ x, y = .str x
        · obtain ⟨x, rfl⟩ := ey
          cases hty
          rw [if_pos (by decide)]
          by_cases ex : x ∈ os.map Ob.nm
          · obtain ⟨o, ho, rfl⟩ := List.mem_map.mp ex
            have ho' : o ∈ os' := pm.mem_iff.mpr ho
            have osl := hs.sheet o.cl (ok.cl o ho)
            have gk := getK_ob ok.nd ho
            refine ⟨_, .inr o.nm, rfl, rfl, _, rfl, ?_⟩
            rw [gk, if_pos (by show (false != true) = true; decide)]
            refine ⟨_, .inr o.nm, _, rfl, rfl, gk, .str o.cl.lb, atI_nat (j := 0) rfl, ss, o.cl, rfl, hs, ok.cl o ho, _, rfl, by rw [List.length_map]; have := osl.few; omega, ?_⟩
            refine lc_map (fun d => match d with | .tup (x :: _) => x | d => d) _ [] _ (fun dd hdd Q q => ?_) (ge_mono 7) ?_
            · obtain ⟨h1, _, rfl⟩ := List.mem_map.mp hdd
              simp only [Hole.d] at q ⊢
              walk_at "vc"
              exact ⟨_, atI0, q⟩
            have e0 : [] ++ (o.cl.holes.map Hole.d).map (fun d => match d with | .tup (x :: _) => x | d => d) = (o.cl.holes.map Hole.nm).map D.str := by
              rw [List.nil_append, List.map_map, List.map_map]
              rfl
            rw [e0]
            refine ⟨o.cl.holes.map Hole.nm, .inl rfl, hz'.ok.1, _, rfl, ?_⟩
            cases ez : inStrs z (o.cl.holes.map Hole.nm) with
            | true =>
              obtain ⟨x2, rfl, hx2⟩ := inStrs_of ez
              obtain ⟨h1, hm1, rfl⟩ := List.mem_map.mp hx2
              rw [if_pos (by decide)]
              exact ⟨by decide, _, _, _, _, _, .inl ⟨o, ho', rfl, .inl ⟨h1, hm1, rfl, rfl⟩⟩, rfl⟩
            | false =>
              rw [if_neg (by decide)]
              exact ⟨by decide, _, _, _, _, _, .inl ⟨o, ho', rfl, .inr ⟨ez, rfl⟩⟩, rfl⟩
          · have gk : getK (os.map Ob.d) (.inr x) = none := getK_no ex
            refine ⟨_, .inr x, rfl, rfl, _, rfl, ?_⟩
            rw [gk, if_neg (by decide)]
            exact ⟨_, _, _, _, _, .inr ⟨decide_eq_false fun q => ex ((pm.map Ob.nm).mem_iff.mp q), rfl⟩, rfl⟩
        · have nt : isTy ty "str" = false := by
            cases y <;> cases hty <;> first | rfl | exact absurd ⟨_, rfl⟩ ey
          have kf : inStrs y (os'.map Ob.nm) = false := by cases y <;> first | rfl | exact absurd ⟨_, rfl⟩ ey
          rw [nt, if_neg Bool.false_ne_true, if_neg Bool.false_ne_true]
          exact ⟨_, _, _, _, _, .inr ⟨kf, rfl⟩, rfl⟩
      rintro ρ ⟨e7, e8, e9, e15, due, hdue, rfl⟩
      walk_at "vc"
      refine told_words (Gr := a_Graph) (Sc := a_Schema) (w := w') (C := drw da ca) hs ok' hy' hz' hdue (fun t1 ht1 => ?_) fun P1 W1 h1 => ⟨_, rfl, rfl, h1⟩
      rcases ht1 with ⟨c0, v0, rfl, rfl⟩ | ⟨x0, d0, hx0, xo0, rfl, rfl⟩
      · refine ⟨_, atI0, _, atI0, _, rfl, ?_⟩
        rw [decide_eq_true rfl, if_neg (by decide)]
        refine ⟨_, atI0, _, rfl, ?_⟩
        rw [if_neg (by decide), if_neg Bool.false_ne_true]
        exact ⟨_, _, _, _, _, _, _, _, rfl⟩
      · refine ⟨_, atI0, _, atI0, _, rfl, ?_⟩
        rw [decide_eq_true rfl, if_neg (by decide)]
        refine ⟨_, atI0, _, rfl, ?_⟩
        rw [if_pos (by decide)]
        obtain ⟨p1, p2, p3, p4⟩ := pair_shown (n := "name") (by decide +kernel) (by decide +kernel) hx0 xo0
        obtain ⟨q1, q2, q3, _⟩ := pair_shown (n := "name") (by decide +kernel) (by decide +kernel) (rfl : unW d0 = unW d0) xo0
        refine ⟨p1, p2, p3, q1, q2, q3, _, rfl, ?_⟩
        rw [decide_eq_true p4, if_neg (by decide)]
        exact ⟨_, _, _, _, _, _, _, _, rfl⟩
    · obtain ⟨e6, e7, e8, e9, e12, e13, e14, e15, rfl⟩ := hI
      exact ⟨_, _, _, _, _, _, _, _, _, _, _, _, _, _, rfl⟩
end
end LW
namespace LW
open PySem PySem.Spec PyProof.Rows L2 L3
local macro_rules | `(tactic| walk_at "vc") => `(tactic| simp only [sSeq, sNx, sBk, sCt, sSet, sIf, sRet, sRetN, sPar, sFor, sExp, dVar, dC, dOp, dCall, dCons, dNil, dTup, dLst, bOr, bNot, bAnd, bYes, dB, dTru, dOrT, dAndT, dNotT, dIf, dChain, view, frz, view1, frz1, startD, List.map_cons, List.map_nil, List.map_append, List.cons_append, List.nil_append, List.length_cons, List.length_nil, List.replicate, List.getElem?_cons_zero, List.getElem?_cons_succ, Option.some.injEq, exists_eq_left', exists_eq_left, gNm, geNm, iTx, iSq, iRg, dLc, List.set_cons_zero, List.set_cons_succ, wipeE, dSl, oNone, oSome, D.int.injEq, D.str.injEq, dJoin, dDnew, dDisp, dPairs, dNeg, sPars, kNil, kDat, kOwn, oLst, oDic, oLstOf, setRho, sApp, sAppF, sSetF, sAsg, gTp, gNms, dStar, dLenSet, iVar, iTp, siSeq, siEnd, tfFld, tfEnd, dFld, dTix, dMeth, sOwnF, sOwn, sAsgZ, thaw_cons, thaw_nil, thaw1, sCut, sWhile, sAppPop, oMeth0, oSort, oCal])
abbrev s_Schema_names : Stmt := (clsB (topS 16)).getD 3 (.Pass ⟨0, 0, 0, 0⟩)
theorem sc_Schema_names : FnScope ["self"] ["self"] (defScope s_Schema_names) := ⟨rfl, rfl, rfl, by decide +kernel, rfl, by decide +kernel, by decide +kernel⟩
theorem all_mk {l : PySem.W.OpenLaw} {w : World} {K : PySem.W.Frag} {h : Heap} {mg : Str → Option Value} {fa : Addr} (X : K.In h) (G : h.Ns mainGlobals mg) (hfa : mg "law" = some (.ref fa))
    {a_Schema f_is_name f_is_ascending f_are_triples f_is_class f_is_slot f_are_names_among f_law_state f_draw f_law_pick f_law_labels f_law_hole f_law_sheet f_law_sheets f_law_shuffled f_law_holes f_law_fitting f_law_fillable f_law_filled f_law_world f_is_whole f_is_number f_place_in_set f_has_names f_is_object f_is_content f_is_word f_words_of f_is_allowed_object f_is_allowed_word f_copied f_law_words_of f_law_all_titles f_law_told f_law f_init f_slots a_Graph f_ginit f_gclass f_gwords g_names p_names a_BuildError a_BadSchema a_BadGraph a_NoName a_BadRoots f_iNoName cda_NoName cc_NoName N_NoName cA Pt : Addr} {od_is_name an_is_name od_is_ascending an_is_ascending od_are_triples an_are_triples od_is_class an_is_class od_is_slot an_is_slot od_are_names_among an_are_names_among od_law_state an_law_state od_draw an_draw od_law_pick an_law_pick od_law_labels an_law_labels od_law_hole an_law_hole od_law_sheet an_law_sheet od_law_sheets an_law_sheets od_law_shuffled an_law_shuffled od_law_holes an_law_holes od_law_fitting an_law_fitting od_law_fillable an_law_fillable od_law_filled an_law_filled od_law_world an_law_world od_is_whole an_is_whole od_is_number an_is_number od_place_in_set an_place_in_set od_has_names an_has_names od_is_object an_is_object od_is_content an_is_content od_is_word an_is_word od_words_of an_words_of od_is_allowed_object an_is_allowed_object od_is_allowed_word an_is_allowed_word od_copied an_copied od_law_words_of an_law_words_of od_law_all_titles an_law_all_titles od_law_told an_law_told od_law an_law od_init an_init od_slots an_slots od_ginit an_ginit od_gclass an_gclass od_gwords an_gwords od_pnames an_pnames : Option Addr} {sl_is_name sl_is_ascending sl_are_triples sl_is_class sl_is_slot sl_are_names_among sl_law_state sl_draw sl_law_pick sl_law_labels sl_law_hole sl_law_sheet sl_law_sheets sl_law_shuffled sl_law_holes sl_law_fitting sl_law_fillable sl_law_filled sl_law_world sl_is_whole sl_is_number sl_place_in_set sl_has_names sl_is_object sl_is_content sl_is_word sl_words_of sl_is_allowed_object sl_is_allowed_word sl_copied sl_law_words_of sl_law_all_titles sl_law_told sl_law sl_init sl_slots sl_ginit sl_gclass sl_gwords sl_pnames : Array (Option Value)} {oc_is_name kV_is_name dc_is_name pm_is_name cd_is_name ct_is_name oc_is_ascending kV_is_ascending dc_is_ascending pm_is_ascending cd_is_ascending ct_is_ascending oc_are_triples kV_are_triples dc_are_triples pm_are_triples cd_are_triples ct_are_triples oc_is_class kV_is_class dc_is_class pm_is_class cd_is_class ct_is_class oc_is_slot kV_is_slot dc_is_slot pm_is_slot cd_is_slot ct_is_slot oc_are_names_among kV_are_names_among dc_are_names_among pm_are_names_among cd_are_names_among ct_are_names_among oc_law_state kV_law_state dc_law_state pm_law_state cd_law_state ct_law_state oc_draw kV_draw dc_draw pm_draw cd_draw ct_draw oc_law_pick kV_law_pick dc_law_pick pm_law_pick cd_law_pick ct_law_pick oc_law_labels kV_law_labels dc_law_labels pm_law_labels cd_law_labels ct_law_labels oc_law_hole kV_law_hole dc_law_hole pm_law_hole cd_law_hole ct_law_hole oc_law_sheet kV_law_sheet dc_law_sheet pm_law_sheet cd_law_sheet ct_law_sheet oc_law_sheets kV_law_sheets dc_law_sheets pm_law_sheets cd_law_sheets ct_law_sheets oc_law_shuffled kV_law_shuffled dc_law_shuffled pm_law_shuffled cd_law_shuffled ct_law_shuffled oc_law_holes kV_law_holes dc_law_holes pm_law_holes cd_law_holes ct_law_holes oc_law_fitting kV_law_fitting dc_law_fitting pm_law_fitting cd_law_fitting ct_law_fitting oc_law_fillable kV_law_fillable dc_law_fillable pm_law_fillable cd_law_fillable ct_law_fillable oc_law_filled kV_law_filled dc_law_filled pm_law_filled cd_law_filled ct_law_filled oc_law_world kV_law_world dc_law_world pm_law_world cd_law_world ct_law_world oc_is_whole kV_is_whole dc_is_whole pm_is_whole cd_is_whole ct_is_whole oc_is_number kV_is_number dc_is_number pm_is_number cd_is_number ct_is_number oc_place_in_set kV_place_in_set dc_place_in_set pm_place_in_set cd_place_in_set ct_place_in_set oc_has_names kV_has_names dc_has_names pm_has_names cd_has_names ct_has_names oc_is_object kV_is_object dc_is_object pm_is_object cd_is_object ct_is_object oc_is_content kV_is_content dc_is_content pm_is_content cd_is_content ct_is_content oc_is_word kV_is_word dc_is_word pm_is_word cd_is_word ct_is_word oc_words_of kV_words_of dc_words_of pm_words_of cd_words_of ct_words_of oc_is_allowed_object kV_is_allowed_object dc_is_allowed_object pm_is_allowed_object cd_is_allowed_object ct_is_allowed_object oc_is_allowed_word kV_is_allowed_word dc_is_allowed_word pm_is_allowed_word cd_is_allowed_word ct_is_allowed_word oc_copied kV_copied dc_copied pm_copied cd_copied ct_copied oc_law_words_of kV_law_words_of dc_law_words_of pm_law_words_of cd_law_words_of ct_law_words_of oc_law_all_titles kV_law_all_titles dc_law_all_titles pm_law_all_titles cd_law_all_titles ct_law_all_titles oc_law_told kV_law_told dc_law_told pm_law_told cd_law_told ct_law_told oc_law kV_law dc_law pm_law ct_law oc_init kV_init dc_init pm_init cd_init ct_init oc_slots kV_slots dc_slots pm_slots cd_slots ct_slots oc_ginit kV_ginit dc_ginit pm_ginit cd_ginit ct_ginit oc_gclass kV_gclass dc_gclass pm_gclass cd_gclass ct_gclass oc_gwords kV_gwords dc_gwords pm_gwords cd_gwords ct_gwords oc_pnames kV_pnames dc_pnames pm_pnames cd_pnames ct_pnames : Value} {rs_names : List Value} {tL tN tC tM : Tok} {cclA : Value} {cddA : Option Addr} {vsA : Array Value} {ccsA : Array (Option Value)} {q : Program} (tabs : ∀ (y : Str) (e : DefRec) (c P : Addr), (recsOf q).find? (fun e => e.name == y) = some e → PySem.W.tabIn K y = some (c, P) → PySem.W.CodeHd h c P ∧ h.get? P = some (PySem.W.tabObj #[])) {tLN tMO tMW : Tok} {od_iNoName an_iNoName cdd_iNoName ccd_iNoName : Option Addr} {sl_iNoName ccs_iNoName ccv_iNoName : Array (Option Value)} {oc_iNoName kV_iNoName dc_iNoName pm_iNoName ct_iNoName ccl_iNoName ccx_iNoName : Value} {vs_iNoName : Array Value} {fil_iNoName : Str} {tf_iNoName : Tok} {nm_NoName q_NoName : Str} {bs_NoName sub_NoName : List Value} {sn_NoName : List Str} {ab_NoName : Bool} {col_NoName : Option Bool} {dd_NoName : Option Addr} {m0_NoName m1_NoName m2_NoName m3_NoName m5_NoName : Option Value}
    (aS : PySem.W.nsIn K mainGlobals "Schema" = some (some (.ref a_Schema)))
    (a_is_name : PySem.W.nsIn K mainGlobals "is_name" = some (some (.ref f_is_name)))
    (l_is_name : K.lookup f_is_name = some ⟨oc_is_name, od_is_name, .func (PySem.W.fnOf "is_name" "is_name" (defArgs s_is_name) (defBody s_is_name) (defScope s_is_name) .none kV_is_name dc_is_name pm_is_name an_is_name cd_is_name ct_is_name), sl_is_name⟩)
    (c_is_name : PySem.W.codeIn K cd_is_name "is_name" = true)
    (k_is_name : PySem.W.keepIn K (.ref f_is_name) = true)
    (a_is_ascending : PySem.W.nsIn K mainGlobals "is_ascending" = some (some (.ref f_is_ascending)))
    (l_is_ascending : K.lookup f_is_ascending = some ⟨oc_is_ascending, od_is_ascending, .func (PySem.W.fnOf "is_ascending" "is_ascending" (defArgs s_is_ascending) (defBody s_is_ascending) (defScope s_is_ascending) .none kV_is_ascending dc_is_ascending pm_is_ascending an_is_ascending cd_is_ascending ct_is_ascending), sl_is_ascending⟩)
    (c_is_ascending : PySem.W.codeIn K cd_is_ascending "is_ascending" = true)
    (k_is_ascending : PySem.W.keepIn K (.ref f_is_ascending) = true)
    (a_are_triples : PySem.W.nsIn K mainGlobals "_are_triples" = some (some (.ref f_are_triples)))
    (l_are_triples : K.lookup f_are_triples = some ⟨oc_are_triples, od_are_triples, .func (PySem.W.fnOf "_are_triples" "_are_triples" (defArgs s_are_triples) (defBody s_are_triples) (defScope s_are_triples) .none kV_are_triples dc_are_triples pm_are_triples an_are_triples cd_are_triples ct_are_triples), sl_are_triples⟩)
    (c_are_triples : PySem.W.codeIn K cd_are_triples "_are_triples" = true)
    (k_are_triples : PySem.W.keepIn K (.ref f_are_triples) = true)
    (a_is_class : PySem.W.nsIn K mainGlobals "_is_class" = some (some (.ref f_is_class)))
    (l_is_class : K.lookup f_is_class = some ⟨oc_is_class, od_is_class, .func (PySem.W.fnOf "_is_class" "_is_class" (defArgs s_is_class) (defBody s_is_class) (defScope s_is_class) .none kV_is_class dc_is_class pm_is_class an_is_class cd_is_class ct_is_class), sl_is_class⟩)
    (c_is_class : PySem.W.codeIn K cd_is_class "_is_class" = true)
    (k_is_class : PySem.W.keepIn K (.ref f_is_class) = true)
    (a_is_slot : PySem.W.nsIn K mainGlobals "_is_slot" = some (some (.ref f_is_slot)))
    (l_is_slot : K.lookup f_is_slot = some ⟨oc_is_slot, od_is_slot, .func (PySem.W.fnOf "_is_slot" "_is_slot" (defArgs s_is_slot) (defBody s_is_slot) (defScope s_is_slot) .none kV_is_slot dc_is_slot pm_is_slot an_is_slot cd_is_slot ct_is_slot), sl_is_slot⟩)
    (c_is_slot : PySem.W.codeIn K cd_is_slot "_is_slot" = true)
    (k_is_slot : PySem.W.keepIn K (.ref f_is_slot) = true)
    (a_are_names_among : PySem.W.nsIn K mainGlobals "_are_names_among" = some (some (.ref f_are_names_among)))
    (l_are_names_among : K.lookup f_are_names_among = some ⟨oc_are_names_among, od_are_names_among, .func (PySem.W.fnOf "_are_names_among" "_are_names_among" (defArgs s_are_names_among) (defBody s_are_names_among) (defScope s_are_names_among) .none kV_are_names_among dc_are_names_among pm_are_names_among an_are_names_among cd_are_names_among ct_are_names_among), sl_are_names_among⟩)
    (c_are_names_among : PySem.W.codeIn K cd_are_names_among "_are_names_among" = true)
    (k_are_names_among : PySem.W.keepIn K (.ref f_are_names_among) = true)
    (a_law_state : PySem.W.nsIn K mainGlobals "_law_state" = some (some (.ref f_law_state)))
    (l_law_state : K.lookup f_law_state = some ⟨oc_law_state, od_law_state, .func (PySem.W.fnOf "_law_state" "_law_state" (defArgs s_law_state) (defBody s_law_state) (defScope s_law_state) .none kV_law_state dc_law_state pm_law_state an_law_state cd_law_state ct_law_state), sl_law_state⟩)
    (c_law_state : PySem.W.codeIn K cd_law_state "_law_state" = true)
    (k_law_state : PySem.W.keepIn K (.ref f_law_state) = true)
    (a_draw : PySem.W.nsIn K mainGlobals "_law_draw" = some (some (.ref f_draw)))
    (l_draw : K.lookup f_draw = some ⟨oc_draw, od_draw, .func (PySem.W.fnOf "_law_draw" "_law_draw" (defArgs sDraw) (defBody sDraw) (defScope sDraw) .none kV_draw dc_draw pm_draw an_draw cd_draw ct_draw), sl_draw⟩)
    (c_draw : PySem.W.codeIn K cd_draw "_law_draw" = true)
    (k_draw : PySem.W.keepIn K (.ref f_draw) = true)
    (a_law_pick : PySem.W.nsIn K mainGlobals "_law_pick" = some (some (.ref f_law_pick)))
    (l_law_pick : K.lookup f_law_pick = some ⟨oc_law_pick, od_law_pick, .func (PySem.W.fnOf "_law_pick" "_law_pick" (defArgs s_law_pick) (defBody s_law_pick) (defScope s_law_pick) .none kV_law_pick dc_law_pick pm_law_pick an_law_pick cd_law_pick ct_law_pick), sl_law_pick⟩)
    (c_law_pick : PySem.W.codeIn K cd_law_pick "_law_pick" = true)
    (k_law_pick : PySem.W.keepIn K (.ref f_law_pick) = true)
    (a_law_labels : PySem.W.nsIn K mainGlobals "_law_labels" = some (some (.ref f_law_labels)))
    (l_law_labels : K.lookup f_law_labels = some ⟨oc_law_labels, od_law_labels, .func (PySem.W.fnOf "_law_labels" "_law_labels" (defArgs s_law_labels) (defBody s_law_labels) (defScope s_law_labels) .none kV_law_labels dc_law_labels pm_law_labels an_law_labels cd_law_labels ct_law_labels), sl_law_labels⟩)
    (c_law_labels : PySem.W.codeIn K cd_law_labels "_law_labels" = true)
    (k_law_labels : PySem.W.keepIn K (.ref f_law_labels) = true)
    (a_law_hole : PySem.W.nsIn K mainGlobals "_law_hole" = some (some (.ref f_law_hole)))
    (l_law_hole : K.lookup f_law_hole = some ⟨oc_law_hole, od_law_hole, .func (PySem.W.fnOf "_law_hole" "_law_hole" (defArgs s_law_hole) (defBody s_law_hole) (defScope s_law_hole) .none kV_law_hole dc_law_hole pm_law_hole an_law_hole cd_law_hole ct_law_hole), sl_law_hole⟩)
    (c_law_hole : PySem.W.codeIn K cd_law_hole "_law_hole" = true)
    (k_law_hole : PySem.W.keepIn K (.ref f_law_hole) = true)
    (a_law_sheet : PySem.W.nsIn K mainGlobals "_law_sheet" = some (some (.ref f_law_sheet)))
    (l_law_sheet : K.lookup f_law_sheet = some ⟨oc_law_sheet, od_law_sheet, .func (PySem.W.fnOf "_law_sheet" "_law_sheet" (defArgs s_law_sheet) (defBody s_law_sheet) (defScope s_law_sheet) .none kV_law_sheet dc_law_sheet pm_law_sheet an_law_sheet cd_law_sheet ct_law_sheet), sl_law_sheet⟩)
    (c_law_sheet : PySem.W.codeIn K cd_law_sheet "_law_sheet" = true)
    (k_law_sheet : PySem.W.keepIn K (.ref f_law_sheet) = true)
    (a_law_sheets : PySem.W.nsIn K mainGlobals "_law_sheets" = some (some (.ref f_law_sheets)))
    (l_law_sheets : K.lookup f_law_sheets = some ⟨oc_law_sheets, od_law_sheets, .func (PySem.W.fnOf "_law_sheets" "_law_sheets" (defArgs s_law_sheets) (defBody s_law_sheets) (defScope s_law_sheets) .none kV_law_sheets dc_law_sheets pm_law_sheets an_law_sheets cd_law_sheets ct_law_sheets), sl_law_sheets⟩)
    (c_law_sheets : PySem.W.codeIn K cd_law_sheets "_law_sheets" = true)
    (k_law_sheets : PySem.W.keepIn K (.ref f_law_sheets) = true)
    (a_law_shuffled : PySem.W.nsIn K mainGlobals "_law_shuffled" = some (some (.ref f_law_shuffled)))
    (l_law_shuffled : K.lookup f_law_shuffled = some ⟨oc_law_shuffled, od_law_shuffled, .func (PySem.W.fnOf "_law_shuffled" "_law_shuffled" (defArgs s_law_shuffled) (defBody s_law_shuffled) (defScope s_law_shuffled) .none kV_law_shuffled dc_law_shuffled pm_law_shuffled an_law_shuffled cd_law_shuffled ct_law_shuffled), sl_law_shuffled⟩)
    (c_law_shuffled : PySem.W.codeIn K cd_law_shuffled "_law_shuffled" = true)
    (k_law_shuffled : PySem.W.keepIn K (.ref f_law_shuffled) = true)
    (a_law_holes : PySem.W.nsIn K mainGlobals "_law_holes" = some (some (.ref f_law_holes)))
    (l_law_holes : K.lookup f_law_holes = some ⟨oc_law_holes, od_law_holes, .func (PySem.W.fnOf "_law_holes" "_law_holes" (defArgs s_law_holes) (defBody s_law_holes) (defScope s_law_holes) .none kV_law_holes dc_law_holes pm_law_holes an_law_holes cd_law_holes ct_law_holes), sl_law_holes⟩)
    (c_law_holes : PySem.W.codeIn K cd_law_holes "_law_holes" = true)
    (k_law_holes : PySem.W.keepIn K (.ref f_law_holes) = true)
    (a_law_fitting : PySem.W.nsIn K mainGlobals "_law_fitting" = some (some (.ref f_law_fitting)))
    (l_law_fitting : K.lookup f_law_fitting = some ⟨oc_law_fitting, od_law_fitting, .func (PySem.W.fnOf "_law_fitting" "_law_fitting" (defArgs s_law_fitting) (defBody s_law_fitting) (defScope s_law_fitting) .none kV_law_fitting dc_law_fitting pm_law_fitting an_law_fitting cd_law_fitting ct_law_fitting), sl_law_fitting⟩)
    (c_law_fitting : PySem.W.codeIn K cd_law_fitting "_law_fitting" = true)
    (k_law_fitting : PySem.W.keepIn K (.ref f_law_fitting) = true)
    (a_law_fillable : PySem.W.nsIn K mainGlobals "_law_fillable" = some (some (.ref f_law_fillable)))
    (l_law_fillable : K.lookup f_law_fillable = some ⟨oc_law_fillable, od_law_fillable, .func (PySem.W.fnOf "_law_fillable" "_law_fillable" (defArgs s_law_fillable) (defBody s_law_fillable) (defScope s_law_fillable) .none kV_law_fillable dc_law_fillable pm_law_fillable an_law_fillable cd_law_fillable ct_law_fillable), sl_law_fillable⟩)
    (c_law_fillable : PySem.W.codeIn K cd_law_fillable "_law_fillable" = true)
    (k_law_fillable : PySem.W.keepIn K (.ref f_law_fillable) = true)
    (a_law_filled : PySem.W.nsIn K mainGlobals "_law_filled" = some (some (.ref f_law_filled)))
    (l_law_filled : K.lookup f_law_filled = some ⟨oc_law_filled, od_law_filled, .func (PySem.W.fnOf "_law_filled" "_law_filled" (defArgs s_law_filled) (defBody s_law_filled) (defScope s_law_filled) .none kV_law_filled dc_law_filled pm_law_filled an_law_filled cd_law_filled ct_law_filled), sl_law_filled⟩)
    (c_law_filled : PySem.W.codeIn K cd_law_filled "_law_filled" = true)
    (k_law_filled : PySem.W.keepIn K (.ref f_law_filled) = true)
    (a_law_world : PySem.W.nsIn K mainGlobals "_law_world" = some (some (.ref f_law_world)))
    (l_law_world : K.lookup f_law_world = some ⟨oc_law_world, od_law_world, .func (PySem.W.fnOf "_law_world" "_law_world" (defArgs s_law_world) (defBody s_law_world) (defScope s_law_world) .none kV_law_world dc_law_world pm_law_world an_law_world cd_law_world ct_law_world), sl_law_world⟩)
    (c_law_world : PySem.W.codeIn K cd_law_world "_law_world" = true)
    (k_law_world : PySem.W.keepIn K (.ref f_law_world) = true)
    (a_is_whole : PySem.W.nsIn K mainGlobals "is_whole" = some (some (.ref f_is_whole)))
    (l_is_whole : K.lookup f_is_whole = some ⟨oc_is_whole, od_is_whole, .func (PySem.W.fnOf "is_whole" "is_whole" (defArgs s_is_whole) (defBody s_is_whole) (defScope s_is_whole) .none kV_is_whole dc_is_whole pm_is_whole an_is_whole cd_is_whole ct_is_whole), sl_is_whole⟩)
    (c_is_whole : PySem.W.codeIn K cd_is_whole "is_whole" = true)
    (k_is_whole : PySem.W.keepIn K (.ref f_is_whole) = true)
    (a_is_number : PySem.W.nsIn K mainGlobals "is_number" = some (some (.ref f_is_number)))
    (l_is_number : K.lookup f_is_number = some ⟨oc_is_number, od_is_number, .func (PySem.W.fnOf "is_number" "is_number" (defArgs s_is_number) (defBody s_is_number) (defScope s_is_number) .none kV_is_number dc_is_number pm_is_number an_is_number cd_is_number ct_is_number), sl_is_number⟩)
    (c_is_number : PySem.W.codeIn K cd_is_number "is_number" = true)
    (k_is_number : PySem.W.keepIn K (.ref f_is_number) = true)
    (a_place_in_set : PySem.W.nsIn K mainGlobals "place_in_set" = some (some (.ref f_place_in_set)))
    (l_place_in_set : K.lookup f_place_in_set = some ⟨oc_place_in_set, od_place_in_set, .func (PySem.W.fnOf "place_in_set" "place_in_set" (defArgs s_place_in_set) (defBody s_place_in_set) (defScope s_place_in_set) .none kV_place_in_set dc_place_in_set pm_place_in_set an_place_in_set cd_place_in_set ct_place_in_set), sl_place_in_set⟩)
    (c_place_in_set : PySem.W.codeIn K cd_place_in_set "place_in_set" = true)
    (k_place_in_set : PySem.W.keepIn K (.ref f_place_in_set) = true)
    (a_has_names : PySem.W.nsIn K mainGlobals "_has_names" = some (some (.ref f_has_names)))
    (l_has_names : K.lookup f_has_names = some ⟨oc_has_names, od_has_names, .func (PySem.W.fnOf "_has_names" "_has_names" (defArgs s_has_names) (defBody s_has_names) (defScope s_has_names) .none kV_has_names dc_has_names pm_has_names an_has_names cd_has_names ct_has_names), sl_has_names⟩)
    (c_has_names : PySem.W.codeIn K cd_has_names "_has_names" = true)
    (k_has_names : PySem.W.keepIn K (.ref f_has_names) = true)
    (a_is_object : PySem.W.nsIn K mainGlobals "_is_object" = some (some (.ref f_is_object)))
    (l_is_object : K.lookup f_is_object = some ⟨oc_is_object, od_is_object, .func (PySem.W.fnOf "_is_object" "_is_object" (defArgs s_is_object) (defBody s_is_object) (defScope s_is_object) .none kV_is_object dc_is_object pm_is_object an_is_object cd_is_object ct_is_object), sl_is_object⟩)
    (c_is_object : PySem.W.codeIn K cd_is_object "_is_object" = true)
    (k_is_object : PySem.W.keepIn K (.ref f_is_object) = true)
    (a_is_content : PySem.W.nsIn K mainGlobals "_is_content" = some (some (.ref f_is_content)))
    (l_is_content : K.lookup f_is_content = some ⟨oc_is_content, od_is_content, .func (PySem.W.fnOf "_is_content" "_is_content" (defArgs s_is_content) (defBody s_is_content) (defScope s_is_content) .none kV_is_content dc_is_content pm_is_content an_is_content cd_is_content ct_is_content), sl_is_content⟩)
    (c_is_content : PySem.W.codeIn K cd_is_content "_is_content" = true)
    (k_is_content : PySem.W.keepIn K (.ref f_is_content) = true)
    (a_is_word : PySem.W.nsIn K mainGlobals "_is_word" = some (some (.ref f_is_word)))
    (l_is_word : K.lookup f_is_word = some ⟨oc_is_word, od_is_word, .func (PySem.W.fnOf "_is_word" "_is_word" (defArgs s_is_word) (defBody s_is_word) (defScope s_is_word) .none kV_is_word dc_is_word pm_is_word an_is_word cd_is_word ct_is_word), sl_is_word⟩)
    (c_is_word : PySem.W.codeIn K cd_is_word "_is_word" = true)
    (k_is_word : PySem.W.keepIn K (.ref f_is_word) = true)
    (a_words_of : PySem.W.nsIn K mainGlobals "_words_of" = some (some (.ref f_words_of)))
    (l_words_of : K.lookup f_words_of = some ⟨oc_words_of, od_words_of, .func (PySem.W.fnOf "_words_of" "_words_of" (defArgs s_words_of) (defBody s_words_of) (defScope s_words_of) .none kV_words_of dc_words_of pm_words_of an_words_of cd_words_of ct_words_of), sl_words_of⟩)
    (c_words_of : PySem.W.codeIn K cd_words_of "_words_of" = true)
    (k_words_of : PySem.W.keepIn K (.ref f_words_of) = true)
    (a_is_allowed_object : PySem.W.nsIn K mainGlobals "_is_allowed_object" = some (some (.ref f_is_allowed_object)))
    (l_is_allowed_object : K.lookup f_is_allowed_object = some ⟨oc_is_allowed_object, od_is_allowed_object, .func (PySem.W.fnOf "_is_allowed_object" "_is_allowed_object" (defArgs s_is_allowed_object) (defBody s_is_allowed_object) (defScope s_is_allowed_object) .none kV_is_allowed_object dc_is_allowed_object pm_is_allowed_object an_is_allowed_object cd_is_allowed_object ct_is_allowed_object), sl_is_allowed_object⟩)
    (c_is_allowed_object : PySem.W.codeIn K cd_is_allowed_object "_is_allowed_object" = true)
    (k_is_allowed_object : PySem.W.keepIn K (.ref f_is_allowed_object) = true)
    (a_is_allowed_word : PySem.W.nsIn K mainGlobals "is_allowed_word" = some (some (.ref f_is_allowed_word)))
    (l_is_allowed_word : K.lookup f_is_allowed_word = some ⟨oc_is_allowed_word, od_is_allowed_word, .func (PySem.W.fnOf "is_allowed_word" "is_allowed_word" (defArgs s_is_allowed_word) (defBody s_is_allowed_word) (defScope s_is_allowed_word) .none kV_is_allowed_word dc_is_allowed_word pm_is_allowed_word an_is_allowed_word cd_is_allowed_word ct_is_allowed_word), sl_is_allowed_word⟩)
    (c_is_allowed_word : PySem.W.codeIn K cd_is_allowed_word "is_allowed_word" = true)
    (k_is_allowed_word : PySem.W.keepIn K (.ref f_is_allowed_word) = true)
    (a_copied : PySem.W.nsIn K mainGlobals "copied" = some (some (.ref f_copied)))
    (l_copied : K.lookup f_copied = some ⟨oc_copied, od_copied, .func (PySem.W.fnOf "copied" "copied" (defArgs s_copied) (defBody s_copied) (defScope s_copied) .none kV_copied dc_copied pm_copied an_copied cd_copied ct_copied), sl_copied⟩)
    (c_copied : PySem.W.codeIn K cd_copied "copied" = true)
    (k_copied : PySem.W.keepIn K (.ref f_copied) = true)
    (a_law_words_of : PySem.W.nsIn K mainGlobals "_law_words_of" = some (some (.ref f_law_words_of)))
    (l_law_words_of : K.lookup f_law_words_of = some ⟨oc_law_words_of, od_law_words_of, .func (PySem.W.fnOf "_law_words_of" "_law_words_of" (defArgs s_law_words_of) (defBody s_law_words_of) (defScope s_law_words_of) .none kV_law_words_of dc_law_words_of pm_law_words_of an_law_words_of cd_law_words_of ct_law_words_of), sl_law_words_of⟩)
    (c_law_words_of : PySem.W.codeIn K cd_law_words_of "_law_words_of" = true)
    (k_law_words_of : PySem.W.keepIn K (.ref f_law_words_of) = true)
    (a_law_all_titles : PySem.W.nsIn K mainGlobals "_law_all_titles" = some (some (.ref f_law_all_titles)))
    (l_law_all_titles : K.lookup f_law_all_titles = some ⟨oc_law_all_titles, od_law_all_titles, .func (PySem.W.fnOf "_law_all_titles" "_law_all_titles" (defArgs s_law_all_titles) (defBody s_law_all_titles) (defScope s_law_all_titles) .none kV_law_all_titles dc_law_all_titles pm_law_all_titles an_law_all_titles cd_law_all_titles ct_law_all_titles), sl_law_all_titles⟩)
    (c_law_all_titles : PySem.W.codeIn K cd_law_all_titles "_law_all_titles" = true)
    (k_law_all_titles : PySem.W.keepIn K (.ref f_law_all_titles) = true)
    (a_law_told : PySem.W.nsIn K mainGlobals "_law_told" = some (some (.ref f_law_told)))
    (l_law_told : K.lookup f_law_told = some ⟨oc_law_told, od_law_told, .func (PySem.W.fnOf "_law_told" "_law_told" (defArgs s_law_told) (defBody s_law_told) (defScope s_law_told) .none kV_law_told dc_law_told pm_law_told an_law_told cd_law_told ct_law_told), sl_law_told⟩)
    (c_law_told : PySem.W.codeIn K cd_law_told "_law_told" = true)
    (k_law_told : PySem.W.keepIn K (.ref f_law_told) = true)
    (a_law : PySem.W.nsIn K mainGlobals "law" = some (some (.ref f_law)))
    (l_law : K.lookup f_law = some ⟨oc_law, od_law, .func (PySem.W.fnOf "law" "law" (defArgs s_law) (defBody s_law) (defScope s_law) .none kV_law dc_law pm_law an_law (.ref cA) ct_law), sl_law⟩)
    (c_law : PySem.W.codeIn K (.ref cA) "law" = true)
    (k_law : PySem.W.keepIn K (.ref f_law) = true)
    (a_init : PySem.W.findIn K (.ref a_Schema) "__init__" = some (some (.ref f_init)))
    (l_init : K.lookup f_init = some ⟨oc_init, od_init, .func (PySem.W.fnOf "__init__" "Schema.__init__" (defArgs s_Schema_init) (defBody s_Schema_init) (defScope s_Schema_init) .none kV_init dc_init pm_init an_init cd_init ct_init), sl_init⟩)
    (c_init : PySem.W.codeIn K cd_init "Schema.__init__" = true)
    (k_init : PySem.W.keepIn K (.ref f_init) = true)
    (i_init : PySem.W.isFn K (.ref f_init) = true)
    (a_slots : PySem.W.findIn K (.ref a_Schema) "slots" = some (some (.ref f_slots)))
    (l_slots : K.lookup f_slots = some ⟨oc_slots, od_slots, .func (PySem.W.fnOf "slots" "Schema.slots" (defArgs s_Schema_slots) (defBody s_Schema_slots) (defScope s_Schema_slots) .none kV_slots dc_slots pm_slots an_slots cd_slots ct_slots), sl_slots⟩)
    (c_slots : PySem.W.codeIn K cd_slots "Schema.slots" = true)
    (k_slots : PySem.W.keepIn K (.ref f_slots) = true)
    (i_slots : PySem.W.isFn K (.ref f_slots) = true)
    (aG : PySem.W.nsIn K mainGlobals "Graph" = some (some (.ref a_Graph)))
    (G_mk : PySem.W.makesIn K a_Graph = true)
    (G_kp : PySem.W.keepIn K (.ref a_Graph) = true)
    (G_pg : PySem.W.plainGet K a_Graph Str.empty = true)
    (G_hd : PySem.W.hasDictIn K a_Graph = true)
    (G_po : PySem.W.plainOver K a_Graph = true)
    (G_sa : PySem.W.findIn K (.ref a_Graph) "__setattr__" = some (some (.builtin "object.__setattr__")))
    (gn_schema : PySem.W.findIn K (.ref a_Graph) "_schema" = some none)
    (gn_objects : PySem.W.findIn K (.ref a_Graph) "_objects" = some none)
    (v_LN : PySem.W.nsIn K mainGlobals "LARGEST_NUMBER" = some (some (.int 999 tLN)))
    (v_MO : PySem.W.nsIn K mainGlobals "MOST_OBJECTS" = some (some (.int 24 tMO)))
    (v_MW : PySem.W.nsIn K mainGlobals "MOST_WORDS" = some (some (.int 4 tMW)))
    (a_ginit : PySem.W.findIn K (.ref a_Graph) "__init__" = some (some (.ref f_ginit)))
    (l_ginit : K.lookup f_ginit = some ⟨oc_ginit, od_ginit, .func (PySem.W.fnOf "__init__" "Graph.__init__" (defArgs s_Graph_init) (defBody s_Graph_init) (defScope s_Graph_init) .none kV_ginit dc_ginit pm_ginit an_ginit cd_ginit ct_ginit), sl_ginit⟩)
    (c_ginit : PySem.W.codeIn K cd_ginit "Graph.__init__" = true)
    (k_ginit : PySem.W.keepIn K (.ref f_ginit) = true)
    (i_ginit : PySem.W.isFn K (.ref f_ginit) = true)
    (a_gclass : PySem.W.findIn K (.ref a_Graph) "class_of" = some (some (.ref f_gclass)))
    (l_gclass : K.lookup f_gclass = some ⟨oc_gclass, od_gclass, .func (PySem.W.fnOf "class_of" "Graph.class_of" (defArgs s_Graph_class_of) (defBody s_Graph_class_of) (defScope s_Graph_class_of) .none kV_gclass dc_gclass pm_gclass an_gclass cd_gclass ct_gclass), sl_gclass⟩)
    (c_gclass : PySem.W.codeIn K cd_gclass "Graph.class_of" = true)
    (k_gclass : PySem.W.keepIn K (.ref f_gclass) = true)
    (i_gclass : PySem.W.isFn K (.ref f_gclass) = true)
    (a_gwords : PySem.W.findIn K (.ref a_Graph) "words" = some (some (.ref f_gwords)))
    (l_gwords : K.lookup f_gwords = some ⟨oc_gwords, od_gwords, .func (PySem.W.fnOf "words" "Graph.words" (defArgs s_Graph_words) (defBody s_Graph_words) (defScope s_Graph_words) .none kV_gwords dc_gwords pm_gwords an_gwords cd_gwords ct_gwords), sl_gwords⟩)
    (c_gwords : PySem.W.codeIn K cd_gwords "Graph.words" = true)
    (k_gwords : PySem.W.keepIn K (.ref f_gwords) = true)
    (i_gwords : PySem.W.isFn K (.ref f_gwords) = true)
    (a_pnames : PySem.W.findIn K (.ref a_Schema) "names" = some (some (.ref p_names)))
    (b_pnames : PySem.W.specialIn K (.ref p_names) "__get__" = some (some (.builtin "property.__get__")))
    (d_pnames : PySem.W.takesIn K (.ref p_names) = some true)
    (r_pnames : PySem.W.recIn K p_names "property" = some (.ref g_names :: rs_names))
    (l_pnames : K.lookup g_names = some ⟨oc_pnames, od_pnames, .func (PySem.W.fnOf "names" "Schema.names" (defArgs s_Schema_names) (defBody s_Schema_names) (defScope s_Schema_names) .none kV_pnames dc_pnames pm_pnames an_pnames cd_pnames ct_pnames), sl_pnames⟩)
    (c_pnames : PySem.W.codeIn K cd_pnames "Schema.names" = true)
    (n_pclasses : PySem.W.findIn K (.ref a_Schema) "_classes" = some none)
    (n_pnames : PySem.W.findIn K (.ref a_Schema) "_names" = some none)
    (S_mk : PySem.W.makesIn K a_Schema = true)
    (S_kp : PySem.W.keepIn K (.ref a_Schema) = true)
    (S_pg : PySem.W.plainGet K a_Schema Str.empty = true)
    (S_hd : PySem.W.hasDictIn K a_Schema = true)
    (S_po : PySem.W.plainOver K a_Schema = true)
    (S_sa : PySem.W.findIn K (.ref a_Schema) "__setattr__" = some (some (.builtin "object.__setattr__")))
    (aE_BuildError : PySem.W.nsIn K mainGlobals "BuildError" = some (some (.ref a_BuildError)))
    (aE_BadSchema : PySem.W.nsIn K mainGlobals "BadSchema" = some (some (.ref a_BadSchema)))
    (aE_BadGraph : PySem.W.nsIn K mainGlobals "BadGraph" = some (some (.ref a_BadGraph)))
    (aE_NoName : PySem.W.nsIn K mainGlobals "NoName" = some (some (.ref a_NoName)))
    (aE_BadRoots : PySem.W.nsIn K mainGlobals "BadRoots" = some (some (.ref a_BadRoots)))
    (aI_NoName : PySem.W.findIn K (.ref a_NoName) "__init__" = some (some (.ref f_iNoName)))
    (tI_NoName : PySem.W.typeIn K (.ref f_iNoName) = some (.type "function"))
    (l_iNoName : K.lookup f_iNoName = some ⟨oc_iNoName, od_iNoName, .func (PySem.W.ksFn "__init__" "NoName.__init__" (defArgs s_NoName_init) (defBody s_NoName_init) (defScope s_NoName_init) .none kV_iNoName dc_iNoName pm_iNoName an_iNoName (.ref cda_NoName) ct_iNoName cc_NoName), sl_iNoName⟩)
    (c_iNoName : PySem.W.codeIn K (.ref cda_NoName) "NoName.__init__" = true)
    (lc_iNoName : K.lookup cda_NoName = some ⟨ccl_iNoName, cdd_iNoName, .fields vs_iNoName, ccs_iNoName⟩)
    (v2_iNoName : vs_iNoName[2]? = some (.str fil_iNoName tf_iNoName))
    (fi_iNoName : ((l.prog.main.file : Str) == fil_iNoName) = true)
    (lcc_iNoName : K.lookup cc_NoName = some ⟨ccx_iNoName, ccd_iNoName, .cell (some (.ref a_NoName)), ccv_iNoName⟩)
    (ms_NoName : PySem.W.mroIn K a_NoName (.ref a_NoName) = some true)
    (su_NoName : PySem.W.ks_superIn K a_NoName a_NoName "__init__" = some (some (.builtin veI)))
    (sv_NoName : PySem.W.subIn K (.ref a_NoName) (.type "ValueError") = some true)
    (xL_NoName : K.lookup a_NoName = some (excClassObj nm_NoName q_NoName a_NoName N_NoName bs_NoName [.ref a_BuildError, .type "ValueError", .type "Exception", .type "BaseException", .type "object"] true sn_NoName sub_NoName ab_NoName col_NoName dd_NoName m0_NoName m1_NoName m2_NoName m3_NoName m5_NoName "ValueError.__new__"))
    (sa_NoName : PySem.W.findIn K (.ref a_NoName) "__setattr__" = some (some (.builtin "object.__setattr__")))
    (eC_NoName : PySem.W.subIn K (.ref a_NoName) (.type "BaseException") = some true)
    (tC_NoName : PySem.W.typeIn K (.ref a_NoName) = some (.type "type"))
    (kC_NoName : PySem.W.keepIn K (.ref a_NoName) = true)
    (ga_NoName : PySem.W.findIn K (.ref a_NoName) "__getattribute__" = some (some (.builtin "BaseException.__getattribute__")))
    (gg_NoName : PySem.W.findIn K (.ref a_NoName) "__getattr__" = some none)
    (hd_NoName : PySem.W.hasDictIn K a_NoName = true)
    (cl_NoName : (PySem.W.clsIn K a_NoName).isSome = true)
    (ca_NoName : PySem.W.findIn K (.ref a_NoName) "__class__" = some (some (.builtin "object.__class__")))
    (co_NoName : PySem.W.mroIn K a_NoName (.type "object") = some true)
    (na_NoName : PySem.W.findIn K (.ref a_NoName) "name" = some none)
    (cN_ : PySem.W.specialIn K (.builtin "object.__class__") "__get__" = some (some (.builtin "getset_descriptor.__get__")))
    (cT_ : PySem.W.takesIn K (.builtin "object.__class__") = some true)
    (opq_ : PySem.W.nsIn K cStatics "thirdparty.any" = some none)
    (top_ : (l.prog.main.scope.names.lookup ("super" : Str)).isSome = false)
    (exm_ : PySem.W.exmOne K (.ref a_NoName) (.ref a_BuildError) = some true)
    (kS_ : PySem.W.kitOne K (.ref a_NoName) (.ref a_BadSchema) = some false)
    (kG_ : PySem.W.kitOne K (.ref a_NoName) (.ref a_BadGraph) = some false)
    (kN_ : PySem.W.kitOne K (.ref a_NoName) (.ref a_NoName) = some true)
    (lcA_ : K.lookup cA = some ⟨cclA, cddA, .fields vsA, ccsA⟩)
    (v11_ : vsA[11]? = some (.ref Pt))
    (nP_ : K.lookup Pt = none)
    (rec_ : ∃ e, (recsOf q).find? (fun e => e.name == ("law" : Str)) = some e)
    (z_len : PySem.W.nsIn K mainGlobals "len" = some none)
    (z_isinstance : PySem.W.nsIn K mainGlobals "isinstance" = some none)
    (z_str : PySem.W.nsIn K mainGlobals "str" = some none)
    (z_all : PySem.W.nsIn K mainGlobals "all" = some none)
    (z_abs : PySem.W.nsIn K mainGlobals "abs" = some none)
    (z_int : PySem.W.nsIn K mainGlobals "int" = some none)
    (z_bool : PySem.W.nsIn K mainGlobals "bool" = some none)
    (z_range : PySem.W.nsIn K mainGlobals "range" = some none)
    (z_min : PySem.W.nsIn K mainGlobals "min" = some none)
    (z_sorted : PySem.W.nsIn K mainGlobals "sorted" = some none)
    (z_tuple : PySem.W.nsIn K mainGlobals "tuple" = some none)
    (z_list : PySem.W.nsIn K mainGlobals "list" = some none)
    (z_set : PySem.W.nsIn K mainGlobals "set" = some none)
    (z_dict : PySem.W.nsIn K mainGlobals "dict" = some none)
    (z_repr : PySem.W.nsIn K mainGlobals "repr" = some none)
    (z_super : PySem.W.nsIn K mainGlobals "super" = some none)
    (z_zip : PySem.W.nsIn K mainGlobals "zip" = some none)
    (v_L : PySem.W.nsIn K mainGlobals "LETTERS" = some (some (.str c_LETTERS tL)))
    (v_N : PySem.W.nsIn K mainGlobals "LONGEST_NAME" = some (some (.int 6 tN)))
    (v_C : PySem.W.nsIn K mainGlobals "MOST_CLASSES" = some (some (.int 4 tC)))
    (v_M : PySem.W.nsIn K mainGlobals "MOST_SLOTS" = some (some (.int 4 tM))) :
    ∃ (fd : FuncData) (cs : List (Addr × Addr)) (T : List (Addr × Str)), (∀ p ∈ cs, PySem.W.CodeHd h p.1 p.2 ∧ h.get? p.2 = some (PySem.W.tabObj #[])) ∧ (∀ p ∈ cs, K.lookup p.2 = none) ∧ (∀ p ∈ T, p.1 ∈ cs.map (·.2)) ∧ (∀ (s : Shared) (v : Value), BindsTo s fd ⟨[v], []⟩ [("script", v)]) ∧ ∀ base : Heap, K.In base → base.Ns mainGlobals mg → (∀ p ∈ cs, LamX.TabB base mg p.1 p.2) → FnG l.prog w K mg base CX0 13 fa fd ["script"] (spLawT T K) := by
  have e := hfa.symm.trans (PySem.W.mg_of X G a_law)
  cases e
  have n0 : ∀ {x : Str}, PySem.W.nsIn K mainGlobals x = some none → mg x = none := fun h => PySem.W.mg_none_of X G h
  have mS : mg "Schema" = some (.ref a_Schema) := PySem.W.mg_of X G aS
  have F_is_name := fun_mk (st := s_is_name) l_is_name c_is_name k_is_name
  have F_is_ascending := fun_mk (st := s_is_ascending) l_is_ascending c_is_ascending k_is_ascending
  have F_are_triples := fun_mk (st := s_are_triples) l_are_triples c_are_triples k_are_triples
  have F_is_class := fun_mk (st := s_is_class) l_is_class c_is_class k_is_class
  have F_is_slot := fun_mk (st := s_is_slot) l_is_slot c_is_slot k_is_slot
  have F_are_names_among := fun_mk (st := s_are_names_among) l_are_names_among c_are_names_among k_are_names_among
  have F_law_state := fun_mk (st := s_law_state) l_law_state c_law_state k_law_state
  have F_draw := fun_mk (st := sDraw) l_draw c_draw k_draw
  have F_law_pick := fun_mk (st := s_law_pick) l_law_pick c_law_pick k_law_pick
  have F_law_labels := fun_mk (st := s_law_labels) l_law_labels c_law_labels k_law_labels
  have F_law_hole := fun_mk (st := s_law_hole) l_law_hole c_law_hole k_law_hole
  have F_law_sheet := fun_mk (st := s_law_sheet) l_law_sheet c_law_sheet k_law_sheet
  have F_law_sheets := fun_mk (st := s_law_sheets) l_law_sheets c_law_sheets k_law_sheets
  have F_law_shuffled := fun_mk (st := s_law_shuffled) l_law_shuffled c_law_shuffled k_law_shuffled
  have F_law_holes := fun_mk (st := s_law_holes) l_law_holes c_law_holes k_law_holes
  have F_law_fitting := fun_mk (st := s_law_fitting) l_law_fitting c_law_fitting k_law_fitting
  have F_law_fillable := fun_mk (st := s_law_fillable) l_law_fillable c_law_fillable k_law_fillable
  have F_law_filled := fun_mk (st := s_law_filled) l_law_filled c_law_filled k_law_filled
  have F_law_world := fun_mk (st := s_law_world) l_law_world c_law_world k_law_world
  have F_is_whole := fun_mk (st := s_is_whole) l_is_whole c_is_whole k_is_whole
  have F_is_number := fun_mk (st := s_is_number) l_is_number c_is_number k_is_number
  have F_place_in_set := fun_mk (st := s_place_in_set) l_place_in_set c_place_in_set k_place_in_set
  have F_has_names := fun_mk (st := s_has_names) l_has_names c_has_names k_has_names
  have F_is_object := fun_mk (st := s_is_object) l_is_object c_is_object k_is_object
  have F_is_content := fun_mk (st := s_is_content) l_is_content c_is_content k_is_content
  have F_is_word := fun_mk (st := s_is_word) l_is_word c_is_word k_is_word
  have F_words_of := fun_mk (st := s_words_of) l_words_of c_words_of k_words_of
  have F_is_allowed_object := fun_mk (st := s_is_allowed_object) l_is_allowed_object c_is_allowed_object k_is_allowed_object
  have F_is_allowed_word := fun_mk (st := s_is_allowed_word) l_is_allowed_word c_is_allowed_word k_is_allowed_word
  have F_copied := fun_mk (st := s_copied) l_copied c_copied k_copied
  have F_law_words_of := fun_mk (st := s_law_words_of) l_law_words_of c_law_words_of k_law_words_of
  have F_law_all_titles := fun_mk (st := s_law_all_titles) l_law_all_titles c_law_all_titles k_law_all_titles
  have F_law_told := fun_mk (st := s_law_told) l_law_told c_law_told k_law_told
  have F_law := fun_mk (st := s_law) l_law c_law k_law
  have F_init := fun_mk (st := s_Schema_init) l_init c_init k_init
  have F_slots := fun_mk (st := s_Schema_slots) l_slots c_slots k_slots
  have F_ginit := fun_mk (st := s_Graph_init) l_ginit c_ginit k_ginit
  have F_gclass := fun_mk (st := s_Graph_class_of) l_gclass c_gclass k_gclass
  have F_gwords := fun_mk (st := s_Graph_words) l_gwords c_gwords k_gwords
  have D_is_name : Dfn K mg "is_name" s_is_name ["thing"] := ⟨f_is_name, _, F_is_name, PySem.W.mg_of X G a_is_name, F_is_name.binds (ps := ["thing"]) fun _ _ _ _ _ _ us hl => match us, hl with | [_], _ => rfl⟩
  have D_is_ascending : Dfn K mg "is_ascending" s_is_ascending ["items"] := ⟨f_is_ascending, _, F_is_ascending, PySem.W.mg_of X G a_is_ascending, F_is_ascending.binds (ps := ["items"]) fun _ _ _ _ _ _ us hl => match us, hl with | [_], _ => rfl⟩
  have D_are_triples : Dfn K mg "_are_triples" s_are_triples ["thing"] := ⟨f_are_triples, _, F_are_triples, PySem.W.mg_of X G a_are_triples, F_are_triples.binds (ps := ["thing"]) fun _ _ _ _ _ _ us hl => match us, hl with | [_], _ => rfl⟩
  have D_is_class : Dfn K mg "_is_class" s_is_class ["triple", "class_names"] := ⟨f_is_class, _, F_is_class, PySem.W.mg_of X G a_is_class, F_is_class.binds (ps := ["triple", "class_names"]) fun _ _ _ _ _ _ us hl => match us, hl with | [_, _], _ => rfl⟩
  have D_is_slot : Dfn K mg "_is_slot" s_is_slot ["thing", "class_names"] := ⟨f_is_slot, _, F_is_slot, PySem.W.mg_of X G a_is_slot, F_is_slot.binds (ps := ["thing", "class_names"]) fun _ _ _ _ _ _ us hl => match us, hl with | [_, _], _ => rfl⟩
  have D_are_names_among : Dfn K mg "_are_names_among" s_are_names_among ["thing", "names"] := ⟨f_are_names_among, _, F_are_names_among, PySem.W.mg_of X G a_are_names_among, F_are_names_among.binds (ps := ["thing", "names"]) fun _ _ _ _ _ _ us hl => match us, hl with | [_, _], _ => rfl⟩
  have D_law_state : Dfn K mg "_law_state" s_law_state ["script"] := ⟨f_law_state, _, F_law_state, PySem.W.mg_of X G a_law_state, F_law_state.binds (ps := ["script"]) fun _ _ _ _ _ _ us hl => match us, hl with | [_], _ => rfl⟩
  have D_draw : Dfn K mg "_law_draw" sDraw ["draws", "many"] := ⟨f_draw, _, F_draw, PySem.W.mg_of X G a_draw, F_draw.binds (ps := ["draws", "many"]) fun _ _ _ _ _ _ us hl => match us, hl with | [_, _], _ => rfl⟩
  have D_law_pick : Dfn K mg "_law_pick" s_law_pick ["draws", "some"] := ⟨f_law_pick, _, F_law_pick, PySem.W.mg_of X G a_law_pick, F_law_pick.binds (ps := ["draws", "some"]) fun _ _ _ _ _ _ us hl => match us, hl with | [_, _], _ => rfl⟩
  have D_law_labels : Dfn K mg "_law_labels" s_law_labels ["draws", "many"] := ⟨f_law_labels, _, F_law_labels, PySem.W.mg_of X G a_law_labels, F_law_labels.binds (ps := ["draws", "many"]) fun _ _ _ _ _ _ us hl => match us, hl with | [_, _], _ => rfl⟩
  have D_law_hole : Dfn K mg "_law_hole" s_law_hole ["draws", "crew", "label"] := ⟨f_law_hole, _, F_law_hole, PySem.W.mg_of X G a_law_hole, F_law_hole.binds (ps := ["draws", "crew", "label"]) fun _ _ _ _ _ _ us hl => match us, hl with | [_, _, _], _ => rfl⟩
  have D_law_sheet : Dfn K mg "_law_sheet" s_law_sheet ["draws", "crew", "label", "most"] := ⟨f_law_sheet, _, F_law_sheet, PySem.W.mg_of X G a_law_sheet, F_law_sheet.binds (ps := ["draws", "crew", "label", "most"]) fun _ _ _ _ _ _ us hl => match us, hl with | [_, _, _, _], _ => rfl⟩
  have D_law_sheets : Dfn K mg "_law_sheets" s_law_sheets ["draws", "many", "most"] := ⟨f_law_sheets, _, F_law_sheets, PySem.W.mg_of X G a_law_sheets, F_law_sheets.binds (ps := ["draws", "many", "most"]) fun _ _ _ _ _ _ us hl => match us, hl with | [_, _, _], _ => rfl⟩
  have D_law_shuffled : Dfn K mg "_law_shuffled" s_law_shuffled ["draws", "some"] := ⟨f_law_shuffled, _, F_law_shuffled, PySem.W.mg_of X G a_law_shuffled, F_law_shuffled.binds (ps := ["draws", "some"]) fun _ _ _ _ _ _ us hl => match us, hl with | [_, _], _ => rfl⟩
  have D_law_holes : Dfn K mg "_law_holes" s_law_holes ["sheets", "label"] := ⟨f_law_holes, _, F_law_holes, PySem.W.mg_of X G a_law_holes, F_law_holes.binds (ps := ["sheets", "label"]) fun _ _ _ _ _ _ us hl => match us, hl with | [_, _], _ => rfl⟩
  have D_law_fitting : Dfn K mg "_law_fitting" s_law_fitting ["world", "goals"] := ⟨f_law_fitting, _, F_law_fitting, PySem.W.mg_of X G a_law_fitting, F_law_fitting.binds (ps := ["world", "goals"]) fun _ _ _ _ _ _ us hl => match us, hl with | [_, _], _ => rfl⟩
  have D_law_fillable : Dfn K mg "_law_fillable" s_law_fillable ["sheets", "world"] := ⟨f_law_fillable, _, F_law_fillable, PySem.W.mg_of X G a_law_fillable, F_law_fillable.binds (ps := ["sheets", "world"]) fun _ _ _ _ _ _ us hl => match us, hl with | [_, _], _ => rfl⟩
  have D_law_filled : Dfn K mg "_law_filled" s_law_filled ["draws", "world", "hole"] := ⟨f_law_filled, _, F_law_filled, PySem.W.mg_of X G a_law_filled, F_law_filled.binds (ps := ["draws", "world", "hole"]) fun _ _ _ _ _ _ us hl => match us, hl with | [_, _, _], _ => rfl⟩
  have D_law_world : Dfn K mg "_law_world" s_law_world ["draws", "sheets", "most"] := ⟨f_law_world, _, F_law_world, PySem.W.mg_of X G a_law_world, F_law_world.binds (ps := ["draws", "sheets", "most"]) fun _ _ _ _ _ _ us hl => match us, hl with | [_, _, _], _ => rfl⟩
  have D_is_whole : Dfn K mg "is_whole" s_is_whole ["thing", "least", "most"] := ⟨f_is_whole, _, F_is_whole, PySem.W.mg_of X G a_is_whole, F_is_whole.binds (ps := ["thing", "least", "most"]) fun _ _ _ _ _ _ us hl => match us, hl with | [_, _, _], _ => rfl⟩
  have D_is_number : Dfn K mg "is_number" s_is_number ["thing"] := ⟨f_is_number, _, F_is_number, PySem.W.mg_of X G a_is_number, F_is_number.binds (ps := ["thing"]) fun _ _ _ _ _ _ us hl => match us, hl with | [_], _ => rfl⟩
  have D_place_in_set : Dfn K mg "place_in_set" s_place_in_set ["word"] := ⟨f_place_in_set, _, F_place_in_set, PySem.W.mg_of X G a_place_in_set, F_place_in_set.binds (ps := ["word"]) fun _ _ _ _ _ _ us hl => match us, hl with | [_], _ => rfl⟩
  have D_has_names : Dfn K mg "_has_names" s_has_names ["thing"] := ⟨f_has_names, _, F_has_names, PySem.W.mg_of X G a_has_names, F_has_names.binds (ps := ["thing"]) fun _ _ _ _ _ _ us hl => match us, hl with | [_], _ => rfl⟩
  have D_is_object : Dfn K mg "_is_object" s_is_object ["schema", "thing"] := ⟨f_is_object, _, F_is_object, PySem.W.mg_of X G a_is_object, F_is_object.binds (ps := ["schema", "thing"]) fun _ _ _ _ _ _ us hl => match us, hl with | [_, _], _ => rfl⟩
  have D_is_content : Dfn K mg "_is_content" s_is_content ["form", "thing"] := ⟨f_is_content, _, F_is_content, PySem.W.mg_of X G a_is_content, F_is_content.binds (ps := ["form", "thing"]) fun _ _ _ _ _ _ us hl => match us, hl with | [_, _], _ => rfl⟩
  have D_is_word : Dfn K mg "_is_word" s_is_word ["thing"] := ⟨f_is_word, _, F_is_word, PySem.W.mg_of X G a_is_word, F_is_word.binds (ps := ["thing"]) fun _ _ _ _ _ _ us hl => match us, hl with | [_], _ => rfl⟩
  have D_words_of : Dfn K mg "_words_of" s_words_of ["form", "content"] := ⟨f_words_of, _, F_words_of, PySem.W.mg_of X G a_words_of, F_words_of.binds (ps := ["form", "content"]) fun _ _ _ _ _ _ us hl => match us, hl with | [_, _], _ => rfl⟩
  have D_is_allowed_object : Dfn K mg "_is_allowed_object" s_is_allowed_object ["schema", "objects", "pair"] := ⟨f_is_allowed_object, _, F_is_allowed_object, PySem.W.mg_of X G a_is_allowed_object, F_is_allowed_object.binds (ps := ["schema", "objects", "pair"]) fun _ _ _ _ _ _ us hl => match us, hl with | [_, _, _], _ => rfl⟩
  have D_is_allowed_word : Dfn K mg "is_allowed_word" s_is_allowed_word ["objects", "targets", "word"] := ⟨f_is_allowed_word, _, F_is_allowed_word, PySem.W.mg_of X G a_is_allowed_word, F_is_allowed_word.binds (ps := ["objects", "targets", "word"]) fun _ _ _ _ _ _ us hl => match us, hl with | [_, _, _], _ => rfl⟩
  have D_copied : Dfn K mg "copied" s_copied ["thing"] := ⟨f_copied, _, F_copied, PySem.W.mg_of X G a_copied, F_copied.binds (ps := ["thing"]) fun _ _ _ _ _ _ us hl => match us, hl with | [_], _ => rfl⟩
  have D_law_words_of : Dfn K mg "_law_words_of" s_law_words_of ["sheets", "world", "title"] := ⟨f_law_words_of, _, F_law_words_of, PySem.W.mg_of X G a_law_words_of, F_law_words_of.binds (ps := ["sheets", "world", "title"]) fun _ _ _ _ _ _ us hl => match us, hl with | [_, _, _], _ => rfl⟩
  have D_law_all_titles : Dfn K mg "_law_all_titles" s_law_all_titles ["sheets"] := ⟨f_law_all_titles, _, F_law_all_titles, PySem.W.mg_of X G a_law_all_titles, F_law_all_titles.binds (ps := ["sheets"]) fun _ _ _ _ _ _ us hl => match us, hl with | [_], _ => rfl⟩
  have D_law_told : Dfn K mg "_law_told" s_law_told ["work"] := ⟨f_law_told, _, F_law_told, PySem.W.mg_of X G a_law_told, F_law_told.binds (ps := ["work"]) fun _ _ _ _ _ _ us hl => match us, hl with | [_], _ => rfl⟩
  have B_init := F_init.binds (ps := ["self", "classes"]) fun _ _ _ _ _ _ us hl => match us, hl with | [_, _], _ => rfl
  have B_slots := F_slots.binds (ps := ["self", "name"]) fun _ _ _ _ _ _ us hl => match us, hl with | [_, _], _ => rfl
  have B_ginit := F_ginit.binds (ps := ["self", "schema", "objects"]) fun _ _ _ _ _ _ us hl => match us, hl with | [_, _, _], _ => rfl
  have B_gclass := F_gclass.binds (ps := ["self", "name"]) fun _ _ _ _ _ _ us hl => match us, hl with | [_, _], _ => rfl
  have B_gwords := F_gwords.binds (ps := ["self", "name", "slot"]) fun _ _ _ _ _ _ us hl => match us, hl with | [_, _, _], _ => rfl
  have cl : Cls K a_Schema := ⟨S_pg, S_hd, S_po, S_sa⟩
  have mG : mg "Graph" = some (.ref a_Graph) := PySem.W.mg_of X G aG
  have clG : Cls K a_Graph := ⟨G_pg, G_hd, G_po, G_sa⟩
  have mE_BuildError : mg "BuildError" = some (.ref a_BuildError) := PySem.W.mg_of X G aE_BuildError
  have mE_BadSchema : mg "BadSchema" = some (.ref a_BadSchema) := PySem.W.mg_of X G aE_BadSchema
  have mE_BadGraph : mg "BadGraph" = some (.ref a_BadGraph) := PySem.W.mg_of X G aE_BadGraph
  have mE_NoName : mg "NoName" = some (.ref a_NoName) := PySem.W.mg_of X G aE_NoName
  have mE_BadRoots : mg "BadRoots" = some (.ref a_BadRoots) := PySem.W.mg_of X G aE_BadRoots
  have O_NoName : OexC K a_NoName := ⟨⟨_, _, _, _, _, _, _, _, _, _, _, _, _, _, _, xL_NoName, rfl⟩, sa_NoName, eC_NoName, tC_NoName, kC_NoName⟩
  have XC_NoName : XCls K a_NoName := ⟨⟨ga_NoName, gg_NoName, eC_NoName, hd_NoName⟩, cl_NoName, ca_NoName, cN_, cT_, co_NoName⟩
  have SF_NoName : SupF l.prog K "NoName.__init__" a_NoName s_NoName_init f_iNoName (PySem.W.ksFn "__init__" "NoName.__init__" (defArgs s_NoName_init) (defBody s_NoName_init) (defScope s_NoName_init) .none kV_iNoName dc_iNoName pm_iNoName an_iNoName (.ref cda_NoName) ct_iNoName cc_NoName) := ⟨⟨_, _, _, _, _, _, _, _, _, _, _, _, _, _, _, _, _, _, _, _, rfl, l_iNoName, c_iNoName, lc_iNoName, v2_iNoName, fi_iNoName, lcc_iNoName, rfl, rfl⟩, Option.isSome_iff_exists.mp cl_NoName, ms_NoName, su_NoName, sv_NoName, opq_, top_, O_NoName⟩
  have BI_NoName : L2.Binds K (PySem.W.ksFn "__init__" "NoName.__init__" (defArgs s_NoName_init) (defBody s_NoName_init) (defScope s_NoName_init) .none kV_iNoName dc_iNoName pm_iNoName an_iNoName (.ref cda_NoName) ct_iNoName cc_NoName) ["self", "name"] [] := .all fun us hl => match us, hl with | [_, _], _ => rfl
  have tb_ : PySem.W.tabIn K "law" = some (cA, Pt) := by
    unfold PySem.W.tabIn
    simp only [a_law, l_law, lcA_, v11_]
  obtain ⟨_, rec1⟩ := rec_
  have t_law := tabs _ _ _ _ rec1 tb_
  refine ⟨PySem.W.fnOf "law" "law" (defArgs s_law) (defBody s_law) (defScope s_law) .none kV_law dc_law pm_law an_law (.ref cA) ct_law, [(cA, Pt)], [(Pt, lamQ)], fun p hp => by rw [List.mem_singleton.mp hp]; exact t_law, fun p hp => by rw [List.mem_singleton.mp hp]; exact nP_, fun p hp => by rw [List.mem_singleton.mp hp]; exact List.mem_singleton.mpr rfl, fun s v => .of_eq rfl, fun base _ _ TBs => ?_⟩
  have TB := TBs (cA, Pt) (List.mem_singleton.mpr rfl)
  have P_names : PropI l.prog w K mg base 1 a_Schema "names" "_names" := ⟨p_names, g_names, _, ["self"], cl, ⟨a_pnames, b_pnames, d_pnames, ⟨_, r_pnames⟩⟩, fn_getter l_pnames c_pnames sc_Schema_names rfl rfl cl n_pnames, .all fun us hl => match us, hl with | [_], _ => rfl⟩
  have Tg : Txg mg := ⟨n0 z_len, n0 z_abs, n0 z_int, n0 z_range, n0 z_min, n0 z_sorted, n0 z_tuple⟩
  have C_draw : Cal l.prog w K mg base "_law_draw" 1 ["draws", "many"] fDraw := draw_cal D_draw Tg.m_int Tg.m_len
  have C_pick := cal_law_pick (P := l.prog) (w := w) (base := base) Tg C_draw D_law_pick
  have C_labels := cal_law_labels Tg C_draw C_pick D_law_labels
  have C_hole := cal_law_hole Tg C_draw C_pick D_law_hole
  have C_sheet := cal_law_sheet Tg C_draw C_labels C_hole D_law_sheet
  have C_sheets := cal_law_sheets Tg C_draw C_labels C_sheet D_law_sheets
  have Ts : Txs K mg := ⟨n0 z_len, n0 z_isinstance, n0 z_str, n0 z_all, n0 z_range, n0 z_list, n0 z_tuple, n0 z_set, ⟨_, PySem.W.mg_of X G v_L⟩, ⟨_, PySem.W.mg_of X G v_N⟩, ⟨_, PySem.W.mg_of X G v_C⟩, ⟨_, PySem.W.mg_of X G v_M⟩⟩
  have C_name := (cal0_is_name (P := l.prog) (w := w) (base := base) Ts D_is_name).cal
  have C_asc := cal_is_ascending (P := l.prog) (w := w) (base := base) Ts D_is_ascending
  have C_tri := cal_are_triples Ts C_name C_asc D_are_triples
  have C_among := cal_are_names_among Ts C_asc D_are_names_among
  have C_slot := cal_is_slot Ts C_name C_among D_is_slot
  have C_class := cal_is_class Ts C_slot C_among D_is_class
  have I := init_schema (w := w) (base := base) Ts cl n_pclasses n_pnames C_tri C_class F_init
  have mk : Mk K a_Schema f_init := ⟨S_mk, a_init, i_init, S_kp⟩
  have MK_ : MakI l.prog w K mg base 5 "Schema" a_Schema (fSchema a_Schema) := ⟨_, _, _, mk, I, mS, B_init⟩
  have G_slots := met_slots (P := l.prog) (w := w) (base := base) (mg := mg) cl n_pclasses n_pnames F_slots
  have M_slots : MetI l.prog w K mg base 1 a_Schema "slots" (fSlots a_Schema) := ⟨_, _, _, cl, ⟨a_slots, i_slots, k_slots⟩, G_slots, B_slots⟩
  have Tw : Txw mg := ⟨n0 z_len, n0 z_int, n0 z_range, n0 z_sorted, n0 z_tuple, n0 z_list, n0 z_dict, n0 z_isinstance, n0 z_str⟩
  have C_holes := cal_law_holes (P := l.prog) (w := w) (mg := mg) (base := base) D_law_holes
  have C_shuf := cal_law_shuffled Tw C_draw D_law_shuffled
  have C_fit := cal_law_fitting (P := l.prog) (w := w) (base := base) Tw D_law_fitting
  have C_fillable := cal_law_fillable Tw C_holes C_fit D_law_fillable
  have C_filled := cal_law_filled Tw C_draw C_pick C_shuf C_fit D_law_filled
  have C_world := cal_law_world Tw C_draw C_pick C_labels C_holes C_fillable C_filled D_law_world
  have Tr : Txgr mg := ⟨n0 z_len, n0 z_isinstance, n0 z_str, n0 z_int, n0 z_bool, n0 z_dict, n0 z_all, n0 z_list, n0 z_tuple, n0 z_sorted, n0 z_zip, ⟨_, PySem.W.mg_of X G v_LN⟩, ⟨_, PySem.W.mg_of X G v_MO⟩, ⟨_, PySem.W.mg_of X G v_MW⟩⟩
  have C_whole := cal_is_whole (P := l.prog) (w := w) (base := base) Tr D_is_whole
  have C_num := cal_is_number Tr C_whole D_is_number
  have C_place := cal_place_in_set (P := l.prog) (w := w) (base := base) Tr D_place_in_set
  have C_word := cal_is_word C_num C_name D_is_word
  have C_ascw := cal_asc_words (P := l.prog) (w := w) (base := base) Ts D_is_ascending
  have C_wof := cal_words_of (P := l.prog) (w := w) (mg := mg) (base := base) D_words_of
  have C_cont := cal_is_content Tr C_word C_place C_ascw D_is_content
  have C_alw := cal_is_allowed_word (P := l.prog) (w := w) (base := base) Tr D_is_allowed_word
  have C_alo := cal_is_allowed_object Tr M_slots C_wof C_alw D_is_allowed_object
  have C_hasn := cal_has_names Tr C_name D_has_names
  have C_obj := cal_is_object Tr P_names M_slots C_cont D_is_object
  have GI := init_graph (w := w) (base := base) Tr clG gn_schema gn_objects C_hasn C_obj C_alo F_ginit
  have gmk : Mk K a_Graph f_ginit := ⟨G_mk, a_ginit, i_ginit, G_kp⟩
  have MG_ : MakI l.prog w K mg base 6 "Graph" a_Graph (fGraph a_Graph a_Schema) := ⟨_, _, _, gmk, GI, mG, B_ginit⟩
  have Tc : Txc mg := ⟨n0 z_isinstance, n0 z_list, n0 z_tuple, n0 z_dict⟩
  have C_copied := cal_copied (P := l.prog) (w := w) (base := base) Tc D_copied 5
  have I_NoName := init_NoName (P := l.prog) (w := w) (base := base) (n0 z_super) C_copied SF_NoName na_NoName
  have M_NoName : MakX l.prog w K mg base 6 "NoName" a_NoName "name" "name" fXName := ⟨_, _, O_NoName, aI_NoName, tI_NoName, I_NoName, BI_NoName, mE_NoName⟩
  have Tt : Txt K mg a_BuildError a_BadSchema a_BadGraph a_NoName a_BadRoots := ⟨n0 z_isinstance, mE_BuildError, mE_BadSchema, mE_BadGraph, mE_NoName, mE_BadRoots⟩
  have NF : NoNameF K a_BuildError a_BadSchema a_BadGraph a_NoName := ⟨exm_, XC_NoName, na_NoName, kS_, kG_, kN_⟩
  have T_told := told_law_told (P := l.prog) (w := w) (base := base) Tt NF D_law_told
  have M_cls : MetI l.prog w K mg base 2 a_Graph "class_of" (fClass a_Graph a_Schema) := ⟨_, _, _, clG, ⟨a_gclass, i_gclass, k_gclass⟩, met_class clG gn_objects C_name F_gclass, B_gclass⟩
  have GW := met_words Tr clG gn_schema gn_objects M_cls M_slots C_wof F_gwords
  have M_wrd : MetI l.prog w K mg base 4 a_Graph "words" (fWords a_Graph a_Schema) := ⟨_, _, _, clG, ⟨a_gwords, i_gwords, k_gwords⟩, GW, B_gwords⟩
  have MK_wrd : MetK l.prog w K mg base 4 a_Graph "words" ["slot", "name"] List.reverse (fWords a_Graph a_Schema) := ⟨_, _, ["self", "name", "slot"], hd1r, hd1r, clG, ⟨a_gwords, i_gwords, k_gwords⟩, GW, ⟨fun s us ws _ hl => by obtain ⟨a, b, c, rfl, rfl⟩ := hd1r_3 hl; exact .of_eq rfl, fun r1 r2 => hd1r_rel r1 r2⟩, fun y zs => ⟨zs.reverse, rfl, fun H es h => dvs_rev h⟩⟩
  have X_cls : MetX l.prog w K mg base 8 a_Graph "class_of" (fClassX a_Graph a_Schema a_NoName) := ⟨_, _, _, clG, ⟨a_gclass, i_gclass, k_gclass⟩, met_classX clG gn_schema gn_objects M_NoName C_name F_gclass, B_gclass⟩
  have X_wrd : MetX l.prog w K mg base 10 a_Graph "words" (fWordsX a_Graph a_Schema a_NoName) := ⟨_, _, _, clG, ⟨a_gwords, i_gwords, k_gwords⟩, met_wordsX Tr clG gn_schema gn_objects M_NoName X_cls M_slots.toX C_wof F_gwords, B_gwords⟩
  have Th : Txh mg := ⟨n0 z_zip, n0 z_sorted⟩
  exact law_fn F_law ⟨n0 z_range, n0 z_min, n0 z_len, n0 z_isinstance, n0 z_str, n0 z_repr, n0 z_sorted⟩ rfl TB (cal_law_state Tg D_law_state) C_sheets C_pick C_world MK_ MG_ (cal_law_words_of Th C_holes D_law_words_of) (cal_law_all_titles (P := l.prog) (w := w) (base := base) Th D_law_all_titles) C_holes M_wrd MK_wrd X_wrd T_told
end LW
open PySem PySem.W PyProof.Rows
set_option maxRecDepth 100000 in
set_option maxHeartbeats 0 in
theorem PySem.Challenge.cw_halfbuilt_k10_words_of_slots_holds : PySem.Challenge.rw_halfbuilt_k10_words_of_slots.Holds := by
  w_on; o_law; k_head; (case hw => w_witness2)
  k_fill
  refine L3.walk_lawT (l := PySem.Challenge.rw_halfbuilt_k10_words_of_slots) (k := 13) (x := "script") rfl rfl ⟨rfl, by decide, by decide⟩ (fun w h Y => PySem.W.km_in_of Y) ?F
  case F =>
    intro w mg fa h KX G hmg tabs
    refine' LW.all_mk KX G hmg tabs ?aS ?a_is_name ?l_is_name ?c_is_name ?k_is_name ?a_is_ascending ?l_is_ascending ?c_is_ascending ?k_is_ascending ?a_are_triples ?l_are_triples ?c_are_triples ?k_are_triples ?a_is_class ?l_is_class ?c_is_class ?k_is_class ?a_is_slot ?l_is_slot ?c_is_slot ?k_is_slot ?a_are_names_among ?l_are_names_among ?c_are_names_among ?k_are_names_among ?a_law_state ?l_law_state ?c_law_state ?k_law_state ?a_draw ?l_draw ?c_draw ?k_draw ?a_law_pick ?l_law_pick ?c_law_pick ?k_law_pick ?a_law_labels ?l_law_labels ?c_law_labels ?k_law_labels ?a_law_hole ?l_law_hole ?c_law_hole ?k_law_hole ?a_law_sheet ?l_law_sheet ?c_law_sheet ?k_law_sheet ?a_law_sheets ?l_law_sheets ?c_law_sheets ?k_law_sheets ?a_law_shuffled ?l_law_shuffled ?c_law_shuffled ?k_law_shuffled ?a_law_holes ?l_law_holes ?c_law_holes ?k_law_holes ?a_law_fitting ?l_law_fitting ?c_law_fitting ?k_law_fitting ?a_law_fillable ?l_law_fillable ?c_law_fillable ?k_law_fillable ?a_law_filled ?l_law_filled ?c_law_filled ?k_law_filled ?a_law_world ?l_law_world ?c_law_world ?k_law_world ?a_is_whole ?l_is_whole ?c_is_whole ?k_is_whole ?a_is_number ?l_is_number ?c_is_number ?k_is_number ?a_place_in_set ?l_place_in_set ?c_place_in_set ?k_place_in_set ?a_has_names ?l_has_names ?c_has_names ?k_has_names ?a_is_object ?l_is_object ?c_is_object ?k_is_object ?a_is_content ?l_is_content ?c_is_content ?k_is_content ?a_is_word ?l_is_word ?c_is_word ?k_is_word ?a_words_of ?l_words_of ?c_words_of ?k_words_of ?a_is_allowed_object ?l_is_allowed_object ?c_is_allowed_object ?k_is_allowed_object ?a_is_allowed_word ?l_is_allowed_word ?c_is_allowed_word ?k_is_allowed_word ?a_copied ?l_copied ?c_copied ?k_copied ?a_law_words_of ?l_law_words_of ?c_law_words_of ?k_law_words_of ?a_law_all_titles ?l_law_all_titles ?c_law_all_titles ?k_law_all_titles ?a_law_told ?l_law_told ?c_law_told ?k_law_told ?a_law ?l_law ?c_law ?k_law ?a_init ?l_init ?c_init ?k_init ?i_init ?a_slots ?l_slots ?c_slots ?k_slots ?i_slots ?aG ?G_mk ?G_kp ?G_pg ?G_hd ?G_po ?G_sa ?gn_schema ?gn_objects ?v_LN ?v_MO ?v_MW ?a_ginit ?l_ginit ?c_ginit ?k_ginit ?i_ginit ?a_gclass ?l_gclass ?c_gclass ?k_gclass ?i_gclass ?a_gwords ?l_gwords ?c_gwords ?k_gwords ?i_gwords ?a_pnames ?b_pnames ?d_pnames ?r_pnames ?l_pnames ?c_pnames ?n_pclasses ?n_pnames ?S_mk ?S_kp ?S_pg ?S_hd ?S_po ?S_sa ?aE_BuildError ?aE_BadSchema ?aE_BadGraph ?aE_NoName ?aE_BadRoots ?aI_NoName ?tI_NoName ?l_iNoName ?c_iNoName ?lc_iNoName ?v2_iNoName ?fi_iNoName ?lcc_iNoName ?ms_NoName ?su_NoName ?sv_NoName ?xL_NoName ?sa_NoName ?eC_NoName ?tC_NoName ?kC_NoName ?ga_NoName ?gg_NoName ?hd_NoName ?cl_NoName ?ca_NoName ?co_NoName ?na_NoName ?cN_ ?cT_ ?opq_ ?top_ ?exm_ ?kS_ ?kG_ ?kN_ ?lcA_ ?v11_ ?nP_ ?rec_ ?z_len ?z_isinstance ?z_str ?z_all ?z_abs ?z_int ?z_bool ?z_range ?z_min ?z_sorted ?z_tuple ?z_list ?z_set ?z_dict ?z_repr ?z_super ?z_zip ?v_L ?v_N ?v_C ?v_M
    (case aS => k_is)
    (case a_is_name => k_is)
    (case l_is_name => k_is)
    (case c_is_name => k_is)
    (case k_is_name => k_is)
    (case a_is_ascending => k_is)
    (case l_is_ascending => k_is)
    (case c_is_ascending => k_is)
    (case k_is_ascending => k_is)
    (case a_are_triples => k_is)
    (case l_are_triples => k_is)
    (case c_are_triples => k_is)
    (case k_are_triples => k_is)
    (case a_is_class => k_is)
    (case l_is_class => k_is)
    (case c_is_class => k_is)
    (case k_is_class => k_is)
    (case a_is_slot => k_is)
    (case l_is_slot => k_is)
    (case c_is_slot => k_is)
    (case k_is_slot => k_is)
    (case a_are_names_among => k_is)
    (case l_are_names_among => k_is)
    (case c_are_names_among => k_is)
    (case k_are_names_among => k_is)
    (case a_law_state => k_is)
    (case l_law_state => k_is)
    (case c_law_state => k_is)
    (case k_law_state => k_is)
    (case a_draw => k_is)
    (case l_draw => k_is)
    (case c_draw => k_is)
    (case k_draw => k_is)
    (case a_law_pick => k_is)
    (case l_law_pick => k_is)
    (case c_law_pick => k_is)
    (case k_law_pick => k_is)
    (case a_law_labels => k_is)
    (case l_law_labels => k_is)
    (case c_law_labels => k_is)
    (case k_law_labels => k_is)
    (case a_law_hole => k_is)
    (case l_law_hole => k_is)
    (case c_law_hole => k_is)
    (case k_law_hole => k_is)
    (case a_law_sheet => k_is)
    (case l_law_sheet => k_is)
    (case c_law_sheet => k_is)
    (case k_law_sheet => k_is)
    (case a_law_sheets => k_is)
    (case l_law_sheets => k_is)
    (case c_law_sheets => k_is)
    (case k_law_sheets => k_is)
    (case a_law_shuffled => k_is)
    (case l_law_shuffled => k_is)
    (case c_law_shuffled => k_is)
    (case k_law_shuffled => k_is)
    (case a_law_holes => k_is)
    (case l_law_holes => k_is)
    (case c_law_holes => k_is)
    (case k_law_holes => k_is)
    (case a_law_fitting => k_is)
    (case l_law_fitting => k_is)
    (case c_law_fitting => k_is)
    (case k_law_fitting => k_is)
    (case a_law_fillable => k_is)
    (case l_law_fillable => k_is)
    (case c_law_fillable => k_is)
    (case k_law_fillable => k_is)
    (case a_law_filled => k_is)
    (case l_law_filled => k_is)
    (case c_law_filled => k_is)
    (case k_law_filled => k_is)
    (case a_law_world => k_is)
    (case l_law_world => k_is)
    (case c_law_world => k_is)
    (case k_law_world => k_is)
    (case a_is_whole => k_is)
    (case l_is_whole => k_is)
    (case c_is_whole => k_is)
    (case k_is_whole => k_is)
    (case a_is_number => k_is)
    (case l_is_number => k_is)
    (case c_is_number => k_is)
    (case k_is_number => k_is)
    (case a_place_in_set => k_is)
    (case l_place_in_set => k_is)
    (case c_place_in_set => k_is)
    (case k_place_in_set => k_is)
    (case a_has_names => k_is)
    (case l_has_names => k_is)
    (case c_has_names => k_is)
    (case k_has_names => k_is)
    (case a_is_object => k_is)
    (case l_is_object => k_is)
    (case c_is_object => k_is)
    (case k_is_object => k_is)
    (case a_is_content => k_is)
    (case l_is_content => k_is)
    (case c_is_content => k_is)
    (case k_is_content => k_is)
    (case a_is_word => k_is)
    (case l_is_word => k_is)
    (case c_is_word => k_is)
    (case k_is_word => k_is)
    (case a_words_of => k_is)
    (case l_words_of => k_is)
    (case c_words_of => k_is)
    (case k_words_of => k_is)
    (case a_is_allowed_object => k_is)
    (case l_is_allowed_object => k_is)
    (case c_is_allowed_object => k_is)
    (case k_is_allowed_object => k_is)
    (case a_is_allowed_word => k_is)
    (case l_is_allowed_word => k_is)
    (case c_is_allowed_word => k_is)
    (case k_is_allowed_word => k_is)
    (case a_copied => k_is)
    (case l_copied => k_is)
    (case c_copied => k_is)
    (case k_copied => k_is)
    (case a_law_words_of => k_is)
    (case l_law_words_of => k_is)
    (case c_law_words_of => k_is)
    (case k_law_words_of => k_is)
    (case a_law_all_titles => k_is)
    (case l_law_all_titles => k_is)
    (case c_law_all_titles => k_is)
    (case k_law_all_titles => k_is)
    (case a_law_told => k_is)
    (case l_law_told => k_is)
    (case c_law_told => k_is)
    (case k_law_told => k_is)
    (case a_law => k_is)
    (case l_law => k_is)
    (case c_law => k_is)
    (case k_law => k_is)
    (case a_init => k_is)
    (case l_init => k_is)
    (case c_init => k_is)
    (case k_init => k_is)
    (case i_init => k_is)
    (case a_slots => k_is)
    (case l_slots => k_is)
    (case c_slots => k_is)
    (case k_slots => k_is)
    (case i_slots => k_is)
    (case aG => k_is)
    (case G_mk => k_is)
    (case G_kp => k_is)
    (case G_pg => k_is)
    (case G_hd => k_is)
    (case G_po => k_is)
    (case G_sa => k_is)
    (case gn_schema => k_is)
    (case gn_objects => k_is)
    (case v_LN => k_is)
    (case v_MO => k_is)
    (case v_MW => k_is)
    (case a_ginit => k_is)
    (case l_ginit => k_is)
    (case c_ginit => k_is)
    (case k_ginit => k_is)
    (case i_ginit => k_is)
    (case a_gclass => k_is)
    (case l_gclass => k_is)
    (case c_gclass => k_is)
    (case k_gclass => k_is)
    (case i_gclass => k_is)
    (case a_gwords => k_is)
    (case l_gwords => k_is)
    (case c_gwords => k_is)
    (case k_gwords => k_is)
    (case i_gwords => k_is)
    (case a_pnames => k_is)
    (case b_pnames => k_is)
    (case d_pnames => k_is)
    (case r_pnames => k_is)
    (case l_pnames => k_is)
    (case c_pnames => k_is)
    (case n_pclasses => k_is)
    (case n_pnames => k_is)
    (case S_mk => k_is)
    (case S_kp => k_is)
    (case S_pg => k_is)
    (case S_hd => k_is)
    (case S_po => k_is)
    (case S_sa => k_is)
    (case aE_BuildError => k_is)
    (case aE_BadSchema => k_is)
    (case aE_BadGraph => k_is)
    (case aE_NoName => k_is)
    (case aE_BadRoots => k_is)
    (case aI_NoName => k_is)
    (case tI_NoName => k_is)
    (case l_iNoName => k_is)
    (case c_iNoName => k_is)
    (case lc_iNoName => k_is)
    (case v2_iNoName => rfl)
    (case fi_iNoName => first | kernel_rfl | rfl | decide +kernel | with_unfolding_all rfl)
    (case lcc_iNoName => k_is)
    (case ms_NoName => k_is)
    (case su_NoName => first | kernel_rfl | rfl | decide +kernel | with_unfolding_all rfl)
    (case sv_NoName => k_is)
    (case xL_NoName => k_is)
    (case sa_NoName => k_is)
    (case eC_NoName => k_is)
    (case tC_NoName => k_is)
    (case kC_NoName => k_is)
    (case ga_NoName => k_is)
    (case gg_NoName => k_is)
    (case hd_NoName => k_is)
    (case cl_NoName => first | kernel_rfl | rfl | decide +kernel | with_unfolding_all rfl)
    (case ca_NoName => k_is)
    (case co_NoName => k_is)
    (case na_NoName => k_is)
    (case cN_ => k_is)
    (case cT_ => k_is)
    (case opq_ => k_is)
    (case top_ => first | kernel_rfl | rfl | decide +kernel | with_unfolding_all rfl)
    (case exm_ => first | k_is | rfl | decide +kernel | with_unfolding_all rfl)
    (case kS_ => first | k_is | rfl | decide +kernel | with_unfolding_all rfl)
    (case kG_ => first | k_is | rfl | decide +kernel | with_unfolding_all rfl)
    (case kN_ => first | k_is | rfl | decide +kernel | with_unfolding_all rfl)
    (case lcA_ => k_is)
    (case v11_ => rfl)
    (case nP_ => first | kernel_rfl | rfl | decide +kernel | with_unfolding_all rfl)
    (case rec_ => exact ⟨_, rfl⟩)
    (case z_len => k_is)
    (case z_isinstance => k_is)
    (case z_str => k_is)
    (case z_all => k_is)
    (case z_abs => k_is)
    (case z_int => k_is)
    (case z_bool => k_is)
    (case z_range => k_is)
    (case z_min => k_is)
    (case z_sorted => k_is)
    (case z_tuple => k_is)
    (case z_list => k_is)
    (case z_set => k_is)
    (case z_dict => k_is)
    (case z_repr => k_is)
    (case z_super => k_is)
    (case z_zip => k_is)
    (case v_L => k_is)
    (case v_N => k_is)
    (case v_C => k_is)
    (case v_M => k_is)
