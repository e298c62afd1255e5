import PyProof.Rows.All
import Wide.All
import OpenK.AllK
import Wide.FinOn
import PyProof.EqAt
import PyProof.EqKinds
import PyProof.TupleCall
import HandS.ForMost
import HandS.Walk
import HandS.IsInst
import HandS.Wide
import HandS.Flow
import HandS.Deep
import HandS.TupAny
import PyProof.StrBlock2
import PySem.Challenge.RW_halfbuilt_k02_names_judged
set_option Elab.async false
set_option linter.all false
set_option maxRecDepth 100000
set_option maxHeartbeats 4000000
/-! A layer of data over the hand layer: what a piece of the text is worth, as a tree of data, whatever the addresses. -/
namespace L3
open PySem PySem.Spec PyProof.Rows L2

/-! ### data -/
inductive D where
  | non
  | bl (b : Bool)
  | int (i : Int)
  | str (x : Str)
  | lst (ds : List D)
  | tup (ds : List D)
  | dic (kvs : List (Key × D))
  | scr (ns : List Int)
  | op (v : V)

mutual
inductive DV (K : PySem.W.Frag) (H : Hp) : V → D → Prop where
  | non : DV K H .non .non
  | bl (b : Bool) : DV K H (.bl b) (.bl b)
  | int (i : Int) : DV K H (.int i) (.int i)
  | str (x : Str) : DV K H (.str x) (.str x)
  | lst {a : Addr} {vs : List V} {ds : List D} (e : H a = some (.lst vs)) (h : DVs K H vs ds) : DV K H (.ref a) (.lst ds)
  | tup {a : Addr} {vs : List V} {ds : List D} (e : H a = some (.tup vs)) (h : DVs K H vs ds) : DV K H (.ref a) (.tup ds)
  | dic {a : Addr} {ks : List (Key × V)} {kvs : List (Key × D)} (e : H a = some (.dK ks)) (h : DKs K H ks kvs) : DV K H (.ref a) (.dic kvs)
  | scr {a : Addr} {ns : List Int} (e : SqL K H a (ns.map V.int)) : DV K H (.ref a) (.scr ns)
  | op (v : V) : DV K H v (.op v)
inductive DVs (K : PySem.W.Frag) (H : Hp) : List V → List D → Prop where
  | nil : DVs K H [] []
  | cons {v : V} {vs : List V} {d : D} {ds : List D} (h : DV K H v d) (t : DVs K H vs ds) : DVs K H (v :: vs) (d :: ds)
inductive DKs (K : PySem.W.Frag) (H : Hp) : List (Key × V) → List (Key × D) → Prop where
  | nil : DKs K H [] []
  | cons {k : Key} {v : V} {vs : List (Key × V)} {d : D} {ds : List (Key × D)} (h : DV K H v d) (t : DKs K H vs ds) : DKs K H ((k, v) :: vs) ((k, d) :: ds)
end

section
variable {K : PySem.W.Frag} {H H' : Hp}
theorem sqT_same (s : Same H H') {a : Addr} {xs : List V} (h : SqT K H a xs) : SqT K H' a xs := by
  rcases h with (h | ⟨o, h⟩) | h
  · exact .inl (.inl (s _ _ h))
  · exact .inl (.inr ⟨o, s _ _ h⟩)
  · exact .inr h
mutual
theorem DV.mono (s : Same H H') : ∀ {v : V} {d : D}, DV K H v d → DV K H' v d
  | _, _, .non => .non
  | _, _, .bl b => .bl b
  | _, _, .int i => .int i
  | _, _, .str x => .str x
  | _, _, .lst e h => .lst (s _ _ e) (DVs.mono s h)
  | _, _, .tup e h => .tup (s _ _ e) (DVs.mono s h)
  | _, _, .dic e h => .dic (s _ _ e) (DKs.mono s h)
  | _, _, .scr e => .scr (s.seq e)
  | _, _, .op v => .op v
theorem DVs.mono (s : Same H H') : ∀ {vs : List V} {ds : List D}, DVs K H vs ds → DVs K H' vs ds
  | _, _, .nil => .nil
  | _, _, .cons h t => .cons (DV.mono s h) (DVs.mono s t)
theorem DKs.mono (s : Same H H') : ∀ {vs : List (Key × V)} {ds : List (Key × D)}, DKs K H vs ds → DKs K H' vs ds
  | _, _, .nil => .nil
  | _, _, .cons h t => .cons (DV.mono s h) (DKs.mono s t)
end
theorem DVs.len : ∀ {vs : List V} {ds : List D}, DVs K H vs ds → vs.length = ds.length
  | _, _, .nil => rfl
  | _, _, .cons _ t => by simp [DVs.len t]
theorem DVs.app : ∀ {vs ws : List V} {ds es : List D}, DVs K H vs ds → DVs K H ws es → DVs K H (vs ++ ws) (ds ++ es)
  | _, _, _, _, .nil, h => h
  | _, _, _, _, .cons h t, k => .cons h (DVs.app t k)
theorem DVs.get : ∀ {vs : List V} {ds : List D} {i : Nat} {d : D}, DVs K H vs ds → ds[i]? = some d → ∃ v, vs[i]? = some v ∧ DV K H v d
  | _, _, _, _, .nil, e => by simp at e
  | _, _, 0, _, .cons h _, e => by simp at e; subst e; exact ⟨_, rfl, h⟩
  | _, _, i + 1, _, .cons _ t, e => by
    obtain ⟨v, h1, h2⟩ := DVs.get (i := i) t (by simpa using e)
    exact ⟨v, by simpa using h1, h2⟩
theorem DVs.getV : ∀ {vs : List V} {ds : List D} {i : Nat} {v : V}, DVs K H vs ds → vs[i]? = some v → ∃ d, ds[i]? = some d ∧ DV K H v d
  | _, _, _, _, .nil, e => by simp at e
  | _, _, 0, _, .cons h _, e => by simp at e; subst e; exact ⟨_, rfl, h⟩
  | _, _, i + 1, _, .cons _ t, e => by
    obtain ⟨v, h1, h2⟩ := DVs.getV (i := i) t (by simpa using e)
    exact ⟨v, by simpa using h1, h2⟩
theorem DVs.take : ∀ {vs : List V} {ds : List D} (n : Nat), DVs K H vs ds → DVs K H (vs.take n) (ds.take n)
  | _, _, 0, _ => .nil
  | _, _, _ + 1, .nil => .nil
  | _, _, n + 1, .cons h t => .cons h (DVs.take n t)
theorem DVs.drop : ∀ {vs : List V} {ds : List D} (n : Nat), DVs K H vs ds → DVs K H (vs.drop n) (ds.drop n)
  | _, _, 0, h => h
  | _, _, _ + 1, .nil => .nil
  | _, _, n + 1, .cons _ t => DVs.drop n t
theorem DVs.set {v : V} {d : D} (h : DV K H v d) : ∀ {vs : List V} {ds : List D} (i : Nat), DVs K H vs ds → DVs K H (vs.set i v) (ds.set i d)
  | _, _, _, .nil => .nil
  | _, _, 0, .cons _ t => .cons h t
  | _, _, i + 1, .cons q t => .cons q (DVs.set h i t)
theorem DVs.strs : ∀ {vs : List V} {xs : List Str}, DVs K H vs (xs.map D.str) → vs = xs.map V.str
  | _, [], h => by cases h; rfl
  | _, x :: xs, h => by
    cases h with
    | cons a t => cases a; rw [DVs.strs t]; rfl
theorem DVs.bls : ∀ {vs : List V} {xs : List Bool}, DVs K H vs (xs.map D.bl) → vs = xs.map V.bl
  | _, [], h => by cases h; rfl
  | _, x :: xs, h => by
    cases h with
    | cons a t => cases a; rw [DVs.bls t]; rfl
theorem DVs.ints : ∀ {vs : List V} {xs : List Int}, DVs K H vs (xs.map D.int) → vs = xs.map V.int
  | _, [], h => by cases h; rfl
  | _, x :: xs, h => by
    cases h with
    | cons a t => cases a; rw [DVs.ints t]; rfl
theorem DVs.of_strs : ∀ (xs : List Str), DVs K H (xs.map V.str) (xs.map D.str)
  | [] => .nil
  | x :: xs => .cons (.str x) (DVs.of_strs xs)
theorem DVs.of_ints : ∀ (xs : List Int), DVs K H (xs.map V.int) (xs.map D.int)
  | [] => .nil
  | x :: xs => .cons (.int x) (DVs.of_ints xs)
theorem DV.int_inv {v : V} {i : Int} (h : DV K H v (.int i)) : v = .int i := by cases h; rfl
theorem DV.str_inv {v : V} {i : Str} (h : DV K H v (.str i)) : v = .str i := by cases h; rfl
theorem DV.bl_inv {v : V} {i : Bool} (h : DV K H v (.bl i)) : v = .bl i := by cases h; rfl
theorem DV.non_inv {v : V} (h : DV K H v .non) : v = .non := by cases h; rfl
theorem DV.op_inv {v w : V} (h : DV K H v (.op w)) : v = w := by cases h; rfl
end

/-! ### what is hidden: objects that may change -/
abbrev AS := Addr → Prop
open Classical in
noncomputable def hid (H : Hp) (S : AS) : Hp := fun a => if S a then none else H a
theorem hid_some {H : Hp} {S : AS} {a : Addr} {o : HO} : hid H S a = some o ↔ ¬ S a ∧ H a = some o := by
  unfold hid
  split
  · constructor
    · intro h; cases h
    · intro h; exact absurd ‹_› h.1
  · constructor
    · intro h; exact ⟨‹_›, h⟩
    · intro h; exact h.2
theorem same_hid {H : Hp} {S : AS} : Same (hid H S) H := fun _ _ h => (hid_some.mp h).2
theorem same_hid_sub {H : Hp} {S T : AS} (h : ∀ a, T a → S a) : Same (hid H S) (hid H T) := fun a o q =>
  let ⟨q1, q2⟩ := hid_some.mp q
  hid_some.mpr ⟨fun t => q1 (h a t), q2⟩

/-- what a law carries through all its calls: some objects G that calls may change, and what is true of them -/
structure Cf where
  G : AS
  I : Hp → Prop
  loc : ∀ H H' : Hp, (∀ a, G a → H' a = H a) → I H → I H'
  liv : ∀ (H : Hp) (a : Addr), I H → G a → H a ≠ none
def Ext (G : AS) (H H' : Hp) : Prop := ∀ a o, ¬ G a → H a = some o → H' a = some o
theorem Ext.refl {G : AS} {H : Hp} : Ext G H H := fun _ _ _ h => h
theorem Ext.trans {G : AS} {H H1 H2 : Hp} (a : Ext G H H1) (b : Ext G H1 H2) : Ext G H H2 := fun x o g h => b x o g (a x o g h)
structure Ok (C : Cf) (S : AS) (H : Hp) : Prop where
  i : C.I H
  g : ∀ a, C.G a → S a
  l : ∀ a, S a → H a ≠ none
structure Go (C : Cf) (H H' : Hp) : Prop where
  e : Ext C.G H H'
  i : C.I H'
section
variable {C : Cf} {S : AS} {H H' H1 H2 : Hp} {p : Addr} {o : HO}
theorem Go.refl (ok : Ok C S H) : Go C H H := ⟨Ext.refl, ok.i⟩
theorem Go.trans (a : Go C H H1) (b : Go C H1 H2) : Go C H H2 := ⟨a.e.trans b.e, b.i⟩
theorem Ok.go (ok : Ok C S H) (g : Go C H H') : Ok C S H' := ⟨g.i, ok.g, fun a ha => by
  by_cases q : C.G a
  · exact C.liv H' a g.i q
  · have h := ok.l a ha
    cases e : H a with
    | none => exact absurd e h
    | some o => rw [g.e a o q e]; intro z; cases z⟩
theorem Go.vis (ok : Ok C S H) (g : Go C H H') : Same (hid H S) (hid H' S) := fun a o q =>
  let ⟨q1, q2⟩ := hid_some.mp q
  hid_some.mpr ⟨q1, g.e a o (fun z => q1 (ok.g a z)) q2⟩
theorem Ok.fresh (ok : Ok C S H) (h : H p = none) : ¬ S p := fun q => ok.l p q h
theorem Go.new (ok : Ok C S H) (h : H p = none) : Go C H (upd H p o) := by
  have np : ¬ C.G p := fun q => C.liv H p ok.i q h
  refine ⟨fun a u _ e => ?_, C.loc H _ (fun a ga => ?_) ok.i⟩
  · rw [upd_ne (ne_of_none e h)]; exact e
  · exact upd_ne (fun z => np (z ▸ ga))
theorem hid_new (ok : Ok C S H) (h : H p = none) : hid (upd H p o) S p = some o := hid_some.mpr ⟨ok.fresh h, upd_same⟩
end

/-! ### expressions -/
abbrev En := List (Option D)
structure Rel (K : PySem.W.Frag) (C : Cf) (S : AS) (E : En) (σ : L2.St) (H : Hp) : Prop where
  ok : Ok C S H
  len : E.length ≤ σ.length
  at_ : ∀ (i : Nat) (d : D), E[i]? = some (some d) → ∃ v, σ[i]? = some (some v) ∧ DV K (hid H S) v d
theorem Rel.go {K : PySem.W.Frag} {C : Cf} {S : AS} {E : En} {σ : L2.St} {H H' : Hp} (r : Rel K C S E σ H) (g : Go C H H') : Rel K C S E σ H' :=
  ⟨r.ok.go g, r.len, fun i d e => let ⟨v, h1, h2⟩ := r.at_ i d e; ⟨v, h1, h2.mono (g.vis r.ok)⟩⟩

abbrev TD := En → (D → Prop) → Prop
abbrev TDs := En → (List D → Prop) → Prop
abbrev TDb := En → (Bool → Prop) → Prop
/-- a reading gives data for which P holds whenever td says so -/
def EvD (K : PySem.W.Frag) (C : Cf) (te : TE) (td : TD) : Prop := ∀ (S : AS) (σ : L2.St) (H : Hp) (E : En) (P : D → Prop) (Q : VK), Rel K C S E σ H → td E P →
  (∀ v d H', Go C H H' → P d → DV K (hid H' S) v d → Q v H') → te σ H Q
def EvA (K : PySem.W.Frag) (C : Cf) (ta : TA) (td : TDs) : Prop := ∀ (S : AS) (σ : L2.St) (H : Hp) (E : En) (P : List D → Prop) (Q : List V → Hp → Prop), Rel K C S E σ H → td E P →
  (∀ vs ds H', Go C H H' → P ds → DVs K (hid H' S) vs ds → Q vs H') → ta σ H Q
def EvT (K : PySem.W.Frag) (C : Cf) (tt : TT) (td : TDb) : Prop := ∀ (S : AS) (σ : L2.St) (H : Hp) (E : En) (P : Bool → Prop) (Q : Bool → Hp → Prop), Rel K C S E σ H → td E P →
  (∀ b H', Go C H H' → P b → Q b H') → tt σ H Q
structure DE (X : Cx) (C : Cf) (e : Expr) (td : TD) : Prop where
  ex : ∃ te, PE X e te ∧ EvD X.K C te td
structure DA (X : Cx) (C : Cf) (es : List Expr) (td : TDs) : Prop where
  ex : ∃ ta, PA X es ta ∧ EvA X.K C ta td
structure DT (X : Cx) (C : Cf) (e : Expr) (td : TDb) : Prop where
  ex : ∃ tt, PT X e tt ∧ EvT X.K C tt td
structure DW (X : Cx) (C : Cf) (e : Expr) (td : TDb) : Prop where
  ex : ∃ tt, PW X e tt ∧ EvT X.K C tt td

def dVar (i : Nat) : TD := fun E P => ∃ d, E[i]? = some (some d) ∧ P d
def dC (d : D) : TD := fun _ P => P d
section
variable {X : Cx} {C : Cf}
theorem de_of {e : Expr} {i : Nat} (h : PE X e (tVar i)) : DE X C e (dVar i) := ⟨⟨_, h, fun S σ H E P Q r h q => by
  obtain ⟨d, h1, h2⟩ := h
  obtain ⟨v, h3, h4⟩ := r.at_ i d h1
  exact ⟨v, h3, q v d H (Go.refl r.ok) h2 h4⟩⟩⟩
theorem de_c {e : Expr} {v : V} {d : D} (h : PE X e (tC v)) (hd : ∀ H, DV X.K H v d) : DE X C e (dC d) := ⟨⟨_, h, fun S σ H E P Q r h q => q v d H (Go.refl r.ok) h (hd _)⟩⟩
theorem de_int {i j pos} : DE X C (.Constant (.int i) j pos) (dC (.int i)) := de_c pe_int fun _ => .int i
theorem de_bl {i j pos} : DE X C (.Constant (.bool i) j pos) (dC (.bl i)) := de_c pe_bl fun _ => .bl i
theorem de_str {i j pos} : DE X C (.Constant (.str i) j pos) (dC (.str i)) := de_c pe_str fun _ => .str i
theorem de_non {j pos} : DE X C (.Constant .none j pos) (dC .non) := de_c pe_non fun _ => .non

def dNil : TDs := fun _ P => P []
def dCons (ta : TD) (tr : TDs) : TDs := fun E P => ta E fun d => tr E fun ds => P (d :: ds)
theorem da_nil : DA X C [] dNil := ⟨⟨_, pa_nil, fun S σ H E P Q r h q => q [] [] H (Go.refl r.ok) h .nil⟩⟩
theorem da_cons {e : Expr} {es : List Expr} {td : TD} {tr : TDs} (h : DE X C e td) (t : DA X C es tr) (hs : starEach (e :: es) X.env = (false, eval e X.env) :: starEach es X.env := by rfl) : DA X C (e :: es) (dCons td tr) := by
  obtain ⟨te, h1, h2⟩ := h.ex
  obtain ⟨ta, t1, t2⟩ := t.ex
  refine ⟨⟨_, pa_cons h1 t1 hs, fun S σ H E P Q r hp q => ?_⟩⟩
  refine h2 S σ H E _ _ r hp fun v d H1 g1 p1 v1 => ?_
  refine t2 S σ H1 E _ _ (r.go g1) p1 fun vs ds H2 g2 p2 v2 => ?_
  exact q _ _ H2 (g1.trans g2) p2 (.cons (v1.mono (g2.vis (r.ok.go g1))) v2)
theorem small_line {n : Nat} (h : n ≤ 100000) : n ≤ sizeLine := Nat.le_trans h (by decide)
def dTup (t : TDs) : TD := fun E P => t E fun ds => ds.length ≤ 100000 ∧ P (.tup ds)
def dLst (t : TDs) : TD := fun E P => t E fun ds => ds.length ≤ 100000 ∧ P (.lst ds)
theorem de_tup {es : List Expr} {t : TDs} {x1 pos} (h : DA X C es t) : DE X C (.Tuple es x1 pos) (dTup t) := by
  obtain ⟨ta, h1, h2⟩ := h.ex
  refine ⟨⟨_, pe_tup h1, fun S σ H E P Q r hp q => ?_⟩⟩
  refine h2 S σ H E _ _ r hp fun vs ds H1 g1 p1 v1 => ⟨small_line (by rw [v1.len]; exact p1.1), fun p np => ?_⟩
  have ok1 := r.ok.go g1
  have gn : Go C H1 (upd H1 p (.tup vs)) := Go.new ok1 np
  exact q _ _ _ (g1.trans gn) p1.2 (.tup (hid_new ok1 np) (v1.mono (gn.vis ok1)))
theorem de_lst {es : List Expr} {t : TDs} {pos} (h : DA X C es t) : DE X C (.List es pos) (dLst t) := by
  obtain ⟨ta, h1, h2⟩ := h.ex
  refine ⟨⟨_, pe_lst h1, fun S σ H E P Q r hp q => ?_⟩⟩
  refine h2 S σ H E _ _ r hp fun vs ds H1 g1 p1 v1 => ⟨small_line (by rw [v1.len]; exact p1.1), fun p np => ?_⟩
  have ok1 := r.ok.go g1
  have gn : Go C H1 (upd H1 p (.lst vs)) := Go.new ok1 np
  exact q _ _ _ (g1.trans gn) p1.2 (.lst (hid_new ok1 np) (v1.mono (gn.vis ok1)))
end

/-! ### operators -/
abbrev F2 := D → D → (D → Prop) → Prop
def OpD (K : PySem.W.Frag) (C : Cf) (r : R2) (f : F2) : Prop := ∀ (S : AS) (H : Hp) (x y : V) (a b : D) (P : D → Prop) (Q : VK), Ok C S H → DV K (hid H S) x a → DV K (hid H S) y b → f a b P →
  (∀ v d H', Go C H H' → P d → DV K (hid H' S) v d → Q v H') → r x y H Q
def dOp (f : F2) (ta tb : TD) : TD := fun E P => ta E fun a => tb E fun b => f a b P
section
variable {X : Cx} {C : Cf} {a b : Expr} {ta tb : TD} {r : R2} {f : F2}
theorem ev_op {ua ub : TE} (h1 : EvD X.K C ua ta) (h2 : EvD X.K C ub tb) (o : OpD X.K C r f) : EvD X.K C (tOp r ua ub) (dOp f ta tb) := fun S σ H E P Q rl hp q => by
  refine h1 S σ H E _ _ rl hp fun v d H1 g1 p1 v1 => ?_
  refine h2 S σ H1 E _ _ (rl.go g1) p1 fun w e H2 g2 p2 v2 => ?_
  have ok2 := (rl.ok.go g1).go g2
  exact o S H2 v w d e P Q ok2 (v1.mono (g2.vis (rl.ok.go g1))) v2 p2 fun z d H' g => q z d H' ((g1.trans g2).trans g)
theorem de_op {op pos} (o : OpD X.K C r f) (ho : OpR X (binaryOp op) r) (ha : DE X C a ta) (hb : DE X C b tb) : DE X C (.BinOp a op b pos) (dOp f ta tb) := by
  obtain ⟨ua, a1, a2⟩ := ha.ex
  obtain ⟨ub, b1, b2⟩ := hb.ex
  exact ⟨⟨_, pe_op ho a1 b1, ev_op a2 b2 o⟩⟩
theorem de_cmp {op pos} (o : OpD X.K C r f) (ho : OpR X (compareOp op) r) (hm : behindInMarks op b = false) (ha : DE X C a ta) (hb : DE X C b tb) : DE X C (.Compare a [op] [b] pos) (dOp f ta tb) := by
  obtain ⟨ua, a1, a2⟩ := ha.ex
  obtain ⟨ub, b1, b2⟩ := hb.ex
  exact ⟨⟨_, pe_cmpR ho a1 b1 hm, ev_op a2 b2 o⟩⟩
theorem de_ix {pos} (o : OpD X.K C r f) (ho : IxR X r) (ha : DE X C a ta) (hb : DE X C b tb) (hs : PlainIx b := by exact fun _ _ => rfl) : DE X C (.Subscript a b pos) (dOp f ta tb) := by
  obtain ⟨ua, a1, a2⟩ := ha.ex
  obtain ⟨ub, b1, b2⟩ := hb.ex
  exact ⟨⟨_, pe_ix ho a1 b1 hs, ev_op a2 b2 o⟩⟩
end
end L3
namespace L3
open PySem PySem.Spec PyProof.Rows L2

/-! ### defs where nothing is being shown (no guard of a repr stands open) -/
structure FnG (P : Program) (w : World) (K : PySem.W.Frag) (mg : Str → Option Value) (base : Heap) (CX : CXT) (k : Nat) (f : Addr) (fd : FuncData) (ps : List Str) (sp : Sp) : Prop where
  len : ∀ vs H Q E, sp vs H Q E → vs.length = ps.length
  go : ∀ (A : Around) (fr : List Env) (s : Shared) (H : Hp) (ar : Args) (us : List Value) (vs : List V) (Q : VK) (E : XK), A.guards = some [] → Room k A → Env0 P w K mg base A fr s H →
    BindsTo s fd ar (ps.zip us) → Vals vs us → sp vs H Q E → codeAny (model P w) A (.call (.ref f) ar) (CR CX fr P w H s Q E) s
theorem FnG.of {P : Program} {w : World} {K : PySem.W.Frag} {mg : Str → Option Value} {base : Heap} {CX : CXT} {k : Nat} {f : Addr} {fd : FuncData} {ps : List Str} {sp : Sp} (F : FnOk P w K mg base CX k f fd ps sp) : FnG P w K mg base CX k f fd ps sp :=
  ⟨F.len, fun A fr s H ar us vs Q E _ hr => F.run A fr s H ar us vs Q E hr⟩
theorem FnG.mono {P : Program} {w : World} {K : PySem.W.Frag} {mg : Str → Option Value} {base : Heap} {CX : CXT} {j k : Nat} {f : Addr} {fd : FuncData} {ps : List Str} {sp : Sp} (F : FnG P w K mg base CX j f fd ps sp) (h : j ≤ k) : FnG P w K mg base CX k f fd ps sp :=
  ⟨F.len, fun A fr s H ar us vs Q E hg hr => F.go A fr s H ar us vs Q E hg (hr.mono h)⟩
section
variable {X : Cx} {CX : CXT} {k : Nat} {f : Addr} {fd : FuncData} {ps ks : List Str} {sp : Sp} {E : XK} {x : Str} {p pos : Pos} {e : Expr} {es : List Expr} {kws : List Keyword} {t tk : TA}
variable {g : List Value → List Value → List Value} {gV : List V → List V → List V}
theorem go_end {pins : List (Addr × Obj)} {σ : L2.St} {H : Hp} {s : Shared} {Q : VK} (hx : Passes CX X E) (I : Inv X pins σ H s) {r : Result} {s' : Shared} (hq : CR CX X.stack X.prog X.w H s Q E r s') :
    match r with | .ok (.ret u) => EP X pins σ Q u s' | .ok _ => False | .error e => X.xe e s' := by
  match r with
  | .error e => exact hx pins σ H s e s' I hq
  | .ok (.ret u) => exact I.after hq
  | .ok .next => exact hq
  | .ok .brk => exact hq
  | .ok .cont => exact hq
theorem go_fn {pins : List (Addr × Obj)} {σ : L2.St} {H : Hp} {s : Shared} {Q : VK} {us : List Value} {vs : List V} (F : FnG X.prog X.w X.K X.mg X.base CX k f fd ps sp) (hgd : X.A.guards = some []) (hr : Room k X.A) (hb : Binds X.K fd ps []) (hx : Passes CX X E)
    (I : Inv X pins σ H s) (r : Vals vs us) (h : sp vs H Q E) : wpAny (model X.prog X.w) X.A (call (.ref f) us) (EP X pins σ Q) X.xe s := by
  have hl : us.length = ps.length := by rw [← r.length]; exact F.len _ _ _ _ h
  have hb' := hb s us I.kIn (by rw [List.append_nil]; exact hl)
  rw [List.append_nil] at hb'
  refine wpAny_call (codeAny_mono (F.go X.A X.stack s H ⟨us, []⟩ us vs Q E hgd hr I.env0 hb' r h) fun r s' hq => ?_)
  rcases r with e | (_ | _ | _ | u)
  all_goals first | exact go_end hx I hq | exact (go_end hx I hq).elim
theorem go_fnK {pins : List (Addr × Obj)} {σ : L2.St} {H : Hp} {s : Shared} {Q : VK} {us ws : List Value} {vs zs : List V} (F : FnG X.prog X.w X.K X.mg X.base CX k f fd ps sp) (hgd : X.A.guards = some []) (hr : Room k X.A) (hb : KBinds X.K fd ps ks g gV) (hx : Passes CX X E)
    (I : Inv X pins σ H s) (r : Vals vs us) (rz : Vals zs ws) (h : sp (gV vs zs) H Q E) : wpAny (model X.prog X.w) X.A (call (.ref f) us (ks.zip ws)) (EP X pins σ Q) X.xe s := by
  have r2 := hb.rel r rz
  have hl : (g us ws).length = ps.length := r2.length.symm.trans (F.len _ _ _ _ h)
  refine wpAny_call (codeAny_mono (F.go X.A X.stack s H ⟨us, ks.zip ws⟩ (g us ws) (gV vs zs) Q E hgd hr I.env0 (hb.to s us ws I.kIn hl) r2 h) fun r s' hq => ?_)
  rcases r with e | (_ | _ | _ | u)
  all_goals first | exact go_end hx I hq | exact (go_end hx I hq).elim
theorem pe_go (F : FnG X.prog X.w X.K X.mg X.base CX k f fd ps sp) (hgd : X.A.guards = some []) (hr : Room k X.A) (hg : Gl X x) (hm : X.mg x = some (.ref f)) (hk : PySem.W.keepIn X.K (.ref f) = true) (hb : Binds X.K fd ps []) (hx : Passes CX X E)
    (ha : PA X (e :: es) t) (hdb : (x == ("__debug__" : Str)) = false := by decide) (he : starEach (e :: es) X.env = (false, eval e X.env) :: starEach es X.env := by rfl) (hpl : (backTo pos (starEach es X.env)).any (·.1) = false := by rfl) :
    PE X (.Call (.Name x p) (e :: es) [] pos) (fun σ H Q => t σ H fun vs H1 => sp vs H1 Q E) :=
  ⟨fun pins s σ H Q I h => wpAny_Call_Name_kw (ld_glob I hg hm (PySem.W.callWith_K (h₀ := X.base) I.ok.mod.kin hk (thn (ha.run pos pins s σ H _ I h) fun us s1 ⟨vs, H1, I1, r, q⟩ => ⟨I1.kIn, go_fn F hgd hr hb hx I1 r q⟩) he hpl) hdb)⟩
theorem pe_goK1 (F : FnG X.prog X.w X.K X.mg X.base CX k f fd ps sp) (hgd : X.A.guards = some []) (hr : Room k X.A) (hg : Gl X x) (hm : X.mg x = some (.ref f)) (hk : PySem.W.keepIn X.K (.ref f) = true) (hb : KBinds X.K fd ps ks g gV) (hx : Passes CX X E)
    (ha : PA X (e :: es) t) (hkw : PK X kws tk) (hall : (backToKw pos (keywordEach kws X.env)).all (·.1.isSome) = true := by rfl) (hks : (backToKw pos (keywordEach kws X.env)).filterMap (·.1) = ks := by rfl)
    (hdb : (x == ("__debug__" : Str)) = false := by decide) (he : starEach (e :: es) X.env = (false, eval e X.env) :: starEach es X.env := by rfl)
    (hpl : ((backTo pos (starEach (e :: es) X.env)).any (·.1) || (backToKw pos (keywordEach kws X.env)).any (·.1.isNone)) = false := by rfl) :
    PE X (.Call (.Name x p) (e :: es) kws pos) (fun σ H Q => t σ H fun vs H1 => tk σ H1 fun zs H2 => sp (gV vs zs) H2 Q E) := by
  refine ⟨fun pins s σ H Q I h => wpAny_Call_Name_kw (ld_glob I hg hm ?_ hdb)⟩
  refine PySem.W.callWith_KW (h₀ := X.base) I.ok.mod.kin hk hall (thn (ha.run pos pins s σ H _ I h) fun us s1 ⟨vs, H1, I1, r, q⟩ => ?_) hpl he
  refine thn (hkw.run pos pins s1 σ H1 _ I1 q) fun ws s2 ⟨zs, H2, I2, rz, q2⟩ => ⟨I2.kIn, ?_⟩
  rw [hks]; exact go_fnK F hgd hr hb hx I2 r rz q2
end
/-- a def of the text keeps its promise, by its body -/
theorem _root_.L2.Fun.okG {P : Program} {w : World} {K : PySem.W.Frag} {mg : Str → Option Value} {base : Heap} {CX : CXT} {x qual : Str} {st : Stmt} {f : Addr} {fd : FuncData} {N ps : List Str} {k : Nat} {sp : Sp} (F : Fun K x qual st f fd) (S : FnScope N ps (defScope st)) (len : ∀ vs H Q E, sp vs H Q E → vs.length = ps.length)
    (hbody : ∀ (cdv : Value) (A : Around) (fr : List Env) (s : Shared) (H : Hp) (vs : List V) (Q : VK) (E : XK), A.guards = some [] → Room k (A.deeper (envOfC qual (defScope st) s.heap.objs.size f cdv)) → sp vs H Q E →
      ∃ t, PSs (cxOf CX P w K mg base N qual (defScope st) f cdv A fr s H E) (defBody st) t ∧ t { nx := fun _ H' => Q .non H', rt := Q } (start N vs) H) : FnG P w K mg base CX (k + 1) f fd ps sp := by
  obtain ⟨oc, od, kV, doc, pm, an, cdv, ct, osl, rfl, lk, hcd⟩ := F.ex
  refine ⟨len, fun A fr s H ar us vs Q E hgd hr e0 hb r hsp => ?_⟩
  have hl := len _ _ _ _ hsp
  have KX : K.In s.heap := e0.mod.kin.keeps fun b o e => (e0.bs b o e).1
  have lim : s.heap.NoLimit := e0.mod.nolimit.keeps fun b o e => (e0.bs b o e).1
  refine codeAny_call_function hr.depth (KX _ _ lk) rfl S.co S.gen rfl (PySem.W.codeRec_of KX hcd) (hb _ _ _ _ ?_)
  refine wpAny_newFunctionEnv_cells S.kind (fun ⟨n, v⟩ hy => ?_) fun env he s1 x => ?_
  · rcases S.par n (List.of_mem_zip hy).1 with q | q
    · exact .inl q
    · exact .inr ⟨q, PySem.W.cellsFrom_some _ _ _ (.inl q)⟩
  subst he
  refine ⟨lim.keeps x.toInCall.keep, codeAny_func ?_⟩
  obtain ⟨t, ht, hq⟩ := hbody cdv A fr s H vs Q E hgd (hr.deeper _) hsp
  have I : Inv (cxOf CX P w K mg base N qual (defScope st) f cdv A fr s H E) [] (start N vs) H s1 := inv_start S hr.hd e0 hl r x
  refine wpAny_mono (ht.run [] s1 (start N vs) H _ I hq) (fun fl s' hs => ?_) fun e s' hs => hs
  match fl, hs with
  | .ret u, hs => obtain ⟨v, σ', H', J, rv, q⟩ := hs; exact ⟨v, H', J.os, J.bare, J.base, J.hok, rv, q⟩
  | .next, hs => obtain ⟨σ', H', J, q⟩ := hs; exact ⟨V.non, H', J.os, J.bare, J.base, J.hok, rfl, q⟩
  | .brk, hs => obtain ⟨_, _, _, q⟩ := hs; exact q.elim
  | .cont, hs => obtain ⟨_, _, _, q⟩ := hs; exact q.elim
end L3
namespace L3
open PySem PySem.Spec PyProof.Rows L2

/-! ### tests -/
def dB (t : TD) : TDb := fun E P => t E fun d => ∃ b, d = .bl b ∧ P b
def bNot (t : TDb) : TDb := fun E P => t E fun b => P (!b)
def bAnd (t u : TDb) : TDb := fun E P => t E fun b => if b = true then u E P else P false
def bOr (t u : TDb) : TDb := fun E P => t E fun b => if b = true then P true else u E P
section
variable {X : Cx} {C : Cf} {a b c : Expr} {ta tb tc : TD} {ua ub : TDb} {pos : Pos} {rest : List Expr}
theorem ev_test {te : TE} (h : EvD X.K C te ta) : EvT X.K C (fun σ H Q => te σ H fun x H' => ∃ k, x = .bl k ∧ Q k H') (dB ta) := fun S σ H E P Q rl hp q => by
  refine h S σ H E _ _ rl hp fun v d H1 g1 p1 v1 => ?_
  obtain ⟨k, rfl, p2⟩ := p1
  exact ⟨k, v1.bl_inv, q k H1 g1 p2⟩
theorem dt_val (h : DE X C a ta) (he : ∀ whole, isTrue a X.env whole = (do let v ← whole; standAt a.pos; holding [v] (truthy v)) := by intro _; rfl) : DT X C a (dB ta) := by
  obtain ⟨te, h1, h2⟩ := h.ex
  exact ⟨⟨_, pt_val h1 he, ev_test h2⟩⟩
theorem dt_cmp {op r f} (o : OpD X.K C r f) (ho : OpR X (compareOp op) r) (hm : behindInMarks op b = false) (ha : DE X C a ta) (hb : DE X C b tb) : DT X C (.Compare a [op] [b] pos) (dB (dOp f ta tb)) := by
  obtain ⟨va, a1, a2⟩ := ha.ex
  obtain ⟨vb, b1, b2⟩ := hb.ex
  exact ⟨⟨_, pt_cmpR ho a1 b1 hm, ev_test (ev_op a2 b2 o)⟩⟩
theorem dt_not (h : DT X C a ua) : DT X C (.UnaryOp .Not a pos) (bNot ua) := by
  obtain ⟨te, h1, h2⟩ := h.ex
  exact ⟨⟨_, pt_not h1, fun S σ H E P Q rl hp q => h2 S σ H E _ _ rl hp fun b H1 g1 p1 => q _ H1 g1 p1⟩⟩
theorem dw_and1 (h : DT X C a ua) : DW X C (.BoolOp .And [a] pos) ua := let ⟨te, h1, h2⟩ := h.ex; ⟨⟨_, pw_and1 h1, h2⟩⟩
theorem dw_or1 (h : DT X C a ua) : DW X C (.BoolOp .Or [a] pos) ua := let ⟨te, h1, h2⟩ := h.ex; ⟨⟨_, pw_or1 h1, h2⟩⟩
theorem dw_and (h : DT X C a ua) (t : DW X C (.BoolOp .And (b :: rest) pos) ub) : DW X C (.BoolOp .And (a :: b :: rest) pos) (bAnd ua ub) := by
  obtain ⟨te, h1, h2⟩ := h.ex
  obtain ⟨tu, t1, t2⟩ := t.ex
  refine ⟨⟨_, pw_and h1 t1, fun S σ H E P Q rl hp q => h2 S σ H E _ _ rl hp fun b H1 g1 p1 => ?_⟩⟩
  cases b with
  | true => rw [if_pos rfl] at p1 ⊢; exact t2 S σ H1 E _ _ (rl.go g1) p1 fun b H2 g2 p2 => q b H2 (g1.trans g2) p2
  | false => rw [if_neg Bool.false_ne_true] at p1 ⊢; exact q _ H1 g1 p1
theorem dw_or (h : DT X C a ua) (t : DW X C (.BoolOp .Or (b :: rest) pos) ub) : DW X C (.BoolOp .Or (a :: b :: rest) pos) (bOr ua ub) := by
  obtain ⟨te, h1, h2⟩ := h.ex
  obtain ⟨tu, t1, t2⟩ := t.ex
  refine ⟨⟨_, pw_or h1 t1, fun S σ H E P Q rl hp q => h2 S σ H E _ _ rl hp fun b H1 g1 p1 => ?_⟩⟩
  cases b with
  | false => rw [if_neg Bool.false_ne_true] at p1 ⊢; exact t2 S σ H1 E _ _ (rl.go g1) p1 fun b H2 g2 p2 => q b H2 (g1.trans g2) p2
  | true => rw [if_pos rfl] at p1 ⊢; exact q _ H1 g1 p1
theorem dt_w (h : DW X C a ua) : DT X C a ua := let ⟨te, h1, h2⟩ := h.ex; ⟨⟨_, h1.pt, h2⟩⟩
/-- a op b op' c -/
def dChain (f f' : F2) (ta tb tc : TD) : TD := fun E P => ta E fun x => tb E fun y => f x y fun z => ∃ k, z = .bl k ∧ if k = true then tc E fun w => f' y w P else P (.bl false)
theorem ev_chain {va vb vc : TE} {r r' : R2} {f f' : F2} (o : OpD X.K C r f) (o' : OpD X.K C r' f') (h1 : EvD X.K C va ta) (h2 : EvD X.K C vb tb) (h3 : EvD X.K C vc tc) : EvD X.K C (tChain r r' va vb vc) (dChain f f' ta tb tc) := fun S σ H E P Q rl hp q => by
  refine h1 S σ H E _ _ rl hp fun v d H1 g1 p1 v1 => ?_
  refine h2 S σ H1 E _ _ (rl.go g1) p1 fun w e H2 g2 p2 v2 => ?_
  have ok1 := rl.ok.go g1
  have ok2 := ok1.go g2
  refine o S H2 v w d e _ _ ok2 (v1.mono (g2.vis ok1)) v2 p2 fun z dz H3 g3 p3 v3 => ?_
  obtain ⟨k, rfl, p3⟩ := p3
  refine ⟨k, v3.bl_inv, ?_⟩
  cases k with
  | false => rw [if_neg Bool.false_ne_true] at p3 ⊢; exact q _ _ H3 ((g1.trans g2).trans g3) p3 (.bl _)
  | true =>
    rw [if_pos rfl] at p3 ⊢
    have ok3 := ok2.go g3
    refine h3 S σ H3 E _ _ (((rl.go g1).go g2).go g3) p3 fun u du H4 g4 p4 v4 => ?_
    exact o' S H4 w u e du P Q (ok3.go g4) ((v2.mono (g3.vis ok2)).mono (g4.vis ok3)) v4 p4 fun z d H' g => q z d H' ((((g1.trans g2).trans g3).trans g4).trans g)
theorem de_chain {op op' r r' f f'} (o : OpD X.K C r f) (o' : OpD X.K C r' f') (ho : OpR X (compareOp op) r) (ho' : OpR X (compareOp op') r') (ha : DE X C a ta) (hb : DE X C b tb) (hc : DE X C c tc) (hm : lastMarks [op, op'] [b, c] = false := by with_unfolding_all rfl) :
    DE X C (.Compare a [op, op'] [b, c] pos) (dChain f f' ta tb tc) := by
  obtain ⟨va, a1, a2⟩ := ha.ex
  obtain ⟨vb, b1, b2⟩ := hb.ex
  obtain ⟨vc, c1, c2⟩ := hc.ex
  exact ⟨⟨_, pe_chain ho ho' a1 b1 c1 hm, ev_chain o o' a2 b2 c2⟩⟩
theorem dt_chain {op op' r r' f f'} (o : OpD X.K C r f) (o' : OpD X.K C r' f') (ho : OpR X (compareOp op) r) (ho' : OpR X (compareOp op') r') (ha : DE X C a ta) (hb : DE X C b tb) (hc : DE X C c tc) (hm : lastMarks [op, op'] [b, c] = false := by with_unfolding_all rfl) :
    DT X C (.Compare a [op, op'] [b, c] pos) (dB (dChain f f' ta tb tc)) := by
  obtain ⟨va, a1, a2⟩ := ha.ex
  obtain ⟨vb, b1, b2⟩ := hb.ex
  obtain ⟨vc, c1, c2⟩ := hc.ex
  exact ⟨⟨_, pt_chain ho ho' a1 b1 c1 hm, ev_test (ev_chain o o' a2 b2 c2)⟩⟩
end
/-- a datum's truth -/
def truD : D → Option Bool
  | .non => some false
  | .bl b => some b
  | .int i => some (i != 0)
  | .str x => if x.length ≤ 100000 then some ((x.length : Int) != 0) else none
  | .lst ds => some (!ds.isEmpty)
  | .tup ds => some (!ds.isEmpty)
  | .dic ds => some (!ds.isEmpty)
  | .scr ns => some (!ns.isEmpty)
  | .op _ => none
theorem tru_of {K : PySem.W.Frag} {H : Hp} {S : AS} {v : V} {d : D} {k : Bool} (h : DV K (hid H S) v d) (e : truD d = some k) : TruV K v H k := by
  have em : ∀ {vs : List V} {ds : List D}, DVs K (hid H S) vs ds → (!ds.isEmpty) = !vs.isEmpty := fun h => by cases h <;> rfl
  have ek : ∀ {vs : List (Key × V)} {ds : List (Key × D)}, DKs K (hid H S) vs ds → (!ds.isEmpty) = !vs.isEmpty := fun h => by cases h <;> rfl
  cases h with
  | non => exact (Option.some.inj e).symm
  | bl b => exact (Option.some.inj e).symm
  | int i => exact (Option.some.inj e).symm
  | str x =>
    have e : (if x.length ≤ 100000 then some ((x.length : Int) != 0) else Option.none) = some k := e
    split at e
    · exact ⟨small_line ‹_›, (Option.some.inj e).symm⟩
    · cases e
  | lst e1 h => exact .inl ⟨_, .inl (.inl (same_hid _ _ e1)), (Option.some.inj e).symm.trans (em h)⟩
  | tup e1 h => exact .inr (.inl ⟨_, .inl (.inl (same_hid _ _ e1)), (Option.some.inj e).symm.trans (em h)⟩)
  | dic e1 h => exact .inr (.inr ⟨_, same_hid _ _ e1, (Option.some.inj e).symm.trans (ek h)⟩)
  | @scr a ns e1 => exact .inl ⟨_, Same.seq same_hid e1, (Option.some.inj e).symm.trans (by cases ns <;> rfl)⟩
  | op v => cases e
def dTru (t : TD) : TDb := fun E P => t E fun d => ∃ k, truD d = some k ∧ P k
def dOrT (t u : TD) : TD := fun E P => t E fun d => ∃ k, truD d = some k ∧ if k = true then P d else u E P
def dAndT (t u : TD) : TD := fun E P => t E fun d => ∃ k, truD d = some k ∧ if k = true then u E P else P d
def dNotT (t : TD) : TD := fun E P => t E fun d => ∃ k, truD d = some k ∧ P (.bl (!k))
def dIf (c : TDb) (t u : TD) : TD := fun E P => c E fun b => if b = true then t E P else u E P
section
variable {X : Cx} {C : Cf} {a b c : Expr} {ta tb : TD} {uc : TDb} {pos : Pos} {rest : List Expr}
theorem dt_tru (h : DE X C a ta) (he : ∀ whole, isTrue a X.env whole = (do let v ← whole; standAt a.pos; holding [v] (truthy v)) := by intro _; rfl) : DT X C a (dTru ta) := by
  obtain ⟨te, h1, h2⟩ := h.ex
  refine ⟨⟨_, pt_truth h1 he, fun S σ H E P Q rl hp q => h2 S σ H E _ _ rl hp fun v d H1 g1 p1 v1 => ?_⟩⟩
  obtain ⟨k, e, p2⟩ := p1
  exact ⟨k, tru_of v1 e, q k H1 g1 p2⟩
theorem de_orT (ha : DE X C a ta) (hb : DE X C (.BoolOp .Or (b :: rest) pos) tb) : DE X C (.BoolOp .Or (a :: b :: rest) pos) (dOrT ta tb) := by
  obtain ⟨te, h1, h2⟩ := ha.ex
  obtain ⟨tu, t1, t2⟩ := hb.ex
  refine ⟨⟨_, pe_orT h1 t1, fun S σ H E P Q rl hp q => h2 S σ H E _ _ rl hp fun v d H1 g1 p1 v1 => ?_⟩⟩
  obtain ⟨k, e, p2⟩ := p1
  refine ⟨k, tru_of v1 e, ?_⟩
  cases k with
  | true => rw [if_pos rfl] at p2 ⊢; exact q v d H1 g1 p2 v1
  | false => rw [if_neg Bool.false_ne_true] at p2 ⊢; exact t2 S σ H1 E P Q (rl.go g1) p2 fun v d H' g => q v d H' (g1.trans g)
theorem de_andT (ha : DE X C a ta) (hb : DE X C (.BoolOp .And (b :: rest) pos) tb) : DE X C (.BoolOp .And (a :: b :: rest) pos) (dAndT ta tb) := by
  obtain ⟨te, h1, h2⟩ := ha.ex
  obtain ⟨tu, t1, t2⟩ := hb.ex
  refine ⟨⟨_, pe_andT h1 t1, fun S σ H E P Q rl hp q => h2 S σ H E _ _ rl hp fun v d H1 g1 p1 v1 => ?_⟩⟩
  obtain ⟨k, e, p2⟩ := p1
  refine ⟨k, tru_of v1 e, ?_⟩
  cases k with
  | false => rw [if_neg Bool.false_ne_true] at p2 ⊢; exact q v d H1 g1 p2 v1
  | true => rw [if_pos rfl] at p2 ⊢; exact t2 S σ H1 E P Q (rl.go g1) p2 fun v d H' g => q v d H' (g1.trans g)
theorem de_one {op} (h : DE X C a ta) : DE X C (.BoolOp op [a] pos) ta := let ⟨te, h1, h2⟩ := h.ex; ⟨⟨_, pe_one h1, h2⟩⟩
theorem de_notT (ha : DE X C a ta) : DE X C (.UnaryOp .Not a pos) (dNotT ta) := by
  obtain ⟨te, h1, h2⟩ := ha.ex
  refine ⟨⟨_, pe_notT h1, fun S σ H E P Q rl hp q => h2 S σ H E _ _ rl hp fun v d H1 g1 p1 v1 => ?_⟩⟩
  obtain ⟨k, e, p2⟩ := p1
  exact ⟨k, tru_of v1 e, q _ _ H1 g1 p2 (.bl _)⟩
theorem de_if (hc : DT X C c uc) (ha : DE X C a ta) (hb : DE X C b tb) : DE X C (.IfExp c a b pos) (dIf uc ta tb) := by
  obtain ⟨tc, c1, c2⟩ := hc.ex
  obtain ⟨te, h1, h2⟩ := ha.ex
  obtain ⟨tu, t1, t2⟩ := hb.ex
  refine ⟨⟨_, pe_ifExp c1 h1 t1, fun S σ H E P Q rl hp q => c2 S σ H E _ _ rl hp fun b H1 g1 p1 => ?_⟩⟩
  cases b with
  | true => rw [if_pos rfl] at p1 ⊢; exact h2 S σ H1 E P Q (rl.go g1) p1 fun v d H' g => q v d H' (g1.trans g)
  | false => rw [if_neg Bool.false_ne_true] at p1 ⊢; exact t2 S σ H1 E P Q (rl.go g1) p1 fun v d H' g => q v d H' (g1.trans g)
end

/-! ### calls -/
abbrev FN := List D → (D → Prop) → Prop
def CallD (K : PySem.W.Frag) (C : Cf) (r : List V → Hp → VK → Prop) (f : FN) : Prop := ∀ (S : AS) (H : Hp) (vs : List V) (ds : List D) (P : D → Prop) (Q : VK), Ok C S H → DVs K (hid H S) vs ds → f ds P →
  (∀ v d H', Go C H H' → P d → DV K (hid H' S) v d → Q v H') → r vs H Q
def dCall (f : FN) (t : TDs) : TD := fun E P => t E fun ds => f ds P
/-- what a def is worth: for a law's own objects C and the arguments' data, any datum for which P holds -/
def spD (K : PySem.W.Frag) (F : Cf → FN) : Sp := fun vs H Q _ => ∃ (C : Cf) (S : AS) (ds : List D) (P : D → Prop), Ok C S H ∧ DVs K (hid H S) vs ds ∧ F C ds P ∧ ∀ v d H', Go C H H' → P d → DV K (hid H' S) v d → Q v H'
section
variable {X : Cx} {C : Cf} {e : Expr} {es : List Expr} {td : TDs} {f : FN} {r : List V → Hp → VK → Prop} {x : Str} {id T : String} {p pos : Pos}
theorem ev_call {ta : TA} (h : EvA X.K C ta td) (o : CallD X.K C r f) : EvD X.K C (tCB r ta) (dCall f td) := fun S σ H E P Q rl hp q =>
  h S σ H E _ _ rl hp fun vs ds H1 g1 p1 v1 => o S H1 vs ds P Q (rl.ok.go g1) v1 p1 fun v d H' g => q v d H' (g1.trans g)
theorem de_blt (o : CallD X.K C r f) (hc : CallR X (.builtin id) r) (hg : Gl X x) (hm : X.mg x = none) (hv : bootBuiltins x = some (.builtin id)) (ha : DA X C (e :: es) td) (hn : x ≠ "__name__" := by decide) (hdb : (x == ("__debug__" : Str)) = false := by decide)
    (he : starEach (e :: es) X.env = (false, eval e X.env) :: starEach es X.env := by rfl) (hpl : (backTo pos (starEach es X.env)).any (·.1) = false := by rfl) : DE X C (.Call (.Name x p) (e :: es) [] pos) (dCall f td) := by
  obtain ⟨ta, a1, a2⟩ := ha.ex
  exact ⟨⟨_, pe_callB hc hg hm hv a1 hn hdb he hpl, ev_call a2 o⟩⟩
theorem de_typ (o : CallD X.K C r f) (hc : CallR X (.type T) r) (hg : Gl X x) (hm : X.mg x = none) (hv : bootBuiltins x = some (.type T)) (ha : DA X C (e :: es) td) (hn : x ≠ "__name__" := by decide) (hdb : (x == ("__debug__" : Str)) = false := by decide)
    (he : starEach (e :: es) X.env = (false, eval e X.env) :: starEach es X.env := by rfl) (hpl : (backTo pos (starEach es X.env)).any (·.1) = false := by rfl) : DE X C (.Call (.Name x p) (e :: es) [] pos) (dCall f td) := by
  obtain ⟨ta, a1, a2⟩ := ha.ex
  exact ⟨⟨_, pe_callTy hc hg hm hv a1 hn hdb he hpl, ev_call a2 o⟩⟩
theorem ev_sp {ta : TA} {F : Cf → FN} {E0 : XK} (h : EvA X.K C ta td) : EvD X.K C (fun σ H Q => ta σ H fun vs H1 => spD X.K F vs H1 Q E0) (dCall (F C) td) := fun S σ H E P Q rl hp q =>
  h S σ H E _ _ rl hp fun vs ds H1 g1 p1 v1 => ⟨C, S, ds, P, rl.ok.go g1, v1, p1, fun v d H' g => q v d H' (g1.trans g)⟩
variable {k : Nat} {fa : Addr} {fd : FuncData} {ps ks : List Str} {F : Cf → FN}
theorem de_fn (G : FnG X.prog X.w X.K X.mg X.base CX0 k fa fd ps (spD X.K F)) (hgd : X.A.guards = some []) (hr : Room k X.A) (hm : X.mg x = some (.ref fa)) (hk : PySem.W.keepIn X.K (.ref fa) = true) (hb : L2.Binds X.K fd ps []) (hg : Gl X x)
    (ha : DA X C (e :: es) td) (hdb : (x == ("__debug__" : Str)) = false := by decide) (he : starEach (e :: es) X.env = (false, eval e X.env) :: starEach es X.env := by rfl) (hpl : (backTo pos (starEach es X.env)).any (·.1) = false := by rfl) :
    DE X C (.Call (.Name x p) (e :: es) [] pos) (dCall (F C) td) := by
  obtain ⟨ta, a1, a2⟩ := ha.ex
  exact ⟨⟨_, pe_go G hgd hr hg hm hk hb pass0 a1 hdb he hpl, ev_sp a2⟩⟩
end
end L3
namespace L3
open PySem PySem.Spec PyProof.Rows L2

/-! ### the slots of a def: data, or a list (a dict) of the def's own that may still grow -/
inductive Sl where
  | no
  | dat (d : D)
  | own (ds : List D)
  | owd (kvs : List (Key × D))
abbrev Rho := List Sl
def Sl.isOwn : Sl → Bool
  | .own _ => true
  | .owd _ => true
  | _ => false
def ownAt (ρ : Rho) (i : Nat) : Prop := ∃ s, ρ[i]? = some s ∧ s.isOwn = true
def Vol (S0 : AS) (al : Nat → Addr) (ρ : Rho) : AS := fun a => S0 a ∨ ∃ i, ownAt ρ i ∧ al i = a
def view1 : Sl → Option D
  | .dat d => some d
  | _ => none
def frz1 : Sl → Option D
  | .dat d => some d
  | .own ds => some (.lst ds)
  | .owd ks => some (.dic ks)
  | .no => none
def thaw1 : Sl → Sl
  | .own ds => .dat (.lst ds)
  | .owd ks => .dat (.dic ks)
  | s => s
def view (ρ : Rho) : En := ρ.map view1
def frz (ρ : Rho) : En := ρ.map frz1
def thaw (ρ : Rho) : Rho := ρ.map thaw1
abbrev Gs := List (V × D)
def GsOk (K : PySem.W.Frag) (H : Hp) (S : AS) (gs : Gs) : Prop := ∀ g ∈ gs, DV K (hid H S) g.1 g.2
structure EnvR (K : PySem.W.Frag) (C : Cf) (S0 : AS) (H0 : Hp) (gs : Gs) (al : Nat → Addr) (ρ : Rho) (σ : L2.St) (H : Hp) : Prop where
  len : σ.length = ρ.length
  ok : Ok C S0 H
  ext : Ext C.G H0 H
  old : ∀ a, S0 a → H0 a ≠ none
  dat : ∀ (i : Nat) (d : D), ρ[i]? = some (.dat d) → ∃ v, σ[i]? = some (some v) ∧ DV K (hid H (Vol S0 al ρ)) v d
  own : ∀ (i : Nat) (ds : List D), ρ[i]? = some (.own ds) → σ[i]? = some (some (.ref (al i))) ∧ ∃ vs, H (al i) = some (.lst vs) ∧ DVs K (hid H (Vol S0 al ρ)) vs ds
  owd : ∀ (i : Nat) (ks : List (Key × D)), ρ[i]? = some (.owd ks) → σ[i]? = some (some (.ref (al i))) ∧ ∃ vs, H (al i) = some (.dK vs) ∧ DKs K (hid H (Vol S0 al ρ)) vs ks
  new : ∀ i, ownAt ρ i → H0 (al i) = none
  inj : ∀ i j, ownAt ρ i → ownAt ρ j → al i = al j → i = j
  gh : GsOk K H (Vol S0 al ρ) gs

section
variable {K : PySem.W.Frag} {C : Cf} {S0 : AS} {H0 H H' : Hp} {gs : Gs} {al : Nat → Addr} {ρ : Rho} {σ : L2.St}
theorem EnvR.alive (r : EnvR K C S0 H0 gs al ρ σ H) {i : Nat} (h : ownAt ρ i) : ∃ o, H (al i) = some o := by
  obtain ⟨s, e, q⟩ := h
  cases s with
  | own ds => obtain ⟨_, vs, z, _⟩ := r.own i ds e; exact ⟨_, z⟩
  | owd ds => obtain ⟨_, vs, z, _⟩ := r.owd i ds e; exact ⟨_, z⟩
  | no => cases q
  | dat d => cases q
theorem EnvR.notG (r : EnvR K C S0 H0 gs al ρ σ H) {i : Nat} (h : ownAt ρ i) : ¬ C.G (al i) := fun q => r.old _ (r.ok.g _ q) (r.new i h)
theorem EnvR.vok (r : EnvR K C S0 H0 gs al ρ σ H) : Ok C (Vol S0 al ρ) H := ⟨r.ok.i, fun a h => .inl (r.ok.g a h), fun a h => by
  rcases h with h | ⟨i, h, rfl⟩
  · exact r.ok.l a h
  · obtain ⟨o, e⟩ := r.alive h; rw [e]; intro z; cases z⟩
theorem map_at {f : Sl → Option D} {ρ : Rho} {i : Nat} {d : D} (h : (ρ.map f)[i]? = some (some d)) : ∃ s, ρ[i]? = some s ∧ f s = some d := by
  rw [List.getElem?_map] at h
  cases e : ρ[i]? with
  | none => rw [e] at h; cases h
  | some s => rw [e] at h; exact ⟨s, rfl, Option.some.inj h⟩
theorem EnvR.relA (r : EnvR K C S0 H0 gs al ρ σ H) : Rel K C (Vol S0 al ρ) (view ρ) σ H := ⟨r.vok, by unfold view; rw [List.length_map, r.len]; exact Nat.le_refl _, fun i d h => by
  obtain ⟨s, e, q⟩ := map_at h
  cases s with
  | dat d' => cases q; exact r.dat i d e
  | own _ => cases q
  | owd _ => cases q
  | no => cases q⟩
theorem EnvR.relB (r : EnvR K C S0 H0 gs al ρ σ H) : Rel K C S0 (frz ρ) σ H := ⟨r.ok, by unfold frz; rw [List.length_map, r.len]; exact Nat.le_refl _, fun i d h => by
  have sub : Same (hid H (Vol S0 al ρ)) (hid H S0) := same_hid_sub fun a h => .inl h
  obtain ⟨s, e, q⟩ := map_at h
  cases s with
  | dat d' => cases q; obtain ⟨v, h1, h2⟩ := r.dat i d e; exact ⟨v, h1, h2.mono sub⟩
  | own ds =>
    cases q
    obtain ⟨h1, vs, h2, h3⟩ := r.own i ds e
    refine ⟨_, h1, .lst (hid_some.mpr ⟨fun z => ?_, h2⟩) (h3.mono sub)⟩
    exact r.old _ z (r.new i ⟨_, e, rfl⟩)
  | owd ds =>
    cases q
    obtain ⟨h1, vs, h2, h3⟩ := r.owd i ds e
    refine ⟨_, h1, .dic (hid_some.mpr ⟨fun z => ?_, h2⟩) (h3.mono sub)⟩
    exact r.old _ z (r.new i ⟨_, e, rfl⟩)
  | no => cases q⟩
theorem EnvR.go (r : EnvR K C S0 H0 gs al ρ σ H) (g : Go C H H') : EnvR K C S0 H0 gs al ρ σ H' := by
  have vs := g.vis r.vok
  refine ⟨r.len, r.ok.go g, r.ext.trans g.e, r.old, fun i d e => ?_, fun i d e => ?_, fun i d e => ?_, r.new, r.inj, fun x hx => (r.gh x hx).mono vs⟩
  · obtain ⟨v, h1, h2⟩ := r.dat i d e; exact ⟨v, h1, h2.mono vs⟩
  · obtain ⟨h1, w, h2, h3⟩ := r.own i d e; exact ⟨h1, w, g.e _ _ (r.notG ⟨_, e, rfl⟩) h2, h3.mono vs⟩
  · obtain ⟨h1, w, h2, h3⟩ := r.owd i d e; exact ⟨h1, w, g.e _ _ (r.notG ⟨_, e, rfl⟩) h2, h3.mono vs⟩
theorem set_at {α : Type} {l : List α} {i j : Nat} {s x : α} (h : (l.set i s)[j]? = some x) : (i = j ∧ i < l.length ∧ x = s) ∨ (i ≠ j ∧ l[j]? = some x) := by
  rw [List.getElem?_set] at h
  split at h
  · split at h
    · exact .inl ⟨‹_›, ‹_›, (Option.some.inj h).symm⟩
    · cases h
  · exact .inr ⟨‹_›, h⟩
theorem ownAt_set {i j : Nat} {s : Sl} (h : ownAt (ρ.set i s) j) : (i = j ∧ s.isOwn = true ∧ i < ρ.length) ∨ (i ≠ j ∧ ownAt ρ j) := by
  obtain ⟨t, e, q⟩ := h
  rcases set_at e with ⟨rfl, hl, rfl⟩ | ⟨ne, e⟩
  · exact .inl ⟨rfl, q, hl⟩
  · exact .inr ⟨ne, t, e, q⟩
theorem EnvR.setDat (r : EnvR K C S0 H0 gs al ρ σ H) (i : Nat) {v : V} {d : D} (h : DV K (hid H (Vol S0 al ρ)) v d) : EnvR K C S0 H0 gs al (ρ.set i (.dat d)) (σ.set i (some v)) H := by
  have sub : Same (hid H (Vol S0 al ρ)) (hid H (Vol S0 al (ρ.set i (.dat d)))) := same_hid_sub fun a h => by
    rcases h with h | ⟨j, h, e⟩
    · exact .inl h
    · rcases ownAt_set h with ⟨_, z, _⟩ | ⟨_, z⟩
      · cases z
      · exact .inr ⟨j, z, e⟩
  have oo : ∀ {j}, ownAt (ρ.set i (.dat d)) j → ownAt ρ j := fun h => by
    rcases ownAt_set h with ⟨_, z, _⟩ | ⟨_, z⟩
    · cases z
    · exact z
  refine ⟨by simp [r.len], r.ok, r.ext, r.old, fun j e q => ?_, fun j e q => ?_, fun j e q => ?_, fun j q => r.new j (oo q), fun j k a b => r.inj j k (oo a) (oo b), fun x hx => (r.gh x hx).mono sub⟩
  · rcases set_at q with ⟨rfl, hl, z⟩ | ⟨ne, z⟩
    · cases z
      exact ⟨v, by rw [List.getElem?_set_self (by rw [r.len]; exact hl)], h.mono sub⟩
    · obtain ⟨w, h1, h2⟩ := r.dat j e z
      exact ⟨w, by rw [List.getElem?_set_ne ne]; exact h1, h2.mono sub⟩
  · rcases set_at q with ⟨rfl, hl, z⟩ | ⟨ne, z⟩
    · cases z
    · obtain ⟨h1, w, h2, h3⟩ := r.own j e z
      exact ⟨by rw [List.getElem?_set_ne ne]; exact h1, w, h2, h3.mono sub⟩
  · rcases set_at q with ⟨rfl, hl, z⟩ | ⟨ne, z⟩
    · cases z
    · obtain ⟨h1, w, h2, h3⟩ := r.owd j e z
      exact ⟨by rw [List.getElem?_set_ne ne]; exact h1, w, h2, h3.mono sub⟩
/-- a slot that gets a new list of its own -/
theorem EnvR.setOwn (r : EnvR K C S0 H0 gs al ρ σ H) (i : Nat) {p : Addr} {vs : List V} {ds : List D} (np : H p = none) (h : DVs K (hid H (Vol S0 al ρ)) vs ds) :
    EnvR K C S0 H0 gs (fun j => if j = i then p else al j) (ρ.set i (.own ds)) (σ.set i (some (.ref p))) (upd H p (.lst vs)) := by
  have g : Go C H (upd H p (.lst vs)) := Go.new r.ok np
  have np0 : H0 p = none := by
    cases e : H0 p with
    | none => rfl
    | some o =>
      by_cases q : C.G p
      · exact absurd np (C.liv H p r.ok.i q)
      · rw [r.ext p o q e] at np; cases np
  have nal : ∀ {j}, ownAt ρ j → al j ≠ p := fun h z => by obtain ⟨o, e⟩ := r.alive h; rw [z, np] at e; cases e
  have vv := g.vis r.vok
  have sub : Same (hid H (Vol S0 al ρ)) (hid (upd H p (.lst vs)) (Vol S0 (fun j => if j = i then p else al j) (ρ.set i (.own ds)))) := fun a o q => by
    obtain ⟨q1, q2⟩ := hid_some.mp q
    have nap : a ≠ p := ne_of_none q2 np
    refine hid_some.mpr ⟨fun z => ?_, by rw [upd_ne nap]; exact q2⟩
    rcases z with z | ⟨j, z, e⟩
    · exact q1 (.inl z)
    · have e : (if j = i then p else al j) = a := e
      rcases ownAt_set z with ⟨rfl, _, _⟩ | ⟨ne, z⟩
      · rw [if_pos rfl] at e; exact nap e.symm
      · rw [if_neg (fun z : j = i => ne z.symm)] at e; exact q1 (.inr ⟨j, z, e⟩)
  refine ⟨by simp [r.len], r.ok.go g, r.ext.trans g.e, r.old, fun j e q => ?_, fun j e q => ?_, fun j e q => ?_, fun j q => ?_, fun j k a b e => ?_, fun x hx => (r.gh x hx).mono sub⟩
  · rcases set_at q with ⟨rfl, hl, z⟩ | ⟨ne, z⟩
    · cases z
    · obtain ⟨w, h1, h2⟩ := r.dat j e z
      exact ⟨w, by rw [List.getElem?_set_ne ne]; exact h1, h2.mono sub⟩
  · rcases set_at q with ⟨rfl, hl, z⟩ | ⟨ne, z⟩
    · cases z
      refine ⟨by rw [List.getElem?_set_self (by rw [r.len]; exact hl)]; simp, vs, by simp only [if_pos rfl, ite_true]; exact upd_same, h.mono sub⟩
    · obtain ⟨h1, w, h2, h3⟩ := r.own j e z
      have nj : ¬ j = i := fun z => ne z.symm
      refine ⟨by simp only [if_neg nj]; rw [List.getElem?_set_ne ne]; exact h1, w, by simp only [if_neg nj]; rw [upd_ne (nal ⟨_, z, rfl⟩)]; exact h2, h3.mono sub⟩
  · rcases set_at q with ⟨rfl, hl, z⟩ | ⟨ne, z⟩
    · cases z
    · obtain ⟨h1, w, h2, h3⟩ := r.owd j e z
      have nj : ¬ j = i := fun z => ne z.symm
      refine ⟨by simp only [if_neg nj]; rw [List.getElem?_set_ne ne]; exact h1, w, by simp only [if_neg nj]; rw [upd_ne (nal ⟨_, z, rfl⟩)]; exact h2, h3.mono sub⟩
  · rcases ownAt_set q with ⟨rfl, _, _⟩ | ⟨ne, z⟩
    · simp only [if_pos rfl]; exact np0
    · have nj : ¬ j = i := fun z => ne z.symm
      simp only [if_neg nj]; exact r.new j z
  · have e : (if j = i then p else al j) = (if k = i then p else al k) := e
    rcases ownAt_set a with ⟨ea, _, _⟩ | ⟨ne, a⟩ <;> rcases ownAt_set b with ⟨eb, _, _⟩ | ⟨ne2, b⟩
    · exact ea.symm.trans eb
    · rw [if_pos ea.symm, if_neg (fun z : k = i => ne2 z.symm)] at e
      exact absurd e.symm (nal b)
    · rw [if_pos eb.symm, if_neg (fun z : j = i => ne z.symm)] at e
      exact absurd e (nal a)
    · rw [if_neg (fun z : j = i => ne z.symm), if_neg (fun z : k = i => ne2 z.symm)] at e
      exact r.inj j k a b e
/-- the own list of a slot is changed -/
theorem EnvR.wrOwn (r : EnvR K C S0 H0 gs al ρ σ H) {i : Nat} {ds0 ds : List D} {vs : List V} (e0 : ρ[i]? = some (.own ds0)) (h : DVs K (hid H (Vol S0 al ρ)) vs ds) :
    EnvR K C S0 H0 gs al (ρ.set i (.own ds)) σ (upd H (al i) (.lst vs)) := by
  have oi : ownAt ρ i := ⟨_, e0, rfl⟩
  have ng := r.notG oi
  have hl : i < ρ.length := (List.getElem?_eq_some_iff.mp e0).1
  have oo : ∀ {j}, ownAt (ρ.set i (.own ds)) j → ownAt ρ j := fun h => by
    rcases ownAt_set h with ⟨rfl, z, _⟩ | ⟨_, z⟩
    · exact oi
    · exact z
  have sub : Same (hid H (Vol S0 al ρ)) (hid (upd H (al i) (.lst vs)) (Vol S0 al (ρ.set i (.own ds)))) := fun a o q => by
    obtain ⟨q1, q2⟩ := hid_some.mp q
    have na : a ≠ al i := fun z => q1 (.inr ⟨i, oi, z.symm⟩)
    refine hid_some.mpr ⟨fun z => ?_, by rw [upd_ne na]; exact q2⟩
    rcases z with z | ⟨j, z, e⟩
    · exact q1 (.inl z)
    · exact q1 (.inr ⟨j, oo z, e⟩)
  have i2 : C.I (upd H (al i) (.lst vs)) := C.loc H _ (fun a ga => upd_ne (fun z => ng (z ▸ ga))) r.ok.i
  refine ⟨by simp [r.len], ⟨i2, r.ok.g, fun a ha => ?_⟩, fun a o ga e => ?_, r.old, fun j e q => ?_, fun j e q => ?_, fun j e q => ?_, fun j q => r.new j (oo q), fun j k a b e => r.inj j k (oo a) (oo b) e, fun x hx => (r.gh x hx).mono sub⟩
  · by_cases z : a = al i
    · subst z; rw [upd_same]; intro z; cases z
    · rw [upd_ne z]; exact r.ok.l a ha
  · have z : a ≠ al i := fun z => by rw [z, r.new i oi] at e; cases e
    rw [upd_ne z]; exact r.ext a o ga e
  · rcases set_at q with ⟨rfl, hl, z⟩ | ⟨ne, z⟩
    · cases z
    · obtain ⟨w, h1, h2⟩ := r.dat j e z
      exact ⟨w, h1, h2.mono sub⟩
  · rcases set_at q with ⟨rfl, hl, z⟩ | ⟨ne, z⟩
    · cases z
      exact ⟨(r.own i ds0 e0).1, vs, upd_same, h.mono sub⟩
    · obtain ⟨h1, w, h2, h3⟩ := r.own j e z
      exact ⟨h1, w, by rw [upd_ne (fun z' => ne (r.inj j i ⟨_, z, rfl⟩ oi z').symm)]; exact h2, h3.mono sub⟩
  · rcases set_at q with ⟨rfl, hl, z⟩ | ⟨ne, z⟩
    · cases z
    · obtain ⟨h1, w, h2, h3⟩ := r.owd j e z
      exact ⟨h1, w, by rw [upd_ne (fun z' => ne (r.inj j i ⟨_, z, rfl⟩ oi z').symm)]; exact h2, h3.mono sub⟩
/-- all own lists become data -/
theorem thaw_at {i : Nat} {d : D} (h : (thaw ρ)[i]? = some (.dat d)) : (frz ρ)[i]? = some (some d) := by
  unfold thaw at h
  unfold frz
  rw [List.getElem?_map] at h ⊢
  cases e : ρ[i]? with
  | none => rw [e] at h; cases h
  | some s =>
    rw [e] at h
    cases s <;> cases h <;> rfl
theorem thaw_not {i : Nat} (h : ownAt (thaw ρ) i) : False := by
  obtain ⟨s, e, q⟩ := h
  unfold thaw at e
  rw [List.getElem?_map] at e
  cases z : ρ[i]? with
  | none => rw [z] at e; cases e
  | some t => rw [z] at e; cases t <;> cases e <;> cases q
theorem vol_thaw : Same (hid H S0) (hid H (Vol S0 al (thaw ρ))) := same_hid_sub fun a h => by
  rcases h with h | ⟨j, h, e⟩
  · exact h
  · exact (thaw_not h).elim
theorem EnvR.thaw (r : EnvR K C S0 H0 gs al ρ σ H) : EnvR K C S0 H0 gs al (thaw ρ) σ H := by
  refine ⟨by rw [r.len]; unfold L3.thaw; simp, r.ok, r.ext, r.old, fun j d q => ?_, fun j e q => (thaw_not ⟨_, q, rfl⟩).elim, fun j e q => (thaw_not ⟨_, q, rfl⟩).elim, fun j q => (thaw_not q).elim, fun j k a => (thaw_not a).elim, fun x hx => (r.gh x hx).mono ?_⟩
  · obtain ⟨v, h1, h2⟩ := r.relB.at_ j d (thaw_at q)
    exact ⟨v, h1, h2.mono vol_thaw⟩
  · exact same_hid_sub fun a h => by
      rcases h with h | ⟨j, h, e⟩
      · exact .inl h
      · exact (thaw_not h).elim
end

/-! ### statements -/
structure EndsD where
  nx : Rho → Prop
  rt : D → Prop
  bk : Rho → Prop := fun _ => False
  ct : Rho → Prop := fun _ => False
abbrev TSd := EndsD → Rho → Prop
structure Good (K : PySem.W.Frag) (C : Cf) (S0 : AS) (H0 : Hp) (gs : Gs) (Dn : EndsD) (D' : Ends) : Prop where
  nx : ∀ al ρ σ H, EnvR K C S0 H0 gs al ρ σ H → Dn.nx ρ → D'.nx σ H
  rt : ∀ v d H, Ext C.G H0 H → C.I H → Dn.rt d → DV K (hid H S0) v d → D'.rt v H
  bk : ∀ al ρ σ H, EnvR K C S0 H0 gs al ρ σ H → Dn.bk ρ → D'.bk σ H
  ct : ∀ al ρ σ H, EnvR K C S0 H0 gs al ρ σ H → Dn.ct ρ → D'.ct σ H
def EvS (K : PySem.W.Frag) (C : Cf) (t : TS) (ts : TSd) : Prop := ∀ (S0 : AS) (H0 : Hp) (gs : Gs) (al : Nat → Addr) (ρ : Rho) (σ : L2.St) (H : Hp) (Dn : EndsD) (D' : Ends), EnvR K C S0 H0 gs al ρ σ H → ts Dn ρ → Good K C S0 H0 gs Dn D' → t D' σ H
structure DS (X : Cx) (C : Cf) (st : Stmt) (ts : TSd) : Prop where
  ex : ∃ t, PS X st t ∧ EvS X.K C t ts
structure DSs (X : Cx) (C : Cf) (st : List Stmt) (ts : TSd) : Prop where
  ex : ∃ t, PSs X st t ∧ EvS X.K C t ts
def sNx : TSd := fun Dn ρ => Dn.nx ρ
def sBk : TSd := fun Dn ρ => Dn.bk ρ
def sCt : TSd := fun Dn ρ => Dn.ct ρ
def sSeq (t u : TSd) : TSd := fun Dn ρ => t { Dn with nx := u Dn } ρ
def flatD : D → Bool
  | .non => true
  | .bl _ => true
  | .int _ => true
  | .str _ => true
  | .op _ => true
  | _ => false
theorem flat_any {K : PySem.W.Frag} {H H' : Hp} {v : V} {d : D} (h : DV K H v d) (f : flatD d = true) : DV K H' v d := by
  cases h with
  | non => exact .non
  | bl b => exact .bl b
  | int b => exact .int b
  | str b => exact .str b
  | op _ => exact .op _
  | lst _ _ => cases f
  | tup _ _ => cases f
  | dic _ _ => cases f
  | scr _ => cases f
def sSet (i : Nat) (t : TD) : TSd := fun Dn ρ => t (view ρ) fun d => Dn.nx (ρ.set i (.dat d))
def sSetF (i : Nat) (t : TD) : TSd := fun Dn ρ => t (frz ρ) fun d => flatD d = true ∧ Dn.nx (ρ.set i (.dat d))
def sSetZ (i : Nat) (t : TD) : TSd := fun Dn ρ => t (frz ρ) fun d => Dn.nx ((thaw ρ).set i (.dat d))
def sOwn (i : Nat) (t : TDs) : TSd := fun Dn ρ => t (view ρ) fun ds => ds.length ≤ 100000 ∧ Dn.nx (ρ.set i (.own ds))
def sApp (i : Nat) (t : TD) : TSd := fun Dn ρ => ∃ ds, ρ[i]? = some (.own ds) ∧ t (view ρ) fun d => ds.length < 100000 ∧ Dn.nx (ρ.set i (.own (ds ++ [d])))
def sAppF (i : Nat) (t : TD) : TSd := fun Dn ρ => ∃ ds, ρ[i]? = some (.own ds) ∧ t (frz ρ) fun d => flatD d = true ∧ ds.length < 100000 ∧ Dn.nx (ρ.set i (.own (ds ++ [d])))
def sIf (c : TDb) (t u : TSd) : TSd := fun Dn ρ => c (frz ρ) fun b => if b = true then t Dn ρ else u Dn ρ
def sRet (t : TD) : TSd := fun Dn ρ => t (frz ρ) Dn.rt
def sRetN : TSd := fun Dn _ => Dn.rt .non
def sExp (t : TD) : TSd := fun Dn ρ => t (view ρ) fun _ => Dn.nx ρ
section
variable {X : Cx} {C : Cf} {st : Stmt} {rest : List Stmt} {ts us : TSd} {e : Expr} {td : TD} {i : Nat} {x : Str} {pos pos' : Pos}
theorem dss_nil : DSs X C [] sNx := ⟨⟨_, pss_nil, fun S0 H0 gs al ρ σ H Dn D' r h g => g.nx al ρ σ H r h⟩⟩
theorem ds_pass : DS X C (.Pass pos) sNx := ⟨⟨_, ps_pass, fun S0 H0 gs al ρ σ H Dn D' r h g => g.nx al ρ σ H r h⟩⟩
theorem ds_brk : DS X C (.Break pos) sBk := ⟨⟨_, ps_break, fun S0 H0 gs al ρ σ H Dn D' r h g => g.bk al ρ σ H r h⟩⟩
theorem ds_cont : DS X C (.Continue pos) sCt := ⟨⟨_, ps_continue, fun S0 H0 gs al ρ σ H Dn D' r h g => g.ct al ρ σ H r h⟩⟩
theorem dss_one (h : DS X C st ts) : DSs X C [st] ts := let ⟨t, h1, h2⟩ := h.ex; ⟨⟨t, pss_one h1, h2⟩⟩
theorem dss_cons (h : DS X C st ts) (k : DSs X C rest us) : DSs X C (st :: rest) (sSeq ts us) := by
  obtain ⟨t, h1, h2⟩ := h.ex
  obtain ⟨u, k1, k2⟩ := k.ex
  exact ⟨⟨_, pss_cons h1 k1, fun S0 H0 gs al ρ σ H Dn D' r h g => h2 S0 H0 gs al ρ σ H _ _ r h ⟨fun al ρ σ H r h => k2 S0 H0 gs al ρ σ H Dn D' r h g, g.rt, g.bk, g.ct⟩⟩⟩
theorem ev_set {te : TE} (h : EvD X.K C te td) : EvS X.K C (tAsg te (gName i)) (sSet i td) := fun S0 H0 gs al ρ σ H Dn D' r hp g => by
  refine h _ σ H _ _ _ r.relA hp fun v d H1 g1 p1 v1 => ?_
  exact g.nx al _ _ H1 ((r.go g1).setDat i v1) p1
theorem ev_setF {te : TE} (h : EvD X.K C te td) : EvS X.K C (tAsg te (gName i)) (sSetF i td) := fun S0 H0 gs al ρ σ H Dn D' r hp g => by
  refine h _ σ H _ _ _ r.relB hp fun v d H1 g1 p1 v1 => ?_
  exact g.nx al _ _ H1 ((r.go g1).setDat i (flat_any v1 p1.1)) p1.2
theorem ev_setZ {te : TE} (h : EvD X.K C te td) : EvS X.K C (tAsg te (gName i)) (sSetZ i td) := fun S0 H0 gs al ρ σ H Dn D' r hp g => by
  refine h _ σ H _ _ _ r.relB hp fun v d H1 g1 p1 v1 => ?_
  exact g.nx al _ _ H1 ((r.go g1).thaw.setDat i (v1.mono vol_thaw)) p1
/-- what a plain x = e asks of the text -/
structure NmOk (X : Cx) (i : Nat) (x : Str) : Prop where
  nd : X.N.Nodup
  at_ : X.N[i]? = some x
  loc : Loc X.env.scope x
  fn : X.fn x = true ∨ X.env.scope.names.lookup x = some .local
theorem ds_set (n : NmOk X i x) (h : DE X C e td) (hs : swapsWith e (some (.Name x pos')) pos.line X.env = pure false := by rfl) : DS X C (.Assign [.Name x pos'] e pos) (sSet i td) :=
  let ⟨te, h1, h2⟩ := h.ex; ⟨⟨_, ps_set n.nd n.at_ n.loc h1 hs n.fn, ev_set h2⟩⟩
theorem ds_setF (n : NmOk X i x) (h : DE X C e td) (hs : swapsWith e (some (.Name x pos')) pos.line X.env = pure false := by rfl) : DS X C (.Assign [.Name x pos'] e pos) (sSetF i td) :=
  let ⟨te, h1, h2⟩ := h.ex; ⟨⟨_, ps_set n.nd n.at_ n.loc h1 hs n.fn, ev_setF h2⟩⟩
theorem ds_setZ (n : NmOk X i x) (h : DE X C e td) (hs : swapsWith e (some (.Name x pos')) pos.line X.env = pure false := by rfl) : DS X C (.Assign [.Name x pos'] e pos) (sSetZ i td) :=
  let ⟨te, h1, h2⟩ := h.ex; ⟨⟨_, ps_set n.nd n.at_ n.loc h1 hs n.fn, ev_setZ h2⟩⟩
theorem ds_own {es : List Expr} {tds : TDs} {lpos : Pos} (n : NmOk X i x) (h : DA X C es tds) (hs : swapsWith (.List es lpos) (some (.Name x pos')) pos.line X.env = pure false := by rfl) : DS X C (.Assign [.Name x pos'] (.List es lpos) pos) (sOwn i tds) := by
  obtain ⟨ta, h1, h2⟩ := h.ex
  refine ⟨⟨_, ps_set n.nd n.at_ n.loc (pe_lst h1) hs n.fn, fun S0 H0 gs al ρ σ H Dn D' r hp g => ?_⟩⟩
  refine h2 _ σ H _ _ _ r.relA hp fun vs ds H1 g1 p1 v1 => ⟨small_line (by rw [v1.len]; exact p1.1), fun p np => ?_⟩
  exact g.nx _ _ _ _ ((r.go g1).setOwn i np v1) p1.2
theorem line_lt {n : Nat} (h : n < 100000) : n < sizeLine := Nat.lt_of_lt_of_le h (by decide)
theorem ds_app {o : Expr} {apos cpos : Pos} (ho : PE X o (tVar i)) (h : DE X C e td) (hbase : attributeBase o "append" X.env (eval o X.env) = eval o X.env := by rfl)
    (hfew : ((backTo cpos (starEach [e] X.env)).all (fun x => !x.1) && (backToKw cpos (keywordEach [] X.env)).all (fun x => x.1.isSome) && decide (([e] : List Expr).length + ([] : List Keyword).length + (if ([] : List Keyword).isEmpty then 0 else 1) < 30)) = true := by rfl)
    (hline : (apos.endLine == cpos.line) = true := by rfl) (hs : starEach [e] X.env = (false, eval e X.env) :: starEach [] X.env := by rfl) (hsw : swapsWith (.Call (.Attribute o "append" apos) [e] [] cpos) none pos.line X.env = pure false := by rfl) :
    DS X C (.Expr (.Call (.Attribute o "append" apos) [e] [] cpos) pos) (sApp i td) := by
  obtain ⟨te, h1, h2⟩ := h.ex
  refine ⟨⟨_, ps_expr (pe_bm PySem.F.plainAttrs_list PySem.F.slot_list_append PySem.F.type_list_append mt_append ho (pa_cons h1 pa_nil hs) hbase hfew hline hs rfl) hsw, fun S0 H0 gs al ρ σ H Dn D' r hp g => ?_⟩⟩
  obtain ⟨ds, e0, hp⟩ := hp
  obtain ⟨q1, vs, q2, q3⟩ := r.own i ds e0
  refine ⟨_, q1, .inl ⟨rfl, vs, .inl (.inl q2)⟩, ?_⟩
  refine h2 _ σ H _ _ _ r.relA hp fun v d H1 g1 p1 v1 => ?_
  have r1 := r.go g1
  obtain ⟨_, vs1, q4, q5⟩ := r1.own i ds e0
  refine ⟨al i, vs1, v, rfl, rfl, q4, line_lt (by rw [q5.len]; exact p1.1), ?_⟩
  exact g.nx _ _ _ _ (r1.wrOwn e0 (q5.app (.cons v1 .nil))) p1.2
theorem ds_appF {o : Expr} {apos cpos : Pos} (ho : PE X o (tVar i)) (h : DE X C e td) (hbase : attributeBase o "append" X.env (eval o X.env) = eval o X.env := by rfl)
    (hfew : ((backTo cpos (starEach [e] X.env)).all (fun x => !x.1) && (backToKw cpos (keywordEach [] X.env)).all (fun x => x.1.isSome) && decide (([e] : List Expr).length + ([] : List Keyword).length + (if ([] : List Keyword).isEmpty then 0 else 1) < 30)) = true := by rfl)
    (hline : (apos.endLine == cpos.line) = true := by rfl) (hs : starEach [e] X.env = (false, eval e X.env) :: starEach [] X.env := by rfl) (hsw : swapsWith (.Call (.Attribute o "append" apos) [e] [] cpos) none pos.line X.env = pure false := by rfl) :
    DS X C (.Expr (.Call (.Attribute o "append" apos) [e] [] cpos) pos) (sAppF i td) := by
  obtain ⟨te, h1, h2⟩ := h.ex
  refine ⟨⟨_, ps_expr (pe_bm PySem.F.plainAttrs_list PySem.F.slot_list_append PySem.F.type_list_append mt_append ho (pa_cons h1 pa_nil hs) hbase hfew hline hs rfl) hsw, fun S0 H0 gs al ρ σ H Dn D' r hp g => ?_⟩⟩
  obtain ⟨ds, e0, hp⟩ := hp
  obtain ⟨q1, vs, q2, q3⟩ := r.own i ds e0
  refine ⟨_, q1, .inl ⟨rfl, vs, .inl (.inl q2)⟩, ?_⟩
  refine h2 _ σ H _ _ _ r.relB hp fun v d H1 g1 p1 v1 => ?_
  have r1 := r.go g1
  obtain ⟨_, vs1, q4, q5⟩ := r1.own i ds e0
  refine ⟨al i, vs1, v, rfl, rfl, q4, line_lt (by rw [q5.len]; exact p1.2.1), ?_⟩
  exact g.nx _ _ _ _ (r1.wrOwn e0 (q5.app (.cons (flat_any v1 p1.1) .nil))) p1.2.2
theorem ds_if {c : Expr} {a b : List Stmt} {uc : TDb} (hc : DT X C c uc) (ha : DSs X C a ts) (hb : DSs X C b us) : DS X C (.If c a b pos) (sIf uc ts us) := by
  obtain ⟨tc, c1, c2⟩ := hc.ex
  obtain ⟨ta, a1, a2⟩ := ha.ex
  obtain ⟨tb, b1, b2⟩ := hb.ex
  refine ⟨⟨_, ps_if c1 a1 b1, fun S0 H0 gs al ρ σ H Dn D' r hp g => ?_⟩⟩
  refine c2 _ σ H _ _ _ r.relB hp fun b H1 g1 p1 => ?_
  cases b with
  | true => rw [if_pos rfl] at p1 ⊢; exact a2 _ _ _ _ _ _ _ _ _ (r.go g1) p1 g
  | false => rw [if_neg Bool.false_ne_true] at p1 ⊢; exact b2 _ _ _ _ _ _ _ _ _ (r.go g1) p1 g
theorem ds_ret (h : DE X C e td) : DS X C (.Return (some e) pos) (sRet td) := by
  obtain ⟨te, h1, h2⟩ := h.ex
  refine ⟨⟨_, ps_ret h1, fun S0 H0 gs al ρ σ H Dn D' r hp g => ?_⟩⟩
  refine h2 _ σ H _ _ _ r.relB hp fun v d H1 g1 p1 v1 => ?_
  exact g.rt v d H1 (r.ext.trans g1.e) g1.i p1 v1
theorem ds_retN : DS X C (.Return none pos) sRetN := ⟨⟨_, ps_retN, fun S0 H0 gs al ρ σ H Dn D' r hp g => g.rt .non .non H r.ext r.ok.i hp .non⟩⟩
theorem ds_exp (h : DE X C e td) (hs : swapsWith e none pos.line X.env = pure false := by rfl) : DS X C (.Expr e pos) (sExp td) := by
  obtain ⟨te, h1, h2⟩ := h.ex
  refine ⟨⟨_, ps_expr h1 hs, fun S0 H0 gs al ρ σ H Dn D' r hp g => ?_⟩⟩
  exact h2 _ σ H _ _ _ r.relA hp fun v d H1 g1 p1 v1 => g.nx al ρ σ H1 (r.go g1) p1
end

/-! ### a def by its body -/
def startD (N : List Str) (ds : List D) : Rho := ds.map Sl.dat ++ List.replicate (N.length - ds.length) Sl.no
theorem startD_dat {N : List Str} {ds : List D} {i : Nat} {d : D} (h : (startD N ds)[i]? = some (.dat d)) : ds[i]? = some d := by
  unfold startD at h
  by_cases hi : i < ds.length
  · rw [List.getElem?_append_left (by simpa using hi), List.getElem?_map] at h
    cases e : ds[i]? with
    | none => rw [e] at h; cases h
    | some x => rw [e] at h; cases h; rfl
  · rw [List.getElem?_append_right (by simpa using hi), List.getElem?_replicate] at h
    split at h <;> cases h
theorem startD_not {N : List Str} {ds : List D} {i : Nat} (h : ownAt (startD N ds) i) : False := by
  obtain ⟨s, e, q⟩ := h
  unfold startD at e
  by_cases hi : i < ds.length
  · rw [List.getElem?_append_left (by simpa using hi), List.getElem?_map] at e
    cases z : ds[i]? with
    | none => rw [z] at e; cases e
    | some x => rw [z] at e; cases e; cases q
  · rw [List.getElem?_append_right (by simpa using hi), List.getElem?_replicate] at e
    split at e <;> cases e
    cases q
theorem env_start {K : PySem.W.Frag} {C : Cf} {S : AS} {H : Hp} {N : List Str} {vs : List V} {ds : List D} (ok : Ok C S H) (h : DVs K (hid H S) vs ds) (hl : vs.length ≤ N.length) : EnvR K C S H [] (fun _ => 0) (startD N ds) (L2.start N vs) H := by
  have hv : Same (hid H S) (hid H (Vol S (fun _ => 0) (startD N ds))) := same_hid_sub fun a q => by
    rcases q with q | ⟨j, q, _⟩
    · exact q
    · exact (startD_not q).elim
  refine ⟨?_, ok, Ext.refl, ok.l, fun i d e => ?_, fun i d e => (startD_not ⟨_, e, rfl⟩).elim, fun i d e => (startD_not ⟨_, e, rfl⟩).elim, fun i q => (startD_not q).elim, fun i j a => (startD_not a).elim, fun x hx => nomatch hx⟩
  · unfold L2.start startD
    simp [h.len]
  · obtain ⟨v, h1, h2⟩ := h.get (startD_dat e)
    refine ⟨v, ?_, h2.mono hv⟩
    unfold L2.start
    have hi : i < vs.length := (List.getElem?_eq_some_iff.mp h1).1
    rw [List.getElem?_append_left (by simpa using hi), List.getElem?_map, h1]
    rfl
theorem def_ok {P : Program} {w : World} {K : PySem.W.Frag} {mg : Str → Option Value} {base : Heap} {x qual : Str} {st : Stmt} {f : Addr} {fd : FuncData} {N ps : List Str} {k : Nat} {F : Cf → FN} (FF : Fun K x qual st f fd) (S : FnScope N ps (defScope st)) (len : ∀ C ds P, F C ds P → ds.length = ps.length)
    (body : ∀ (cdv : Value) (A : Around) (fr : List Env) (s : Shared) (H : Hp) (E : XK), A.guards = some [] → Room k (A.deeper (envOfC qual (defScope st) s.heap.objs.size f cdv)) → ∀ (C : Cf) (ds : List D) (R : D → Prop), F C ds R →
      ∃ ts, DSs (cxOf CX0 P w K mg base N qual (defScope st) f cdv A fr s H E).nox C (defBody st) ts ∧ ts { nx := fun _ => R .non, rt := R } (startD N ds)) : FnG P w K mg base CX0 (k + 1) f fd ps (spD K F) := by
  refine FF.okG S (fun vs H Q E h => ?_) fun cdv A fr s H vs Q E hgd hr h => ?_
  · obtain ⟨C, S, ds, P, _, hv, hf, _⟩ := h
    rw [hv.len]; exact len C ds P hf
  · obtain ⟨C, S1, ds, R, ok, hv, hf, q⟩ := h
    obtain ⟨ts, hd, ht⟩ := body cdv A fr s H E hgd hr C ds R hf
    obtain ⟨t, h1, h2⟩ := hd.ex
    have hl : vs.length ≤ N.length := by
      have := congrArg List.length S.pre
      rw [List.length_take] at this
      rw [hv.len, len C ds R hf]; omega
    refine ⟨t, h1.nox, ?_⟩
    refine h2 S1 H [] (fun _ => 0) (startD N ds) (L2.start N vs) H _ _ (env_start ok hv hl) ht ⟨fun al ρ σ H' r h => ?_, fun v d H' e i h hv => ?_, fun al ρ σ H' r h => h.elim, fun al ρ σ H' r h => h.elim⟩
    · exact q .non .non H' ⟨r.ext, r.ok.i⟩ h .non
    · exact q v d H' ⟨e, i⟩ h hv
end L3
namespace L3
open PySem PySem.Spec PyProof.Rows L2

/-! ### what a for walks -/
structure WalkD (K : PySem.W.Frag) (C : Cf) (J : It) (ys : List D) (gs : Gs) : Prop where
  goes : ∀ S i H, Ok C S H → GsOk K H S gs → i < ys.length → J.go i H
  stops : ∀ S H, Ok C S H → GsOk K H S gs → J.stop ys.length H
  ylds : ∀ S i H x H', Ok C S H → GsOk K H S gs → i < ys.length → J.yld i H x H' → ∃ d, ys[i]? = some d ∧ Go C H H' ∧ DV K (hid H' S) x d
def EvI (K : PySem.W.Frag) (C : Cf) (wi : TI) (ti : TDs) : Prop := ∀ (S : AS) (σ : L2.St) (H : Hp) (E : En) (P : List D → Prop) (R : It → Hp → Prop), Rel K C S E σ H → ti E P →
  (∀ J ys gs H', Go C H H' → P ys → GsOk K H' S gs → WalkD K C J ys gs → R J H') → wi σ H R
structure DI (X : Cx) (C : Cf) (tg iter : Expr) (ti : TDs) : Prop where
  ex : ∃ wi, PI X tg iter wi ∧ EvI X.K C wi ti
def dItems : D → Option (List D)
  | .lst ds => some ds
  | .tup ds => some ds
  | .scr ns => some (ns.map D.int)
  | _ => none
def iSq (t : TD) : TDs := fun E P => t E fun d => ∃ ds, d = .lst ds ∧ P ds
def iTp (t : TD) : TDs := fun E P => t E fun d => ∃ ds, d = .tup ds ∧ P ds
def chars (x : Str) : List D := x.cps.toList.map fun c => D.str ⟨#[c]⟩
def iTx (t : TD) : TDs := fun E P => t E fun d => ∃ x, d = .str x ∧ P (chars x)
def rngD (lo : Int) (n : Nat) : List D := (List.range n).map fun (i : Nat) => D.int (lo + i)
def iRg (t : TDs) : TDs := fun E P => t E fun ds => ∃ j : Int, ds = [.int j] ∧ -(2 ^ 62) ≤ j ∧ j < 2 ^ 62 ∧ P (rngD 0 j.toNat)
section
variable {X : Cx} {C : Cf} {tg e : Expr} {td : TD} {tds : TDs}
theorem walkD_list {K : PySem.W.Frag} {a : Addr} {ds : List D} : WalkD K C (Itl K a) ds [(.ref a, .lst ds)] := by
  have get : ∀ {S H}, GsOk K H S [(.ref a, .lst ds)] → ∃ vs, SqL K H a vs ∧ DVs K (hid H S) vs ds := fun g => by
    have h := g _ List.mem_cons_self
    cases h with
    | lst e h => exact ⟨_, .inl (.inl (same_hid _ _ e)), h⟩
  refine ⟨fun S i H ok g hi => ?_, fun S H ok g => ?_, fun S i H x H' ok g hi y => ?_⟩
  · obtain ⟨vs, h1, h2⟩ := get g
    have hv : i < vs.length := by rw [h2.len]; exact hi
    exact ⟨vs, vs[i], h1, by simp [hv]⟩
  · obtain ⟨vs, h1, h2⟩ := get g
    exact ⟨vs, h1, Nat.le_of_eq h2.len⟩
  · obtain ⟨vs, h1, h2⟩ := get g
    obtain ⟨e, y⟩ := y
    subst e
    obtain ⟨d, h3, h4⟩ := h2.getV (y vs h1)
    exact ⟨d, h3, Go.refl ok, h4⟩
theorem walkD_tup {K : PySem.W.Frag} {a : Addr} {ds : List D} : WalkD K C (Itt K a) ds [(.ref a, .tup ds)] := by
  have get : ∀ {S H}, GsOk K H S [(.ref a, .tup ds)] → ∃ vs, SqT K H a vs ∧ DVs K (hid H S) vs ds := fun g => by
    have h := g _ List.mem_cons_self
    cases h with
    | tup e h => exact ⟨_, .inl (.inl (same_hid _ _ e)), h⟩
  refine ⟨fun S i H ok g hi => ?_, fun S H ok g => ?_, fun S i H x H' ok g hi y => ?_⟩
  · obtain ⟨vs, h1, h2⟩ := get g
    have hv : i < vs.length := by rw [h2.len]; exact hi
    exact ⟨vs, vs[i], h1, by simp [hv]⟩
  · obtain ⟨vs, h1, h2⟩ := get g
    exact ⟨vs, h1, Nat.le_of_eq h2.len⟩
  · obtain ⟨vs, h1, h2⟩ := get g
    obtain ⟨e, y⟩ := y
    subst e
    obtain ⟨d, h3, h4⟩ := h2.getV (y vs h1)
    exact ⟨d, h3, Go.refl ok, h4⟩
theorem walkD_rng {K : PySem.W.Frag} {lo : Int} {n : Nat} : WalkD K C (Itr lo n) (rngD lo n) [] := by
  have hl : (rngD lo n).length = n := by simp [rngD]
  refine ⟨fun S i H ok g hi => by rw [hl] at hi; exact hi, fun S H ok g => by rw [hl]; exact Nat.le_refl _, fun S i H x H' ok g hi y => ?_⟩
  obtain ⟨e, y⟩ := y
  subst e
  subst y
  rw [hl] at hi
  exact ⟨.int (lo + i), by simp [rngD, hi], Go.refl ok, .int _⟩
theorem walkD_str {K : PySem.W.Frag} {z : Str} : WalkD K C (Its z) (chars z) [] := by
  have hl : (chars z).length = z.cps.size := by simp [chars]
  have w := @walk_str z
  refine ⟨fun S i H ok g hi => w.goes i H (by rw [← hl]; exact hi) trivial, fun S H ok g => by rw [hl]; exact w.stops H trivial, fun S i H x H' ok g hi y => ?_⟩
  obtain ⟨e, c, h1, rfl⟩ := w.yields i H x H' (by rw [← hl]; exact hi) trivial y
  subst e
  refine ⟨.str ⟨#[c]⟩, ?_, Go.refl ok, .str _⟩
  have h2 : z.cps.toList[i]? = some c := by rw [Array.getElem?_toList]; exact h1
  unfold chars
  rw [List.getElem?_map, h2]
  rfl
theorem di_list (h : DE X C e td) : DI X C tg e (iSq td) := by
  obtain ⟨te, h1, h2⟩ := h.ex
  refine ⟨⟨_, pi_list h1, fun S σ H E P R rl hp q => h2 S σ H E _ _ rl hp fun v d H1 g1 p1 v1 => ?_⟩⟩
  obtain ⟨ds, rfl, p2⟩ := p1
  cases v1 with
  | @lst a vs ds e1 h => exact ⟨a, rfl, ⟨vs, .inl (.inl (same_hid _ _ e1))⟩, q _ ds [(.ref a, .lst ds)] H1 g1 p2 (fun x hx => by rw [List.mem_singleton.mp hx]; exact .lst e1 h) walkD_list⟩
theorem di_tup (h : DE X C e td) : DI X C tg e (iTp td) := by
  obtain ⟨te, h1, h2⟩ := h.ex
  refine ⟨⟨_, pi_tup h1, fun S σ H E P R rl hp q => h2 S σ H E _ _ rl hp fun v d H1 g1 p1 v1 => ?_⟩⟩
  obtain ⟨ds, rfl, p2⟩ := p1
  cases v1 with
  | @tup a vs ds e1 h => exact ⟨a, rfl, ⟨vs, .inl (.inl (same_hid _ _ e1))⟩, q _ ds [(.ref a, .tup ds)] H1 g1 p2 (fun x hx => by rw [List.mem_singleton.mp hx]; exact .tup e1 h) walkD_tup⟩
theorem di_str (h : DE X C e td) : DI X C tg e (iTx td) := by
  obtain ⟨te, h1, h2⟩ := h.ex
  refine ⟨⟨_, pi_str h1, fun S σ H E P R rl hp q => h2 S σ H E _ _ rl hp fun v d H1 g1 p1 v1 => ?_⟩⟩
  obtain ⟨x, rfl, p2⟩ := p1
  exact ⟨x, v1.str_inv, q _ _ [] H1 g1 p2 (fun x hx => nomatch hx) walkD_str⟩
theorem di_rng {p pos : Pos} (hg : Gl X "range") (hm : X.mg "range" = none) (h : DA X C [e] tds) (hs : starEach [e] X.env = [(false, eval e X.env)] := by rfl) : DI X C tg (.Call (.Name "range" p) [e] [] pos) (iRg tds) := by
  obtain ⟨te, h1, h2⟩ := h.ex
  refine ⟨⟨_, pi_range1 hg hm h1 hs, fun S σ H E P R rl hp q => h2 S σ H E _ _ rl hp fun vs ds H1 g1 p1 v1 => ?_⟩⟩
  obtain ⟨j, rfl, q1, q2, p2⟩ := p1
  cases v1 with
  | cons a t =>
    cases t
    cases a
    exact ⟨j, rfl, q1, q2, q _ _ [] H1 g1 p2 (fun x hx => nomatch hx) walkD_rng⟩
end

/-! ### targets -/
abbrev TGd := D → Rho → (Rho → Prop) → Prop
def EvG (K : PySem.W.Frag) (C : Cf) (g : TG) (tg : TGd) : Prop := ∀ (S0 : AS) (H0 : Hp) (gs : Gs) (al : Nat → Addr) (ρ : Rho) (σ : L2.St) (H : Hp) (v : V) (d : D) (P : Rho → Prop) (Q : L2.St → Hp → Prop), EnvR K C S0 H0 gs al ρ σ H → DV K (hid H (Vol S0 al ρ)) v d → tg d ρ P →
  (∀ ρ' σ', EnvR K C S0 H0 gs al ρ' σ' H → P ρ' → Q σ' H) → g v σ H Q
structure DG (X : Cx) (C : Cf) (tg : Expr) (t : TGd) : Prop where
  ex : ∃ g, PG X tg g ∧ EvG X.K C g t
def gNm (i : Nat) : TGd := fun d ρ P => P (ρ.set i (.dat d))
/-- names in a row: a, b, c = .. -/
def gNms : List Nat → List D → Rho → (Rho → Prop) → Prop
  | [], [], ρ, P => P ρ
  | i :: r, d :: ds, ρ, P => gNms r ds (ρ.set i (.dat d)) P
  | _, _, _, _ => False
def gTp (is : List Nat) : TGd := fun d ρ P => ∃ ds, d = .tup ds ∧ gNms is ds ρ P
section
variable {X : Cx} {C : Cf} {i : Nat} {x : Str} {pos : Pos}
theorem dg_name (n : NmOk X i x) : DG X C (.Name x pos) (gNm i) := ⟨⟨_, pg_name n.nd n.at_ n.loc n.fn, fun S0 H0 gs al ρ σ H v d P Q r hv hp q => q _ _ (r.setDat i hv) hp⟩⟩
/-- the targets of a tuple, all names -/
structure DGs (X : Cx) (ts : List Expr) (is : List Nat) : Prop where
  ex : ∃ u, PGs X ts u ∧ ∀ (C : Cf) (S0 : AS) (H0 : Hp) (gs : Gs) (al : Nat → Addr) (ρ : Rho) (σ : L2.St) (H : Hp) (vs : List V) (ds : List D) (P : Rho → Prop) (Q : L2.St → Hp → Prop), EnvR X.K C S0 H0 gs al ρ σ H → DVs X.K (hid H (Vol S0 al ρ)) vs ds → gNms is ds ρ P →
    (∀ ρ' σ', EnvR X.K C S0 H0 gs al ρ' σ' H → P ρ' → Q σ' H) → u vs σ H Q
theorem vol_set {S0 : AS} {al : Nat → Addr} {ρ : Rho} {i : Nat} {d : D} {H : Hp} : Same (hid H (Vol S0 al ρ)) (hid H (Vol S0 al (ρ.set i (.dat d)))) := same_hid_sub fun a h => by
  rcases h with h | ⟨j, h, e⟩
  · exact .inl h
  · rcases ownAt_set h with ⟨_, z, _⟩ | ⟨_, z⟩
    · cases z
    · exact .inr ⟨j, z, e⟩
theorem dgs_nil : DGs X [] [] := ⟨⟨_, pgs_nil, fun C S0 H0 gs al ρ σ H vs ds P Q r hv hp q => by
  cases hv with
  | nil => exact ⟨rfl, q _ _ r hp⟩
  | cons _ _ => exact hp.elim⟩⟩
theorem dgs_cons {es : List Expr} {is : List Nat} (n : NmOk X i x) (t : DGs X es is) (hs : (assignEach (.Name x pos :: es) X.env).map (·.2) = assign (.Name x pos) X.env :: (assignEach es X.env).map (·.2) := by rfl) : DGs X (.Name x pos :: es) (i :: is) := by
  obtain ⟨u, h1, h2⟩ := t.ex
  refine ⟨⟨_, pgs_cons (pg_name n.nd n.at_ n.loc n.fn) h1 hs, fun C S0 H0 gs al ρ σ H vs ds P Q r hv hp q => ?_⟩⟩
  cases hv with
  | nil => exact hp.elim
  | cons h t => exact ⟨_, _, rfl, h2 C S0 H0 gs al _ _ H _ _ P Q (r.setDat i h) (t.mono vol_set) hp q⟩
theorem dg_tup {es : List Expr} {is : List Nat} {k : Nat} (hc : X.calm = true) (h : DGs X es is) (hl : es.length = is.length := by rfl) (hn : (assignEach es X.env).length = es.length := by rfl) (hst : (assignEach es X.env).findIdx? (·.1) = none := by rfl) : DG X C (.Tuple es k pos) (gTp is) := by
  obtain ⟨u, h1, h2⟩ := h.ex
  refine ⟨⟨_, pg_tup hc h1 hn hst, fun S0 H0 gs al ρ σ H v d P Q r hv hp q => ?_⟩⟩
  obtain ⟨ds, rfl, hp⟩ := hp
  have lens : ∀ (is : List Nat) (ds : List D) (ρ : Rho), gNms is ds ρ P → ds.length = is.length := by
    intro is
    induction is with
    | nil => intro ds ρ h; cases ds with | nil => rfl | cons _ _ => exact h.elim
    | cons i is ih => intro ds ρ h; cases ds with | nil => exact h.elim | cons d ds => simp [ih ds _ h]
  cases hv with
  | tup e hd =>
    refine ⟨_, _, rfl, .inl (.inl (same_hid _ _ e)), ?_, h2 C S0 H0 gs al ρ σ H _ ds P Q r hd hp q⟩
    rw [hd.len, lens is ds ρ hp, hl]
end

/-! ### for -/
def sFor (ti : TDs) (tg : TGd) (ts : TSd) : TSd := fun Dn ρ => ti (view ρ) fun ys => ∃ Iv : Nat → Rho → Prop, Iv 0 ρ ∧
  (∀ i d ρ', ys[i]? = some d → Iv i ρ' → tg d ρ' fun ρ'' => ts { Dn with nx := Iv (i + 1), ct := Iv (i + 1), bk := Dn.nx } ρ'') ∧ ∀ ρ', Iv ys.length ρ' → Dn.nx ρ'
/-- the walked list is one of the def's own, and stays as it is from here on -/
def sForZ (ti : TDs) (tg : TGd) (ts : TSd) : TSd := fun Dn ρ => ti (frz ρ) fun ys => ∃ Iv : Nat → Rho → Prop, Iv 0 (thaw ρ) ∧
  (∀ i d ρ', ys[i]? = some d → Iv i ρ' → tg d ρ' fun ρ'' => ts { Dn with nx := Iv (i + 1), ct := Iv (i + 1), bk := Dn.nx } ρ'') ∧ ∀ ρ', Iv ys.length ρ' → Dn.nx ρ'
section
variable {X : Cx} {C : Cf} {tg iter : Expr} {body : List Stmt} {ti : TDs} {tgd : TGd} {ts : TSd} {pos : Pos}
theorem EnvR.more {K : PySem.W.Frag} {S0 : AS} {H0 H : Hp} {gs gs' : Gs} {al : Nat → Addr} {ρ : Rho} {σ : L2.St} (r : EnvR K C S0 H0 gs al ρ σ H) (h : GsOk K H (Vol S0 al ρ) gs') : EnvR K C S0 H0 (gs' ++ gs) al ρ σ H :=
  ⟨r.len, r.ok, r.ext, r.old, r.dat, r.own, r.owd, r.new, r.inj, fun x hx => (List.mem_append.mp hx).elim (h x) (r.gh x)⟩
theorem EnvR.less {K : PySem.W.Frag} {S0 : AS} {H0 H : Hp} {gs gs' : Gs} {al : Nat → Addr} {ρ : Rho} {σ : L2.St} (r : EnvR K C S0 H0 (gs' ++ gs) al ρ σ H) : EnvR K C S0 H0 gs al ρ σ H :=
  ⟨r.len, r.ok, r.ext, r.old, r.dat, r.own, r.owd, r.new, r.inj, fun x hx => r.gh x (List.mem_append_right _ hx)⟩
theorem for_core {g : TG} {tb : TS} {K : PySem.W.Frag} (hg : EvG K C g tgd) (hb : EvS K C tb ts) {S0 : AS} {H0 : Hp} {gs gs' : Gs} {al : Nat → Addr} {ρ : Rho} {σ : L2.St} {H : Hp} {Dn : EndsD} {D' : Ends} {J : It} {ys : List D}
    (r : EnvR K C S0 H0 gs al ρ σ H) (w : WalkD K C J ys gs') (hgs : GsOk K H (Vol S0 al ρ) gs') (gd : Good K C S0 H0 gs Dn D') {Iv : Nat → Rho → Prop} (h0 : Iv 0 ρ)
    (hs : ∀ i d ρ', ys[i]? = some d → Iv i ρ' → tgd d ρ' fun ρ'' => ts { Dn with nx := Iv (i + 1), ct := Iv (i + 1), bk := Dn.nx } ρ'') (hd : ∀ ρ', Iv ys.length ρ' → Dn.nx ρ') :
    ∃ W : Nat → Nat → L2.St → Hp → Prop, (∃ m, W 0 m σ H) ∧ ∀ i m σ H, W i m σ H →
      (J.stop i H ∧ D'.nx σ H) ∨ (J.go i H ∧ ∃ N : L2.St → Hp → Prop, (∀ σ' H', N σ' H' → ∃ m', m' < m ∧ W (i + 1) m' σ' H') ∧ ∀ x H', J.yld i H x H' → g x σ H' fun σ2 H2 => tb { D' with nx := N, ct := N, bk := D'.nx } σ2 H2) := by
  refine ⟨fun i m σ H => m = ys.length - i ∧ i ≤ ys.length ∧ ∃ al ρ, EnvR K C S0 H0 (gs' ++ gs) al ρ σ H ∧ Iv i ρ, ⟨ys.length, by simp, Nat.zero_le _, al, ρ, r.more hgs, h0⟩, ?_⟩
  rintro i m σ H ⟨rfl, hi, al, ρ, r, iv⟩
  have ok := r.vok
  have hgs : GsOk K H (Vol S0 al ρ) gs' := fun x hx => r.gh x (List.mem_append_left _ hx)
  by_cases hlt : i < ys.length
  · refine .inr ⟨w.goes _ i H ok hgs hlt, fun σ' H' => ∃ al ρ, EnvR K C S0 H0 (gs' ++ gs) al ρ σ' H' ∧ Iv (i + 1) ρ, fun σ' H' p => ⟨ys.length - (i + 1), by omega, rfl, hlt, p⟩, fun x H' y => ?_⟩
    obtain ⟨d, h1, h2, h3⟩ := w.ylds _ i H x H' ok hgs hlt y
    refine hg S0 H0 _ al ρ σ H' x d _ _ (r.go h2) h3 (hs i d ρ h1 iv) fun ρ' σ' r' p' => ?_
    refine hb S0 H0 _ al ρ' σ' H' _ _ r' p' ⟨fun al ρ σ H r h => ⟨al, ρ, r, h⟩, gd.rt, fun al ρ σ H r h => gd.nx al ρ σ H r.less h, fun al ρ σ H r h => ⟨al, ρ, r, h⟩⟩
  · have e : i = ys.length := by omega
    subst e
    exact .inl ⟨w.stops _ H ok hgs, gd.nx al ρ σ H r.less (hd ρ iv)⟩
theorem ds_for (hp : PassesOwn (model X.prog X.w) X.A X.env X.xe) (hc : X.calm = true) (hi : DI X C tg iter ti) (hg : DG X C tg tgd) (hb : DSs X C body ts) (hs : ∀ x, foldedSetIterable iter X.env x = pure x := by intro _; rfl) : DS X C (.For tg iter body [] pos) (sFor ti tgd ts) := by
  obtain ⟨wi, i1, i2⟩ := hi.ex
  obtain ⟨g, g1, g2⟩ := hg.ex
  obtain ⟨tb, b1, b2⟩ := hb.ex
  refine ⟨⟨_, ps_for hp hc i1 g1 b1 hs, fun S0 H0 gs al ρ σ H Dn D' r hq gd => ?_⟩⟩
  refine i2 _ σ H _ _ _ r.relA hq fun J ys gs' H1 g3 p1 hgs w => ?_
  obtain ⟨Iv, h0, h1, h2⟩ := p1
  exact for_core g2 b2 (r.go g3) w hgs gd h0 h1 h2
theorem ds_forZ (hp : PassesOwn (model X.prog X.w) X.A X.env X.xe) (hc : X.calm = true) (hi : DI X C tg iter ti) (hg : DG X C tg tgd) (hb : DSs X C body ts) (hs : ∀ x, foldedSetIterable iter X.env x = pure x := by intro _; rfl) : DS X C (.For tg iter body [] pos) (sForZ ti tgd ts) := by
  obtain ⟨wi, i1, i2⟩ := hi.ex
  obtain ⟨g, g1, g2⟩ := hg.ex
  obtain ⟨tb, b1, b2⟩ := hb.ex
  refine ⟨⟨_, ps_for hp hc i1 g1 b1 hs, fun S0 H0 gs al ρ σ H Dn D' r hq gd => ?_⟩⟩
  refine i2 _ σ H _ _ _ r.relB hq fun J ys gs' H1 g3 p1 hgs w => ?_
  obtain ⟨Iv, h0, h1, h2⟩ := p1
  exact for_core g2 b2 (r.go g3).thaw w (fun x hx => (hgs x hx).mono vol_thaw) gd h0 h1 h2
end

/-! ### list comprehensions (one clause) -/
def wipeE (E : En) : List Nat → En
  | [] => E
  | v :: vs => (wipeE E vs).set v none
theorem wipeE_at {K : PySem.W.Frag} {C : Cf} {S : AS} {E : En} {σ : L2.St} {H : Hp} (r : Rel K C S E σ H) : ∀ vs : List Nat, Rel K C S (wipeE E vs) (wipe σ vs) H
  | [] => r
  | v :: vs => by
    have ih := wipeE_at r vs
    refine ⟨r.ok, by unfold wipeE wipe; rw [List.length_set, List.length_set]; exact ih.len, fun i d h => ?_⟩
    unfold wipeE at h
    rcases set_at h with ⟨_, _, z⟩ | ⟨ne, z⟩
    · cases z
    · obtain ⟨w, h1, h2⟩ := ih.at_ i d z
      exact ⟨w, by unfold wipe; rw [List.getElem?_set_ne ne]; exact h1, h2⟩
abbrev TGe := D → En → (En → Prop) → Prop
def EvGE (K : PySem.W.Frag) (C : Cf) (vs : List Nat) (g : TG) (tg : TGe) : Prop := ∀ (S : AS) (σ : L2.St) (H : Hp) (E : En) (v : V) (d : D) (P : En → Prop) (Q : L2.St → Hp → Prop), Rel K C S E σ H → DV K (hid H S) v d → tg d E P →
  (∀ E' σ', Rel K C S E' σ' H → wipe σ' vs = wipe σ vs → P E' → Q σ' H) → g v σ H Q
structure DGE (X : Cx) (C : Cf) (vs : List Nat) (tg : Expr) (t : TGe) : Prop where
  ex : ∃ g, PG X tg g ∧ EvGE X.K C vs g t
def geNm (i : Nat) : TGe := fun d E P => P (E.set i (some d))
def geNms : List Nat → List D → En → (En → Prop) → Prop
  | [], [], E, P => P E
  | i :: r, d :: ds, E, P => geNms r ds (E.set i (some d)) P
  | _, _, _, _ => False
def geTp (is : List Nat) : TGe := fun d E P => ∃ ds, d = .tup ds ∧ geNms is ds E P
theorem wipe_set (σ : L2.St) (x : Option V) : ∀ (vs : List Nat) (i : Nat), i ∈ vs → wipe (σ.set i x) vs = wipe σ vs
  | [], i, h => nomatch h
  | v :: vs, i, h => by
    unfold wipe
    by_cases e : i ∈ vs
    · rw [wipe_set σ x vs i e]
    · have z : i = v := by
        rcases List.mem_cons.mp h with z | z
        · exact z
        · exact absurd z e
      subst z
      have com : ∀ vs : List Nat, i ∉ vs → wipe (σ.set i x) vs = (wipe σ vs).set i x := by
        intro vs
        induction vs with
        | nil => intro _; rfl
        | cons w vs ih =>
          intro hn
          unfold wipe
          rw [ih (fun z => hn (List.mem_cons_of_mem _ z))]
          exact List.set_comm _ _ (fun z => hn (by rw [z]; exact List.mem_cons_self))
      rw [com vs e, List.set_set]
theorem Rel.set {K : PySem.W.Frag} {C : Cf} {S : AS} {E : En} {σ : L2.St} {H : Hp} (r : Rel K C S E σ H) (i : Nat) {v : V} {d : D} (h : DV K (hid H S) v d) : Rel K C S (E.set i (some d)) (σ.set i (some v)) H := ⟨r.ok, by rw [List.length_set, List.length_set]; exact r.len, fun j e q => by
  rcases set_at q with ⟨rfl, hi, z⟩ | ⟨ne, z⟩
  · cases z
    exact ⟨v, by rw [List.getElem?_set_self (Nat.lt_of_lt_of_le hi r.len)], h⟩
  · obtain ⟨w, h1, h2⟩ := r.at_ j e z
    exact ⟨w, by rw [List.getElem?_set_ne ne]; exact h1, h2⟩⟩
def lcRun (tg : TGe) (tt : TDb) (te : TD) (E : En) : List D → List D → (List D → Prop) → Prop
  | [], acc, P => P acc
  | d :: r, acc, P => tg d E fun E' => tt E' fun b => if b = true then te E' fun y => lcRun tg tt te E r (acc ++ [y]) P else lcRun tg tt te E r acc P
def dLc (vs : List Nat) (ti : TDs) (tg : TGe) (tt : TDb) (te : TD) : TD := fun E P => ti E fun ys => ys.length ≤ 100000 ∧ lcRun tg tt te (wipeE E vs) ys [] fun zs => P (.lst zs)
section
variable {X : Cx} {C : Cf} {i : Nat} {x : Str} {pos : Pos} {vs : List Nat}
theorem dge_name (n : NmOk X i x) (hv : i ∈ vs) : DGE X C vs (.Name x pos) (geNm i) := ⟨⟨_, pg_name n.nd n.at_ n.loc n.fn, fun S σ H E v d P Q r h hp q => q _ _ (r.set i h) (wipe_set σ _ vs i hv) hp⟩⟩
structure DGEs (X : Cx) (vs : List Nat) (ts : List Expr) (is : List Nat) : Prop where
  ex : ∃ u, PGs X ts u ∧ ∀ (C : Cf) (S : AS) (σ : L2.St) (H : Hp) (E : En) (ws : List V) (ds : List D) (P : En → Prop) (Q : L2.St → Hp → Prop), Rel X.K C S E σ H → DVs X.K (hid H S) ws ds → geNms is ds E P →
    (∀ E' σ', Rel X.K C S E' σ' H → wipe σ' vs = wipe σ vs → P E' → Q σ' H) → u ws σ H Q
theorem dges_nil : DGEs X vs [] [] := ⟨⟨_, pgs_nil, fun C S σ H E ws ds P Q r hv hp q => by
  cases hv with
  | nil => exact ⟨rfl, q _ _ r rfl hp⟩
  | cons _ _ => exact hp.elim⟩⟩
theorem dges_cons {es : List Expr} {is : List Nat} (n : NmOk X i x) (hi : i ∈ vs) (t : DGEs X vs es is) (hs : (assignEach (.Name x pos :: es) X.env).map (·.2) = assign (.Name x pos) X.env :: (assignEach es X.env).map (·.2) := by rfl) : DGEs X vs (.Name x pos :: es) (i :: is) := by
  obtain ⟨u, h1, h2⟩ := t.ex
  refine ⟨⟨_, pgs_cons (pg_name n.nd n.at_ n.loc n.fn) h1 hs, fun C S σ H E ws ds P Q r hv hp q => ?_⟩⟩
  cases hv with
  | nil => exact hp.elim
  | cons h t => exact ⟨_, _, rfl, h2 C S _ H _ _ _ P Q (r.set i h) t hp fun E' σ' r' w' p' => q E' σ' r' (w'.trans (wipe_set σ _ vs i hi)) p'⟩
theorem dge_tup {es : List Expr} {is : List Nat} {k : Nat} (hc : X.calm = true) (h : DGEs X vs es is) (hl : es.length = is.length := by rfl) (hn : (assignEach es X.env).length = es.length := by rfl) (hst : (assignEach es X.env).findIdx? (·.1) = none := by rfl) : DGE X C vs (.Tuple es k pos) (geTp is) := by
  obtain ⟨u, h1, h2⟩ := h.ex
  refine ⟨⟨_, pg_tup hc h1 hn hst, fun S σ H E v d P Q r hv hp q => ?_⟩⟩
  obtain ⟨ds, rfl, hp⟩ := hp
  have lens : ∀ (is : List Nat) (ds : List D) (E : En), geNms is ds E P → ds.length = is.length := by
    intro is
    induction is with
    | nil => intro ds ρ h; cases ds with | nil => rfl | cons _ _ => exact h.elim
    | cons i is ih => intro ds ρ h; cases ds with | nil => exact h.elim | cons d ds => simp [ih ds _ h]
  cases hv with
  | tup e hd => exact ⟨_, _, rfl, .inl (.inl (same_hid _ _ e)), by rw [hd.len, lens is ds E hp, hl], h2 C S σ H E _ ds P Q r hd hp q⟩

structure DTs (X : Cx) (C : Cf) (ifs : List Expr) (td : TDb) : Prop where
  ex : ∃ tt, PTs X ifs tt ∧ EvT X.K C tt td
def bYes : TDb := fun _ P => P true
theorem dts_nil : DTs X C [] bYes := ⟨⟨_, pts_nil, fun S σ H E P Q r h q => q true H (Go.refl r.ok) h⟩⟩
theorem dts_one {c : Expr} {td : TDb} (h : DT X C c td) : DTs X C [c] td := let ⟨tt, h1, h2⟩ := h.ex; ⟨⟨tt, pts_one h1, h2⟩⟩
end
theorem wipe_get (σ : L2.St) (i : Nat) : ∀ vs : List Nat, (wipe σ vs)[i]? = if i ∈ vs then (σ[i]?).map (fun _ => none) else σ[i]?
  | [] => by simp [wipe]
  | v :: vs => by
    unfold wipe
    rw [List.getElem?_set, wipe_length, wipe_get σ i vs]
    by_cases e : v = i
    · subst e
      by_cases hl : v < σ.length
      · simp [hl]
      · simp [hl]
    · have e' : ¬ i = v := fun z => e z.symm
      simp [e, e']
theorem wipe_wipe (σ : L2.St) (vs : List Nat) : wipe (wipe σ vs) vs = wipe σ vs := by
  apply List.ext_getElem?
  intro i
  rw [wipe_get, wipe_get]
  by_cases h : i ∈ vs
  · rw [if_pos h, if_pos h]
    cases σ[i]? <;> rfl
  · rw [if_neg h, if_neg h]
theorem hid_upd_in {H : Hp} {S : AS} {a : Addr} {o : HO} (h : S a) : hid (upd H a o) S = hid H S := by
  funext b
  unfold hid
  split
  · rfl
  · exact upd_ne (fun z => by subst z; exact absurd h ‹_›)
section
variable {X : Cx} {C : Cf} {elt tg iter : Expr} {ifs : List Expr} {scope : Scope} {own : List (Str × Nat)} {pos : Pos} {ti : TDs} {tge : TGe} {ttd : TDb} {ted : TD}
theorem lc_ev {K : PySem.W.Frag} {wi : TI} {g : TG} {tt : TT} {te : TE} {vs : List Nat} (hi : EvI K C wi ti) (hg : EvGE K C vs g tge) (ht : EvT K C tt ttd) (he : EvD K C te ted) : EvD K C (tLc wi g tt te vs) (dLc vs ti tge ttd ted) := by
  intro S σ H E P Q rl hp q
  refine hi S σ H E _ _ rl hp fun J ys gs H1 g1 p1 hgs w => ?_
  intro A nA
  obtain ⟨hlen, p1⟩ := p1
  have ok1 := rl.ok.go g1
  have nS : ¬ S A := ok1.fresh nA
  have nG : ¬ C.G A := fun z => nS (ok1.g A z)
  have nH : H A = none := by
    cases e : H A with
    | none => rfl
    | some o => rw [g1.e A o nG e] at nA; cases nA
  generalize hS : (fun a => S a ∨ a = A : AS) = S'
  have inS : S' A := by rw [← hS]; exact .inr rfl
  have sub : ∀ H2 : Hp, Same (hid H2 S') (hid H2 S) := fun H2 => same_hid_sub fun a h => by rw [← hS]; exact .inl h
  have up : ∀ {o : HO}, Same (hid H1 S) (hid (upd H1 A o) S') := fun a u e => by
    obtain ⟨e1, e2⟩ := hid_some.mp e
    have na : a ≠ A := ne_of_none e2 nA
    refine hid_some.mpr ⟨fun z => ?_, by rw [upd_ne na]; exact e2⟩
    rw [← hS] at z
    rcases z with z | z
    · exact e1 z
    · exact na z
  have wr : ∀ {H2 : Hp} {o : HO}, Ok C S' H2 → Ok C S' (upd H2 A o) := fun {H2 o} ok => ⟨C.loc H2 _ (fun a ga => upd_ne (fun z => nG (z ▸ ga))) ok.i, ok.g, fun a ha => by
    by_cases z : a = A
    · subst z; rw [upd_same]; intro z; cases z
    · rw [upd_ne z]; exact ok.l a ha⟩
  have gw : ∀ {H2 : Hp} {o : HO}, Go C H H2 → Go C H (upd H2 A o) := fun {H2 o} g => ⟨fun a u ga e => by rw [upd_ne (ne_of_none e nH)]; exact g.e a u ga e, C.loc H2 _ (fun a ga => upd_ne (fun z => nG (z ▸ ga))) g.i⟩
  have okS : Ok C S' (upd H1 A (.lst [])) := ⟨(gw g1).i, fun a h => by rw [← hS]; exact .inl (ok1.g a h), fun a h => by
    rw [← hS] at h
    rcases h with h | rfl
    · have na : a ≠ A := fun z => nS (z ▸ h)
      rw [upd_ne na]; exact ok1.l a h
    · rw [upd_same]; intro z; cases z⟩
  have rw1 := wipeE_at (rl.go g1) vs
  refine ⟨fun i m H' => m = ys.length - i ∧ i ≤ ys.length ∧ ∃ acc as, H' A = some (.lst acc) ∧ as.length ≤ i ∧ DVs K (hid H' S') acc as ∧ Rel K C S' (wipeE E vs) (wipe σ vs) H' ∧ GsOk K H' S' gs ∧ Go C H H' ∧ lcRun tge ttd ted (wipeE E vs) (ys.drop i) as fun zs => P (.lst zs),
    ⟨ys.length, by simp, Nat.zero_le _, [], [], upd_same, Nat.zero_le _, .nil, ⟨okS, rw1.len, fun i d e => ?_⟩, fun x hx => (hgs x hx).mono up, gw g1, p1⟩, ?_⟩
  · obtain ⟨v, h1, h2⟩ := rw1.at_ i d e
    exact ⟨v, h1, h2.mono up⟩
  rintro i m H' ⟨rfl, hi, acc, as, hA, hla, hacc, rr, hgs', gH, run⟩
  by_cases hlt : i < ys.length
  · refine .inr ⟨w.goes S' i H' rr.ok hgs' hlt, fun H' => i + 1 ≤ ys.length ∧ ∃ acc as, H' A = some (.lst acc) ∧ as.length ≤ i + 1 ∧ DVs K (hid H' S') acc as ∧ Rel K C S' (wipeE E vs) (wipe σ vs) H' ∧ GsOk K H' S' gs ∧ Go C H H' ∧ lcRun tge ttd ted (wipeE E vs) (ys.drop (i + 1)) as fun zs => P (.lst zs),
      fun H' p => ⟨ys.length - (i + 1), by omega, rfl, p.1, p.2⟩, fun x H2 y => ?_⟩
    obtain ⟨d, h1, h2, h3⟩ := w.ylds S' i H' x H2 rr.ok hgs' hlt y
    have hd : ys.drop i = d :: ys.drop (i + 1) := by
      rw [List.drop_eq_getElem_cons hlt]
      rw [List.getElem?_eq_getElem hlt] at h1
      rw [Option.some.inj h1]
    rw [hd] at run
    have r2 := rr.go h2
    refine hg S' (wipe σ vs) H2 (wipeE E vs) x d _ _ r2 h3 run fun E' σ2 r3 hw run2 => ⟨?_, ?_⟩
    · rw [hw]; exact wipe_wipe σ vs
    · refine ht S' σ2 H2 E' _ _ r3 run2 fun b H3 g3 run3 => ?_
      have A2 := h2.e A _ nG hA
      have A3 := g3.e A _ nG A2
      have s2 := h2.vis rr.ok
      have s3 := g3.vis r2.ok
      cases b with
      | false =>
        rw [if_neg Bool.false_ne_true] at run3 ⊢
        exact ⟨hlt, acc, as, A3, Nat.le_succ_of_le hla, (hacc.mono s2).mono s3, r2.go g3, fun x hx => ((hgs' x hx).mono s2).mono s3, (gH.trans h2).trans g3, run3⟩
      | true =>
        rw [if_pos rfl] at run3 ⊢
        refine he S' σ2 H3 E' _ _ (r3.go g3) run3 fun v dv H4 g4 run4 hv => ?_
        have A4 := g4.e A _ nG A3
        have r4 := (r2.go g3).go g4
        have s4 := g4.vis (r2.ok.go g3)
        refine ⟨acc, A4, line_lt (by rw [hacc.len]; omega), hlt, acc ++ [v], as ++ [dv], upd_same, by simp; omega, ?_, ⟨wr r4.ok, r4.len, fun j e q => ?_⟩, fun x hx => ?_, gw (((gH.trans h2).trans g3).trans g4), run4⟩
        · rw [hid_upd_in inS]; exact (((hacc.mono s2).mono s3).mono s4).app (.cons hv .nil)
        · obtain ⟨u, k1, k2⟩ := r4.at_ j e q
          exact ⟨u, k1, by rw [hid_upd_in inS]; exact k2⟩
        · rw [hid_upd_in inS]; exact ((((hgs' x hx).mono s2).mono s3).mono s4)
  · have e : i = ys.length := by omega
    subst e
    rw [List.drop_length] at run
    exact .inl ⟨w.stops S' H' rr.ok hgs', q _ _ H' gH run (.lst (hid_some.mpr ⟨nS, hA⟩) (hacc.mono (sub H')))⟩
/-- the contexts of a comprehension's block, as one kind -/
abbrev Bk := Shared × Hp × Addr × List (Str × Addr) × List Addr
abbrev xb (X : Cx) (scope : Scope) (b : Bk) : Cx := X.blk b.1 b.2.1 scope (compEnvC scope b.2.2.2.1 b.2.2.1 X.env) b.2.2.2.2
theorem lc_parts (hi : DI X C tg iter ti) (hg : ∀ b : Bk, DGE (xb X scope b) C (own.map (·.2)) tg tge) (ht : ∀ b : Bk, DTs (xb X scope b) C ifs ttd) (he : ∀ b : Bk, DE (xb X scope b) C elt ted) :
    ∃ wi g tt te, PI X tg iter wi ∧ (∀ b : Bk, PG (xb X scope b) tg g) ∧ (∀ b : Bk, PTs (xb X scope b) ifs tt) ∧ (∀ b : Bk, PE (xb X scope b) elt te) ∧ EvD X.K C (tLc wi g tt te (own.map (·.2))) (dLc (own.map (·.2)) ti tge ttd ted) := by
  obtain ⟨wi, i1, i2⟩ := hi.ex
  refine ⟨wi, fun v σ H Q => ∀ b, (hg b).ex.choose v σ H Q, fun σ H Q => ∀ b, (ht b).ex.choose σ H Q, fun σ H Q => ∀ b, (he b).ex.choose σ H Q, i1, fun b => ⟨fun pins s σ H v u Q I r h => (hg b).ex.choose_spec.1.run pins s σ H v u Q I r (h b)⟩, fun b => ⟨fun pins s σ H Q I h => (ht b).ex.choose_spec.1.run pins s σ H Q I (h b)⟩,
    fun b => ⟨fun pins s σ H Q I h => (he b).ex.choose_spec.1.run pins s σ H Q I (h b)⟩, lc_ev i2 (fun S σ H E v d P Q r h hp q b => (hg b).ex.choose_spec.2 S σ H E v d P Q r h hp q) (fun S σ H E P Q r hp q b => (ht b).ex.choose_spec.2 S σ H E P Q r hp q) fun S σ H E P Q r hp q b => (he b).ex.choose_spec.2 S σ H E P Q r hp q⟩
theorem de_lc (hc : X.calm = true) (hN : X.N.Nodup) (ok : BlkOk X.N X.env.scope scope own) (hi : DI X C tg iter ti) (hg : ∀ b : Bk, DGE (xb X scope b) C (own.map (·.2)) tg tge) (ht : ∀ b : Bk, DTs (xb X scope b) C ifs ttd) (he : ∀ b : Bk, DE (xb X scope b) C elt ted)
    (hs : ∀ x, foldedSetIterable iter X.env x = pure x := by intro _; rfl) : DE X C (.ListComp elt [⟨tg, iter, ifs, 0⟩] scope pos) (dLc (own.map (·.2)) ti tge ttd ted) := by
  obtain ⟨wi, g, tt, te, i1, g1, t1, e1, ev⟩ := lc_parts hi hg ht he
  exact ⟨⟨_, pe_lc hc hN i1 ok (fun s H A cl fp => g1 (s, H, A, cl, fp)) (fun s H A cl fp => t1 (s, H, A, cl, fp)) (fun s H A cl fp => e1 (s, H, A, cl, fp)) hs, ev⟩⟩
/-- x = [..] on one row -/
theorem ds_setLc {i : Nat} {y : Str} {py spos : Pos} (n : NmOk X i y) (hyl : X.env.scope.names.lookup y = some .local) (hsw : swapsWith (.ListComp elt [⟨tg, iter, ifs, 0⟩] scope pos) (some (.Name y py)) spos.line X.env = pure true)
    (hc : X.calm = true) (ok : BlkOk X.N X.env.scope scope own) (hi : DI X C tg iter ti) (hg : ∀ b : Bk, DGE (xb X scope b) C (own.map (·.2)) tg tge) (ht : ∀ b : Bk, DTs (xb X scope b) C ifs ttd) (he : ∀ b : Bk, DE (xb X scope b) C elt ted)
    (hs : ∀ x, foldedSetIterable iter X.env x = pure x := by intro _; rfl) : DS X C (.Assign [.Name y py] (.ListComp elt [⟨tg, iter, ifs, 0⟩] scope pos) spos) (sSet i (dLc (own.map (·.2)) ti tge ttd ted)) := by
  obtain ⟨wi, g, tt, te, i1, g1, t1, e1, ev⟩ := lc_parts hi hg ht he
  exact ⟨⟨_, ps_setLc hc n.nd n.at_ hyl hsw i1 ok (fun s H A cl fp => g1 (s, H, A, cl, fp)) (fun s H A cl fp => t1 (s, H, A, cl, fp)) (fun s H A cl fp => e1 (s, H, A, cl, fp)) hs, ev_set ev⟩⟩
end
end L3
namespace L3
open PySem PySem.Spec PyProof.Rows L2

/-! ### data as the library's data -/
def keyP : Key → PyData
  | .inl i => .int i
  | .inr x => .str x
mutual
def toP : D → PyData
  | .non => .none
  | .bl b => .bool b
  | .int i => .int i
  | .str x => .str x
  | .lst ds => .list (toPs ds)
  | .tup ds => .tuple (toPs ds)
  | .dic ks => .dict (toPk ks)
  | .scr ns => .list (ns.map PyData.int)
  | .op _ => .none
def toPs : List D → List PyData
  | [] => []
  | d :: r => toP d :: toPs r
def toPk : List (Key × D) → List (PyData × PyData)
  | [] => []
  | (k, d) :: r => (keyP k, toP d) :: toPk r
end
mutual
/-- no dict, no object -/
def pl : D → Bool
  | .non => true
  | .bl _ => true
  | .int _ => true
  | .str _ => true
  | .lst ds => pls ds
  | .tup ds => pls ds
  | .dic _ => false
  | .scr _ => false
  | .op _ => false
def pls : List D → Bool
  | [] => true
  | d :: r => pl d && pls r
end
mutual
theorem DV.dp {K : PySem.W.Frag} {H : Hp} : ∀ {v : V} {d : D}, DV K H v d → pl d = true → Dp K H v (toP d)
  | _, _, .non, _ => by simp only [toP]; exact .non
  | _, _, .bl b, _ => by simp only [toP]; exact .bl b
  | _, _, .int i, _ => by simp only [toP]; exact .int i
  | _, _, .str x, _ => by simp only [toP]; exact .str x
  | _, _, .lst e h, p => by simp only [toP]; exact .lst (.inl (.inl e)) (DVs.dp h (by simpa only [pl] using p))
  | _, _, .tup e h, p => by simp only [toP]; exact .tup (.inl (.inl e)) (DVs.dp h (by simpa only [pl] using p))
  | _, _, .dic e h, p => by simp only [pl] at p; exact absurd p Bool.false_ne_true
  | _, _, .scr e, p => by simp only [pl] at p; exact absurd p Bool.false_ne_true
  | _, _, .op v, p => by simp only [pl] at p; exact absurd p Bool.false_ne_true
theorem DVs.dp {K : PySem.W.Frag} {H : Hp} : ∀ {vs : List V} {ds : List D}, DVs K H vs ds → pls ds = true → DpAll K H vs (toPs ds)
  | _, _, .nil, _ => by simp only [toPs]; exact .nil
  | _, _, .cons h t, p => by
    simp only [pls, Bool.and_eq_true] at p
    simp only [toPs]
    exact .cons (DV.dp h p.1) (DVs.dp t p.2)
end

/-! ### operators -/
section
variable {K : PySem.W.Frag} {C : Cf}
theorem two_lists {S : AS} {H : Hp} (ok : Ok C S H) {x : V} {ds : List D} (h : DV K (hid H S) x (.lst ds)) : ∃ a vs, x = .ref a ∧ H a = some (.lst vs) ∧ DVs K (hid H S) vs ds := by
  cases h with
  | lst e h => exact ⟨_, _, rfl, same_hid _ _ e, h⟩
theorem two_tups {S : AS} {H : Hp} (ok : Ok C S H) {x : V} {ds : List D} (h : DV K (hid H S) x (.tup ds)) : ∃ a vs, x = .ref a ∧ SqT K H a vs ∧ DVs K (hid H S) vs ds := by
  cases h with
  | tup e h => exact ⟨_, _, rfl, .inl (.inl (same_hid _ _ e)), h⟩
theorem q_list {S : AS} {H : Hp} (ok : Ok C S H) {vs : List V} {ds : List D} {P : D → Prop} {Q : VK} (h : DVs K (hid H S) vs ds) (hp : P (.lst ds)) (q : ∀ v d H', Go C H H' → P d → DV K (hid H' S) v d → Q v H') : ∀ p, H p = none → Q (.ref p) (upd H p (.lst vs)) := fun p np => by
  have gn : Go C H (upd H p (.lst vs)) := Go.new ok np
  exact q _ _ _ gn hp (.lst (hid_new ok np) (h.mono (gn.vis ok)))
theorem q_tup {S : AS} {H : Hp} (ok : Ok C S H) {vs : List V} {ds : List D} {P : D → Prop} {Q : VK} (h : DVs K (hid H S) vs ds) (hp : P (.tup ds)) (q : ∀ v d H', Go C H H' → P d → DV K (hid H' S) v d → Q v H') : ∀ p, H p = none → Q (.ref p) (upd H p (.tup vs)) := fun p np => by
  have gn : Go C H (upd H p (.tup vs)) := Go.new ok np
  exact q _ _ _ gn hp (.tup (hid_new ok np) (h.mono (gn.vis ok)))
def fAdd : F2
  | .int i, .int j, P => P (.int (i + j))
  | .str a, .str b, P => a.length + b.length ≤ 100000 ∧ P (.str (a ++ b))
  | .lst a, .lst b, P => a.length + b.length ≤ 100000 ∧ P (.lst (a ++ b))
  | .tup a, .tup b, P => a.length + b.length ≤ 100000 ∧ P (.tup (a ++ b))
  | _, _, _ => False
def rAdd (K : PySem.W.Frag) : R2 := fun x y H Q => rI0 (fun i j => .int (i + j)) x y H Q ∨ (∃ i j, x = .str i ∧ y = .str j ∧ i.length + j.length ≤ sizeLine ∧ Q (.str (i ++ j)) H) ∨ rCat x y H Q ∨ rCatA K x y H Q
theorem op_addD {X : Cx} : OpR X (binaryOp .Add) (rAdd X.K) := op_add.or (op_add_str.or (op_cat.or op_catA))
theorem od_add : OpD K C (rAdd K) fAdd := by
  intro S H x y a b P Q ok hx hy h q
  cases a with
  | int i => cases b with
    | int j => exact .inl ⟨i, j, hx.int_inv, hy.int_inv, q _ _ H (Go.refl ok) h (.int _)⟩
    | _ => exact h.elim
  | str i => cases b with
    | str j => exact .inr (.inl ⟨i, j, hx.str_inv, hy.str_inv, small_line h.1, q _ _ H (Go.refl ok) h.2 (.str _)⟩)
    | _ => exact h.elim
  | lst ds => cases b with
    | lst es =>
      obtain ⟨a1, v1, rfl, e1, h1⟩ := two_lists ok hx
      obtain ⟨a2, v2, rfl, e2, h2⟩ := two_lists ok hy
      exact .inr (.inr (.inl ⟨a1, a2, v1, v2, rfl, rfl, e1, e2, small_line (by rw [h1.len, h2.len]; exact h.1), q_list ok (h1.app h2) h.2 q⟩))
    | _ => exact h.elim
  | tup ds => cases b with
    | tup es =>
      obtain ⟨a1, v1, rfl, e1, h1⟩ := two_tups ok hx
      obtain ⟨a2, v2, rfl, e2, h2⟩ := two_tups ok hy
      exact .inr (.inr (.inr ⟨a1, a2, v1, v2, rfl, rfl, e1, e2, small_line (by rw [h1.len, h2.len]; exact h.1), fun e => by
          subst e
          cases h1
          exact q _ _ H (Go.refl ok) h.2 hy, fun _ e => by
          subst e
          cases h2
          have h2 := h.2
          rw [List.append_nil] at h2
          exact q _ _ H (Go.refl ok) h2 hx, fun _ _ => q_tup ok (h1.app h2) h.2 q⟩))
    | _ => exact h.elim
  | _ => exact h.elim
/-- two ints -/
def fI (c : Int → Int → Prop) (g : Int → Int → D) : F2
  | .int i, .int j, P => c i j ∧ P (g i j)
  | _, _, _ => False
theorem od_int {c c' : Int → Int → Prop} {g : Int → Int → D} {g' : Int → Int → V} (hc : ∀ i j, c i j → c' i j) (hg : ∀ H i j, DV K H (g' i j) (g i j)) : OpD K C (rI c' g') (fI c g) := by
  intro S H x y a b P Q ok hx hy h q
  cases a with
  | int i => cases b with
    | int j => exact ⟨i, j, hx.int_inv, hy.int_inv, hc i j h.1, q _ _ H (Go.refl ok) h.2 (hg _ i j)⟩
    | _ => exact h.elim
  | _ => exact h.elim
theorem od_int0 {g : Int → Int → D} {g' : Int → Int → V} (hg : ∀ H i j, DV K H (g' i j) (g i j)) : OpD K C (rI0 g') (fI (fun _ _ => True) g) := by
  intro S H x y a b P Q ok hx hy h q
  cases a with
  | int i => cases b with
    | int j => exact ⟨i, j, hx.int_inv, hy.int_inv, q _ _ H (Go.refl ok) h.2 (hg _ i j)⟩
    | _ => exact h.elim
  | _ => exact h.elim
def fSub : F2 := fI (fun _ _ => True) fun i j => .int (i - j)
theorem od_sub : OpD K C (rI0 fun i j => .int (i - j)) fSub := od_int0 fun _ i j => .int _
def fMod : F2 := fI (fun _ j => 0 < j) fun i j => .int (i % j)
theorem od_mod : OpD K C (rI (fun _ j => 0 < j) fun i j => .int (i % j)) fMod := od_int (fun _ _ h => h) fun _ i j => .int _
def fFdv : F2 := fI (fun _ j => 0 < j ∧ j < 1073741824) fun i j => .int (i / j)
theorem od_fdv : OpD K C (rI CDiv fun i j => .int (i / j)) fFdv := od_int (fun _ _ h => h) fun _ i j => .int _
/-- i * j, x * j, [..] * j -/
def fMul : F2
  | .int i, .int j, P => ((-(2 ^ 64) < i ∧ i < 2 ^ 64) ∨ (-(2 ^ 64) < j ∧ j < 2 ^ 64)) ∧ P (.int (i * j))
  | .str x, .int j, P => 2 ≤ j ∧ j ≤ 100000 ∧ 1 ≤ x.length ∧ x.length * j.toNat ≤ 100000 ∧ P (.str ⟨(List.replicate j.toNat x.cps).foldl (· ++ ·) #[]⟩)
  | .lst ds, .int j, P => 0 ≤ j ∧ j ≤ 100000 ∧ ds.length * j.toNat ≤ 100000 ∧ P (.lst (List.replicate j.toNat ds).flatten)
  | _, _, _ => False
def rMulS : R2 := fun x y H Q => ∃ (z : Str) (j : Int), x = .str z ∧ y = .int j ∧ 2 ≤ j ∧ j ≤ 100000 ∧ 1 ≤ z.length ∧ z.length * j.toNat ≤ 100000 ∧ Q (.str ⟨(List.replicate j.toNat z.cps).foldl (· ++ ·) #[]⟩) H
theorem op_mulS {X : Cx} : OpR X (binaryOp .Mult) rMulS := by
  intro pins s σ H x y v u Q I rx ry h
  obtain ⟨z, j, rfl, rfl, h1, h2, h3, h4, q⟩ := h
  obtain ⟨t, rfl⟩ := rx
  obtain ⟨t', rfl⟩ := ry
  refine SB.mul ⟨?_, fun _ _ => ?_, fun _ _ => ?_⟩ fun t' k => ⟨.str _, H, I.tok _, ⟨t', ?_⟩, q⟩
  · rw [decide_eq_false (by omega), decide_eq_false (by omega)]; rfl
  · have hz : (z.length : Int) ≤ 100000 := by
      have : z.length * 1 ≤ z.length * j.toNat := Nat.mul_le_mul_left _ (by omega)
      omega
    have hd : (100000 : Int) ≤ (2 ^ 63 - 1) / j := by
      refine Int.le_ediv_of_mul_le (by omega) ?_
      omega
    omega
  · unfold PySem.Builtin.Str.tooLong
    first
      | (apply decide_eq_false; omega)
      | (simp; omega)
      | (simp [sizeLine]; omega)
  · unfold Txt.mul
    rw [if_neg (by omega), if_neg ?_]
    have e1 : (j == 1) = false := beq_eq_false_iff_ne.mpr (by omega)
    have e2 : (z.length == 0) = false := beq_eq_false_iff_ne.mpr (by omega)
    rw [e1, e2]
    exact Bool.false_ne_true
def rMulD : R2 := fun x y H Q => rI CMul (fun i j => .int (i * j)) x y H Q ∨ rMulS x y H Q ∨ rRep x y H Q
theorem op_mulD {X : Cx} : OpR X (binaryOp .Mult) rMulD := op_mul.or (op_mulS.or op_rep)
theorem od_mul : OpD K C rMulD fMul := by
  intro S H x y a b P Q ok hx hy h q
  cases a with
  | int i => cases b with
    | int j => exact .inl ⟨i, j, hx.int_inv, hy.int_inv, h.1, q _ _ H (Go.refl ok) h.2 (.int _)⟩
    | _ => exact h.elim
  | str z => cases b with
    | int j => exact .inr (.inl ⟨z, j, hx.str_inv, hy.int_inv, h.1, h.2.1, h.2.2.1, h.2.2.2.1, q _ _ H (Go.refl ok) h.2.2.2.2 (.str _)⟩)
    | _ => exact h.elim
  | lst ds => cases b with
    | int j =>
      obtain ⟨a1, v1, rfl, e1, h1⟩ := two_lists ok hx
      obtain ⟨b1, b2, b3, b4⟩ := h
      have fl : ∀ n : Nat, DVs K (hid H S) (List.replicate n v1).flatten (List.replicate n ds).flatten := by
        intro n
        induction n with
        | zero => exact .nil
        | succ n ih => rw [List.replicate_succ, List.replicate_succ, List.flatten_cons, List.flatten_cons]; exact h1.app ih
      exact .inr (.inr ⟨a1, j, v1, rfl, hy.int_inv, e1, by omega, by omega, small_line (by rw [h1.len]; exact b3), q_list ok (fl _) b4 q⟩)
    | _ => exact h.elim
  | _ => exact h.elim
/-! order -/
def ordI (p : Int → Int → Bool) (s : List Nat → List Nat → Bool) : F2
  | .int i, .int j, P => P (.bl (p i j))
  | .str a, .str b, P => P (.bl (s a.cps.toList b.cps.toList))
  | _, _, _ => False
def rOrd (p : Int → Int → Bool) (s : List Nat → List Nat → Bool) : R2 := fun x y H Q => rI0 (fun i j => .bl (p i j)) x y H Q ∨ ∃ i j, x = .str i ∧ y = .str j ∧ Q (.bl (s i.cps.toList j.cps.toList)) H
theorem od_ord {p : Int → Int → Bool} {s : List Nat → List Nat → Bool} : OpD K C (rOrd p s) (ordI p s) := by
  intro S H x y a b P Q ok hx hy h q
  cases a with
  | int i => cases b with
    | int j => exact .inl ⟨i, j, hx.int_inv, hy.int_inv, q _ _ H (Go.refl ok) h (.bl _)⟩
    | _ => exact h.elim
  | str i => cases b with
    | str j => exact .inr ⟨i, j, hx.str_inv, hy.str_inv, q _ _ H (Go.refl ok) h (.bl _)⟩
    | _ => exact h.elim
  | _ => exact h.elim
abbrev fLt : F2 := ordI (fun i j => decide (i < j)) fun a b => decide (a < b)
abbrev fLe : F2 := ordI (fun i j => decide (i ≤ j)) fun a b => !decide (b < a)
abbrev fGt : F2 := ordI (fun i j => decide (j < i)) fun a b => decide (b < a)
abbrev fGe : F2 := ordI (fun i j => decide (j ≤ i)) fun a b => !decide (a < b)
theorem op_ltD {X : Cx} : OpR X (compareOp .Lt) (rOrd (fun i j => decide (i < j)) fun a b => decide (a < b)) := op_lt.or op_lt_str
theorem op_leD {X : Cx} : OpR X (compareOp .LtE) (rOrd (fun i j => decide (i ≤ j)) fun a b => !decide (b < a)) := op_le.or op_le_str
theorem op_gtD {X : Cx} : OpR X (compareOp .Gt) (rOrd (fun i j => decide (j < i)) fun a b => decide (b < a)) := op_gt.or op_gt_str
theorem op_geD {X : Cx} : OpR X (compareOp .GtE) (rOrd (fun i j => decide (j ≤ i)) fun a b => !decide (a < b)) := op_ge.or op_ge_str
/-! == -/
/-- what == asks of a datum: no dict, no object, depth and signs in order -/
def eqOk (d : D) : Bool := pl d && SeqAt.shaped (toP d)
def eqD (a b : D) : Bool := PyData.eqv (toP a) (toP b)
def fEqb (n : Bool) : F2 := fun a b P => match a, b with
  | .str x, .str y => P (.bl (n != decide (x = y)))
  | .int x, .int y => P (.bl (n != decide (x = y)))
  | a, b => eqOk a = true ∧ eqOk b = true ∧ P (.bl (n != eqD a b))
def rEqb (K : PySem.W.Frag) : R2 := fun x y H Q => rEq x y H Q ∨ rEqD K x y H Q
def rNeb (K : PySem.W.Frag) : R2 := fun x y H Q => rNe x y H Q ∨ rNeD K x y H Q
abbrev fEq : F2 := fEqb false
abbrev fNe : F2 := fEqb true
theorem op_eqb {X : Cx} (hu : X.A.units + 64 < cLine) : OpR X (compareOp .Eq) (rEqb X.K) := op_eq.or (op_eqD hu)
theorem op_neb {X : Cx} (hu : X.A.units + 64 < cLine) : OpR X (compareOp .NotEq) (rNeb X.K) := op_ne.or (op_neD hu)
theorem eq_parts {S : AS} {H : Hp} {x : V} {a : D} (h : DV K (hid H S) x a) (e : eqOk a = true) : Dp K H x (toP a) ∧ SeqAt.shaped (toP a) = true := by
  unfold eqOk at e
  rw [Bool.and_eq_true] at e
  exact ⟨(h.mono same_hid).dp e.1, e.2⟩
theorem od_eq : OpD K C (rEqb K) fEq := by
  intro S H x y a b P Q ok hx hy h q
  have gen : eqOk a = true ∧ eqOk b = true ∧ P (.bl (false != eqD a b)) → rEqb K x y H Q := fun ⟨h1, h2, h3⟩ => by
    obtain ⟨d1, s1⟩ := eq_parts hx h1
    obtain ⟨d2, s2⟩ := eq_parts hy h2
    refine .inr ⟨_, _, d1, d2, s1, s2, q _ _ H (Go.refl ok) ?_ (.bl _)⟩
    simpa [eqD] using h3
  cases a <;> cases b <;> first | exact gen h | skip
  · rename_i i j
    refine .inl ⟨by rw [hx.int_inv, hy.int_inv]; rfl, ?_⟩
    rw [hx.int_inv, hy.int_inv]
    refine q _ _ H (Go.refl ok) h ?_
    rw [show decide (V.int i = V.int j) = (false != decide (i = j)) by simp]
    exact .bl _
  · rename_i i j
    refine .inl ⟨by rw [hx.str_inv, hy.str_inv]; rfl, ?_⟩
    rw [hx.str_inv, hy.str_inv]
    refine q _ _ H (Go.refl ok) h ?_
    rw [show decide (V.str i = V.str j) = (false != decide (i = j)) by simp]
    exact .bl _
theorem od_ne : OpD K C (rNeb K) fNe := by
  intro S H x y a b P Q ok hx hy h q
  have gen : eqOk a = true ∧ eqOk b = true ∧ P (.bl (true != eqD a b)) → rNeb K x y H Q := fun ⟨h1, h2, h3⟩ => by
    obtain ⟨d1, s1⟩ := eq_parts hx h1
    obtain ⟨d2, s2⟩ := eq_parts hy h2
    refine .inr ⟨_, _, d1, d2, s1, s2, q _ _ H (Go.refl ok) ?_ (.bl _)⟩
    simpa [eqD] using h3
  cases a <;> cases b <;> first | exact gen h | skip
  · rename_i i j
    refine .inl ⟨by rw [hx.int_inv, hy.int_inv]; rfl, ?_⟩
    rw [hx.int_inv, hy.int_inv]
    refine q _ _ H (Go.refl ok) h ?_
    rw [show (!decide (V.int i = V.int j)) = (true != decide (i = j)) by simp]
    exact .bl _
  · rename_i i j
    refine .inl ⟨by rw [hx.str_inv, hy.str_inv]; rfl, ?_⟩
    rw [hx.str_inv, hy.str_inv]
    refine q _ _ H (Go.refl ok) h ?_
    rw [show (!decide (V.str i = V.str j)) = (true != decide (i = j)) by simp]
    exact .bl _
/-! one sign in a text -/
def fInS (n : Bool) : F2
  | .str x, .str z, P => ∃ c, x = ⟨#[c]⟩ ∧ P (.bl (n != decide (c ∈ z.cps.toList)))
  | _, _, _ => False
def rInSg (n : Bool) : R2 := fun x y H Q => ∃ (c : Nat) (z : Str), x = .str ⟨#[c]⟩ ∧ y = .str z ∧ Q (.bl (n != decide (c ∈ z.cps.toList))) H
theorem op_inSg {X : Cx} : OpR X (compareOp .In) (rInSg false) := fun pins s σ H x y v u Q I rx ry ⟨c, z, h1, h2, q⟩ => op_in_sign pins s σ H x y v u Q I rx ry ⟨c, z, h1, h2, by simpa using q⟩
theorem op_notInSg {X : Cx} : OpR X (compareOp .NotIn) (rInSg true) := fun pins s σ H x y v u Q I rx ry ⟨c, z, h1, h2, q⟩ => op_notIn_sign pins s σ H x y v u Q I rx ry ⟨c, z, h1, h2, by simpa using q⟩
theorem od_inS {n : Bool} : OpD K C (rInSg n) (fInS n) := by
  intro S H x y a b P Q ok hx hy h q
  cases a with
  | str i => cases b with
    | str j =>
      obtain ⟨c, rfl, h⟩ := h
      exact ⟨c, j, hx.str_inv, hy.str_inv, q _ _ H (Go.refl ok) h (.bl _)⟩
    | _ => exact h.elim
  | _ => exact h.elim
/-! items -/
def fIx : F2
  | .lst ds, .int i, P => ∃ d, atI ds i = some d ∧ P d
  | .tup ds, .int i, P => ∃ d, atI ds i = some d ∧ P d
  | .str z, .int i, P => z.length ≤ 100000 ∧ ∃ c, atI z.cps.toList i = some c ∧ P (.str ⟨#[c]⟩)
  | _, _, _ => False
theorem at_dv {S : AS} {H : Hp} {vs : List V} {ds : List D} {i : Int} {d : D} (h : DVs K (hid H S) vs ds) (e : atI ds i = some d) : ∃ v, atI vs i = some v ∧ DV K (hid H S) v d := by
  unfold atI at e ⊢
  rw [h.len]
  cases z : ixN ds.length i with
  | none => rw [z] at e; cases e
  | some j =>
    rw [z] at e
    exact h.get (i := j) e
theorem od_ix : OpD K C (rIx K) fIx := by
  intro S H x y a b P Q ok hx hy h q
  cases a with
  | lst ds => cases b with
    | int i =>
      obtain ⟨d, e, h⟩ := h
      obtain ⟨p, vs, rfl, e1, h1⟩ := two_lists ok hx
      obtain ⟨v, e2, hv⟩ := at_dv h1 e
      exact .inl ⟨p, vs, i, v, rfl, hy.int_inv, .inl (.inl e1), e2, q _ _ H (Go.refl ok) h hv⟩
    | _ => exact h.elim
  | tup ds => cases b with
    | int i =>
      obtain ⟨d, e, h⟩ := h
      obtain ⟨p, vs, rfl, e1, h1⟩ := two_tups ok hx
      obtain ⟨v, e2, hv⟩ := at_dv h1 e
      exact .inr (.inl ⟨p, vs, i, v, rfl, hy.int_inv, e1, e2, q _ _ H (Go.refl ok) h hv⟩)
    | _ => exact h.elim
  | str z => cases b with
    | int i =>
      obtain ⟨hz, c, e, h⟩ := h
      exact .inr (.inr ⟨z, i, c, hx.str_inv, hy.int_inv, small_line hz, e, q _ _ H (Go.refl ok) h (.str _)⟩)
    | _ => exact h.elim
  | _ => exact h.elim
end
end L3
namespace L3
open PySem PySem.Spec PyProof.Rows L2

/-! ### built-ins -/
def dLen : D → Option Nat
  | .str x => if x.length ≤ 100000 then some x.length else none
  | .lst ds => some ds.length
  | .tup ds => some ds.length
  | .scr ns => some ns.length
  | .dic ks => some ks.length
  | _ => none
def fLen : FN
  | [d], P => ∃ n, dLen d = some n ∧ P (.int (n : Int))
  | _, _ => False
def rLenD (K : PySem.W.Frag) : List V → Hp → VK → Prop := fun xs H Q => (∃ x n, xs = [x] ∧ LenV K x H n ∧ Q (.int n) H) ∨ ∃ a kvs, xs = [V.ref a] ∧ H a = some (.dK kvs) ∧ Q (.int kvs.length) H
theorem call_lenAll {X : Cx} : CallR X (.builtin "len") (rLenD X.K) := call_len.or call_lenD
section
variable {K : PySem.W.Frag} {C : Cf}
theorem one_dv {H : Hp} {vs : List V} {d : D} (h : DVs K H vs [d]) : ∃ v, vs = [v] ∧ DV K H v d := by
  cases h with
  | cons h t => cases t; exact ⟨_, rfl, h⟩
theorem two_dv {H : Hp} {vs : List V} {d e : D} (h : DVs K H vs [d, e]) : ∃ v w, vs = [v, w] ∧ DV K H v d ∧ DV K H w e := by
  cases h with
  | cons h t => obtain ⟨w, rfl, h2⟩ := one_dv t; exact ⟨_, _, rfl, h, h2⟩
theorem DKs.len {H : Hp} : ∀ {vs : List (Key × V)} {ds : List (Key × D)}, DKs K H vs ds → vs.length = ds.length
  | _, _, .nil => rfl
  | _, _, .cons _ t => by simp [DKs.len t]
theorem cd_len : CallD K C (rLenD K) fLen := by
  intro S H vs ds P Q ok hv h q
  match ds, h with
  | [d], h =>
    obtain ⟨n, e, h⟩ := h
    obtain ⟨v, rfl, hd⟩ := one_dv hv
    have fin : ∀ m : Nat, m = n → Q (.int (m : Int)) H := fun m e => by rw [e]; exact q _ _ H (Go.refl ok) h (.int _)
    cases hd with
    | str x =>
      have e : (if x.length ≤ 100000 then some x.length else Option.none) = some n := e
      split at e
      · exact .inl ⟨_, x.length, rfl, ⟨small_line ‹_›, rfl⟩, fin _ (Option.some.inj e)⟩
      · cases e
    | lst e1 h1 => exact .inl ⟨_, _, rfl, .inl ⟨_, .inl (.inl (same_hid _ _ e1)), rfl⟩, fin _ (h1.len.trans (Option.some.inj e))⟩
    | tup e1 h1 => exact .inl ⟨_, _, rfl, .inr ⟨_, .inl (.inl (same_hid _ _ e1)), rfl⟩, fin _ (h1.len.trans (Option.some.inj e))⟩
    | scr e1 => exact .inl ⟨_, _, rfl, .inl ⟨_, Same.seq same_hid e1, rfl⟩, fin _ ((List.length_map _).trans (Option.some.inj e))⟩
    | dic e1 h1 => exact .inr ⟨_, _, rfl, same_hid _ _ e1, fin _ (h1.len.trans (Option.some.inj e))⟩
    | non => cases e
    | bl _ => cases e
    | int _ => cases e
    | op _ => cases e
/-! isinstance -/
def tyOf : D → Option String
  | .non => some "NoneType"
  | .bl _ => some "bool"
  | .int _ => some "int"
  | .str _ => some "str"
  | .lst _ => some "list"
  | .tup _ => some "tuple"
  | .dic _ => some "dict"
  | .scr _ => none
  | .op _ => none
def isTy (a b : String) : Bool := decide (a = b) || (decide (a = "bool") && decide (b = "int"))
def kinds7 : List String := ["NoneType", "bool", "int", "str", "list", "tuple", "dict"]
def asked6 : List String := ["bool", "int", "str", "list", "tuple", "dict"]
theorem kit_table : (kinds7.all fun a => asked6.all fun b => decide (kitB a b = some (isTy a b))) = true := by decide +kernel
theorem kit_is {a b : String} (ha : a ∈ kinds7) (hb : b ∈ asked6) : kitB a b = some (isTy a b) := by
  have h := List.all_eq_true.mp kit_table a ha
  exact of_decide_eq_true (List.all_eq_true.mp h b hb)
theorem tyX_of {S : AS} {H : Hp} {v : V} {d : D} {t : String} (h : DV K (hid H S) v d) (e : tyOf d = some t) : TyX K H v (.type t) ∧ t ∈ kinds7 := by
  cases h with
  | non => cases e; exact ⟨.base .non, by decide⟩
  | bl b => cases e; exact ⟨.base (.bl b), by decide⟩
  | int b => cases e; exact ⟨.base (.int b), by decide⟩
  | str b => cases e; exact ⟨.base (.str b), by decide⟩
  | lst e1 _ => cases e; exact ⟨.base (.lst (same_hid _ _ e1)), by decide⟩
  | tup e1 _ =>
    cases e
    exact ⟨.base (.tup (same_hid _ _ e1)), by decide⟩
  | dic e1 _ => cases e; exact ⟨.base (.dK (same_hid _ _ e1)), by decide⟩
  | scr _ => cases e
  | op _ => cases e
/-- isinstance(x, T) | isinstance(x, (T, U)) -/
def fIsi : FN
  | [d, .op (.ty b)], P => ∃ t, tyOf d = some t ∧ b ∈ asked6 ∧ P (.bl (isTy t b))
  | [d, .tup [.op (.ty b), .op (.ty c)]], P => ∃ t, tyOf d = some t ∧ b ∈ asked6 ∧ c ∈ asked6 ∧ P (.bl (isTy t b || isTy t c))
  | _, _ => False
def rIsiD (K : PySem.W.Frag) : List V → Hp → VK → Prop := fun xs H Q => rIsi K xs H Q ∨ rIsiT K xs H Q
theorem call_isiD {X : Cx} : CallR X (.builtin "isinstance") (rIsiD X.K) := call_isi.or call_isiT
theorem cd_isi : CallD K C (rIsiD K) fIsi := by
  intro S H vs ds P Q ok hv h q
  match ds, h with
  | [d, .op (.ty b)], h =>
    obtain ⟨t, e, hb, h⟩ := h
    obtain ⟨v, w, rfl, hd, hw⟩ := two_dv hv
    have hw := hw.op_inv
    subst hw
    obtain ⟨ty, ht⟩ := tyX_of hd e
    exact .inl ⟨v, .ty b, .type t, .type b, isTy t b, rfl, .ty b, ty, kit_ty (kit_is ht hb), q _ _ H (Go.refl ok) h (.bl _)⟩
  | [d, .tup [.op (.ty b), .op (.ty c)]], h =>
    obtain ⟨t, e, hb, hc, h⟩ := h
    obtain ⟨v, w, rfl, hd, hw⟩ := two_dv hv
    obtain ⟨ty, ht⟩ := tyX_of hd e
    cases hw with
    | @tup a vs ds e1 h1 =>
      obtain ⟨x, y, rfl, hx, hy⟩ := two_dv h1
      have hx := hx.op_inv
      have hy := hy.op_inv
      subst hx
      subst hy
      have k1 := kit_ty (K := K) (kit_is ht hb)
      have k2 := kit_ty (K := K) (kit_is ht hc)
      refine .inr ⟨v, a, _, .type t, [.type b, .type c], isTy t b || isTy t c, rfl, same_hid _ _ e1, .cons (.ty b) (.cons (.ty c) .nil), ty, ?_, q _ _ H (Go.refl ok) h (.bl _)⟩
      refine kitAny_cons k1 (fun e => ?_) (fun e => by rw [e]; rfl)
      rw [e, Bool.false_or]
      exact kitAny_cons k2 (fun e => by rw [e]; exact kitAny_nil) (fun e => e)
end
end L3
namespace L3
open PySem PySem.Spec PyProof.Rows L2

section
variable {K : PySem.W.Frag} {C : Cf}
def fAll : FN
  | [.lst ds], P => ∃ bs : List Bool, ds = bs.map D.bl ∧ P (.bl (bs.all id))
  | _, _ => False
theorem cd_all : CallD K C (rAll K) fAll := by
  intro S H vs ds P Q ok hv h q
  match ds, h with
  | [.lst ds], h =>
    obtain ⟨bs, rfl, h⟩ := h
    obtain ⟨v, rfl, hd⟩ := one_dv hv
    obtain ⟨a, ws, rfl, e, h1⟩ := two_lists ok hd
    have := h1.bls
    subst this
    exact ⟨a, bs, rfl, .inl (.inl e), q _ _ H (Go.refl ok) h (.bl _)⟩
def fAny : FN
  | [.lst ds], P => ∃ bs : List Bool, ds = bs.map D.bl ∧ P (.bl (bs.any id))
  | _, _ => False
theorem cd_any : CallD K C (rAny K) fAny := by
  intro S H vs ds P Q ok hv h q
  match ds, h with
  | [.lst ds], h =>
    obtain ⟨bs, rfl, h⟩ := h
    obtain ⟨v, rfl, hd⟩ := one_dv hv
    obtain ⟨a, ws, rfl, e, h1⟩ := two_lists ok hd
    have := h1.bls
    subst this
    exact ⟨a, bs, rfl, .inl (.inl e), q _ _ H (Go.refl ok) h (.bl _)⟩
/-- min(i, j), max(i, j) -/
def fMin : FN
  | [.int i, .int j], P => P (.int (if j < i then j else i))
  | _, _ => False
theorem cd_min : CallD K C (fun xs H Q => ∃ i j, xs = [.int i, .int j] ∧ Q (.int (if j < i then j else i)) H) fMin := by
  intro S H vs ds P Q ok hv h q
  match ds, h with
  | [.int i, .int j], h =>
    obtain ⟨v, w, rfl, hd, hw⟩ := two_dv hv
    exact ⟨i, j, by rw [hd.int_inv, hw.int_inv], q _ _ H (Go.refl ok) h (.int _)⟩
def fAbs : FN
  | [.int i], P => P (.int (if i < 0 then -i else i))
  | _, _ => False
theorem cd_abs : CallD K C (fun xs H Q => ∃ i, xs = [.int i] ∧ Q (.int (if i < 0 then -i else i)) H) fAbs := by
  intro S H vs ds P Q ok hv h q
  match ds, h with
  | [.int i], h =>
    obtain ⟨v, rfl, hd⟩ := one_dv hv
    exact ⟨i, by rw [hd.int_inv], q _ _ H (Go.refl ok) h (.int _)⟩
/-- tuple(x), list(x) of a list or a tuple -/
def fTupOf : FN
  | [.lst ds], P => P (.tup ds)
  | [.tup ds], P => P (.tup ds)
  | _, _ => False
theorem cd_tup : CallD K C (fun xs H Q => ∃ p ys, xs = [.ref p] ∧ ((SqL K H p ys ∧ ∀ l, H l = none → Q (.ref l) (upd H l (.tup ys))) ∨ (SqT K H p ys ∧ Q (.ref p) H))) fTupOf := by
  intro S H vs ds P Q ok hv h q
  match ds, h with
  | [.lst ds], h =>
    obtain ⟨v, rfl, hd⟩ := one_dv hv
    obtain ⟨a, ws, rfl, e, h1⟩ := two_lists ok hd
    exact ⟨a, ws, rfl, .inl ⟨.inl (.inl e), q_tup ok h1 h q⟩⟩
  | [.tup ds], h =>
    obtain ⟨v, rfl, hd⟩ := one_dv hv
    obtain ⟨a, ws, rfl, e, h1⟩ := two_tups ok hd
    exact ⟨a, ws, rfl, .inr ⟨e, q _ _ H (Go.refl ok) h hd⟩⟩
def fLstOf : FN
  | [.lst ds], P => P (.lst ds)
  | [.tup ds], P => P (.lst ds)
  | _, _ => False
theorem cd_lst : CallD K C (fun xs H Q => ∃ p ys, xs = [.ref p] ∧ (SqL K H p ys ∨ SqT K H p ys) ∧ ∀ l, H l = none → Q (.ref l) (upd H l (.lst ys))) fLstOf := by
  intro S H vs ds P Q ok hv h q
  match ds, h with
  | [.lst ds], h =>
    obtain ⟨v, rfl, hd⟩ := one_dv hv
    obtain ⟨a, ws, rfl, e, h1⟩ := two_lists ok hd
    exact ⟨a, ws, rfl, .inl (.inl (.inl e)), q_list ok h1 h q⟩
  | [.tup ds], h =>
    obtain ⟨v, rfl, hd⟩ := one_dv hv
    obtain ⟨a, ws, rfl, e, h1⟩ := two_tups ok hd
    exact ⟨a, ws, rfl, .inr e, q_list ok h1 h q⟩
/-- sorted of texts: any order that is one -/
def fSortS : FN
  | [.lst ds], P => ∃ xs : List Str, ds = xs.map D.str ∧ xs.length < 64 ∧ ∀ ys : List Str, ys.Perm xs → sortedS ys = true → P (.lst (ys.map D.str))
  | _, _ => False
theorem cd_sortS : CallD K C (rSortedS K) fSortS := by
  intro S H vs ds P Q ok hv h q
  match ds, h with
  | [.lst ds], h =>
    obtain ⟨xs, rfl, hl, h⟩ := h
    obtain ⟨v, rfl, hd⟩ := one_dv hv
    obtain ⟨a, ws, rfl, e, h1⟩ := two_lists ok hd
    have := h1.strs
    subst this
    exact ⟨a, xs, rfl, .inl (.inl e), hl, fun ys p hp hs np => q_list ok (DVs.of_strs ys) (h ys hp hs) q p np⟩
end

/-! ### repr of data -/
mutual
/-- no object, and a dict at the outermost place alone -/
def noDic : D → Bool
  | .non => true
  | .bl _ => true
  | .int i => decide (i.natAbs.log2 < 1920)
  | .str _ => true
  | .lst ds => noDics ds
  | .tup ds => noDics ds
  | .dic _ => false
  | .scr _ => false
  | .op _ => false
def noDics : List D → Bool
  | [] => true
  | d :: r => noDic d && noDics r
end
mutual
theorem noDic_show : ∀ d : D, noDic d = true → (toP d).showable = true ∧ (toP d).hasDict = false ∧ pl d = true
  | .non, _ => by simp only [toP, pl]; exact ⟨rfl, rfl, trivial⟩
  | .bl _, _ => by simp only [toP, pl]; exact ⟨rfl, rfl, trivial⟩
  | .int i, h => by simp only [noDic] at h; simp only [toP, pl]; exact ⟨h, rfl, trivial⟩
  | .str _, _ => by simp only [toP, pl]; exact ⟨rfl, rfl, trivial⟩
  | .lst ds, h => by
    simp only [noDic] at h
    obtain ⟨h1, h2, h3⟩ := noDics_show ds h
    simp only [toP, pl, PyData.showable, PyData.hasDict]
    exact ⟨h1, h2, h3⟩
  | .tup ds, h => by
    simp only [noDic] at h
    obtain ⟨h1, h2, h3⟩ := noDics_show ds h
    simp only [toP, pl, PyData.showable, PyData.hasDict]
    exact ⟨h1, h2, h3⟩
  | .dic _, h => by simp only [noDic] at h; exact absurd h Bool.false_ne_true
  | .scr _, h => by simp only [noDic] at h; exact absurd h Bool.false_ne_true
  | .op _, h => by simp only [noDic] at h; exact absurd h Bool.false_ne_true
theorem noDics_show : ∀ ds : List D, noDics ds = true → PyData.showableAll (toPs ds) = true ∧ PyData.hasDictAll (toPs ds) = false ∧ pls ds = true
  | [], _ => by simp only [toPs, pls, PyData.showableAll, PyData.hasDictAll]; exact ⟨trivial, trivial, trivial⟩
  | d :: r, h => by
    simp only [noDics, Bool.and_eq_true] at h
    obtain ⟨a1, a2, a3⟩ := noDic_show d h.1
    obtain ⟨b1, b2, b3⟩ := noDics_show r h.2
    simp only [toPs, pls, PyData.showableAll, PyData.hasDictAll, a1, a2, a3, b1, b2, b3]
    exact ⟨rfl, rfl, rfl⟩
end
/-- flat items under keys -/
def flatKs : List (Key × D) → Bool
  | [] => true
  | (k, d) :: r => flatD d && noDic d && (match k with | .inl i => decide (i.natAbs.log2 < 1920) | .inr _ => true) && flatKs r
def reprOk : D → Bool
  | .dic ks => flatKs ks
  | d => noDic d
def showD (d : D) : Str := (toP d).shown
def fRepr : FN
  | [d], P => reprOk d = true ∧ (toP d).depth ≤ 60 ∧ (showD d).length ≤ 100000 ∧ P (.str (showD d))
  | _, _ => False
def rReprD (K : PySem.W.Frag) : List V → Hp → VK → Prop := fun xs H Q => ∃ v d, xs = [v] ∧ DV K H v d ∧ reprOk d = true ∧ (toP d).depth ≤ 60 ∧ (showD d).length ≤ 100000 ∧ Q (.str (showD d)) H
theorem flat_reads {h : Heap} {u : Value} {v : V} {d : D} {K : PySem.W.Frag} {H : Hp} (hv : DV K H v d) (r : RelV v u) (f : flatD d = true) (n : noDic d = true) : Reads h u (toP d) [] := by
  cases hv with
  | non => cases r; simp only [toP]; exact .none
  | bl b => cases r; simp only [toP]; exact .bool b
  | int i => obtain ⟨t, rfl⟩ := r; simp only [toP]; exact .int i t
  | str i => obtain ⟨t, rfl⟩ := r; simp only [toP]; exact .str i t
  | lst _ _ => cases f
  | tup _ _ => cases f
  | dic _ _ => cases f
  | scr _ => cases f
  | op v => simp only [noDic] at n; cases n
theorem keys_reads {h : Heap} {P : Program} {w : World} {K : PySem.W.Frag} {H : Hp} : ∀ {ks : List (Key × V)} {kvs : List (Key × D)} {vs : List (Key × Value)} {es : List DictEntry}, DKs K H ks kvs → KV ks vs → Pairs (mixKind P w) es vs → flatKs kvs = true →
    ReadsAll h (es.map (·.key)) ((toPk kvs).map (·.1)) [] ∧ ReadsAll h (es.map (·.val)) ((toPk kvs).map (·.2)) []
  | _, _, _, _, .nil, .nil, .nil, _ => by simp only [toPk]; exact ⟨.nil, .nil⟩
  | _, _, _, _, .cons hd ht, .cons r rt, .cons ke ve pt, f => by
    simp only [flatKs, Bool.and_eq_true] at f
    obtain ⟨⟨⟨f1, f2⟩, f3⟩, f4⟩ := f
    obtain ⟨q1, q2⟩ := keys_reads (h := h) ht rt pt f4
    simp only [toPk, List.map_cons]
    obtain ⟨e1, rv⟩ := r
    simp only at e1
    subst e1
    refine ⟨?_, ?_⟩
    · have z := keyIs_shape ke
      rcases z with ⟨i, t, e0, e⟩ | ⟨x, t, e0, e⟩
      · rw [e, e0]; exact ReadsAll.cons (as := []) (.int i t) q1
      · rw [e, e0]; exact ReadsAll.cons (as := []) (.str x t) q1
    · rw [ve]
      exact ReadsAll.cons (as := []) (flat_reads hd rv f1 f2) q2
theorem keys_show : ∀ {kvs : List (Key × D)}, flatKs kvs = true → PyData.showableKv (toPk kvs) = true
  | [], _ => by simp only [toPk, PyData.showableKv]
  | (k, d) :: r, f => by
    simp only [flatKs, Bool.and_eq_true] at f
    obtain ⟨⟨⟨f1, f2⟩, f3⟩, f4⟩ := f
    have h1 := (noDic_show d f2).1
    have h2 := keys_show f4
    simp only [toPk, PyData.showableKv, h1, h2, Bool.and_true]
    cases k with
    | inl i => exact f3
    | inr x => rfl
theorem call_reprD {X : Cx} (hgd : X.A.guards = some []) (hu : X.A.units + 64 < cLine) : CallR X (.builtin "repr") (rReprD X.K) := by
  intro pins s σ H xs us Q I r h
  obtain ⟨v, d, rfl, hv, ho, hdp, hz, q⟩ := h
  cases r with
  | cons rv rt =>
    cases rt
    rename_i u
    have fin : ∀ (h' : Heap) (tk tk' : Nat), (∀ b o, s.heap.get? b = some o → h'.get? b = some o) → EP X pins σ Q (.str (showD d) tk) { s with heap := h', toks := tk' } := fun h' tk tk' hk => ⟨.str _, H, I.kept hk, ⟨tk, rfl⟩, q⟩
    have hz' : (toP d).shown.length ≤ sizeLine := small_line hz
    have keep0 : ∀ b o, s.heap.get? b = some o → s.heap.get? b = some o := fun _ _ e => e
    by_cases isd : ∃ ks, d = .dic ks
    · obtain ⟨ks, rfl⟩ := isd
      cases hv with
      | @dic a kv ks e hk =>
        cases rv
        obtain ⟨_, hsys, vs, rel, o, es, ep, ho1, hex, hd1, _, prs, _⟩ := I.hok a _ e
        have ho : flatKs ks = true := ho
        obtain ⟨q1, q2⟩ := keys_reads (h := s.heap) hk rel prs ho
        have rd : Reads s.heap (.ref a) (toP (.dic ks)) [a] := by
          simp only [toP]
          exact Reads.dict (as := []) (bs := []) ho1 hex.1 hd1 q1 q2
        refine repr_of_reads' rd (by simp only [toP, PyData.showable]; exact keys_show ho) (fun _ hm => ?_) hgd (by omega) keep0 (fun h' u tk hk => fin h' u tk hk) hz'
        have z : sysModules = a := by simpa using hm
        rw [← z] at hsys
        exact absurd hsys (by simp)
    · have ho : noDic d = true := by
        cases d <;> first | exact ho | exact absurd ⟨_, rfl⟩ isd
      obtain ⟨s1, s2, s3⟩ := noDic_show d ho
      obtain ⟨as, rd⟩ := Dp.reads I (toP d) v u (hv.dp s3) rv
      cases hv with
      | non => cases rv; exact PySem.P.repr_of_none (fin s.heap _ _ keep0)
      | bl b => cases rv; exact PySem.P.repr_of_bool (by have z := fin s.heap s.toks (s.toks + 1) keep0; unfold showD at z; simp only [toP, PyData.shown] at z; exact z)
      | int i =>
        obtain ⟨t, rfl⟩ := rv
        simp only [noDic, decide_eq_true_eq] at ho
        exact PySem.P.repr_of_int ho (by have z := fin s.heap s.toks (s.toks + 1) keep0; unfold showD at z; simp only [toP, PyData.shown] at z; exact z)
      | str x =>
        obtain ⟨t, rfl⟩ := rv
        simp only [toP, PyData.shown] at hz'
        exact PySem.P.repr_of_str (by have z := fin s.heap s.toks (s.toks + 1) keep0; unfold showD at z; simp only [toP, PyData.shown] at z; exact z) hz'
      | lst _ _ => cases rv; exact repr_of_reads' rd s1 (PyData.noDict_hsm s2) hgd (by omega) keep0 (fun h' u tk hk => fin h' u tk hk) hz'
      | tup _ _ => cases rv; exact repr_of_reads' rd s1 (PyData.noDict_hsm s2) hgd (by omega) keep0 (fun h' u tk hk => fin h' u tk hk) hz'
      | dic _ _ => exact absurd ⟨_, rfl⟩ isd
      | scr _ => simp only [noDic] at ho; cases ho
      | op _ => simp only [noDic] at ho; cases ho
theorem cd_repr {K : PySem.W.Frag} {C : Cf} : CallD K C (rReprD K) fRepr := by
  intro S H vs ds P Q ok hv h q
  match ds, h with
  | [d], h =>
    obtain ⟨v, rfl, hd⟩ := one_dv hv
    exact ⟨v, d, rfl, hd.mono same_hid, h.1, h.2.1, h.2.2.1, q _ _ H (Go.refl ok) h.2.2.2 (.str _)⟩
end L3
namespace L3
open PySem PySem.Spec PyProof.Rows L2

/-! ### a def by its name -/
structure Dfn (K : PySem.W.Frag) (mg : Str → Option Value) (x : Str) (st : Stmt) (ps : List Str) : Prop where
  ex : ∃ f fd, Fun K x x st f fd ∧ mg x = some (.ref f) ∧ L2.Binds K fd ps []
structure Cal (P : Program) (w : World) (K : PySem.W.Frag) (mg : Str → Option Value) (base : Heap) (x : Str) (k : Nat) (ps : List Str) (F : Cf → FN) : Prop where
  ex : ∃ f fd, FnG P w K mg base CX0 k f fd ps (spD K F) ∧ mg x = some (.ref f) ∧ PySem.W.keepIn K (.ref f) = true ∧ L2.Binds K fd ps []
section
variable {P : Program} {w : World} {K : PySem.W.Frag} {mg : Str → Option Value} {base : Heap}
theorem cal_of {x : Str} {st : Stmt} {N ps : List Str} {k : Nat} {F : Cf → FN} (d : Dfn K mg x st ps) (S : FnScope N ps (defScope st)) (len : ∀ C ds R, F C ds R → ds.length = ps.length)
    (body : ∀ (f : Addr) (cdv : Value) (A : Around) (fr : List Env) (s : Shared) (H : Hp) (E : XK), A.guards = some [] → Room k (A.deeper (envOfC x (defScope st) s.heap.objs.size f cdv)) → ∀ (C : Cf) (ds : List D) (R : D → Prop), F C ds R →
      ∃ ts, DSs (cxOf CX0 P w K mg base N x (defScope st) f cdv A fr s H E).nox C (defBody st) ts ∧ ts { nx := fun _ => R .non, rt := R } (startD N ds)) : Cal P w K mg base x (k + 1) ps F := by
  obtain ⟨f, fd, FF, hm, hb⟩ := d.ex
  exact ⟨f, fd, def_ok FF S len (body f), hm, FF.kp, hb⟩
theorem Cal.imp {x : Str} {k : Nat} {ps : List Str} {F F' : Cf → FN} (c : Cal P w K mg base x k ps F) (h : ∀ C ds R, F' C ds R → F C ds R) : Cal P w K mg base x k ps F' := by
  obtain ⟨f, fd, G, r⟩ := c.ex
  refine ⟨f, fd, ⟨fun vs H Q E z => G.len vs H Q E ?_, fun A fr s H ar us vs Q E hg hr e0 hb hv z => G.go A fr s H ar us vs Q E hg hr e0 hb hv ?_⟩, r⟩ <;>
  · obtain ⟨C, S, ds, R, ok, hv, hf, q⟩ := z
    exact ⟨C, S, ds, R, ok, hv, h C ds R hf, q⟩
end
section
variable {X : Cx} {C : Cf} {e : Expr} {es : List Expr} {td : TDs} {x : Str} {p pos : Pos} {k j : Nat} {ps : List Str} {F : Cf → FN}
theorem de_cal (c : Cal X.prog X.w X.K X.mg X.base x k ps F) (hgd : X.A.guards = some []) (hr : Room j X.A) (hk : k ≤ j) (hg : Gl X x) (ha : DA X C (e :: es) td) (hdb : (x == ("__debug__" : Str)) = false := by decide)
    (he : starEach (e :: es) X.env = (false, eval e X.env) :: starEach es X.env := by rfl) (hpl : (backTo pos (starEach es X.env)).any (·.1) = false := by rfl) : DE X C (.Call (.Name x p) (e :: es) [] pos) (dCall (F C) td) := by
  obtain ⟨f, fd, G, hm, hkp, hb⟩ := c.ex
  exact de_fn G hgd (hr.mono hk) hm hkp hb hg ha hdb he hpl
/-- the keywords' values -/
structure DK (X : Cx) (C : Cf) (kws : List Keyword) (td : TDs) : Prop where
  ex : ∃ ta, PK X kws ta ∧ EvA X.K C ta td
theorem dk_nil : DK X C [] dNil := ⟨⟨_, pk_nil, fun S σ H E P Q r h q => q [] [] H (Go.refl r.ok) h .nil⟩⟩
theorem dk_cons {nm : Option Str} {kpos : Pos} {kws : List Keyword} {t : TD} {tr : TDs} (h : DE X C e t) (k : DK X C kws tr) : DK X C (⟨nm, e, kpos⟩ :: kws) (dCons t tr) := by
  obtain ⟨te, h1, h2⟩ := h.ex
  obtain ⟨ta, t1, t2⟩ := k.ex
  refine ⟨⟨_, pk_cons h1 t1, fun S σ H E P Q r hp q => ?_⟩⟩
  refine h2 S σ H E _ _ r hp fun v d H1 g1 p1 v1 => ?_
  refine t2 S σ H1 E _ _ (r.go g1) p1 fun vs ds H2 g2 p2 v2 => ?_
  exact q _ _ H2 (g1.trans g2) p2 (.cons (v1.mono (g2.vis (r.ok.go g1))) v2)
/-- f(k = v, ..), the names in any order: each parameter once -/
theorem pe_goK0 {CX : CXT} {f : Addr} {fd : FuncData} {ks : List Str} {sp : Sp} {E : XK} {kws : List Keyword} {tk : TA} {g : List Value → List Value → List Value} {gV : List V → List V → List V}
    (F : FnG X.prog X.w X.K X.mg X.base CX k f fd ps sp) (hgd : X.A.guards = some []) (hr : Room k X.A) (hg : Gl X x) (hm : X.mg x = some (.ref f)) (hk : PySem.W.keepIn X.K (.ref f) = true) (hb : KBinds X.K fd ps ks g gV) (hx : Passes CX X E)
    (hkw : PK X kws tk) (hall : (backToKw pos (keywordEach kws X.env)).all (·.1.isSome) = true := by rfl) (hks : (backToKw pos (keywordEach kws X.env)).filterMap (·.1) = ks := by rfl)
    (hdb : (x == ("__debug__" : Str)) = false := by decide) (hpl : ((backTo pos (starEach [] X.env)).any (·.1) || (backToKw pos (keywordEach kws X.env)).any (·.1.isNone)) = false := by rfl) :
    PE X (.Call (.Name x p) [] kws pos) (fun σ H Q => tk σ H fun zs H2 => sp (gV [] zs) H2 Q E) := by
  refine ⟨fun pins s σ H Q I h => wpAny_Call_Name_kw (ld_glob I hg hm ?_ hdb)⟩
  refine PySem.W.callWith_KW0 (h₀ := X.base) I.ok.mod.kin hk hall (thn (hkw.run pos pins s σ H _ I h) fun ws s2 ⟨zs, H2, I2, rz, q2⟩ => ⟨I2.kIn, ?_⟩) hpl
  rw [hks]; exact go_fnK F hgd hr hb hx I2 .nil rz q2
end
/-- how a def takes its arguments by name -/
structure CalK (P : Program) (w : World) (K : PySem.W.Frag) (mg : Str → Option Value) (base : Heap) (x : Str) (k : Nat) (ps ks : List Str) (gD : List D → List D → List D) (F : Cf → FN) : Prop where
  ex : ∃ f fd g gV, FnG P w K mg base CX0 k f fd ps (spD K F) ∧ mg x = some (.ref f) ∧ PySem.W.keepIn K (.ref f) = true ∧ KBinds K fd ps ks g gV ∧ ∀ (H : Hp) (vs zs : List V) (ds es : List D), DVs K H vs ds → DVs K H zs es → DVs K H (gV vs zs) (gD ds es)
section
variable {X : Cx} {C : Cf} {x : Str} {p pos : Pos} {k j : Nat} {ps ks : List Str} {F : Cf → FN} {gD : List D → List D → List D} {kws : List Keyword} {tk td : TDs} {e : Expr} {es : List Expr}
theorem de_calK0 (c : CalK X.prog X.w X.K X.mg X.base x k ps ks gD F) (hgd : X.A.guards = some []) (hr : Room j X.A) (hk : k ≤ j) (hg : Gl X x) (h : DK X C kws tk) (hall : (backToKw pos (keywordEach kws X.env)).all (·.1.isSome) = true := by rfl) (hks : (backToKw pos (keywordEach kws X.env)).filterMap (·.1) = ks := by rfl)
    (hdb : (x == ("__debug__" : Str)) = false := by decide) (hpl : ((backTo pos (starEach [] X.env)).any (·.1) || (backToKw pos (keywordEach kws X.env)).any (·.1.isNone)) = false := by rfl) : DE X C (.Call (.Name x p) [] kws pos) (fun E P => tk E fun zs => F C (gD [] zs) P) := by
  obtain ⟨f, fd, g, gV, G, hm, hkp, hb, hd⟩ := c.ex
  obtain ⟨ta, a1, a2⟩ := h.ex
  refine ⟨⟨_, pe_goK0 G hgd (hr.mono hk) hg hm hkp hb pass0 a1 hall hks hdb hpl, fun S σ H E P Q rl hp q => ?_⟩⟩
  refine a2 S σ H E _ _ rl hp fun vs ds H1 g1 p1 v1 => ?_
  exact ⟨C, S, _, P, rl.ok.go g1, hd _ [] vs [] ds .nil v1, p1, fun v d H' g => q v d H' (g1.trans g)⟩
end

/-! ### the laws' own draws -/
def drwI (da ca : Addr) (H : Hp) : Prop := ∃ (cs : List Int) (k m : Int), H da = some (.lst [.ref ca, .int k, .int m]) ∧ H ca = some (.lst (cs.map V.int)) ∧ da ≠ ca ∧ cs ≠ [] ∧ cs.length ≤ 63 ∧ 0 ≤ k ∧ 0 ≤ m ∧ m < 2147483647 ∧ ∀ c ∈ cs, 0 ≤ c
def drw (da ca : Addr) : Cf where
  G := fun a => a = da ∨ a = ca
  I := drwI da ca
  loc := fun H H' h ⟨cs, k, m, h1, h2, r⟩ => ⟨cs, k, m, by rw [h da (.inl rfl)]; exact h1, by rw [h ca (.inr rfl)]; exact h2, r⟩
  liv := fun H a ⟨cs, k, m, h1, h2, _⟩ h => by
    rcases h with rfl | rfl
    · rw [h1]; intro z; cases z
    · rw [h2]; intro z; cases z
/-- _law_draw(draws, many): any number from 0 on below many -/
def fDraw : Cf → FN := fun C ds P => ∃ da ca many, C = drw da ca ∧ ds = [.op (.ref da), .int many] ∧ 0 < many ∧ many < 1073741824 ∧ ∀ r : Int, 0 ≤ r → r < many → P (.int r)
theorem drw_go {da ca : Addr} {H H' : Hp} (k : ∀ a, a ≠ da → a ≠ ca → H' a = H a) (i : drwI da ca H') : Go (drw da ca) H H' :=
  ⟨fun a o g e => by
    have h1 : a ≠ da := fun z => g (.inl z)
    have h2 : a ≠ ca := fun z => g (.inr z)
    rw [k a h1 h2]; exact e, i⟩
theorem set_nonneg {cs : List Int} {j : Nat} {z : Int} (h : ∀ c ∈ cs, 0 ≤ c) (hz : 0 ≤ z) : ∀ c ∈ cs.set j z, 0 ≤ c := fun c hc => by
  rcases List.mem_or_eq_of_mem_set hc with h1 | h1
  · exact h c h1
  · rw [h1]; exact hz
section
variable {P : Program} {w : World} {K : PySem.W.Frag} {mg : Str → Option Value} {base : Heap}
/-- the text of _law_draw, by its shape -/
theorem ok_draw {st : Stmt} (d : Dfn K mg "_law_draw" st ["draws", "many"]) (S : FnScope ["draws", "many", "cells", "spot", "cell", "mixed"] ["draws", "many"] (defScope st))
    (body : ∀ (f : Addr) (cdv : Value) (A : Around) (fr : List Env) (s : Shared) (H : Hp) (E : XK), Room 0 (A.deeper (envOfC "_law_draw" (defScope st) s.heap.objs.size f cdv)) →
      ∀ (da ca : Addr) (many : Int) (H1 : Hp) (D' : Ends), drwI da ca H1 → 0 < many → many < 1073741824 → (∀ r H2, (∀ a, a ≠ da → a ≠ ca → H2 a = H1 a) → drwI da ca H2 → 0 ≤ r → r < many → D'.rt (.int r) H2) →
      ∃ t, PSs (cxOf CX0 P w K mg base ["draws", "many", "cells", "spot", "cell", "mixed"] "_law_draw" (defScope st) f cdv A fr s H E).nox (defBody st) t ∧ t D' [some (.ref da), some (.int many), none, none, none, none] H1) :
    Cal P w K mg base "_law_draw" 1 ["draws", "many"] fDraw := by
  obtain ⟨f, fd, FF, hm, hb⟩ := d.ex
  refine ⟨f, fd, FF.okG S (fun vs H Q E h => ?_) (fun cdv A fr s H vs Q E hgd hr h => ?_), hm, FF.kp, hb⟩
  · obtain ⟨C, S, ds, R, _, hv, ⟨da, ca, many, _, rfl, _⟩, _⟩ := h
    rw [hv.len]; rfl
  · obtain ⟨C, S1, ds, R, ok, hv, ⟨da, ca, many, rfl, rfl, m0, m1, hR⟩, q⟩ := h
    obtain ⟨v, u, rfl, h1, h2⟩ := two_dv hv
    have h1 := h1.op_inv
    have h2 := h2.int_inv
    subst h1
    subst h2
    obtain ⟨t, t1, t2⟩ := body f cdv A fr s H E hr da ca many H { nx := fun _ H' => Q .non H', rt := Q } ok.i m0 m1 fun r H2 hk hi r0 r1 => q _ _ H2 (drw_go hk hi) (hR r r0 r1) (.int r)
    exact ⟨t, t1.nox, t2⟩
end
/-! ### a def called by position and by name -/
structure Cal0 (P : Program) (w : World) (K : PySem.W.Frag) (mg : Str → Option Value) (base : Heap) (x : Str) (st : Stmt) (k : Nat) (ps : List Str) (F : Cf → FN) : Prop where
  ex : ∃ f fd, Fun K x x st f fd ∧ FnG P w K mg base CX0 k f fd ps (spD K F) ∧ mg x = some (.ref f) ∧ L2.Binds K fd ps []
section
variable {P : Program} {w : World} {K : PySem.W.Frag} {mg : Str → Option Value} {base : Heap} {x : Str} {st : Stmt} {k : Nat} {ps : List Str} {F : Cf → FN}
theorem cal0_of {N : List Str} (d : Dfn K mg x st ps) (S : FnScope N ps (defScope st)) (len : ∀ C ds R, F C ds R → ds.length = ps.length)
    (body : ∀ (f : Addr) (cdv : Value) (A : Around) (fr : List Env) (s : Shared) (H : Hp) (E : XK), A.guards = some [] → Room k (A.deeper (envOfC x (defScope st) s.heap.objs.size f cdv)) → ∀ (C : Cf) (ds : List D) (R : D → Prop), F C ds R →
      ∃ ts, DSs (cxOf CX0 P w K mg base N x (defScope st) f cdv A fr s H E).nox C (defBody st) ts ∧ ts { nx := fun _ => R .non, rt := R } (startD N ds)) : Cal0 P w K mg base x st (k + 1) ps F := by
  obtain ⟨f, fd, FF, hm, hb⟩ := d.ex
  exact ⟨f, fd, FF, def_ok FF S len (body f), hm, hb⟩
theorem Cal0.cal (c : Cal0 P w K mg base x st k ps F) : Cal P w K mg base x k ps F := by
  obtain ⟨f, fd, FF, G, hm, hb⟩ := c.ex
  exact ⟨f, fd, G, hm, FF.kp, hb⟩
/-- the positional arguments, then the named ones in the parameters' order -/
theorem Cal0.calK (c : Cal0 P w K mg base x st k ps F) (ks : List Str)
    (h : ∀ (kV doc pm : Value) (an : Option Addr) (cdv ct : Value) (us ws : List Value), (us ++ ws).length = ps.length → bindArgs (PySem.W.fnOf x x (defArgs st) (defBody st) (defScope st) .none kV doc pm an cdv ct) ⟨us, ks.zip ws⟩ = pure (ps.zip (us ++ ws))) :
    CalK P w K mg base x k ps ks (fun a b => a ++ b) F := by
  obtain ⟨f, fd, FF, G, hm, hb⟩ := c.ex
  have kp := FF.kp
  obtain ⟨oc, od, kV, doc, pm, an, cdv, ct, osl, rfl, lk, hcd⟩ := FF.ex
  exact ⟨f, _, fun a b => a ++ b, fun a b => a ++ b, G, hm, kp, ⟨fun s us ws _ hl => .of_eq (h kV doc pm an cdv ct us ws hl), fun r1 r2 => r1.append r2⟩, fun H vs zs ds es h1 h2 => h1.app h2⟩
end
end L3
namespace L3
open PySem PySem.Spec PyProof.Rows L2

/-! ### slices -/
def cutL {α : Type} (xs : List α) (lo hi : Option Int) : List α := (xs.drop (HT.sIx xs.length 0 lo)).take (HT.sIx xs.length xs.length hi - HT.sIx xs.length 0 lo)
abbrev TDo := En → (Option Int → Prop) → Prop
def EvO (K : PySem.W.Frag) (C : Cf) (to : TO) (td : TDo) : Prop := ∀ (S : AS) (σ : L2.St) (H : Hp) (E : En) (P : Option Int → Prop) (Q : Option Int → Hp → Prop), Rel K C S E σ H → td E P → (∀ o H', Go C H H' → P o → Q o H') → to σ H Q
structure DO (X : Cx) (C : Cf) (e : Option Expr) (td : TDo) : Prop where
  ex : ∃ to, PO X e to ∧ EvO X.K C to td
def oNone : TDo := fun _ P => P none
def oSome (t : TD) : TDo := fun E P => t E fun d => ∃ i, d = .int i ∧ P (some i)
def fSl (x : D) (lo hi : Option Int) (P : D → Prop) : Prop := match x with
  | .lst ds => P (.lst (cutL ds lo hi))
  | .scr ns => P (.lst ((cutL ns lo hi).map D.int))
  | .tup ds => P (.tup (cutL ds lo hi))
  | .str z => z.length ≤ 100000 ∧ P (.str (cutS z lo hi))
  | _ => False
def dSl (t : TD) (lo hi : TDo) : TD := fun E P => t E fun x => lo E fun l => hi E fun u => fSl x l u P
section
variable {X : Cx} {C : Cf} {e : Expr} {td : TD} {lo hi : Option Expr} {tl th : TDo} {pos p2 : Pos}
theorem do_none : DO X C none oNone := ⟨⟨_, po_none, fun S σ H E P Q r h q => q none H (Go.refl r.ok) h⟩⟩
theorem do_some (h : DE X C e td) : DO X C (some e) (oSome td) := by
  obtain ⟨te, h1, h2⟩ := h.ex
  refine ⟨⟨_, po_some h1, fun S σ H E P Q r hp q => h2 S σ H E _ _ r hp fun v d H1 g1 p1 v1 => ?_⟩⟩
  obtain ⟨i, rfl, p1⟩ := p1
  exact ⟨i, v1.int_inv, q _ H1 g1 p1⟩
def rSlD (K : PySem.W.Frag) : V → Option Int → Option Int → Hp → VK → Prop := fun x lo hi H Q => rSlL K x lo hi H Q ∨ rSlA K x lo hi H Q ∨ rSlS x lo hi H Q
theorem sl_D : SlR X (rSlD X.K) := sl_list.or (sl_tupA.or sl_str)
theorem cutL_dv {K : PySem.W.Frag} {H : Hp} {vs : List V} {ds : List D} (h : DVs K H vs ds) (lo hi : Option Int) : DVs K H (cutV vs lo hi) (cutL ds lo hi) := by
  unfold cutV cutL
  rw [h.len]
  exact (h.drop _).take _
theorem cutL_whole {α : Type} {xs : List α} {lo hi : Option Int} (h1 : HT.sIx xs.length 0 lo = 0) (h2 : HT.sIx xs.length xs.length hi = xs.length) : cutL xs lo hi = xs := by
  unfold cutL
  rw [h1, h2]
  simp
theorem cutV_ints (ns : List Int) (lo hi : Option Int) : cutV (ns.map V.int) lo hi = (cutL ns lo hi).map V.int := by
  unfold cutV cutL
  simp [List.map_drop, List.map_take]
theorem de_slice (h : DE X C e td) (hl : DO X C lo tl) (hu : DO X C hi th) : DE X C (.Subscript e (.Slice lo hi none p2) pos) (dSl td tl th) := by
  obtain ⟨te, e1, e2⟩ := h.ex
  obtain ⟨ta, a1, a2⟩ := hl.ex
  obtain ⟨tb, b1, b2⟩ := hu.ex
  refine ⟨⟨_, pe_slice sl_D e1 a1 b1, fun S σ H E P Q r hp q => ?_⟩⟩
  refine e2 S σ H E _ _ r hp fun v d H1 g1 p1 v1 => ?_
  have r1 := r.go g1
  refine a2 S σ H1 E _ _ r1 p1 fun l H2 g2 p2 => ?_
  have r2 := r1.go g2
  refine b2 S σ H2 E _ _ r2 p2 fun u H3 g3 p3 => ?_
  have r3 := r2.go g3
  have v3 := (v1.mono (g2.vis r1.ok)).mono (g3.vis r2.ok)
  have q3 : ∀ v d H', Go C H3 H' → P d → DV X.K (hid H' S) v d → Q v H' := fun v d H' g => q v d H' (((g1.trans g2).trans g3).trans g)
  cases v3 with
  | @lst a vs ds e0 h0 => exact .inl ⟨a, vs, rfl, .inl (.inl (same_hid _ _ e0)), q_list r3.ok (cutL_dv h0 l u) p3 q3⟩
  | @scr a ns e0 =>
    refine .inl ⟨a, _, rfl, Same.seq same_hid e0, fun p np => ?_⟩
    rw [cutV_ints]
    exact q_list r3.ok (DVs.of_ints _) p3 q3 p np
  | @tup a vs ds e0 h0 =>
    refine .inr (.inl ⟨a, vs, rfl, .inl (.inl (same_hid _ _ e0)), fun z => ?_, fun z => q_tup r3.ok (cutL_dv h0 l u) p3 q3⟩)
    have z1 := z.1
    have z2 := z.2
    rw [h0.len] at z1 z2
    have p3 : P (.tup (cutL ds l u)) := p3
    rw [cutL_whole z1 z2] at p3
    exact q3 _ _ H3 (Go.refl r3.ok) p3 (.tup e0 h0)
  | str z => exact .inr (.inr ⟨z, rfl, small_line p3.1, q3 _ _ H3 (Go.refl r3.ok) p3.2 (.str _)⟩)
  | non => exact p3.elim
  | bl _ => exact p3.elim
  | int _ => exact p3.elim
  | dic _ _ => exact p3.elim
  | op _ => exact p3.elim
end

/-! ### dicts displayed -/
def dDnew : TD := fun _ P => P (.dic [])
def putD (c : List (Key × D)) (k : Key) (x : D) : List (Key × D) := if c.any (fun kv => decide (kv.1 = k)) then c.map (fun kv => if kv.1 = k then (kv.1, x) else kv) else c ++ [(k, x)]
def keyD : D → Option Key
  | .int i => some (.inl i)
  | .str x => some (.inr x)
  | _ => none
def dPairs : List (TD × TD) → En → (List (Key × D) → Prop) → Prop
  | [], _, P => P []
  | (tk, tv) :: r, E, P => tk E fun x => tv E fun y => ∃ k, keyD x = some k ∧ dPairs r E fun ps => P ((k, y) :: ps)
def dDisp (ts : List (TD × TD)) : TD := fun E P => dPairs ts E fun kvs => kvs.length ≤ 15 ∧ P (.dic (kvs.foldl (fun acc kv => putD acc kv.1 kv.2) []))
section
variable {X : Cx} {C : Cf} {pos : Pos}
theorem de_dnew : DE X C (.Dict [] [] pos) dDnew := ⟨⟨_, pe_dnewK, fun S σ H E P Q r h q p np => by
  have gn : Go C H (upd H p (.dK [])) := Go.new r.ok np
  exact q _ _ _ gn h (.dic (hid_new r.ok np) .nil)⟩⟩
structure DP (X : Cx) (C : Cf) (pos : Pos) (keys : List (Option Expr)) (values : List Expr) (ts : List (TD × TD)) : Prop where
  ex : ∃ trs, PPs X pos keys values trs ∧ ∀ (S : AS) (σ : L2.St) (H : Hp) (E : En) (P : List (Key × D) → Prop) (Q : List (V × V) → Hp → Prop), Rel X.K C S E σ H → dPairs ts E P →
    (∀ kvs ks H', Go C H H' → P ks → DKs X.K (hid H' S) kvs ks → Q (kvs.map fun kv => (kV kv.1, kv.2)) H') → tPairs trs σ H Q
theorem dps_nil : DP X C pos [] [] [] := ⟨⟨_, pps_nil, fun S σ H E P Q r h q => q [] [] H (Go.refl r.ok) h .nil⟩⟩
theorem key_inv {K : PySem.W.Frag} {H : Hp} {v : V} {d : D} {k : Key} (h : DV K H v d) (e : keyD d = some k) : v = kV k := by
  cases h <;> first | (cases e; rfl) | cases e
theorem dps_cons {k v : Expr} {ks : List (Option Expr)} {vs : List Expr} {tk tv : TD} {ts : List (TD × TD)} (hk : DE X C k tk) (hv : DE X C v tv) (hr : DP X C pos ks vs ts) : DP X C pos (some k :: ks) (v :: vs) ((tk, tv) :: ts) := by
  obtain ⟨uk, k1, k2⟩ := hk.ex
  obtain ⟨uv, v1, v2⟩ := hv.ex
  obtain ⟨trs, r1, r2⟩ := hr.ex
  refine ⟨⟨_, pps_cons k1 v1 r1, fun S σ H E P Q r hp q => ?_⟩⟩
  refine k2 S σ H E _ _ r hp fun x dx H1 g1 p1 hx => ?_
  refine v2 S σ H1 E _ _ (r.go g1) p1 fun y dy H2 g2 p2 hy => ?_
  obtain ⟨key, e, p2⟩ := p2
  have rr := (r.go g1).go g2
  refine r2 S σ H2 E _ _ rr p2 fun kvs ks H3 g3 p3 h3 => ?_
  have z := q ((key, y) :: kvs) ((key, dy) :: ks) H3 ((g1.trans g2).trans g3) p3 (.cons (hy.mono (g3.vis rr.ok)) h3)
  rw [key_inv hx e]
  exact z
theorem dks_any {K : PySem.W.Frag} {H : Hp} (k : Key) : ∀ {vs : List (Key × V)} {ds : List (Key × D)}, DKs K H vs ds → vs.any (fun kv => decide (kv.1 = k)) = ds.any (fun kv => decide (kv.1 = k))
  | _, _, .nil => rfl
  | _, _, .cons _ t => by rw [List.any_cons, List.any_cons, dks_any k t]
theorem dks_map {K : PySem.W.Frag} {H : Hp} {v : V} {d : D} (h : DV K H v d) (k : Key) : ∀ {vs : List (Key × V)} {ds : List (Key × D)}, DKs K H vs ds → DKs K H (vs.map (fun kv => if kv.1 = k then (kv.1, v) else kv)) (ds.map (fun kv => if kv.1 = k then (kv.1, d) else kv))
  | _, _, .nil => .nil
  | _, _, .cons (k := k') h1 t => by
    rw [List.map_cons, List.map_cons]
    by_cases e : k' = k
    · rw [if_pos e, if_pos e]; exact .cons h (dks_map h k t)
    · rw [if_neg e, if_neg e]; exact .cons h1 (dks_map h k t)
theorem dks_app {K : PySem.W.Frag} {H : Hp} {v : V} {d : D} (h : DV K H v d) (k : Key) : ∀ {vs : List (Key × V)} {ds : List (Key × D)}, DKs K H vs ds → DKs K H (vs ++ [(k, v)]) (ds ++ [(k, d)])
  | _, _, .nil => .cons h .nil
  | _, _, .cons h1 t => .cons h1 (dks_app h k t)
theorem putK_dk {K : PySem.W.Frag} {H : Hp} {v : V} {d : D} (h : DV K H v d) (k : Key) {vs : List (Key × V)} {ds : List (Key × D)} (hs : DKs K H vs ds) : DKs K H (putK vs k v) (putD ds k d) := by
  unfold putK putD
  rw [dks_any k hs]
  split
  · exact dks_map h k hs
  · exact dks_app h k hs
theorem merge_dk {K : PySem.W.Frag} {H : Hp} : ∀ {ks : List (Key × V)} {kd : List (Key × D)} {vs : List (Key × V)} {ds : List (Key × D)}, DKs K H ks kd → DKs K H vs ds → DKs K H (mergeK vs ks) (kd.foldl (fun acc kv => putD acc kv.1 kv.2) ds)
  | _, _, _, _, .nil, h => h
  | _, _, _, _, .cons (k := k) (v := v) (vs := rs) (d := d) (ds := es) h1 t, h => by
    show DKs K H (mergeK (putK _ k v) rs) (es.foldl (fun acc kv => putD acc kv.1 kv.2) (putD _ k d))
    exact merge_dk t (putK_dk h1 k h)
theorem de_disp {keys : List (Option Expr)} {values : List Expr} {ts : List (TD × TD)} (h : DP X C pos keys values ts) (hall : keys.all (·.isSome) = true) (hl : keys.length = values.length) (h0 : keys ≠ []) (h15 : keys.length ≤ 15) : DE X C (.Dict keys values pos) (dDisp ts) := by
  obtain ⟨trs, p1, p2⟩ := h.ex
  refine ⟨⟨_, pe_disp p1 hall hl h0 h15, fun S σ H E P Q r hp q => ?_⟩⟩
  intro p np
  have nS : ¬ S p := r.ok.fresh np
  have nG : ¬ C.G p := fun z => nS (r.ok.g p z)
  have gn : Go C H (upd H p (.dK [])) := Go.new r.ok np
  have ok1 := r.ok.go gn
  generalize hS : (fun a => S a ∨ a = p : AS) = S'
  have inS : S' p := by rw [← hS]; exact .inr rfl
  have sub : ∀ H2 : Hp, Same (hid H2 S') (hid H2 S) := fun H2 => same_hid_sub fun a h => by rw [← hS]; exact .inl h
  have up : Same (hid H S) (hid (upd H p (.dK [])) S') := fun a u e => by
    obtain ⟨e1, e2⟩ := hid_some.mp e
    have na : a ≠ p := ne_of_none e2 np
    refine hid_some.mpr ⟨fun z => ?_, by rw [upd_ne na]; exact e2⟩
    rw [← hS] at z
    rcases z with z | z
    · exact e1 z
    · exact na z
  have okS : Ok C S' (upd H p (.dK [])) := ⟨gn.i, fun a h => by rw [← hS]; exact .inl (r.ok.g a h), fun a h => by
    rw [← hS] at h
    rcases h with h | rfl
    · exact ok1.l a h
    · rw [upd_same]; intro z; cases z⟩
  refine p2 S' σ _ E _ _ ⟨okS, r.len, fun i d e => ?_⟩ hp fun kvs ks H2 g2 h2 hk => ?_
  · obtain ⟨v, a1, a2⟩ := r.at_ i d e
    exact ⟨v, a1, a2.mono up⟩
  · have e2 : H2 p = some (.dK []) := g2.e p _ nG upd_same
    obtain ⟨h2, h3⟩ := h2
    refine ⟨e2, kvs, rfl, by rw [hk.len]; exact h2, ?_⟩
    have g3 : Go C H (upd H2 p (.dK (mergeK [] kvs))) := by
      have g := gn.trans g2
      exact ⟨fun a u ga e => by rw [upd_ne (ne_of_none e np)]; exact g.e a u ga e, C.loc H2 _ (fun a ga => upd_ne (fun z => nG (z ▸ ga))) g.i⟩
    refine q _ _ _ g3 h3 (.dic (hid_some.mpr ⟨nS, upd_same⟩) ?_)
    have hk2 : DKs X.K (hid (upd H2 p (.dK (mergeK [] kvs))) S) kvs ks := by
      refine hk.mono fun a u e => ?_
      have e' : hid (upd H2 p (.dK (mergeK [] kvs))) S' a = some u := by rw [hid_upd_in inS]; exact e
      exact sub _ a u e'
    exact merge_dk hk2 .nil
end

/-! ### s.join(list of texts) -/
def dJoin (ta tb : TD) : TD := fun E P => ta E fun s => ∃ a, s = .str a ∧ tb E fun d => ∃ ys : List Str, d = .lst (ys.map D.str) ∧ (ys.map (·.length)).sum + ys.length * a.length ≤ 16777216 ∧ P (.str (Txt.join a ys))
section
variable {X : Cx} {C : Cf} {o e : Expr} {ta tb : TD} {apos pos : Pos}
theorem de_join (ho : DE X C o ta) (he : DE X C e tb) (hs : starEach [e] X.env = [(false, eval e X.env)] := by rfl) (hbase : attributeBase o "join" X.env (eval o X.env) = eval o X.env := by rfl) (hline : (apos.endLine == pos.line) = true := by rfl) :
    DE X C (.Call (.Attribute o "join" apos) [e] [] pos) (dJoin ta tb) := by
  obtain ⟨ua, a1, a2⟩ := ho.ex
  obtain ⟨ub, b1, b2⟩ := he.ex
  refine ⟨⟨_, pe_join a1 b1 hs hbase hline, fun S σ H E P Q r hp q => ?_⟩⟩
  refine a2 S σ H E _ _ r hp fun v d H1 g1 p1 v1 => ?_
  obtain ⟨a, rfl, p1⟩ := p1
  refine ⟨⟨a, v1.str_inv⟩, b2 S σ H1 E _ _ (r.go g1) p1 fun u d2 H2 g2 p2 v2 => ?_⟩
  obtain ⟨ys, rfl, p2, p3⟩ := p2
  obtain ⟨p, ws, rfl, e0, h0⟩ := two_lists ((r.ok.go g1).go g2) v2
  have := h0.strs
  subst this
  exact ⟨a, p, ys, v1.str_inv, rfl, .inl (.inl (.inl e0)), p2, q _ _ H2 (g1.trans g2) p3 (.str _)⟩
end

/-! ### a, b = x, y -/
def sPar (i j : Nat) (t : TDs) : TSd := fun Dn ρ => t (view ρ) fun ds => ∃ a b, ds = [a, b] ∧ Dn.nx ((ρ.set i (.dat a)).set j (.dat b))
section
variable {X : Cx} {C : Cf} {a b : Expr} {tds : TDs} {i j : Nat} {x y : Str} {px py pt pos : Pos} {kt k2 : Nat} {pt2 : Pos}
theorem ds_par (ni : NmOk X i x) (nj : NmOk X j y) (hij : i ≠ j) (hx : X.env.scope.names.lookup x = some .local) (hy : X.env.scope.names.lookup y = some .local) (hc : X.calm = true) (h : DA X C [a, b] tds)
    (hw : swappedStores [.Tuple [.Name x px, .Name y py] kt pt] (.Tuple [a, b] k2 pt2) X.env = pure (some [x, y]) := by rfl) (hs : swapsWithSole [.Tuple [.Name x px, .Name y py] kt pt] (.Tuple [a, b] k2 pt2) pos.line X.env = pure false := by rfl) :
    DS X C (.Assign [.Tuple [.Name x px, .Name y py] kt pt] (.Tuple [a, b] k2 pt2) pos) (sPar i j tds) := by
  obtain ⟨ta, a1, a2⟩ := h.ex
  refine ⟨⟨_, ps_par hc ni.nd ni.at_ nj.at_ hij hx hy a1 hw hs, fun S0 H0 gs al ρ σ H Dn D' r hp g => ?_⟩⟩
  refine a2 _ σ H _ _ _ r.relA hp fun vs ds H1 g1 p1 v1 => ?_
  obtain ⟨d, e, rfl, p1⟩ := p1
  obtain ⟨v, w, rfl, hv, hw⟩ := two_dv v1
  exact ⟨v, w, rfl, g.nx _ _ _ H1 (((r.go g1).setDat i hv).setDat j (hw.mono vol_set)) p1⟩
end
def fPow : F2 := fI (fun i j => 0 ≤ j ∧ j ≤ 1000000 ∧ i.natAbs < 2 ^ 64) fun i j => .int (i ^ j.toNat)
theorem od_pow {K : PySem.W.Frag} {C : Cf} : OpD K C (rI CPow fun i j => .int (i ^ j.toNat)) fPow := od_int (fun _ _ h => h) fun _ i j => .int _
def fInt : FN
  | [.int i], P => P (.int i)
  | [.bl b], P => P (.int (if b then 1 else 0))
  | _, _ => False
theorem cd_int {K : PySem.W.Frag} {C : Cf} : CallD K C (fun xs H Q => (∃ i, xs = [.int i] ∧ Q (.int i) H) ∨ ∃ k, xs = [.bl k] ∧ Q (.int (if k then 1 else 0)) H) fInt := by
  intro S H vs ds P Q ok hv h q
  match ds, h with
  | [.int i], h =>
    obtain ⟨v, rfl, hd⟩ := one_dv hv
    exact .inl ⟨i, by rw [hd.int_inv], q _ _ H (Go.refl ok) h (.int _)⟩
  | [.bl b], h =>
    obtain ⟨v, rfl, hd⟩ := one_dv hv
    exact .inr ⟨b, by rw [hd.bl_inv], q _ _ H (Go.refl ok) h (.int _)⟩
end L3
namespace L3
open PySem PySem.Spec PyProof.Rows L2

/-! ### runs of comprehensions -/
theorem lc_map {tg : TGe} {te : TD} {E : En} (f : D → D) : ∀ (ys acc : List D) (P : List D → Prop), (∀ d ∈ ys, ∀ Q : D → Prop, Q (f d) → tg d E fun E' => te E' Q) → (∀ d E (P Q : En → Prop), (∀ E', P E' → Q E') → tg d E P → tg d E Q) → P (acc ++ ys.map f) → lcRun tg bYes te E ys acc P
  | [], acc, P, _, _, hp => by simpa [lcRun] using hp
  | d :: r, acc, P, h, mono, hp => by
    refine mono d E _ _ (fun E' z => ?_) (h d List.mem_cons_self (fun y => lcRun tg bYes te E r (acc ++ [y]) P) (lc_map f r _ P (fun d hd => h d (List.mem_cons_of_mem _ hd)) mono (by simpa using hp)))
    show (if true = true then te E' (fun y => lcRun tg bYes te E r (acc ++ [y]) P) else lcRun tg bYes te E r acc P)
    rw [if_pos rfl]
    exact z
/-- with a test -/
theorem lc_flt {tg : TGe} {tt : TDb} {te : TD} {E : En} (c : D → Bool) (f : D → D) : ∀ (ys acc : List D) (P : List D → Prop), (∀ d ∈ ys, ∀ Q : D → Prop, ∀ R : Prop, (c d = true → Q (f d)) → (c d = false → R) → tg d E fun E' => tt E' fun b => if b = true then te E' Q else R) → P (acc ++ (ys.filter c).map f) → lcRun tg tt te E ys acc P
  | [], acc, P, _, hp => by simpa [lcRun] using hp
  | d :: r, acc, P, h, hp => by
    refine h d List.mem_cons_self (fun y => lcRun tg tt te E r (acc ++ [y]) P) _ (fun e => ?_) (fun e => ?_)
    · exact lc_flt c f r _ P (fun d hd => h d (List.mem_cons_of_mem _ hd)) (by simpa [List.filter_cons, e] using hp)
    · exact lc_flt c f r _ P (fun d hd => h d (List.mem_cons_of_mem _ hd)) (by simpa [List.filter_cons, e] using hp)
/-- whatever each turn gives, R of it -/
theorem lc_any {tg : TGe} {te : TD} {E : En} (R : D → Prop) : ∀ (ys acc : List D) (P : List D → Prop), (∀ d ∈ ys, ∀ Q : D → Prop, (∀ y, R y → Q y) → tg d E fun E' => te E' Q) → (∀ d E (P Q : En → Prop), (∀ E', P E' → Q E') → tg d E P → tg d E Q) → (∀ zs : List D, zs.length = ys.length → (∀ z ∈ zs, R z) → P (acc ++ zs)) → lcRun tg bYes te E ys acc P
  | [], acc, P, _, _, hp => by
    have := hp [] rfl (fun _ h => nomatch h)
    simpa [lcRun] using this
  | d :: r, acc, P, h, mono, hp => by
    refine mono d E _ _ (fun E' z => ?_) (h d List.mem_cons_self (fun y => lcRun tg bYes te E r (acc ++ [y]) P) fun y hy => lc_any R r _ P (fun d hd => h d (List.mem_cons_of_mem _ hd)) mono fun zs hl hz => ?_)
    · show (if true = true then te E' (fun y => lcRun tg bYes te E r (acc ++ [y]) P) else lcRun tg bYes te E r acc P)
      rw [if_pos rfl]
      exact z
    · have := hp (y :: zs) (by simp [hl]) (fun x hx => by
        rcases List.mem_cons.mp hx with rfl | hx
        · exact hy
        · exact hz x hx)
      simpa using this
theorem ge_mono (i : Nat) : ∀ (d : D) (E : En) (P Q : En → Prop), (∀ E', P E' → Q E') → geNm i d E P → geNm i d E Q := fun d E P Q h z => h _ z

/-! ### the source of draws -/
def cf0 : Cf := ⟨fun _ => False, fun _ => True, fun _ _ _ _ => trivial, fun _ _ _ h => h.elim⟩
def fState : Cf → FN := fun C ds P => ∃ ns : List Int, ds = [.scr ns] ∧ ∀ cs : List Int, cs ≠ [] → cs.length ≤ 63 → (∀ c ∈ cs, 0 ≤ c) → P (.lst [.lst (cs.map D.int), .int 0, .int 1])
/-- _law_pick(draws, some) -/
def fPick : Cf → FN := fun C ds P => ∃ da ca, C = drw da ca ∧ ((∃ ys : List D, (ds = [.op (.ref da), .lst ys] ∨ ds = [.op (.ref da), .tup ys]) ∧ ys ≠ [] ∧ ys.length ≤ 100000 ∧ ∀ y ∈ ys, P y) ∨
  ∃ z : Str, ds = [.op (.ref da), .str z] ∧ z.length ≠ 0 ∧ z.length ≤ 100000 ∧ ∀ c ∈ z.cps.toList, P (.str ⟨#[c]⟩))
theorem atI_some {α : Type} {l : List α} {r : Int} (h0 : 0 ≤ r) (h1 : r < l.length) : ∃ y, atI l r = some y ∧ y ∈ l := by
  obtain ⟨n, rfl⟩ : ∃ n : Nat, r = (n : Int) := ⟨r.toNat, by omega⟩
  have hn : n < l.length := by omega
  refine ⟨l[n], ?_, List.getElem_mem hn⟩
  unfold atI ixN
  rw [if_pos h0, if_pos h1]
  show l[((n : Int)).toNat]? = _
  simp [hn]

theorem ds1 {X : Cx} {C : Cf} {i : Nat} {x : Str} {e : Expr} {td : TD} {pos' pos : Pos} (n : NmOk X i x) (h : DE X C e td) (hs : swapsWith e (some (.Name x pos')) pos.line X.env = pure false := by rfl) : ∃ te, PS X (.Assign [.Name x pos'] e pos) (tAsg te (gName i)) ∧ EvD X.K C te td :=
  let ⟨te, h1, h2⟩ := h.ex; ⟨te, ps_set n.nd n.at_ n.loc h1 hs n.fn, h2⟩

/-! ### the law's own head -/
def spLaw (K : PySem.W.Frag) : Sp := fun vs H Q _ => ∃ (a : Addr) (ns : List Int), vs = [.ref a] ∧ SqL K H a (ns.map V.int) ∧ ns.length ≤ 63 ∧ Only H ∧ ∀ H', Q (.bl true) H'
section
variable {P : Program} {w : World} {K : PySem.W.Frag} {mg : Str → Option Value} {base : Heap}
/-- law(script): the draws are made, and then all is done with them -/
theorem law_of {st : Stmt} {N : List Str} {k : Nat} {f : Addr} {fd : FuncData} (FF : Fun K "law" "law" st f fd) (S : FnScope N ["script"] (defScope st)) (hN1 : 2 ≤ N.length)
    (body : ∀ (f : Addr) (cdv : Value) (A : Around) (fr : List Env) (s : Shared) (H : Hp) (E : XK), A.guards = some [] → Room k (A.deeper (envOfC "law" (defScope st) s.heap.objs.size f cdv)) →
      ∃ (st1 : Stmt) (rest : List Stmt) (td : TD), defBody st = st1 :: rest ∧ (∃ te, PS (cxOf CX0 P w K mg base N "law" (defScope st) f cdv A fr s H E).nox st1 (tAsg te (gName 1)) ∧ EvD K cf0 te td) ∧
        (∀ (ns : List Int) (R : D → Prop), ns.length ≤ 63 → (∀ cs : List Int, cs ≠ [] → cs.length ≤ 63 → (∀ c ∈ cs, 0 ≤ c) → R (.lst [.lst (cs.map D.int), .int 0, .int 1])) → td (some (.scr ns) :: List.replicate (N.length - 1) none) R) ∧
        ∀ da ca : Addr, ∃ ts, DSs (cxOf CX0 P w K mg base N "law" (defScope st) f cdv A fr s H E).nox (drw da ca) rest ts ∧
          ∀ ns : List Int, ns.length ≤ 63 → ts { nx := fun _ => False, rt := fun d => d = .bl true } (.dat (.scr ns) :: .dat (.op (.ref da)) :: List.replicate (N.length - 2) .no)) : FnG P w K mg base CX0 (k + 1) f fd ["script"] (spLaw K) := by
  refine FF.okG S (fun vs H Q E h => ?_) fun cdv A fr s H vs Q E hgd hr h => ?_
  · obtain ⟨a, ns, rfl, _⟩ := h
    rfl
  · obtain ⟨a, ns, rfl, hS, hl, hO, q⟩ := h
    obtain ⟨st1, rest, td, hb, ⟨te, p1, p2⟩, h1, h2⟩ := body f cdv A fr s H E hgd hr
    rw [hb]
    -- what follows, for any addresses of the draws
    have hrest : ∃ u, PSs (cxOf CX0 P w K mg base N "law" (defScope st) f cdv A fr s H E).nox rest u ∧ ∀ da ca, ∀ (S0 : AS) (H0 : Hp) (al : Nat → Addr) (ρ : Rho) (σ : L2.St) (H1 : Hp) (Dn : EndsD) (D' : Ends), EnvR K (drw da ca) S0 H0 [] al ρ σ H1 → (h2 da ca).choose Dn ρ → Good K (drw da ca) S0 H0 [] Dn D' → u D' σ H1 := by
      refine ⟨fun D' σ H1 => ∃ z : Addr × Addr, ((h2 z.1 z.2).choose_spec.1.ex).choose D' σ H1, ⟨fun pins s σ H1 D' I hu => ?_⟩, fun da ca S0 H0 al ρ σ H1 Dn D' r hd g => ⟨(da, ca), ((h2 da ca).choose_spec.1.ex).choose_spec.2 S0 H0 [] al ρ σ H1 Dn D' r hd g⟩⟩
      obtain ⟨z, hz⟩ := hu
      exact ((h2 z.1 z.2).choose_spec.1.ex).choose_spec.1.run pins s σ H1 D' I hz
    obtain ⟨u, u1, u2⟩ := hrest
    refine ⟨_, (pss_cons p1 u1).nox, ?_⟩
    have ok0 : Ok cf0 (fun _ => False) H := ⟨trivial, fun a h => h, fun a h => h.elim⟩
    have hid0 : ∀ H1 : Hp, hid H1 (fun _ => False) = H1 := fun H1 => by funext b; unfold hid; rw [if_neg id]
    have sEq : L2.start N [V.ref a] = some (.ref a) :: List.replicate (N.length - 1) none := rfl
    rw [sEq]
    refine p2 (fun _ => False) _ H (some (.scr ns) :: List.replicate (N.length - 1) none) _ _ ⟨ok0, by simp, fun i d e => ?_⟩ (h1 ns (fun d => ∃ cs : List Int, cs ≠ [] ∧ cs.length ≤ 63 ∧ (∀ c ∈ cs, 0 ≤ c) ∧ d = .lst [.lst (cs.map D.int), .int 0, .int 1]) hl fun cs c1 c2 c3 => ⟨cs, c1, c2, c3, rfl⟩) fun v d H1 g1 p1 v1 => ?_
    · cases i with
      | zero =>
        have e' : some (some (D.scr ns)) = some (some d) := e
        cases e'
        exact ⟨.ref a, rfl, by rw [hid0]; exact .scr hS⟩
      | succ i =>
        have e' : (List.replicate (N.length - 1) (none : Option D))[i]? = some (some d) := e
        rw [List.getElem?_replicate] at e'
        split at e' <;> cases e'
    · obtain ⟨cs, c1, c2, c3, rfl⟩ := p1
      rw [hid0] at v1
      cases v1 with
      | @lst da vs ds e0 h0 =>
        cases h0 with
        | cons hc0 t0 =>
          obtain ⟨x, y, rfl, hx, hy⟩ := two_dv t0
          have hx := hx.int_inv
          have hy := hy.int_inv
          subst hx
          subst hy
          cases hc0 with
          | @lst ca ws ds e2 h2' =>
            have := h2'.ints
            subst this
            have ne : da ≠ ca := fun z => by
              rw [z, e2] at e0
              have := Option.some.inj e0
              injection this with this
              cases cs with
              | nil => exact c1 rfl
              | cons c r => rw [List.map_cons] at this; injection this with z1 z2; cases z1
            have di : drwI da ca H1 := ⟨cs, 0, 1, e0, e2, ne, c1, c2, by decide, by decide, by decide, c3⟩
            have ok1 : Ok (drw da ca) (fun b => b = da ∨ b = ca) H1 := ⟨di, fun b h => h, fun b h => (drw da ca).liv H1 b di h⟩
            show u _ ((some (.ref a) :: List.replicate (N.length - 1) none).set 1 (some (.ref da))) H1
            have hset : (some (V.ref a) :: List.replicate (N.length - 1) (none : Option V)).set 1 (some (.ref da)) = some (.ref a) :: some (.ref da) :: List.replicate (N.length - 2) none := by
              obtain ⟨n, hn⟩ : ∃ n, N.length = n + 2 := ⟨N.length - 2, by omega⟩
              rw [hn]
              rfl
            rw [hset]
            have notOwn : ∀ i, ¬ ownAt (Sl.dat (.scr ns) :: Sl.dat (.op (.ref da)) :: List.replicate (N.length - 2) Sl.no) i := fun i ⟨s, e, q⟩ => by
              match i with
              | 0 => cases (show some (Sl.dat (.scr ns)) = some s from e); cases q
              | 1 => cases (show some (Sl.dat (.op (.ref da))) = some s from e); cases q
              | i + 2 =>
                have e' : (List.replicate (N.length - 2) Sl.no)[i]? = some s := e
                rw [List.getElem?_replicate] at e'
                split at e' <;> cases e'
                cases q
            have hvol : Same (hid H1 (fun b => b = da ∨ b = ca)) (hid H1 (Vol (fun b => b = da ∨ b = ca) (fun _ => 0) (Sl.dat (.scr ns) :: Sl.dat (.op (.ref da)) :: List.replicate (N.length - 2) Sl.no))) := same_hid_sub fun b h => by
              rcases h with h | ⟨i, h, _⟩
              · exact h
              · exact (notOwn i h).elim
            have hscr : SqL K (hid H1 (fun b => b = da ∨ b = ca)) a (ns.map V.int) := by
              rcases hS with (z | ⟨o, z⟩) | z
              · rcases hO a with n | ⟨o, xs, n⟩
                · rw [z] at n; cases n
                · rw [z] at n; cases n
              · refine .inl (.inr ⟨o, hid_some.mpr ⟨fun n => ?_, g1.e a _ (fun n => n) z⟩⟩)
                have z1 := g1.e a _ (fun n => n) z
                rcases n with n | n
                · rw [n, e0] at z1; cases z1
                · rw [n, e2] at z1; cases z1
              · exact .inr z
            refine u2 da ca (fun b => b = da ∨ b = ca) H1 (fun _ => 0) _ _ H1 { nx := fun _ => False, rt := fun d => d = .bl true } _ ⟨by simp, ok1, Ext.refl, ok1.l, fun i d e => ?_, fun i d e => (notOwn i ⟨_, e, rfl⟩).elim, fun i d e => (notOwn i ⟨_, e, rfl⟩).elim, fun i h => (notOwn i h).elim, fun i j h => (notOwn i h).elim, fun x hx => nomatch hx⟩ ((h2 da ca).choose_spec.2 ns hl) ⟨fun al ρ σ H' r h => h.elim, fun v d H' e i h hv => ?_, fun al ρ σ H' r h => h.elim, fun al ρ σ H' r h => h.elim⟩
            · match i with
              | 0 =>
                cases (show some (Sl.dat (.scr ns)) = some (Sl.dat d) from e)
                exact ⟨.ref a, rfl, (DV.scr hscr).mono hvol⟩
              | 1 =>
                cases (show some (Sl.dat (.op (.ref da))) = some (Sl.dat d) from e)
                exact ⟨.ref da, rfl, .op _⟩
              | i + 2 =>
                have e' : (List.replicate (N.length - 2) Sl.no)[i]? = some (Sl.dat d) := e
                rw [List.getElem?_replicate] at e'
                split at e' <;> cases e'
            · have h : d = .bl true := h
              subst h
              rw [hv.bl_inv]
              exact q H'
end
end L3
namespace L3
open PySem PySem.Spec PyProof.Rows L2

/-! ### a law's row, from what its def is worth -/
section
variable {P : Program} {w : World} {K : PySem.W.Frag} {mg mb : Str → Option Value} {k : Nat} {fa a : Addr} {fd : FuncData} {x : Str} {s1 : Shared} {vs : List Value} {ns : List Int}
/-- the script as an object that is only read -/
def scrO (vs : List Value) : Obj := { cls := .type "list", data := .seq vs.toArray }
open Classical in
/-- what is followed at the law's entry: the script, if the text's own part doesn't hold it -/
noncomputable def entH (K : PySem.W.Frag) (a : Addr) (vs : List Value) (ns : List Int) : Hp := fun b => if b = a ∧ K.lookup a = none then some (.frz (scrO vs) (.lst (ns.map V.int))) else none
theorem entH_some {b : Addr} {o : HO} (h : entH K a vs ns b = some o) : b = a ∧ K.lookup a = none ∧ o = .frz (scrO vs) (.lst (ns.map V.int)) := by
  unfold entH at h
  split at h
  · rename_i z; exact ⟨z.1, z.2, (Option.some.inj h).symm⟩
  · cases h
theorem law_go (KX : K.In s1.heap) (hns : s1.heap.Ns mainGlobals mg) (hb : s1.heap.Ns builtinsNs mb) (hbb : ∀ x : Str, x ≠ "__name__" → mb x = bootBuiltins x) (hlim : s1.heap.NoLimit) (hg : s1.gens = #[])
    (ha : s1.heap.get? a = some (scrO vs)) (hi : IntsAre vs ns) (hl : ns.length ≤ 63) (hr : Room k callerA) (hgd : callerA.guards = some [])
    (F : ∀ base : Heap, K.In base → base.Ns mainGlobals mg → FnG P w K mg base CX0 k fa fd [x] (spLaw K)) (hbind : ∀ (s : Shared) (u : Value), BindsTo s fd ⟨[u], []⟩ [(x, u)]) :
    codeAny (model P w) callerA (.call (.ref fa) ⟨[.ref a], []⟩) (fun r s' => r = .ok (.ret (.bool true)) ∧ OldK s1.heap s'.heap ∧ s'.os = s1.os ∧ AllBare s'.gens) s1 := by
  have rv := vals_ints hi
  have hsz : (ns.map V.int).length ≤ sizeLine := by rw [List.length_map]; exact Nat.le_trans hl (by decide)
  generalize hH : entH K a vs ns = H
  have Hs : ∀ {b : Addr} {o : HO}, H b = some o → b = a ∧ K.lookup a = none ∧ o = .frz (scrO vs) (.lst (ns.map V.int)) := fun h => entH_some (by rw [hH]; exact h)
  have hS : SqL K H a (ns.map V.int) := by
    cases e : K.lookup a with
    | none =>
      refine .inl (.inr ⟨scrO vs, ?_⟩)
      rw [← hH]
      exact if_pos ⟨rfl, e⟩
    | some o =>
      have z := KX a o e
      rw [ha] at z
      cases z
      exact .inr ⟨_, vs.toArray, _, e, rfl, rfl, rfl, by rw [List.size_toArray, ← rv.length]; exact hsz, by simpa using rv⟩
  have hok : HOk P w H s1.heap := fun b o e => by
    obtain ⟨rfl, _, rfl⟩ := Hs e
    exact ⟨ha, hsz, vs, _, rv, ha⟩
  have hO : Only H := fun b => by
    cases e : H b with
    | none => exact .inl rfl
    | some o => obtain ⟨_, _, rfl⟩ := Hs e; exact .inr ⟨_, _, rfl⟩
  have noA : ∀ {b : Addr} {o : Obj} {es : Array DictEntry} {ep : Nat}, s1.heap.get? b = some o → o.data = .dict es ep → H b = none := fun {b o es ep} e d => by
    cases q : H b with
    | none => rfl
    | some u =>
      obtain ⟨rfl, _⟩ := Hs q
      rw [ha] at e
      cases e
      cases d
  have nsK : ∀ {b : Addr} {m : Str → Option Value}, s1.heap.Ns b m → (hidT s1.heap H).Ns b m := fun {b m} ⟨o, es, ep, e, d, r⟩ => ⟨o, es, ep, hidT_get e (noA e d), d, r⟩
  have hKb : K.In (hidT s1.heap H) := fun b o e => hidT_get (KX b o e) (by
    cases q : H b with
    | none => rfl
    | some u => obtain ⟨rfl, z, _⟩ := Hs q; rw [z] at e; cases e)
  have hM : Mod K mg (hidT s1.heap H) := ⟨hKb, nsK hns, ⟨mb, nsK hb, hbb⟩, let ⟨mc, h1, h2⟩ := hlim; ⟨mc, nsK h1, h2⟩⟩
  have e0 : Env0 P w K mg (hidT s1.heap H) callerA [] s1 H := ⟨rfl, hM, fun b o e => of_hidT e, Nat.le_of_eq (hidT_size _ _), trivial, (fun b hb => nomatch hb), hok, .of_eq hg⟩
  have run := (F _ hKb (nsK hns)).go callerA [] s1 H ⟨[.ref a], []⟩ [.ref a] [.ref a] (fun v _ => v = .bl true) (fun _ _ _ => False) hgd hr e0 (hbind s1 (.ref a)) (.cons rfl .nil) ⟨a, ns, rfl, hS, hl, hO, fun _ => rfl⟩
  refine codeAny_mono run fun r s' h => ?_
  rcases r with e | (_ | _ | _ | u)
  · exact h.elim
  · exact h.elim
  · exact h.elim
  · exact h.elim
  · obtain ⟨v, H', os, bare, un, hok', r', q⟩ := h
    have q : v = .bl true := q
    subst q
    cases r'
    refine ⟨rfl, OldK.of_keep fun b o e => ?_, os, bare⟩
    cases q : H b with
    | none => exact un.keep b o e q (fun z => nomatch z) (fun z => nomatch z)
    | some u =>
      obtain ⟨rfl, _, rfl⟩ := Hs q
      obtain ⟨e1, _⟩ := hok' b _ (un.frzs b _ _ q)
      rw [ha] at e
      cases e
      exact e1
end
theorem walk_law {l : PySem.W.OpenLaw} {k : Nat} {q : Program} {loose : List Str} {XP : (Str → Option Value) → Heap → Prop} {YP : World → Heap → Prop} {d : DefRec} {K : Params → PySem.W.Frag} {x : Str}
    (hn : l.most = some 63) (hdf : d.params.defaults = []) (hr : Room k callerA) (hY : ∀ (w : World) (h : Heap), YP w h → (K w.params).In h)
    (F : ∀ (w : World) (mg : Str → Option Value) (fa : Addr) (h : Heap), (K w.params).In h → h.Ns mainGlobals mg → mg d.name = some (.ref fa) →
      ∃ fd : FuncData, (∀ (s : Shared) (u : Value), BindsTo s fd ⟨[u], []⟩ [(x, u)]) ∧ ∀ base : Heap, (K w.params).In base → base.Ns mainGlobals mg → FnG l.prog w (K w.params) mg base CX0 k fa fd [x] (spLaw (K w.params))) :
    PySem.W.WalkO q loose XP YP l.row.toRowW d [] (fun f vs => PySem.call f vs) := by
  refine Att.attach_call hn hdf fun w s0 s1 mg mb fa o pm cd doc a vs ns G Y ho hd hcd hmg hobj hints hlen hg => ?_
  have KX := hY w _ Y
  obtain ⟨fd, hb, hF⟩ := F w mg fa _ KX G.T.g hmg
  exact law_go KX G.T.g G.T.b G.T.builtins G.T.nolimit hg hobj hints hlen hr rfl hF hb
end L3
namespace K2
open PySem PySem.Spec PyProof.Rows L2 L3
def topS (i : Nat) : Stmt := PySem.Challenge.pw_halfbuilt_k02_names_judged.main.body.getD i (.Pass ⟨0, 0, 0, 0⟩)
abbrev sDraw : Stmt := topS 6
theorem scDraw : FnScope ["draws", "many", "cells", "spot", "cell", "mixed"] ["draws", "many"] (defScope sDraw) := ⟨rfl, rfl, rfl, by decide +kernel, rfl, by decide +kernel, by decide +kernel⟩
section
variable {P : Program} {w : World} {K : PySem.W.Frag} {mg : Str → Option Value} {base : Heap}
theorem mx_pos (i j : Int) (h : 0 < j) : 0 ≤ i % j ∧ i % j < j := ⟨Int.emod_nonneg _ (by omega), Int.emod_lt_of_pos _ h⟩
theorem ix_of {cs : List Int} {i : Int} (h0 : 0 ≤ i) (h1 : i < cs.length) : ∃ c, cs[i.toNat]? = some c ∧ atI (cs.map V.int) i = some (.int c) ∧ ixN (cs.map V.int).length i = some i.toNat := by
  obtain ⟨n, rfl⟩ : ∃ n : Nat, i = (n : Int) := ⟨i.toNat, by omega⟩
  have hn : n < cs.length := by omega
  refine ⟨cs[n], by simp [hn], atI_nat (by simp [hn]), ?_⟩
  unfold ixN
  rw [if_pos h0, if_pos (by simpa using h1)]
theorem draw_cal (d : Dfn K mg "_law_draw" sDraw ["draws", "many"]) (mi : mg "int" = none) (ml : mg "len" = none) : Cal P w K mg base "_law_draw" 1 ["draws", "many"] fDraw := by
  refine ok_draw d scDraw fun f cdv A fr s H E hr da ca many H1 D' hi m0 m1 q => ?_
  obtain ⟨cs, k, m, e1, e2, ne, hne, hl, k0, z0, z1, hc⟩ := hi
  refine ⟨_, pss_cons (ps_set (i := 2) scDraw.nd rfl (.inl rfl) (pe_ix ix_list (pv 0) pe_int (fun _ _ => rfl)))
    (pss_cons (ps_set (i := 3) scDraw.nd rfl (.inl rfl) (pe_op op_mod (pe_callTy call_int1 rfl mi boot_int (pa_cons (pe_ix ix_list (pv 0) pe_int (fun _ _ => rfl)) pa_nil)) (pe_callB call_len_seq (by rfl) ml PySem.boot_len (pa_cons (pv 2) pa_nil))))
    (pss_cons (ps_set (i := 4) scDraw.nd rfl (.inl rfl) (pe_ix ix_list (pv 2) (pv 3) (fun _ _ => rfl)))
    (pss_cons (ps_if (pt_cmpR op_ge (pv 4) (pe_op op_pow pe_int pe_int) (nomark _))
      (pss_cons (ps_asg (pe_op op_fdiv (pv 4) (pv 1)) (pg_sub (pv 2) (pv 3) set_list))
        (pss_one (ps_ret (pe_op op_mod (pe_callTy call_int1 rfl mi boot_int (pa_cons (pv 4) pa_nil)) (pv 1))))) pss_nil)
    (pss_cons (ps_asg (pe_op op_add (pe_ix ix_list (pv 0) pe_int (fun _ _ => rfl)) pe_int) (pg_sub (pv 0) pe_int set_list))
    (pss_cons (ps_asg (pe_op op_mod (pe_callTy call_int1 rfl mi boot_int (pa_cons (pe_op op_add (pe_op op_add (pe_op op_add (pe_op op_mul (pe_ix ix_list (pv 0) pe_int (fun _ _ => rfl)) pe_int) (pv 4)) (pe_op op_mul pe_int (pe_ix ix_list (pv 0) pe_int (fun _ _ => rfl)))) pe_int) pa_nil)) pe_int) (pg_sub (pv 0) pe_int set_list))
    (pss_cons (ps_set (i := 5) scDraw.nd rfl (.inl rfl) (pe_op op_mod (pe_callTy call_int1 rfl mi boot_int (pa_cons (pe_op op_mul (pe_ix ix_list (pv 0) pe_int (fun _ _ => rfl)) (pe_ix ix_list (pv 0) pe_int (fun _ _ => rfl))) pa_nil)) pe_int))
    (pss_one (ps_ret (pe_op op_mod (pe_callTy call_int1 rfl mi boot_int (pa_cons (pe_op op_fdiv (pv 5) pe_int) pa_nil)) (pv 1))))))))))
    , ?_⟩
  have lpos : 0 < (cs.length : Int) := by
    cases cs with
    | nil => exact absurd rfl hne
    | cons _ _ => rw [List.length_cons]; omega
  have sd : SqL K H1 da [.ref ca, .int k, .int m] := .inl (.inl e1)
  have sc : SqL K H1 ca (cs.map V.int) := .inl (.inl e2)
  -- cells
  refine ⟨.ref da, rfl, da, _, 0, .ref ca, rfl, rfl, sd, rfl, ?_⟩
  -- spot
  refine ⟨.ref da, rfl, da, _, 1, .int k, rfl, rfl, sd, rfl, .inl ⟨k, rfl, .ref ca, rfl, ca, _, rfl, .inl sc, ?_⟩⟩
  refine ⟨k, _, rfl, rfl, by rw [List.length_map]; exact lpos, ?_⟩
  rw [List.length_map]
  obtain ⟨s0, s1⟩ := mx_pos k cs.length lpos
  obtain ⟨c, g1, g2, g3⟩ := ix_of s0 s1
  have c0 := hc c (List.mem_of_getElem? g1)
  -- cell
  refine ⟨.ref ca, rfl, _, rfl, ca, _, _, _, rfl, rfl, sc, g2, ?_⟩
  -- if
  refine ⟨_, rfl, 10, 18, rfl, rfl, ⟨by decide, by decide, by decide⟩, c, _, rfl, rfl, _, rfl, ?_⟩
  refine ite2 (fun e => ?_) (fun e => ?_)
  · -- cells[spot] = cell // many
    refine ⟨_, rfl, _, rfl, c, many, rfl, rfl, ⟨m0, m1⟩, _, rfl, _, rfl, ca, _, _, _, rfl, rfl, e2, g3, ?_⟩
    refine ⟨_, rfl, .inl ⟨c, rfl, _, rfl, c, many, rfl, rfl, m0, ?_⟩⟩
    obtain ⟨r0, r1⟩ := mx_pos c many m0
    refine q _ _ (fun a n1 n2 => upd_ne n2) ⟨cs.set (k % cs.length).toNat (c / many), k, m, by rw [upd_ne ne]; exact e1, by rw [upd_same, List.map_set], ne, ?_, by rw [List.length_set]; exact hl, k0, z0, z1, set_nonneg hc (Int.ediv_nonneg c0 (by omega))⟩ r0 r1
    intro z
    have := congrArg List.length z
    rw [List.length_set] at this
    simp at this
    exact hne this
  · -- draws[1] = draws[1] + 1
    refine ⟨.ref da, rfl, da, _, 1, .int k, rfl, rfl, sd, rfl, k, 1, rfl, rfl, .ref da, rfl, da, _, 1, 1, rfl, rfl, e1, rfl, ?_⟩
    generalize hH2 : upd H1 da (.lst ([V.ref ca, .int k, .int m].set 1 (.int (k + 1)))) = H2
    have f1 : H2 da = some (.lst [.ref ca, .int (k + 1), .int m]) := by rw [← hH2, upd_same]; rfl
    have fo : ∀ a, a ≠ da → H2 a = H1 a := fun a n => by rw [← hH2, upd_ne n]
    have sd2 : SqL K H2 da [.ref ca, .int (k + 1), .int m] := .inl (.inl f1)
    -- draws[2] = ..
    refine ⟨.ref da, rfl, da, _, 2, .int m, rfl, rfl, sd2, rfl, m, 48271, rfl, rfl, .inr (by decide), _, rfl, _, c, rfl, rfl, .ref da, rfl, da, _, 1, .int (k + 1), rfl, rfl, sd2, rfl, 7919, k + 1, rfl, rfl, .inl (by decide), _, _, rfl, rfl, _, 12345, rfl, rfl, .inl ⟨_, rfl, _, 2147483647, rfl, rfl, (by show (0 : Int) < 2147483647; decide), ?_⟩⟩
    dsimp only
    generalize hm2 : (m * 48271 + c + 7919 * (k + 1) + 12345) % 2147483647 = m2
    have b0 : 0 ≤ m2 ∧ m2 < 2147483647 := by rw [← hm2]; exact mx_pos _ _ (by decide)
    refine ⟨.ref da, rfl, da, _, 2, 2, rfl, rfl, f1, rfl, ?_⟩
    generalize hH3 : upd H2 da (.lst ([V.ref ca, .int (k + 1), .int m].set 2 (.int m2))) = H3
    have h1 : H3 da = some (.lst [.ref ca, .int (k + 1), .int m2]) := by rw [← hH3, upd_same]; rfl
    have ho : ∀ a, a ≠ da → H3 a = H1 a := fun a n => by rw [← hH3, upd_ne n, fo a n]
    have sd3 : SqL K H3 da [.ref ca, .int (k + 1), .int m2] := .inl (.inl h1)
    -- mixed
    refine ⟨.ref da, rfl, da, _, 2, .int m2, rfl, rfl, sd3, rfl, .ref da, rfl, da, _, 2, .int m2, rfl, rfl, sd3, rfl, m2, m2, rfl, rfl, .inl (by omega), .inl ⟨_, rfl, _, 2147483629, rfl, rfl, (by show (0 : Int) < 2147483629; decide), ?_⟩⟩
    dsimp only
    refine ⟨_, rfl, _, 16, rfl, rfl, ⟨by decide, by decide⟩, .inl ⟨_, rfl, _, rfl, _, many, rfl, rfl, m0, ?_⟩⟩
    obtain ⟨r0, r1⟩ := mx_pos (m2 * m2 % 2147483629 / 16) many m0
    exact q _ H3 (fun a n1 n2 => ho a n1) ⟨cs, k + 1, m2, h1, by rw [ho ca (Ne.symm ne)]; exact e2, ne, hne, hl, by omega, b0.1, b0.2, hc⟩ r0 r1
end
end K2
namespace K2
open PySem PySem.Spec PyProof.Rows L2 L3
local macro_rules | `(tactic| walk_at "vc") => `(tactic| simp only [sSeq, sNx, sBk, sCt, sSet, sIf, sRet, sRetN, sPar, sFor, sExp, dVar, dC, dOp, dCall, dCons, dNil, dTup, dLst, bOr, bNot, bAnd, bYes, dB, dTru, dOrT, dAndT, dNotT, dIf, dChain, view, frz, view1, frz1, startD, List.map_cons, List.map_nil, List.map_append, List.cons_append, List.nil_append, List.length_cons, List.length_nil, List.replicate, List.getElem?_cons_zero, List.getElem?_cons_succ, Option.some.injEq, exists_eq_left', exists_eq_left, gNm, geNm, iTx, iSq, iRg, dLc, List.set_cons_zero, List.set_cons_succ, wipeE])
abbrev c_LETTERS : Str := "abcdefghijklmnopqrstuvwxyz"
structure Txt (K : PySem.W.Frag) (mg : Str → Option Value) : Prop where
  m_len : mg "len" = none
  m_isinstance : mg "isinstance" = none
  m_str : mg "str" = none
  m_all : mg "all" = none
  m_abs : mg "abs" = none
  m_int : mg "int" = none
  m_range : mg "range" = none
  m_min : mg "min" = none
  m_repr : mg "repr" = none
  v_LETTERS : ∃ t, mg "LETTERS" = some (.str c_LETTERS t)
  v_LONGEST_NAME : ∃ t, mg "LONGEST_NAME" = some (.int 6 t)
abbrev s_is_name : Stmt := topS 3
theorem sc_is_name : FnScope ["thing", "letter"] ["thing"] (defScope s_is_name) := ⟨rfl, rfl, rfl, by decide +kernel, rfl, by decide +kernel, by decide +kernel⟩
section
variable {P : Program} {w : World} {K : PySem.W.Frag} {mg : Str → Option Value} {base : Heap}
/-- is it a name -/
def nameS (x : Str) : Bool := decide (1 ≤ x.length) && decide (x.length ≤ 6) && x.cps.toList.all fun c => decide (c ∈ c_LETTERS.cps.toList)
def nameD : D → Bool
  | .str x => nameS x
  | _ => false
/-- any value, its texts of bounded length -/
def okV (d : D) : Prop := (∃ t, tyOf d = some t) ∧ ∀ x, d = .str x → x.length ≤ 100000 ∧ PyData.strOk x = true
theorem run_all (x : Str) (E : En) (p : Nat → Bool) (te : TD) {R : D → Prop} (h : ∀ (c : Nat) (Q : D → Prop), Q (.bl (p c)) → te (E.set 1 (some (.str ⟨#[c]⟩))) Q) (hp : R (.bl (x.cps.toList.all p))) :
    lcRun (geNm 1) bYes te E (chars x) [] fun zs => fAll [D.lst zs] R := by
  refine lc_map (fun d => match d with | .str s => .bl (p (s.cps.getD 0 0)) | d => d) (chars x) [] _ (fun d hd Q q => ?_) (ge_mono 1) ?_
  · unfold chars at hd
    obtain ⟨c, _, rfl⟩ := List.mem_map.mp hd
    exact h c Q q
  · show fAll [D.lst ([] ++ _)] R
    rw [List.nil_append]
    refine ⟨x.cps.toList.map p, ?_, ?_⟩
    · unfold chars
      rw [List.map_map, List.map_map]
      rfl
    · rw [List.all_map]
      exact hp
def fIsName : Cf → FN := fun C ds P => ∃ d, ds = [d] ∧ okV d ∧ P (.bl (nameD d))
theorem cal0_is_name (T : Txt K mg) (d : Dfn K mg "is_name" s_is_name ["thing"]) : Cal0 P w K mg base "is_name" s_is_name 1 ["thing"] fIsName := by
  obtain ⟨tL, e_LETTERS⟩ := T.v_LETTERS
  obtain ⟨tN, e_LONGEST_NAME⟩ := T.v_LONGEST_NAME
  refine cal0_of d sc_is_name (fun C ds R h => by obtain ⟨_, rfl, _⟩ := h; rfl) fun f cdv A fr s H E hgd hr C ds R h => ⟨_, (dss_cons (ds_if (dt_w (dw_or (dt_not (dt_val (de_blt cd_isi call_isiD rfl T.m_isinstance boot_isinstance (da_cons (de_of (pv 0)) (da_cons (de_c (pe_bltn (v := .ty "str") rfl T.m_str boot_str rfl) fun _ => .op _) da_nil))))) (dw_or1 (dt_not (dt_chain od_ord od_ord op_leD op_leD de_int (de_blt cd_len call_lenAll rfl T.m_len boot_len (da_cons (de_of (pv 0)) da_nil)) (de_c (pe_glob (v := .int 6) rfl e_LONGEST_NAME ⟨_, rfl⟩) fun _ => .int _)))))) (dss_one (ds_ret de_bl)) dss_nil)
      (dss_one (ds_ret (de_blt cd_all (cr_all rfl) rfl T.m_all boot_all (da_cons (de_lc (own := [("letter", 1)]) rfl sc_is_name.nd (blkOk_by (N := ["thing", "letter"]) (sc := defScope s_is_name) (by decide +kernel)) (di_str (de_of (pv 0))) (fun b => dge_name (i := 1) ⟨sc_is_name.nd, rfl, by first | exact .inl rfl | exact .inr rfl, by first | exact .inr rfl | exact .inl rfl⟩ (by decide)) (fun b => dts_nil) (fun b => (de_cmp od_inS op_inSg (by with_unfolding_all rfl) (de_of (pv 1)) (de_c (pe_glob (v := .str c_LETTERS) rfl e_LETTERS ⟨_, rfl⟩) fun _ => .str _)))) da_nil))))), ?_⟩
  obtain ⟨d, rfl, ⟨⟨t, ht⟩, hl⟩, h⟩ := h
  walk_at "vc"
  refine ⟨t, ht, by decide, ?_⟩
  refine ⟨_, rfl, ?_⟩
  by_cases isS : ∃ x, d = .str x
  · obtain ⟨x, rfl⟩ := isS
    cases ht
    obtain ⟨hx, _⟩ := hl x rfl
    rw [if_neg (by decide)]
    refine ⟨x.length, if_pos hx, ?_⟩
    show ∃ k, D.bl (decide ((1 : Int) ≤ (x.length : Int))) = D.bl k ∧ _
    refine ⟨_, rfl, ?_⟩
    by_cases h1 : 1 ≤ x.length
    · rw [if_pos (decide_eq_true (by omega))]
      show ∃ b, D.bl (decide ((x.length : Int) ≤ 6)) = D.bl b ∧ _
      refine ⟨_, rfl, ?_⟩
      by_cases h2 : x.length ≤ 6
      · rw [if_neg (by rw [decide_eq_true (by omega)]; decide)]
        refine ⟨x, rfl, by simp only [chars, List.length_map, Array.length_toList]; exact hx, ?_⟩
        refine run_all x _ (fun c => decide (c ∈ c_LETTERS.cps.toList)) _ (fun c Q q => ?_) ?_
        · refine ⟨.str ⟨#[c]⟩, rfl, c, rfl, ?_⟩
          rw [show (false != decide (c ∈ c_LETTERS.cps.toList)) = decide (c ∈ c_LETTERS.cps.toList) by simp]
          exact q
        · have e : nameD (.str x) = x.cps.toList.all fun c => decide (c ∈ c_LETTERS.cps.toList) := by
            show nameS x = _
            unfold nameS
            rw [decide_eq_true h1, decide_eq_true h2, Bool.true_and, Bool.true_and]
          rw [← e]
          exact h
      · rw [if_pos (by rw [decide_eq_false (by omega)]; rfl)]
        have e : nameD (.str x) = false := by
          show nameS x = _
          unfold nameS
          rw [decide_eq_false h2, Bool.and_false, Bool.false_and]
        rw [e] at h
        exact h
    · rw [if_neg (by rw [decide_eq_false (by omega)]; decide)]
      refine ⟨_, rfl, ?_⟩
      have e : nameD (.str x) = false := by
        show nameS x = _
        unfold nameS
        rw [decide_eq_false h1, Bool.false_and, Bool.false_and]
      rw [e] at h
      exact h
  · have e : nameD d = false := by cases d <;> first | rfl | exact absurd ⟨_, rfl⟩ isS
    have e2 : isTy t "str" = false := by cases d <;> first | (cases ht; decide) | exact absurd ⟨_, rfl⟩ isS | cases ht
    rw [e2, if_pos (show (!false) = true from rfl), if_pos trivial]
    rw [e] at h
    exact h
end
end K2
namespace K2
open PySem PySem.Spec PyProof.Rows L2 L3
local macro_rules | `(tactic| walk_at "vc") => `(tactic| simp only [sSeq, sNx, sBk, sCt, sSet, sIf, sRet, sRetN, sPar, sFor, sExp, dVar, dC, dOp, dCall, dCons, dNil, dTup, dLst, bOr, bNot, bAnd, bYes, dB, dTru, dOrT, dAndT, dNotT, dIf, dChain, view, frz, view1, frz1, startD, List.map_cons, List.map_nil, List.map_append, List.cons_append, List.nil_append, List.length_cons, List.length_nil, List.replicate, List.getElem?_cons_zero, List.getElem?_cons_succ, Option.some.injEq, exists_eq_left', exists_eq_left, gNm, geNm, iTx, iSq, iRg, dLc, List.set_cons_zero, List.set_cons_succ, wipeE, dSl, oNone, oSome, D.int.injEq, D.str.injEq])
abbrev s_law_state : Stmt := topS 5
theorem sc_law_state : FnScope ["script", "cell"] ["script"] (defScope s_law_state) := ⟨rfl, rfl, rfl, by decide +kernel, rfl, by decide +kernel, by decide +kernel⟩
abbrev s_law_pick : Stmt := topS 7
theorem sc_law_pick : FnScope ["draws", "some"] ["draws", "some"] (defScope s_law_pick) := ⟨rfl, rfl, rfl, by decide +kernel, rfl, by decide +kernel, by decide +kernel⟩
abbrev s_law_is_name : Stmt := topS 8
theorem sc_law_is_name : FnScope ["value", "sign"] ["value"] (defScope s_law_is_name) := ⟨rfl, rfl, rfl, by decide +kernel, rfl, by decide +kernel, by decide +kernel⟩
section
variable {P : Program} {w : World} {K : PySem.W.Frag} {mg : Str → Option Value} {base : Heap}
theorem cal_law_state (T : Txt K mg) (d : Dfn K mg "_law_state" s_law_state ["script"]) : Cal P w K mg base "_law_state" 1 ["script"] fState := by
  refine cal_of d sc_law_state (fun C ds R h => by obtain ⟨_, rfl, _⟩ := h; rfl) fun f cdv A fr s H E hgd hr C ds R h => ⟨_, (dss_one (ds_ret (de_lst (da_cons (de_orT (de_lc (own := [("cell", 1)]) rfl sc_law_state.nd (blkOk_by (N := ["script", "cell"]) (sc := defScope s_law_state) (by decide +kernel)) (di_list (de_slice (de_of (pv 0)) do_none (do_some de_int))) (fun b => dge_name (i := 1) ⟨sc_law_state.nd, rfl, by first | exact .inl rfl | exact .inr rfl, by first | exact .inr rfl | exact .inl rfl⟩ (by decide)) (fun b => dts_nil) (fun b => (de_blt cd_abs call_abs rfl T.m_abs boot_abs (da_cons (de_of (pv 1)) da_nil)))) (de_one (de_lst (da_cons de_int da_nil)))) (da_cons de_int (da_cons de_int da_nil)))))), ?_⟩
  obtain ⟨ns, rfl, h⟩ := h
  walk_at "vc"
  have hl : (cutL ns none (some 63)).length ≤ 63 := by
    unfold cutL
    rw [List.length_take]
    have : HT.sIx ns.length ns.length (some 63) ≤ 63 := by
      show HT.sIx ns.length ns.length (some ((63 : Nat) : Int)) ≤ 63
      rw [HT.sIx_nat]
      exact Nat.min_le_left _ _
    omega
  refine ⟨_, rfl, by rw [List.length_map]; omega, ?_⟩
  refine lc_map (fun d => match d with | .int i => .int (if i < 0 then -i else i) | d => d) _ [] _ (fun d hd Q q => ?_) (ge_mono 1) ?_
  · obtain ⟨i, _, rfl⟩ := List.mem_map.mp hd
    exact ⟨_, rfl, q⟩
  · have e : (([] : List D) ++ ((cutL ns none (some 63)).map D.int).map (fun d => match d with | .int i => .int (if i < 0 then -i else i) | d => d)) = ((cutL ns none (some 63)).map fun i => if i < 0 then -i else i).map D.int := by
      rw [List.nil_append, List.map_map, List.map_map]; rfl
    rw [e]
    generalize hcs : (cutL ns none (some 63)).map (fun i : Int => if i < 0 then -i else i) = cs
    have hcl : cs.length ≤ 63 := by rw [← hcs, List.length_map]; exact hl
    have hc0 : ∀ c ∈ cs, 0 ≤ c := fun c hc => by
      rw [← hcs] at hc
      obtain ⟨i, _, rfl⟩ := List.mem_map.mp hc
      split <;> omega
    refine ⟨!(cs.map D.int).isEmpty, rfl, ?_⟩
    cases cs with
    | nil => 
      rw [if_neg (by decide)]
      exact ⟨by decide, by decide, h [1] (by decide) (by decide) (by decide)⟩
    | cons c r =>
      rw [if_pos (by rfl)]
      exact ⟨by show 3 ≤ 100000; decide, h (c :: r) (by intro z; cases z) hcl hc0⟩
theorem cal_law_pick (T : Txt K mg) (C_law_draw : Cal P w K mg base "_law_draw" 1 ["draws", "many"] fDraw) (d : Dfn K mg "_law_pick" s_law_pick ["draws", "some"]) : Cal P w K mg base "_law_pick" 2 ["draws", "some"] fPick := by
  refine cal_of d sc_law_pick (fun C ds R h => by
    obtain ⟨da, ca, _, ⟨ys, rfl | rfl, _⟩ | ⟨z, rfl, _⟩⟩ := h <;> rfl) fun f cdv A fr s H E hgd hr C ds R h => ⟨_, (dss_one (ds_ret (de_ix od_ix ix_seq (de_of (pv 1)) (de_cal C_law_draw hgd hr (by decide) rfl (da_cons (de_of (pv 0)) (da_cons (de_blt cd_len call_lenAll rfl T.m_len boot_len (da_cons (de_of (pv 1)) da_nil)) da_nil)))))), ?_⟩
  obtain ⟨da, ca, rfl, ⟨ys, e, ne, hl, h⟩ | ⟨z, rfl, ne, hl, h⟩⟩ := h
  · have hpos : 0 < ys.length := List.length_pos_iff.mpr ne
    rcases e with rfl | rfl
    · walk_at "vc"
      refine ⟨ys.length, rfl, da, ca, ys.length, rfl, rfl, by omega, by omega, fun r r0 r1 => ?_⟩
      obtain ⟨y, e1, e2⟩ := atI_some (l := ys) r0 r1
      exact ⟨y, e1, h y e2⟩
    · walk_at "vc"
      refine ⟨ys.length, rfl, da, ca, ys.length, rfl, rfl, by omega, by omega, fun r r0 r1 => ?_⟩
      obtain ⟨y, e1, e2⟩ := atI_some (l := ys) r0 r1
      exact ⟨y, e1, h y e2⟩
  · walk_at "vc"
    refine ⟨z.length, if_pos hl, da, ca, z.length, rfl, rfl, by omega, by omega, fun r r0 r1 => ?_⟩
    have zl : z.cps.toList.length = z.length := Array.length_toList
    obtain ⟨y, e1, e2⟩ := atI_some (l := z.cps.toList) r0 (by rw [zl]; exact r1)
    exact ⟨hl, y, e1, h y e2⟩
theorem chars_ok {x : Str} (h : PyData.strOk x = true) {d : D} (hd : d ∈ chars x) : ∃ c, d = .str ⟨#[c]⟩ ∧ c ∈ x.cps.toList ∧ PyData.strOk ⟨#[c]⟩ = true := by
  unfold chars at hd
  obtain ⟨c, hc, rfl⟩ := List.mem_map.mp hd
  refine ⟨c, rfl, hc, ?_⟩
  have : c < 0x110000 := by
    unfold PyData.strOk at h
    rw [← Array.all_toList, List.all_eq_true] at h
    simpa using h c hc
  simp [PyData.strOk, this]
/-- a list of texts is in order for == -/
theorem eqOk_strs : ∀ (l : List D), (∀ d ∈ l, ∃ x, d = .str x ∧ PyData.strOk x = true) → eqOk (.lst l) = true := by
  intro l h
  have a : ∀ l : List D, (∀ d ∈ l, ∃ x, d = .str x ∧ PyData.strOk x = true) → pls l = true ∧ PyData.canLayAll0 (toPs l) = true ∧ PyData.depthAll (toPs l) ≤ 1 := by
    intro l
    induction l with
    | nil => intro _; simp only [pls, toPs, PyData.canLayAll0, PyData.depthAll]; exact ⟨trivial, trivial, by decide⟩
    | cons d r ih =>
      intro h
      obtain ⟨x, rfl, hx⟩ := h d List.mem_cons_self
      obtain ⟨h1, h2, h3⟩ := ih fun d hd => h d (List.mem_cons_of_mem _ hd)
      simp only [pls, pl, toPs, toP, PyData.canLayAll0, PyData.canLay0, PyData.depthAll, PyData.depth, h1, h2, hx, Bool.and_self]
      refine ⟨trivial, trivial, ?_⟩
      omega
  obtain ⟨h1, h2, h3⟩ := a l h
  unfold eqOk SeqAt.shaped
  simp only [pl, toP, PyData.canLay0, PyData.depth, h1, h2, Bool.true_and, decide_eq_true_eq]
  omega
theorem cal_law_is_name (T : Txt K mg) (d : Dfn K mg "_law_is_name" s_law_is_name ["value"]) : Cal P w K mg base "_law_is_name" 1 ["value"] fIsName := by
  refine cal_of d sc_law_is_name (fun C ds R h => by obtain ⟨_, rfl, _⟩ := h; rfl) fun f cdv A fr s H E hgd hr C ds R h => ⟨_, (dss_cons (ds_if (dt_w (dw_or (dt_not (dt_val (de_blt cd_isi call_isiD rfl T.m_isinstance boot_isinstance (da_cons (de_of (pv 0)) (da_cons (de_c (pe_bltn (v := .ty "str") rfl T.m_str boot_str rfl) fun _ => .op _) da_nil))))) (dw_or1 (dt_not (dt_chain od_ord od_ord op_leD op_leD de_int (de_blt cd_len call_lenAll rfl T.m_len boot_len (da_cons (de_of (pv 0)) da_nil)) de_int))))) (dss_one (ds_ret de_bl)) dss_nil)
      (dss_one (ds_ret (de_cmp od_eq (op_eqb hr.units) (nomark _) (de_lc (own := [("sign", 1)]) rfl sc_law_is_name.nd (blkOk_by (N := ["value", "sign"]) (sc := defScope s_law_is_name) (by decide +kernel)) (di_str (de_of (pv 0))) (fun b => dge_name (i := 1) ⟨sc_law_is_name.nd, rfl, by first | exact .inl rfl | exact .inr rfl, by first | exact .inr rfl | exact .inl rfl⟩ (by decide)) (fun b => dts_one (dt_cmp od_inS op_notInSg (by with_unfolding_all rfl) (de_of (pv 1)) de_str)) (fun b => (de_of (pv 1)))) (de_lst da_nil))))), ?_⟩
  obtain ⟨d, rfl, ⟨⟨t, ht⟩, hl⟩, h⟩ := h
  walk_at "vc"
  refine ⟨t, ht, by decide, ?_⟩
  refine ⟨_, rfl, ?_⟩
  by_cases isS : ∃ x, d = .str x
  · obtain ⟨x, rfl⟩ := isS
    cases ht
    obtain ⟨hx, hok⟩ := hl x rfl
    rw [if_neg (by decide)]
    refine ⟨x.length, if_pos hx, ?_⟩
    show ∃ k, D.bl (decide ((1 : Int) ≤ (x.length : Int))) = D.bl k ∧ _
    refine ⟨_, rfl, ?_⟩
    by_cases h1 : 1 ≤ x.length
    · rw [if_pos (decide_eq_true (by omega))]
      show ∃ b, D.bl (decide ((x.length : Int) ≤ 6)) = D.bl b ∧ _
      refine ⟨_, rfl, ?_⟩
      by_cases h2 : x.length ≤ 6
      · rw [if_neg (by rw [decide_eq_true (by omega)]; decide)]
        refine ⟨x, rfl, by simp only [chars, List.length_map, Array.length_toList]; exact hx, ?_⟩
        refine lc_flt (fun d => match d with | .str s => !decide (s.cps.getD 0 0 ∈ c_LETTERS.cps.toList) | _ => false) (fun d => d) (chars x) [] _ (fun d hd Q R q r => ?_) ?_
        · obtain ⟨c, rfl, _, _⟩ := chars_ok hok hd
          refine ⟨_, rfl, c, rfl, _, rfl, ?_⟩
          have q : (!decide (c ∈ c_LETTERS.cps.toList)) = true → Q (.str ⟨#[c]⟩) := q
          have r : (!decide (c ∈ c_LETTERS.cps.toList)) = false → R := r
          rw [show (true != decide (c ∈ c_LETTERS.cps.toList)) = (!decide (c ∈ c_LETTERS.cps.toList)) by simp]
          cases hb : (!decide (c ∈ c_LETTERS.cps.toList)) with
          | true => simp only [if_true]; exact ⟨_, rfl, q hb⟩
          | false => simp only [Bool.false_eq_true, if_false]; exact r hb
        · rw [List.nil_append, List.map_id']
          generalize hL : (chars x).filter _ = L
          have hLs : ∀ d ∈ L, ∃ x, d = .str x ∧ PyData.strOk x = true := fun d hd => by
            rw [← hL] at hd
            obtain ⟨c, rfl, _, k⟩ := chars_ok hok (List.mem_filter.mp hd).1
            exact ⟨_, rfl, k⟩
          refine ⟨by decide, eqOk_strs L hLs, eqOk_strs [] (fun _ h => nomatch h), ?_⟩
          have e : nameD (.str x) = x.cps.toList.all fun c => decide (c ∈ c_LETTERS.cps.toList) := by
            show nameS x = _
            unfold nameS
            rw [decide_eq_true h1, decide_eq_true h2, Bool.true_and, Bool.true_and]
          have e2 : (false != eqD (.lst L) (.lst [])) = nameD (.str x) := by
            rw [e]
            have e3 : eqD (.lst L) (.lst []) = L.isEmpty := by
              unfold eqD
              cases L with
              | nil => simp only [toP, toPs, PyData.eqv, PyData.eqvAll]; rfl
              | cons _ _ => simp only [toP, toPs, PyData.eqv, PyData.eqvAll]; rfl
            rw [e3, ← hL]
            simp only [Bool.false_bne]
            rw [Bool.eq_iff_iff, List.isEmpty_iff, List.filter_eq_nil_iff, List.all_eq_true]
            constructor
            · intro k c hc
              have := k (.str ⟨#[c]⟩) (by unfold chars; exact List.mem_map.mpr ⟨c, hc, rfl⟩)
              have this : ¬ (!decide (c ∈ c_LETTERS.cps.toList)) = true := this
              cases hb : decide (c ∈ c_LETTERS.cps.toList) with
              | true => rfl
              | false => rw [hb] at this; exact absurd rfl this
            · intro k d hd
              obtain ⟨c, rfl, hc, _⟩ := chars_ok hok hd
              have := k c hc
              show ¬ (!decide (c ∈ c_LETTERS.cps.toList)) = true
              rw [this]
              decide
          rw [e2]
          exact h
      · rw [if_pos (by rw [decide_eq_false (by omega)]; rfl)]
        have e : nameD (.str x) = false := by
          show nameS x = _
          unfold nameS
          rw [decide_eq_false h2, Bool.and_false, Bool.false_and]
        rw [e] at h
        exact h
    · rw [if_neg (by rw [decide_eq_false (by omega)]; decide)]
      refine ⟨_, rfl, ?_⟩
      have e : nameD (.str x) = false := by
        show nameS x = _
        unfold nameS
        rw [decide_eq_false h1, Bool.false_and, Bool.false_and]
      rw [e] at h
      exact h
  · have e : nameD d = false := by cases d <;> first | rfl | exact absurd ⟨_, rfl⟩ isS
    have e2 : isTy t "str" = false := by cases d <;> first | (cases ht; decide) | exact absurd ⟨_, rfl⟩ isS | cases ht
    rw [e2, if_pos (show (!false) = true from rfl), if_pos trivial]
    rw [e] at h
    exact h
end
end K2
namespace K2
open PySem PySem.Spec PyProof.Rows L2 L3
local macro_rules | `(tactic| walk_at "vc") => `(tactic| simp only [sSeq, sNx, sBk, sCt, sSet, sIf, sRet, sRetN, sPar, sFor, sExp, dVar, dC, dOp, dCall, dCons, dNil, dTup, dLst, bOr, bNot, bAnd, bYes, dB, dTru, dOrT, dAndT, dNotT, dIf, dChain, view, frz, view1, frz1, startD, List.map_cons, List.map_nil, List.map_append, List.cons_append, List.nil_append, List.length_cons, List.length_nil, List.replicate, List.getElem?_cons_zero, List.getElem?_cons_succ, Option.some.injEq, exists_eq_left', exists_eq_left, gNm, geNm, iTx, iSq, iRg, dLc, List.set_cons_zero, List.set_cons_succ, wipeE, dSl, oNone, oSome, D.int.injEq, D.str.injEq, dJoin, dDnew, dDisp, dPairs])
abbrev s_law_any_value : Stmt := topS 9
theorem sc_law_any_value : FnScope ["draws", "signs", "word", "k", "others"] ["draws"] (defScope s_law_any_value) := ⟨rfl, rfl, rfl, by decide +kernel, rfl, by decide +kernel, by decide +kernel⟩
abbrev s_law : Stmt := topS 10
theorem sc_law : FnScope ["script", "draws", "turn", "value", "before", "due"] ["script"] (defScope s_law) := ⟨rfl, rfl, rfl, by decide +kernel, rfl, by decide +kernel, by decide +kernel⟩
section
variable {P : Program} {w : World} {K : PySem.W.Frag} {mg : Str → Option Value} {base : Heap}
/-- what the law draws -/
structure AnyV (d : D) : Prop where
  ok : okV d
  rp : reprOk d = true
  dp : (toP d).depth ≤ 60
  sz : (showD d).length ≤ 100000
def fAnyV : Cf → FN := fun C ds P => ∃ da ca, C = drw da ca ∧ ds = [.op (.ref da)] ∧ ∀ d, AnyV d → P d
theorem anyV_str {x : Str} (hl : x.length ≤ 9000) (h : PyData.strOk x = true) : AnyV (.str x) := by
  refine ⟨⟨⟨_, rfl⟩, fun y e => by cases e; exact ⟨by omega, h⟩⟩, rfl, by simp only [toP, PyData.depth]; decide, ?_⟩
  unfold showD
  simp only [toP, PyData.shown]
  have h2 : ∀ c ∈ x.cps.toList, c < 16 ^ 8 := fun c hc => by
    unfold PyData.strOk at h
    rw [← Array.all_toList, List.all_eq_true] at h
    have := h c hc
    simp at this
    omega
  have := StrLaws.reprText_len x h2
  omega
theorem join_small {ys : List Str} (n : Nat) (h : ∀ y ∈ ys, y.length ≤ 1 ∧ PyData.strOk y = true) (hl : ys.length ≤ n) : (ys.map (·.length)).sum + ys.length * ("" : Str).length ≤ n ∧ (Txt.join "" ys).length ≤ n ∧ PyData.strOk (Txt.join "" ys) = true := by
  have hs : ∀ ys : List Str, (∀ y ∈ ys, y.length ≤ 1 ∧ PyData.strOk y = true) → (ys.map (·.length)).sum ≤ ys.length := by
    intro ys
    induction ys with
    | nil => intro _; exact Nat.le_refl _
    | cons y r ih =>
      intro h
      have h1 := (h y List.mem_cons_self).1
      have h2 := ih fun z hz => h z (List.mem_cons_of_mem _ hz)
      simp only [List.map_cons, List.sum_cons, List.length_cons]
      omega
  have h0 : ("" : Str).length = 0 := rfl
  refine ⟨by rw [h0]; have := hs ys h; omega, ?_, ?_⟩
  · show (PySem.Builtin.Str.glued "" ys).length ≤ n
    rw [size_glued, h0]
    have := hs ys h
    omega
  · show PyData.strOk (PySem.Builtin.Str.glued "" ys) = true
    have st : ∀ ys : List Str, (∀ y ∈ ys, y.length ≤ 1 ∧ PyData.strOk y = true) → PyData.strOk (Str.join "" ys) = true := by
      have app : ∀ a b : Str, PyData.strOk a = true → PyData.strOk b = true → PyData.strOk (a ++ b) = true := fun a b ha hb => by
        unfold PyData.strOk at *
        show ((a.cps ++ b.cps).all _) = true
        rw [Array.all_append, ha, hb]
        rfl
      intro ys
      induction ys with
      | nil => intro _; decide +kernel
      | cons y r ih =>
        intro h
        have h1 := (h y List.mem_cons_self).2
        have h2 := ih fun z hz => h z (List.mem_cons_of_mem _ hz)
        cases r with
        | nil => exact h1
        | cons z r =>
          show PyData.strOk (y ++ "" ++ Str.join "" (z :: r)) = true
          exact app _ _ (app _ _ h1 (by decide +kernel)) h2
    rw [StrLaws.glued_eq_join]
    exact st ys h
theorem strs_of {zs : List D} {p : Str → Prop} (h : ∀ z ∈ zs, ∃ y, z = .str y ∧ p y) : ∃ ys : List Str, zs = ys.map D.str ∧ ∀ y ∈ ys, p y := by
  induction zs with
  | nil => exact ⟨[], rfl, fun _ h => nomatch h⟩
  | cons z r ih =>
    obtain ⟨y, rfl, hy⟩ := h z List.mem_cons_self
    obtain ⟨ys, rfl, h2⟩ := ih fun z hz => h z (List.mem_cons_of_mem _ hz)
    exact ⟨y :: ys, rfl, fun a ha => by
      rcases List.mem_cons.mp ha with rfl | ha
      · exact hy
      · exact h2 a ha⟩
theorem rep_ok {x : Str} (h : PyData.strOk x = true) (n : Nat) : PyData.strOk ⟨(List.replicate n x.cps).foldl (· ++ ·) #[]⟩ = true ∧ (⟨(List.replicate n x.cps).foldl (· ++ ·) #[]⟩ : Str).length = x.length * n := by
  have g : ∀ (n : Nat) (a : Array Nat), a.all (· < 0x110000) = true → ((List.replicate n x.cps).foldl (· ++ ·) a).all (· < 0x110000) = true ∧ ((List.replicate n x.cps).foldl (· ++ ·) a).size = a.size + x.length * n := by
    intro n
    induction n with
    | zero => intro a ha; exact ⟨ha, rfl⟩
    | succ n ih =>
      intro a ha
      rw [List.replicate_succ, List.foldl_cons]
      obtain ⟨h1, h2⟩ := ih (a ++ x.cps) (by rw [Array.all_append, ha]; exact h)
      refine ⟨h1, ?_⟩
      rw [h2, Array.size_append, Nat.mul_succ]
      have : x.length = x.cps.size := rfl
      omega
  obtain ⟨h1, h2⟩ := g n #[] (by decide +kernel)
  refine ⟨h1, ?_⟩
  show ((List.replicate n x.cps).foldl (· ++ ·) #[]).size = _
  rw [h2]
  show 0 + _ = _
  omega
theorem pick_one {da ca : Addr} {ys : List D} {Q : D → Prop} (ne : ys ≠ []) (hl : ys.length ≤ 100000) (h : ∀ y ∈ ys, Q y) : fPick (drw da ca) [.op (.ref da), .lst ys] Q := ⟨da, ca, rfl, .inl ⟨ys, .inl rfl, ne, hl, h⟩⟩
theorem cal_law_any_value (T : Txt K mg) (C_law_draw : Cal P w K mg base "_law_draw" 1 ["draws", "many"] fDraw) (C_law_pick : Cal P w K mg base "_law_pick" 2 ["draws", "some"] fPick) (d : Dfn K mg "_law_any_value" s_law_any_value ["draws"]) : Cal P w K mg base "_law_any_value" 3 ["draws"] fAnyV := by
  refine cal_of d sc_law_any_value (fun C ds R h => by obtain ⟨_, _, _, rfl, _⟩ := h; rfl) fun f cdv A fr s H E hgd hr C ds R h => ⟨_, (dss_cons (ds_set (i := 1) ⟨sc_law_any_value.nd, rfl, by first | exact .inl rfl | exact .inr rfl, .inl rfl⟩ (de_op od_add op_addD (de_op od_mul op_mulD de_str de_int) de_str))
      (dss_cons (ds_set (i := 2) ⟨sc_law_any_value.nd, rfl, by first | exact .inl rfl | exact .inr rfl, .inl rfl⟩ (de_join de_str (de_lc (own := [("k", 3)]) rfl sc_law_any_value.nd (blkOk_by (N := ["draws", "signs", "word", "k", "others"]) (sc := defScope s_law_any_value) (by decide +kernel)) (di_rng rfl T.m_range (da_cons (de_cal C_law_draw hgd hr (by decide) rfl (da_cons (de_of (pv 0)) (da_cons de_int da_nil))) da_nil)) (fun b => dge_name (i := 3) ⟨sc_law_any_value.nd, rfl, by first | exact .inl rfl | exact .inr rfl, by first | exact .inr rfl | exact .inl rfl⟩ (by decide)) (fun b => dts_nil) (fun b => (de_cal C_law_pick hgd hr (by decide) rfl (da_cons (de_of (pv 0)) (da_cons (de_of (pv 1)) da_nil)))))))
      (dss_cons (ds_set (i := 4) ⟨sc_law_any_value.nd, rfl, by first | exact .inl rfl | exact .inr rfl, .inl rfl⟩ (de_lst (da_cons de_non (da_cons de_bl (da_cons de_bl (da_cons de_int (da_cons de_int (da_cons (de_tup da_nil) (da_cons (de_lst da_nil) (da_cons de_dnew (da_cons (de_tup (da_cons de_str da_nil)) (da_cons (de_lst (da_cons de_str da_nil)) (da_cons (de_disp (dps_cons de_str de_int dps_nil) (by decide) (by decide) (by intro z; cases z) (by decide)) (da_cons (de_op od_mul op_mulD de_str de_int) (da_cons (de_op od_mul op_mulD de_str de_int) (da_cons (de_op od_mul op_mulD de_str de_int) da_nil))))))))))))))))
      (dss_one (ds_ret (de_cal C_law_pick hgd hr (by decide) rfl (da_cons (de_of (pv 0)) (da_cons (de_lst (da_cons (de_of (pv 2)) (da_cons (de_of (pv 2)) (da_cons (de_of (pv 2)) (da_cons (de_cal C_law_pick hgd hr (by decide) rfl (da_cons (de_of (pv 0)) (da_cons (de_of (pv 4)) da_nil))) da_nil))))) da_nil)))))))), ?_⟩
  obtain ⟨da, ca, rfl, rfl, h⟩ := h
  walk_at "vc"
  refine ⟨by decide, by decide, by decide, by decide, ?_⟩
  refine ⟨by decide, ?_⟩
  have hsg : PyData.strOk (⟨(List.replicate (6 : Int).toNat ("abcxyz" : Str).cps).foldl (· ++ ·) #[]⟩ ++ ("A1 -#" : Str)) = true := by decide +kernel
  have hsl : (⟨(List.replicate (6 : Int).toNat ("abcxyz" : Str).cps).foldl (· ++ ·) #[]⟩ ++ ("A1 -#" : Str) : Str).length = 41 := by decide +kernel
  refine ⟨da, ca, 9, rfl, rfl, by decide, by decide, fun r r0 r1 => ?_⟩
  refine ⟨r, rfl, by omega, by omega, by simp [rngD]; omega, ?_⟩
  refine lc_any (fun z => ∃ y, z = .str y ∧ y.length ≤ 1 ∧ PyData.strOk y = true) _ [] _ (fun d hd Q q => ?_) (ge_mono 3) fun zs hl hz => ?_
  · refine ⟨_, rfl, _, rfl, da, ca, rfl, .inr ⟨_, rfl, by rw [hsl]; decide, by rw [hsl]; decide, fun c hc => q _ ⟨_, rfl, Nat.le_refl 1, ?_⟩⟩⟩
    obtain ⟨c', e, _, hk⟩ := chars_ok hsg (d := .str ⟨#[c]⟩) (List.mem_map.mpr ⟨c, hc, rfl⟩)
    cases e
    exact hk
  · obtain ⟨ys, rfl, hy⟩ := strs_of hz
    have hyl : ys.length ≤ 9 := by
      rw [List.length_map] at hl
      rw [hl]
      simp only [rngD, List.length_map, List.length_range]
      omega
    obtain ⟨j1, j2, j3⟩ := join_small 9 hy hyl
    have hw := anyV_str (by omega) j3
    obtain ⟨a1, a2⟩ := rep_ok (x := "a") (by decide +kernel) 6
    obtain ⟨b1, b2⟩ := rep_ok (x := "a") (by decide +kernel) 7
    obtain ⟨c1, c2⟩ := rep_ok (x := "z") (by decide +kernel) 5000
    refine ⟨ys, by rw [List.nil_append], by omega, by decide, by decide, by decide, by decide, .inr "a", rfl, by decide, ?_⟩
    refine ⟨by decide, by decide, by decide, by decide, ?_⟩
    refine ⟨by decide, by decide, by decide, by decide, ?_⟩
    refine ⟨by decide, by decide, by decide, by decide, ?_⟩
    refine ⟨by decide, pick_one (fun z => nomatch z) (by decide) fun y hy => ⟨by decide, pick_one (fun z => nomatch z) (by simp only [List.length_cons, List.length_nil]; decide) fun v hv => h v ?_⟩⟩
    simp only [List.mem_cons, List.not_mem_nil, or_false] at hy hv
    have oth : AnyV y := by
      rcases hy with rfl | rfl | rfl | rfl | rfl | rfl | rfl | rfl | rfl | rfl | rfl | rfl | rfl | rfl
      · exact ⟨⟨⟨_, rfl⟩, fun _ e => nomatch e⟩, rfl, by decide +kernel, by decide +kernel⟩
      · exact ⟨⟨⟨_, rfl⟩, fun _ e => nomatch e⟩, rfl, by decide +kernel, by decide +kernel⟩
      · exact ⟨⟨⟨_, rfl⟩, fun _ e => nomatch e⟩, rfl, by decide +kernel, by decide +kernel⟩
      · exact ⟨⟨⟨_, rfl⟩, fun _ e => nomatch e⟩, by decide +kernel, by decide +kernel, by decide +kernel⟩
      · exact ⟨⟨⟨_, rfl⟩, fun _ e => nomatch e⟩, by decide +kernel, by decide +kernel, by decide +kernel⟩
      · exact ⟨⟨⟨_, rfl⟩, fun _ e => nomatch e⟩, by decide +kernel, by decide +kernel, by decide +kernel⟩
      · exact ⟨⟨⟨_, rfl⟩, fun _ e => nomatch e⟩, by decide +kernel, by decide +kernel, by decide +kernel⟩
      · exact ⟨⟨⟨_, rfl⟩, fun _ e => nomatch e⟩, by decide +kernel, by decide +kernel, by decide +kernel⟩
      · exact ⟨⟨⟨_, rfl⟩, fun _ e => nomatch e⟩, by decide +kernel, by decide +kernel, by decide +kernel⟩
      · exact ⟨⟨⟨_, rfl⟩, fun _ e => nomatch e⟩, by decide +kernel, by decide +kernel, by decide +kernel⟩
      · exact ⟨⟨⟨_, rfl⟩, fun _ e => nomatch e⟩, by decide +kernel, by decide +kernel, by decide +kernel⟩
      · exact anyV_str (by show Str.length _ ≤ 9000; exact Nat.le_trans (Nat.le_of_eq a2) (by decide)) a1
      · exact anyV_str (by show Str.length _ ≤ 9000; exact Nat.le_trans (Nat.le_of_eq b2) (by decide)) b1
      · exact anyV_str (by show Str.length _ ≤ 9000; exact Nat.le_trans (Nat.le_of_eq c2) (by decide)) c1
    rcases hv with rfl | rfl | rfl | rfl
    · exact hw
    · exact hw
    · exact hw
    · exact oth
end
end K2
namespace K2
open PySem PySem.Spec PyProof.Rows L2 L3
local macro_rules | `(tactic| walk_at "vc") => `(tactic| simp only [sSeq, sNx, sBk, sCt, sSet, sIf, sRet, sRetN, sPar, sFor, sExp, dVar, dC, dOp, dCall, dCons, dNil, dTup, dLst, bOr, bNot, bAnd, bYes, dB, dTru, dOrT, dAndT, dNotT, dIf, dChain, view, frz, view1, frz1, startD, List.map_cons, List.map_nil, List.map_append, List.cons_append, List.nil_append, List.length_cons, List.length_nil, List.replicate, List.getElem?_cons_zero, List.getElem?_cons_succ, Option.some.injEq, exists_eq_left', exists_eq_left, gNm, geNm, iTx, iSq, iRg, dLc, List.set_cons_zero, List.set_cons_succ, wipeE, dSl, oNone, oSome, D.int.injEq, D.str.injEq, dJoin, dDnew, dDisp, dPairs])
section
variable {P : Program} {w : World} {K : PySem.W.Frag} {mg : Str → Option Value} {base : Heap}
theorem law_fn {f : Addr} {fd : FuncData} (FF : Fun K "law" "law" s_law f fd) (T : Txt K mg) (C_law_state : Cal P w K mg base "_law_state" 1 ["script"] fState) (C_law_any_value : Cal P w K mg base "_law_any_value" 3 ["draws"] fAnyV)
    (C_is_name : Cal P w K mg base "is_name" 1 ["thing"] fIsName) (K_is_name : CalK P w K mg base "is_name" 1 ["thing"] ["thing"] (fun a b => a ++ b) fIsName) (C_law_is_name : Cal P w K mg base "_law_is_name" 1 ["value"] fIsName) :
    FnG P w K mg base CX0 4 f fd ["script"] (spLaw K) := by
  refine law_of FF sc_law (by decide) fun f cdv A fr s H E hgd hr => ?_
  refine ⟨_, _, _, rfl, ds1 (i := 1) ⟨sc_law.nd, rfl, by first | exact .inl rfl | exact .inr rfl, .inl rfl⟩ (de_cal C_law_state hgd hr (by decide) rfl (da_cons (de_of (pv 0)) da_nil)), fun ns R hl h => ?_, fun da ca => ⟨_, (dss_cons (ds_for PassesOwn.never rfl (di_rng rfl T.m_range (da_cons (de_op od_add op_addD de_int (de_blt cd_min (call_min2 rfl) rfl T.m_min boot_min (da_cons (de_blt cd_len call_lenAll rfl T.m_len boot_len (da_cons (de_of (pv 0)) da_nil)) (da_cons de_int da_nil)))) da_nil)) (dg_name (i := 2) ⟨sc_law.nd, rfl, by first | exact .inl rfl | exact .inr rfl, .inl rfl⟩) (dss_cons (ds_set (i := 3) ⟨sc_law.nd, rfl, by first | exact .inl rfl | exact .inr rfl, .inl rfl⟩ (de_cal C_law_any_value hgd hr (by decide) rfl (da_cons (de_of (pv 1)) da_nil)))
      (dss_cons (ds_par (i := 4) (j := 5) ⟨sc_law.nd, rfl, by first | exact .inl rfl | exact .inr rfl, .inl rfl⟩ ⟨sc_law.nd, rfl, by first | exact .inl rfl | exact .inr rfl, .inl rfl⟩ (by decide) rfl rfl rfl (da_cons (de_blt cd_repr (call_reprD hgd hr.units) rfl T.m_repr boot_repr (da_cons (de_of (pv 3)) da_nil)) (da_cons (de_cal C_law_is_name hgd hr (by decide) rfl (da_cons (de_of (pv 3)) da_nil)) da_nil)))
      (dss_one (ds_if (dt_w (dw_or (dt_cmp od_ne (op_neb hr.units) (nomark _) (de_blt cd_repr (call_reprD hgd hr.units) rfl T.m_repr boot_repr (da_cons (de_lst (da_cons (de_cal C_is_name hgd hr (by decide) rfl (da_cons (de_of (pv 3)) da_nil)) (da_cons (de_calK0 K_is_name hgd hr (by decide) rfl (dk_cons (de_of (pv 3)) dk_nil)) da_nil))) da_nil)) (de_blt cd_repr (call_reprD hgd hr.units) rfl T.m_repr boot_repr (da_cons (de_lst (da_cons (de_of (pv 5)) (da_cons (de_of (pv 5)) da_nil))) da_nil))) (dw_or1 (dt_cmp od_ne (op_neb hr.units) (nomark _) (de_blt cd_repr (call_reprD hgd hr.units) rfl T.m_repr boot_repr (da_cons (de_of (pv 3)) da_nil)) (de_of (pv 4)))))) (dss_one (ds_ret de_bl)) dss_nil)))))
      (dss_one (ds_ret de_bl))), fun ns hl => ?_⟩⟩
  · walk_at "vc"
    exact ⟨ns, rfl, h⟩
  · walk_at "vc"
    refine ⟨ns.length, rfl, ?_⟩
    generalize hm : (if (40 : Int) < (ns.length : Int) then (40 : Int) else (ns.length : Int)) = m
    have hm2 : 0 ≤ m ∧ m ≤ 63 := by rw [← hm]; split <;> omega
    simp only [fMin, fAdd, hm]
    refine ⟨20 + m, rfl, by omega, by omega, ?_⟩
    refine ⟨fun _ ρ => ∃ a b c d, ρ = [.dat (.scr ns), .dat (.op (.ref da)), a, b, c, d], ⟨_, _, _, _, rfl⟩, fun i d ρ' hd hI => ?_, fun _ _ => trivial⟩
    obtain ⟨a, b, c, e, rfl⟩ := hI
    walk_at "vc"
    refine ⟨da, ca, rfl, rfl, fun v hv => ?_⟩
    have hv1 : fIsName (drw da ca) [v] = fun P => ∃ d, [v] = [d] ∧ okV d ∧ P (.bl (nameD d)) := rfl
    refine ⟨hv.rp, hv.dp, hv.sz, ?_⟩
    refine ⟨v, rfl, hv.ok, _, _, rfl, ?_⟩
    have rb : ∀ b : Bool, reprOk (.lst [.bl b, .bl b]) = true ∧ (toP (.lst [.bl b, .bl b])).depth ≤ 60 ∧ (showD (.lst [.bl b, .bl b])).length ≤ 100000 := fun b => by
      cases b <;> exact ⟨by decide +kernel, by decide +kernel, by decide +kernel⟩
    obtain ⟨r1, r2, r3⟩ := rb (nameD v)
    have same : ∀ x : Str, (true != decide (x = x)) = false := fun x => by rw [decide_eq_true rfl]; rfl
    refine ⟨v, rfl, hv.ok, v, rfl, hv.ok, by decide, r1, r2, r3, by decide, r1, r2, r3, _, rfl, ?_⟩
    rw [same, if_neg Bool.false_ne_true]
    refine ⟨hv.rp, hv.dp, hv.sz, _, rfl, ?_⟩
    rw [same, if_neg Bool.false_ne_true]
    exact ⟨_, _, _, _, rfl⟩
end
/-! ### what the top has written -/
theorem all_mk {l : PySem.W.OpenLaw} {w : World} {K : PySem.W.Frag} {h : Heap} {mg : Str → Option Value} {fa : Addr} {f1 f2 f3 f4 f5 f6 f7 : Addr} (X : K.In h) (G : h.Ns mainGlobals mg) (hfa : mg "law" = some (.ref fa))
    {od1 an1 od2 an2 od3 an3 od4 an4 od5 an5 od6 an6 od7 an7 : Option Addr} {sl1 sl2 sl3 sl4 sl5 sl6 sl7 : Array (Option Value)} {oc1 kV1 dc1 pm1 cd1 ct1 oc2 kV2 dc2 pm2 cd2 ct2 oc3 kV3 dc3 pm3 cd3 ct3 oc4 kV4 dc4 pm4 cd4 ct4 oc5 kV5 dc5 pm5 cd5 ct5 oc6 kV6 dc6 pm6 cd6 ct6 oc7 kV7 dc7 pm7 cd7 ct7 : Value} {tL tN : Tok}
    (a1 : PySem.W.nsIn K mainGlobals "is_name" = some (some (.ref f1))) (l1 : K.lookup f1 = some ⟨oc1, od1, .func (PySem.W.fnOf "is_name" "is_name" (defArgs s_is_name) (defBody s_is_name) (defScope s_is_name) .none kV1 dc1 pm1 an1 cd1 ct1), sl1⟩) (c1 : PySem.W.codeIn K cd1 "is_name" = true) (k1 : PySem.W.keepIn K (.ref f1) = true)
    (a2 : PySem.W.nsIn K mainGlobals "_law_state" = some (some (.ref f2))) (l2 : K.lookup f2 = some ⟨oc2, od2, .func (PySem.W.fnOf "_law_state" "_law_state" (defArgs s_law_state) (defBody s_law_state) (defScope s_law_state) .none kV2 dc2 pm2 an2 cd2 ct2), sl2⟩) (c2 : PySem.W.codeIn K cd2 "_law_state" = true) (k2 : PySem.W.keepIn K (.ref f2) = true)
    (a3 : PySem.W.nsIn K mainGlobals "_law_draw" = some (some (.ref f3))) (l3 : K.lookup f3 = some ⟨oc3, od3, .func (PySem.W.fnOf "_law_draw" "_law_draw" (defArgs sDraw) (defBody sDraw) (defScope sDraw) .none kV3 dc3 pm3 an3 cd3 ct3), sl3⟩) (c3 : PySem.W.codeIn K cd3 "_law_draw" = true) (k3 : PySem.W.keepIn K (.ref f3) = true)
    (a4 : PySem.W.nsIn K mainGlobals "_law_pick" = some (some (.ref f4))) (l4 : K.lookup f4 = some ⟨oc4, od4, .func (PySem.W.fnOf "_law_pick" "_law_pick" (defArgs s_law_pick) (defBody s_law_pick) (defScope s_law_pick) .none kV4 dc4 pm4 an4 cd4 ct4), sl4⟩) (c4 : PySem.W.codeIn K cd4 "_law_pick" = true) (k4 : PySem.W.keepIn K (.ref f4) = true)
    (a5 : PySem.W.nsIn K mainGlobals "_law_is_name" = some (some (.ref f5))) (l5 : K.lookup f5 = some ⟨oc5, od5, .func (PySem.W.fnOf "_law_is_name" "_law_is_name" (defArgs s_law_is_name) (defBody s_law_is_name) (defScope s_law_is_name) .none kV5 dc5 pm5 an5 cd5 ct5), sl5⟩) (c5 : PySem.W.codeIn K cd5 "_law_is_name" = true) (k5 : PySem.W.keepIn K (.ref f5) = true)
    (a6 : PySem.W.nsIn K mainGlobals "_law_any_value" = some (some (.ref f6))) (l6 : K.lookup f6 = some ⟨oc6, od6, .func (PySem.W.fnOf "_law_any_value" "_law_any_value" (defArgs s_law_any_value) (defBody s_law_any_value) (defScope s_law_any_value) .none kV6 dc6 pm6 an6 cd6 ct6), sl6⟩) (c6 : PySem.W.codeIn K cd6 "_law_any_value" = true) (k6 : PySem.W.keepIn K (.ref f6) = true)
    (a7 : PySem.W.nsIn K mainGlobals "law" = some (some (.ref f7))) (l7 : K.lookup f7 = some ⟨oc7, od7, .func (PySem.W.fnOf "law" "law" (defArgs s_law) (defBody s_law) (defScope s_law) .none kV7 dc7 pm7 an7 cd7 ct7), sl7⟩) (c7 : PySem.W.codeIn K cd7 "law" = true) (k7 : PySem.W.keepIn K (.ref f7) = true)
    (z1 : PySem.W.nsIn K mainGlobals "len" = some none) (z2 : PySem.W.nsIn K mainGlobals "isinstance" = some none) (z3 : PySem.W.nsIn K mainGlobals "str" = some none) (z4 : PySem.W.nsIn K mainGlobals "all" = some none) (z5 : PySem.W.nsIn K mainGlobals "abs" = some none) (z6 : PySem.W.nsIn K mainGlobals "int" = some none)
    (z7 : PySem.W.nsIn K mainGlobals "range" = some none) (z8 : PySem.W.nsIn K mainGlobals "min" = some none) (z9 : PySem.W.nsIn K mainGlobals "repr" = some none)
    (v1 : PySem.W.nsIn K mainGlobals "LETTERS" = some (some (.str c_LETTERS tL))) (v2 : PySem.W.nsIn K mainGlobals "LONGEST_NAME" = some (some (.int 6 tN))) :
    ∃ fd : FuncData, (∀ (s : Shared) (v : Value), BindsTo s fd ⟨[v], []⟩ [("script", v)]) ∧ ∀ base : Heap, K.In base → base.Ns mainGlobals mg → FnG l.prog w K mg base CX0 4 fa fd ["script"] (spLaw K) := by
  have e := hfa.symm.trans (PySem.W.mg_of X G a7)
  cases e
  have n0 : ∀ {x : Str}, PySem.W.nsIn K mainGlobals x = some none → mg x = none := fun h => PySem.W.mg_none_of X G h
  have T : Txt K mg := ⟨n0 z1, n0 z2, n0 z3, n0 z4, n0 z5, n0 z6, n0 z7, n0 z8, n0 z9, ⟨_, PySem.W.mg_of X G v1⟩, ⟨_, PySem.W.mg_of X G v2⟩⟩
  have F1 := fun_mk (st := s_is_name) l1 c1 k1
  have F2 := fun_mk (st := s_law_state) l2 c2 k2
  have F3 := fun_mk (st := sDraw) l3 c3 k3
  have F4 := fun_mk (st := s_law_pick) l4 c4 k4
  have F5 := fun_mk (st := s_law_is_name) l5 c5 k5
  have F6 := fun_mk (st := s_law_any_value) l6 c6 k6
  have F7 := fun_mk (st := s_law) l7 c7 k7
  have D1 : Dfn K mg "is_name" s_is_name ["thing"] := ⟨f1, _, F1, PySem.W.mg_of X G a1, F1.binds (ps := ["thing"]) fun _ _ _ _ _ _ us hl => match us, hl with | [_], _ => rfl⟩
  have D2 : Dfn K mg "_law_state" s_law_state ["script"] := ⟨f2, _, F2, PySem.W.mg_of X G a2, F2.binds (ps := ["script"]) fun _ _ _ _ _ _ us hl => match us, hl with | [_], _ => rfl⟩
  have D3 : Dfn K mg "_law_draw" sDraw ["draws", "many"] := ⟨f3, _, F3, PySem.W.mg_of X G a3, F3.binds (ps := ["draws", "many"]) fun _ _ _ _ _ _ us hl => match us, hl with | [_, _], _ => rfl⟩
  have D4 : Dfn K mg "_law_pick" s_law_pick ["draws", "some"] := ⟨f4, _, F4, PySem.W.mg_of X G a4, F4.binds (ps := ["draws", "some"]) fun _ _ _ _ _ _ us hl => match us, hl with | [_, _], _ => rfl⟩
  have D5 : Dfn K mg "_law_is_name" s_law_is_name ["value"] := ⟨f5, _, F5, PySem.W.mg_of X G a5, F5.binds (ps := ["value"]) fun _ _ _ _ _ _ us hl => match us, hl with | [_], _ => rfl⟩
  have D6 : Dfn K mg "_law_any_value" s_law_any_value ["draws"] := ⟨f6, _, F6, PySem.W.mg_of X G a6, F6.binds (ps := ["draws"]) fun _ _ _ _ _ _ us hl => match us, hl with | [_], _ => rfl⟩
  refine ⟨PySem.W.fnOf "law" "law" (defArgs s_law) (defBody s_law) (defScope s_law) .none kV7 dc7 pm7 an7 cd7 ct7, fun s v => .of_eq rfl, fun base _ _ => ?_⟩
  have c0 : Cal0 l.prog w K mg base "is_name" s_is_name 1 ["thing"] fIsName := cal0_is_name T D1
  have cd : Cal l.prog w K mg base "_law_draw" 1 ["draws", "many"] fDraw := draw_cal D3 T.m_int T.m_len
  have cp := cal_law_pick T cd D4
  exact law_fn F7 T (cal_law_state T D2) (cal_law_any_value T cd cp D6) c0.cal (c0.calK ["thing"] fun _ _ _ _ _ _ us ws hl => match us, ws, hl with | [_], [], _ => rfl | [], [_], _ => rfl) (cal_law_is_name T D5)
end K2
open PySem PySem.W PyProof.Rows
set_option maxRecDepth 100000 in
set_option maxHeartbeats 0 in
theorem PySem.Challenge.cw_halfbuilt_k02_names_judged_holds : PySem.Challenge.rw_halfbuilt_k02_names_judged.Holds := by
  w_on; o_law; k_head; (case hw => w_witness2)
  k_fill
  refine L3.walk_law (l := PySem.Challenge.rw_halfbuilt_k02_names_judged) (k := 4) (x := "script") rfl rfl ⟨rfl, by decide, by decide⟩ (fun w h Y => PySem.W.kIn_of Y) ?F
  case F =>
    intro w mg fa h KX G hmg
    refine' K2.all_mk KX G hmg ?a1 ?l1 ?c1 ?k1 ?a2 ?l2 ?c2 ?k2 ?a3 ?l3 ?c3 ?k3 ?a4 ?l4 ?c4 ?k4 ?a5 ?l5 ?c5 ?k5 ?a6 ?l6 ?c6 ?k6 ?a7 ?l7 ?c7 ?k7 ?z1 ?z2 ?z3 ?z4 ?z5 ?z6 ?z7 ?z8 ?z9 ?v1 ?v2
    (case a1 => k_is); (case l1 => k_is); (case c1 => k_is); (case k1 => k_is); (case a2 => k_is); (case l2 => k_is); (case c2 => k_is); (case k2 => k_is)
    (case a3 => k_is); (case l3 => k_is); (case c3 => k_is); (case k3 => k_is); (case a4 => k_is); (case l4 => k_is); (case c4 => k_is); (case k4 => k_is)
    (case a5 => k_is); (case l5 => k_is); (case c5 => k_is); (case k5 => k_is); (case a6 => k_is); (case l6 => k_is); (case c6 => k_is); (case k6 => k_is)
    (case a7 => k_is); (case l7 => k_is); (case c7 => k_is); (case k7 => k_is)
    (case z1 => k_is); (case z2 => k_is); (case z3 => k_is); (case z4 => k_is); (case z5 => k_is); (case z6 => k_is); (case z7 => k_is); (case z8 => k_is); (case z9 => k_is); (case v1 => k_is); (case v2 => k_is)
