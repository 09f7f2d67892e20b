import PyProof.Rows.All
import Wide.All
import OpenK.AllK
import Wide.FinOn
import HandS.ForMost
import HandS.Wide
import HandS.ForExc
import HandS.Deep
import HandS.Evl
import HandS.Walk
import HandS.Codes
import HandS.Zip
import HandS.Property
import HandS.Defaults
import HandS.TupAny
import HandS.More
import HandS.Lambda
import HandS.SortKw
import KE.SortKeyHeap
import HandS.DictComp
import PySem.Challenge.RW_farreads_k32_errors_of_shifts
import HandS.DeepEq
import HandS.OwnEq
import KE.GoesEnum
import KE.KDictOf
import KE.KEqDict
import HandS.EndTab
import PyProof.ReprRoads
import HandS.RaiseMore
import PyProof.ReprLen
import HandS.ExcInit
import HandS.IsInst
import KE.KExcIs
import HandS.Exc
import HandS.ExcOwn
import HandS.ExcField
import HandS.ExcIs
import HandS.Text
import PyProof.Rows.CountFlat
import HandS.Conv
set_option Elab.async false
set_option linter.all false
set_option maxRecDepth 100000
set_option maxHeartbeats 8000000
namespace Fr
open PySem PySem.Spec PyProof.Rows L2
section
variable {K : PySem.W.Frag} {H H' : Hp}
theorem sqt (e : Same H H') {a : Addr} {xs : List V} (h : SqT K H a xs) : SqT K H' a xs := Evl.ex_t e h
theorem sql (e : Same H H') {a : Addr} {xs : List V} (h : SqL K H a xs) : SqL K H' a xs := Evl.ex_l e h
/-- lists, tuples, locked things -/
def dat : HO → Bool
  | .lst _ => true
  | .tup _ => true
  | .frz _ _ => true
  | _ => false
/-- what data is made of stays -/
def SD (H H' : Hp) : Prop := ∀ b o, H b = some o → dat o = true → H' b = some o
theorem SD.of (e : Same H H') : SD H H' := fun b o h _ => e b o h
theorem SD.tr {H'' : Hp} (a : SD H H') (b : SD H' H'') : SD H H'' := fun c o h d => b c o (a c o h d) d
theorem SD.upd {s : Addr} {u o : HO} (e : SD H H') (h : H' s = some u) (n : dat u = false) : SD H (upd H' s o) := fun b x q d => by
  have z := e b x q d
  have ne : b ≠ s := fun y => by
    rw [y, h] at z
    cases z
    rw [n] at d
    cases d
  rw [upd_ne ne]
  exact z
theorem sqtd (e : SD H H') {a : Addr} {xs : List V} (h : SqT K H a xs) : SqT K H' a xs := by
  rcases h with (h | ⟨o, h⟩) | h
  · exact .inl (.inl (e _ _ h rfl))
  · exact .inl (.inr ⟨o, e _ _ h rfl⟩)
  · exact .inr h
theorem sqld (e : SD H H') {a : Addr} {xs : List V} (h : SqL K H a xs) : SqL K H' a xs := by
  rcases h with (h | ⟨o, h⟩) | h
  · exact .inl (.inl (e _ _ h rfl))
  · exact .inl (.inr ⟨o, e _ _ h rfl⟩)
  · exact .inr h
mutual
theorem dpd (e : SD H H') : ∀ (d : PyData) (v : V), Dp K H v d → Dp K H' v d
  | .none, _, h => by cases h; exact .non
  | .bool b, _, h => by cases h; exact .bl b
  | .int i, _, h => by cases h; exact .int i
  | .str x, _, h => by cases h; exact .str x
  | .list ds, _, h => by
    cases h with
    | lst hs ha => exact .lst (sqld e hs) (dpsd e ds _ ha)
  | .tuple ds, _, h => by
    cases h with
    | tup hs ha => exact .tup (sqtd e hs) (dpsd e ds _ ha)
  | .dict _, _, h => by cases h
theorem dpsd (e : SD H H') : ∀ (ds : List PyData) (vs : List V), DpAll K H vs ds → DpAll K H' vs ds
  | [], _, h => by cases h; exact .nil
  | d :: ds, _, h => by
    cases h with
    | cons h1 h2 => exact .cons (dpd e d _ h1) (dpsd e ds _ h2)
end
theorem dpm (e : Same H H') (d : PyData) (v : V) (h : Dp K H v d) : Dp K H' v d := dpd (.of e) d v h
theorem dpsm (e : Same H H') (ds : List PyData) (vs : List V) (h : DpAll K H vs ds) : DpAll K H' vs ds := dpsd (.of e) ds vs h
theorem dps_len : ∀ {ds : List PyData} {vs : List V}, DpAll K H vs ds → vs.length = ds.length
  | [], _, h => by cases h; rfl
  | d :: ds, _, h => by
    cases h with
    | cons h1 h2 => exact congrArg Nat.succ (dps_len h2)
theorem dps_get : ∀ {ds : List PyData} {vs : List V} {i : Nat} {v : V}, DpAll K H vs ds → vs[i]? = some v → ∃ d, ds[i]? = some d ∧ Dp K H v d
  | [], _, _, _, h, e => by cases h; cases e
  | d :: ds, _, 0, v, h, e => by
    cases h with
    | cons h1 h2 => cases e; exact ⟨d, rfl, h1⟩
  | d :: ds, _, i + 1, v, h, e => by
    cases h with
    | cons h1 h2 => exact dps_get (i := i) h2 (by simpa using e)
theorem dps_get' : ∀ {ds : List PyData} {vs : List V} {i : Nat} {d : PyData}, DpAll K H vs ds → ds[i]? = some d → ∃ v, vs[i]? = some v ∧ Dp K H v d
  | [], _, _, _, h, e => by cases e
  | d :: ds, _, 0, v, h, e => by
    cases h with
    | cons h1 h2 => cases e; exact ⟨_, rfl, h1⟩
  | d :: ds, _, i + 1, v, h, e => by
    cases h with
    | cons h1 h2 => simpa using dps_get' (i := i) h2 (by simpa using e)
theorem dps_app : ∀ {ds es : List PyData} {vs us : List V}, DpAll K H vs ds → DpAll K H us es → DpAll K H (vs ++ us) (ds ++ es)
  | [], _, _, _, h, k => by cases h; exact k
  | d :: ds, _, _, _, h, k => by
    cases h with
    | cons h1 h2 => exact .cons h1 (dps_app h2 k)
theorem dps_one {v : V} {d : PyData} (h : Dp K H v d) : DpAll K H [v] [d] := .cons h .nil
theorem dps_snoc {ds : List PyData} {vs : List V} {v : V} {d : PyData} (h : DpAll K H vs ds) (k : Dp K H v d) : DpAll K H (vs ++ [v]) (ds ++ [d]) := dps_app h (dps_one k)
/-- a new object leaves what stands -/
theorem snew {p : Addr} {o : HO} (h : H p = none) : Same H (upd H p o) := fun b x e => by
  rw [upd_ne (ne_of_none e h)]
  exact e
theorem smut {p : Addr} {o : HO} (e : Same H H') (h : H p = none) : Same H (upd H' p o) := fun b x q => by
  rw [upd_ne (ne_of_none q h)]
  exact e b x q
theorem dint {v : V} {i : Int} (h : Dp K H v (.int i)) : v = .int i := by cases h; rfl
theorem dstr {v : V} {x : Str} (h : Dp K H v (.str x)) : v = .str x := by cases h; rfl
theorem dtup {v : V} {ds : List PyData} (h : Dp K H v (.tuple ds)) : ∃ a xs, v = .ref a ∧ SqT K H a xs ∧ DpAll K H xs ds := by
  cases h with
  | tup hs ha => exact ⟨_, _, rfl, hs, ha⟩
theorem dlst {v : V} {ds : List PyData} (h : Dp K H v (.list ds)) : ∃ a xs, v = .ref a ∧ SqL K H a xs ∧ DpAll K H xs ds := by
  cases h with
  | lst hs ha => exact ⟨_, _, rfl, hs, ha⟩
theorem dps_ints : ∀ {ns : List Int} {vs : List V}, DpAll K H vs (ns.map PyData.int) → vs = ns.map V.int
  | [], _, h => by cases h; rfl
  | n :: ns, _, h => by
    cases h with
    | cons h1 h2 => cases h1; rw [dps_ints h2]; rfl
theorem dps3 {a b c : PyData} {vs : List V} (h : DpAll K H vs [a, b, c]) : ∃ x y z, vs = [x, y, z] ∧ Dp K H x a ∧ Dp K H y b ∧ Dp K H z c := by
  cases h with
  | cons h1 h =>
    cases h with
    | cons h2 h =>
      cases h with
      | cons h3 h =>
        cases h
        exact ⟨_, _, _, rfl, h1, h2, h3⟩
theorem dps2 {a b : PyData} {vs : List V} (h : DpAll K H vs [a, b]) : ∃ x y, vs = [x, y] ∧ Dp K H x a ∧ Dp K H y b := by
  cases h with
  | cons h1 h =>
    cases h with
    | cons h2 h =>
      cases h
      exact ⟨_, _, rfl, h1, h2⟩
theorem ints_dps : ∀ (ns : List Int), DpAll K H (ns.map V.int) (ns.map PyData.int)
  | [] => .nil
  | n :: ns => .cons (.int n) (ints_dps ns)
end
/-- ** with a base of any size within the line -/
def CPowW (i j : Int) : Prop := 0 ≤ j ∧ j ≤ 3 ∧ i.natAbs < 2 ^ 1000000
section
variable {X : Cx}
theorem op_powW : OpR X (binaryOp .Pow) (rI CPowW fun i j => .int (i ^ j.toNat)) := opI fun i j _ _ _ _ _ hc q => by
  obtain ⟨h0, h3, hb⟩ := hc
  refine pow_int h0 ?_ q
  have b : Builtin.Int.intBits i ≤ i.natAbs.log2 + 1 := by
    unfold Builtin.Int.intBits
    split <;> omega
  have l : i.natAbs.log2 < 1000000 := PySem.Flt.log2_lt_of (by decide) hb
  have c : (Builtin.Int.intBits i : Int) ≤ 1000000 := by omega
  have c0 : (0 : Int) ≤ (Builtin.Int.intBits i : Int) := Int.natCast_nonneg _
  calc (Builtin.Int.intBits i : Int) * j ≤ 1000000 * 3 := Int.mul_le_mul c h3 h0 (by decide)
    _ ≤ 2 ^ 27 := by decide
end
end Fr

namespace Fr
open PySem PySem.Spec PyProof.Rows L2
theorem same_refl {H : Hp} : Same H H := fun _ _ h => h
theorem same_tr {A B C : Hp} (a : Same A B) (b : Same B C) : Same A C := fun x o h => b x o (a x o h)
theorem yat_same {xs : List V} {i : Nat} {H : Hp} {x : V} {H' : Hp} (y : YAt xs i H x H') : Same H H' := by
  obtain ⟨rfl, _⟩ := y
  exact same_refl
theorem ypair_same {xs ys : Nat → Option V} {i : Nat} {H : Hp} {x : V} {H' : Hp} (y : YPair xs ys i H x H') : Same H H' := by
  obtain ⟨T, _, _, _, n, rfl, _⟩ := y
  exact snew n
theorem free_of {H H' : Hp} {p : Addr} (e : Same H H') (h : H' p = none) : H p = none := Same.free e h
theorem get_range {n i : Nat} (h : i < n) : (List.range n)[i]? = some i := by simp [h]
/-- a comprehension whose elements are told by the turn -/
theorem lc_flat {J : It} {n : Nat} {G : Hp → Prop} {Y : Nat → Hp → V → Hp → Prop} (w : Walk J n G Y) {g : TG} {te : TE} {vs : List Nat} {σ : L2.St} {H1 : Hp} {D : Addr} {Qd : Hp → Prop} (f : Nat → V) (hn : n ≤ 1000000) (hD : H1 D = none) (hG : ∀ H, Same H1 H → G H)
    (hY : ∀ i H x H', Y i H x H' → Same H H')
    (hs : ∀ i x H H', i < n → Same H1 H → Y i H x H' → ∀ R : V → Hp → Prop, (∀ H4, Same H' H4 → R (f i) H4) → g x (wipe σ vs) H' fun σ2 H2 => wipe σ2 vs = wipe σ vs ∧ te σ2 H2 R)
    (hd : ∀ H, Same H1 H → H D = some (.lst ((List.range n).map f)) → Qd H) :
    ∃ W : Nat → Nat → Hp → Prop, (∃ m, W 0 m (upd H1 D (.lst []))) ∧ ∀ i m H, W i m H →
      (J.stop i H ∧ Qd H) ∨ (J.go i H ∧ ∃ Nx : Hp → Prop, (∀ H', Nx H' → ∃ m', m' < m ∧ W (i + 1) m' H') ∧ ∀ x H', J.yld i H x H' → g x (wipe σ vs) H' fun σ2 H2 => wipe σ2 vs = wipe σ vs ∧ tYes σ2 H2 fun b H3 =>
        if b = true then te σ2 H3 fun y H4 => ∃ acc, H4 D = some (.lst acc) ∧ acc.length < sizeLine ∧ Nx (upd H4 D (.lst (acc ++ [y]))) else Nx H3) := by
  refine lc_it w (fun i H => Same H1 H ∧ H D = some (.lst ((List.range i).map f))) ⟨snew hD, upd_same⟩ (fun i H _ p => hG H p.1) (fun i x H H' hi p y => ?_) fun H p => hd H p.1 p.2
  have sm := hY i H x H' y
  refine hs i x H H' hi p.1 y _ fun H4 s4 => ⟨_, s4 _ _ (sm _ _ p.2), ?_, ?_, ?_⟩
  · rw [List.length_map, List.length_range]
    exact Nat.lt_of_lt_of_le (by omega : i < 1000001) (by rw [sizeLine_eq]; decide)
  · exact smut (same_tr p.1 (same_tr sm s4)) hD
  · rw [upd_same, List.range_succ, List.map_append]
    rfl
/-- a property that may be read by its name -/
structure Prp (P : Program) (w : World) (K : PySem.W.Frag) (mg : Str → Option Value) (base : Heap) (k : Nat) (C : Addr) (f : Str) (sp : Sp) : Prop where
  ex : ∃ (p g : Addr) (fd : FuncData) (ps : List Str), Cls K C ∧ PropOf K C f p g ∧ FnOk P w K mg base CX0 k g fd ps sp ∧ Binds K fd ps []
section
variable {X : Cx}
theorem pe_pr {k j : Nat} {C : Addr} {f : Str} {sp : Sp} {e : Expr} {pos : Pos} {ta : TE} (he : PE X e ta) (c : Prp X.prog X.w X.K X.mg X.base k C f sp) (hr : Room j X.A) (hk : k + 1 ≤ j) (hab : attributeBase e f X.env (eval e X.env) = eval e X.env) :
    PE X (.Attribute e f pos) (tProp C sp [] E0 ta) := by
  obtain ⟨p, g, fd, ps, hc, hp, F, hb⟩ := c.ex
  exact pe_prop he hc hp F (hr.mono hk) hb .nil pass0 hab
theorem _root_.L2.Room.units1 {k : Nat} {A : Around} (r : Room k A) : A.units + 65 < cLine := by
  have := r.un
  omega
end
def rTupS (K : PySem.W.Frag) : List V → Hp → VK → Prop := fun xs H Q => ∃ p ys, xs = [.ref p] ∧ ((SqL K H p ys ∧ ∀ l, H l = none → Q (.ref l) (upd H l (.tup ys))) ∨ (SqT K H p ys ∧ Q (.ref p) H))
end Fr

namespace Fr
open PySem PySem.Spec PyProof.Rows L2
theorem vals_each1 {α : Type} : ∀ {bs : List (V × α)} {us : List Value}, Vals (bs.map Prod.fst) us → PySem.W.EachIs (fun (v : Value) (x : V × α) => RelV x.1 v) us bs
  | [], _, h => by cases h; exact .nil
  | b :: bs, _, h => by
    cases h with
    | cons h t => exact .cons h (vals_each1 t)
theorem each_vals1 {α : Type} : ∀ {bs : List (V × α)} {us : List Value}, PySem.W.EachIs (fun (v : Value) (x : V × α) => RelV x.1 v) us bs → Vals (bs.map Prod.fst) us
  | [], _, h => by cases h; exact .nil
  | b :: bs, _, h => by
    cases h with
    | cons h t => exact .cons h (each_vals1 t)
/-- one parameter, nothing captured -/
structure LamP (a : Str) (scope : Scope) : Prop where
  kind : scope.kind = .function
  co : scope.isCoroutine = false
  gen : scope.isGenerator = false
  loc : scope.names.lookup a = some .local
  noc : ∀ y ∈ scope.names, y.2 ≠ .cell
  nof : ∀ y ∈ scope.names, y.2 ≠ .free
section
variable {prog : Program} {w : World} {A : Around} {E : Value → Shared → Prop} {s : Shared}
theorem lam_key0 {a q : Str} {f c' t : Addr} {pm ctv : Value} {params : Arguments} {scope : Scope} {cl : List (Str × Addr)} {p1 p2 p3 : Pos} {kk : Nat} {x : Str} {u : Tok} {items : List Value} (L : LamP a scope) (ha : (a == ("__debug__" : Str)) = false)
    (ho : s.heap.get? f = some (PySem.W.kla_obj "<lambda>" q params (.Subscript (.Name a p1) (.Constant (.int 0) kk p2) p3) scope cl pm c' ctv)) (hcr : s.heap.CodeRec (.ref c') q) (hroom : A.depth < recursionLimit) (hlim : s.heap.NoLimit)
    (hbind : ∀ v, bindArgs (PySem.W.kla_fn "<lambda>" q params (.Subscript (.Name a p1) (.Constant (.int 0) kk p2) p3) scope cl pm (.ref c') ctv) ⟨[v], []⟩ = pure [(a, v)]) (ht : IsTup s.heap t (Value.str x u :: items).toArray) :
    wpAny (model prog w) A (call (.ref f) [.ref t]) (PySem.W.KeyPure (.str x) s) E s := by
  refine wpAny_call (PySem.W.kla_callFunE hroom ho rfl L.co L.gen rfl hcr ?_)
  rw [hbind]
  refine wpAny_pure (wpAny_newFunctionEnv (fun y hy => L.noc y hy) (fun y hy => ?_) (fun h₁ hns hsb => ⟨hlim.fresh _ hsb, ?_⟩) L.kind)
  · have e : y = (a, Value.ref t) := by simpa using hy
    rw [e]
    exact L.loc
  · have kp : ∀ b o, s.heap.get? b = some o → h₁.get? b = some o := fun b o e => hsb.extBut b o (Nat.ne_of_lt (Heap.lt_size e)) (Heap.get?_push_of_some _ e)
    refine PySem.W.kla_codeExpr (Subscript_ (wpAny_Name (wpAny_loadName_local (v := .ref t) L.kind L.loc hns ?_ ?_) ha))
    · show List.lookup a ([(a, Value.ref t)] : List (Str × Value)) = _
      simp [List.lookup]
    · refine wpAny_Constant_int ?_
      refine item_tupleL (j := 0) (x := .str x u) (l := Value.str x u :: items) ?_ (by decide) (by decide) ?_ rfl ?_
      · obtain ⟨o, h1, h2, n, h3⟩ := ht
        exact ⟨o, kp _ _ h1, h2, n, h3⟩
      · show (if (decide ((0 : Int) ≤ (if (0 : Int) < 0 then 0 + ((Value.str x u :: items).length : Int) else 0)) && decide ((if (0 : Int) < 0 then 0 + ((Value.str x u :: items).length : Int) else 0) < ((Value.str x u :: items).length : Int))) = true then some (if (0 : Int) < 0 then 0 + ((Value.str x u :: items).length : Int) else 0).toNat else none) = some 0
        rw [if_neg (by decide : ¬ (0 : Int) < 0)]
        have h : (0 : Int) < ((Value.str x u :: items).length : Int) := by
          rw [List.length_cons]
          omega
        rw [decide_eq_true (Int.le_refl 0), decide_eq_true h]
        rfl
      · exact ⟨h₁, _, rfl, kp, PySem.Reads.str x u⟩
end
/-- by the first text, from the least on -/
def leK {β : Type} (k : β → Str) : β → β → Bool := fun a b => decide ((k a).cps.toList ≤ (k b).cps.toList)
def oneV (R : VK) : List V → Hp → Prop
  | [v], H => R v H
  | _, _ => False
theorem oneV_of {R : VK} {vs : List V} {H : Hp} (h : oneV R vs H) : ∃ v, vs = [v] ∧ R v H := by
  match vs, h with
  | [v], h => exact ⟨v, rfl, h⟩
def tSortKey {α : Type} (kf : α → Str) (K : PySem.W.Frag) (T : List (Addr × Str)) (te : TE) : TE := fun σ H Q => te σ H fun v H1 => ∃ (a : Addr) (bs : List (V × α)), v = .ref a ∧ SqL K H1 a (bs.map Prod.fst) ∧ LamX.Tabs T H1 ∧
  (∀ y ∈ bs, ∃ t zs, y.1 = .ref t ∧ SqT K H1 t (.str (kf y.2) :: zs)) ∧ ∀ H2, LamX.ExtN H1 H2 → LamX.Tabs T H2 → ∀ p, H2 p = none → Q (.ref p) (upd H2 p (.lst ((bs.mergeSort (leK fun y => kf y.2)).map Prod.fst)))
theorem same_of_ext {B H1 H2 : Hp} (e : Same B H1) (n : ∀ b ps, B b ≠ some (.tbl ps)) (x : LamX.ExtN H1 H2) : Same B H2 := fun b o h => x b o (e b o h) fun ps z => n b ps (by rw [h, z])
theorem sqt_ext {K : PySem.W.Frag} {H1 H2 : Hp} {a : Addr} {xs : List V} (x : LamX.ExtN H1 H2) (h : SqT K H1 a xs) : SqT K H2 a xs := by
  rcases h with (h | ⟨o, h⟩) | h
  · exact .inl (.inl (x _ _ h fun ps z => by cases z))
  · exact .inl (.inr ⟨o, x _ _ h fun ps z => by cases z⟩)
  · exact .inr h
theorem sql_ext {K : PySem.W.Frag} {H1 H2 : Hp} {a : Addr} {xs : List V} (x : LamX.ExtN H1 H2) (h : SqL K H1 a xs) : SqL K H2 a xs := by
  rcases h with (h | ⟨o, h⟩) | h
  · exact .inl (.inl (x _ _ h fun ps z => by cases z))
  · exact .inl (.inr ⟨o, x _ _ h fun ps z => by cases z⟩)
  · exact .inr h
section
variable {X : Cx}
theorem pe_sortKey {α : Type} (kf : α → Str) {T : List (Addr × Str)} {c P : Addr} {k : Nat} {a : Str} {e : Expr} {params : Arguments} {scope : Scope} {p p1 p2 p3 lpos kpos pos : Pos} {kk : Nat} {te : TE} (hg : Gl X "sorted") (hm : X.mg "sorted" = none) (ha : PE X e te) (hr : Room (k + 1) X.A)
    (TB : LamX.TabB X.base X.mg c P) (hcode : X.env.code = .ref c) (hmT : (P, X.env.qual ++ "<lambda>") ∈ T) (hu : ∀ p ∈ T, p.1 = P → p.2 = X.env.qual ++ "<lambda>") (hdef : defaultsOf params X.env = ([], [])) (L : LamP a scope) (hda : (a == ("__debug__" : Str)) = false)
    (hbind : ∀ (q : Str) (cl : List (Str × Addr)) (pm cv ctv v : Value), bindArgs (PySem.W.kla_fn "<lambda>" q params (.Subscript (.Name a p1) (.Constant (.int 0) kk p2) p3) scope cl pm cv ctv) ⟨[v], []⟩ = pure [(a, v)])
    (he : backTo pos (starEach [e] X.env) = (false, eval e X.env) :: backTo pos (starEach [] X.env) := by rfl) (hpl : (backTo pos (starEach [e] X.env)).any Prod.fst = false := by rfl) (hes : starEach (e :: []) X.env = (false, eval e X.env) :: starEach [] X.env := by rfl) :
    PE X (.Call (.Name "sorted" p) [e] [⟨some "key", .Lambda params (.Subscript (.Name a p1) (.Constant (.int 0) kk p2) p3) scope lpos, kpos⟩] pos) (tSortKey kf X.K T te) := by
  refine ⟨fun pins s σ H Q I h => ?_⟩
  refine wpAny_Call_Name_kw (ld_blt I hg hm PyProof.Rows.boot_sorted ?_)
  refine PyProof.Rows.callWith_kw (thn ((pa_cons ha pa_nil hes).run pos pins s σ H (oneV fun v H1 => ∃ (a : Addr) (bs : List (V × α)), v = .ref a ∧ SqL X.K H1 a (bs.map Prod.fst) ∧ LamX.Tabs T H1 ∧
    (∀ y ∈ bs, ∃ t zs, y.1 = .ref t ∧ SqT X.K H1 t (.str (kf y.2) :: zs)) ∧ ∀ H2, LamX.ExtN H1 H2 → LamX.Tabs T H2 → ∀ p, H2 p = none → Q (.ref p) (upd H2 p (.lst ((bs.mergeSort (leK fun y => kf y.2)).map Prod.fst)))) I h) fun us s1 hh => ?_) he hpl (by rfl) (by rfl)
  · obtain ⟨vs, H1, I1, r1, hh⟩ := hh
    obtain ⟨v, rfl, hh⟩ := oneV_of hh
    obtain ⟨b, bs, rfl, hS, hT, hK, q⟩ := hh
    obtain ⟨u, rfl, hu1⟩ := r1.one
    obtain rfl : u = Value.ref b := hu1
    show wpAny _ _ (evalAll ((do let v ← eval (.Lambda params (.Subscript (.Name a p1) (.Constant (.int 0) kk p2) p3) scope lpos) X.env; standAt pos; pure v) :: [])) _ _ s1
    refine wpAny_evalAll_cons (wpAny_bind (LamX.lam_make2 I1 TB hcode hmT hu hT hdef (fun y hy e => absurd e (L.nof y hy)) fun f c' pm ctv H2 s2 I2 xN hT2 hf hfn hfr hco => wpAny_bind (wpAny_standAt (wpAny_pure (wpAny_evalAll_nil ?_)))))
    show wpAny _ _ (call (.builtin "sorted") [.ref b] [(Str.ofString "key", .ref f)]) _ _ s2
    have hS2 := sql_ext xN hS
    obtain ⟨its, rv, hl, hz⟩ := I2.list hS2
    obtain ⟨⟨oc, vsc, tc, hoc, hdc, hvc⟩, _, _⟩ := I2.hok c' _ hco
    have hcr : s2.heap.CodeRec (.ref c') (X.env.qual ++ "<lambda>") := ⟨c', oc, vsc, tc, rfl, hoc, hdc, hvc⟩
    refine PySem.W.sorted_key_data (β := V × α) (vs := its) (bs := bs) (R := fun v x => RelV x.1 v) (b := false) (fun y => PyData.str (kf y.2)) hl.isList (vals_each1 rv) ?_ ?_ ?_ ?_ (PyProof.Rows.ksk_s1 _ _) (fun _ => PyProof.Rows.ksk_l1 _ _) (fun x => PyProof.Rows.ksk_t1 f x) ?_ ?_
    · intro d hd d' hd'
      obtain ⟨y, _, rfl⟩ := List.mem_map.mp hd
      obtain ⟨y', _, rfl⟩ := List.mem_map.mp hd'
      rfl
    · refine Or.inr fun d hd => ?_
      obtain ⟨y, _, rfl⟩ := List.mem_map.mp hd
      constructor
      · intro z
        cases z
      · intro xs z
        cases z
    · rw [List.length_map] at hz
      exact hz
    · intro y hy
      have := hr.un
      show X.A.units + 2 + PyData.depth (.str (kf y.2)) < cLine
      have e : PyData.depth (.str (kf y.2)) ≤ 1 := by simp [PyData.depth]
      omega
    · intro v y hv hy h tk kp
      obtain ⟨t, zs, ey, ht⟩ := hK y hy
      rw [ey] at hv
      obtain rfl : v = Value.ref t := hv
      obtain ⟨jts, rj, hjt, _⟩ := I2.tuple (sqt_ext xN ht)
      cases rj with
      | @cons _ u0 _ js r0 rr =>
        obtain ⟨t0, rfl⟩ := r0
        obtain ⟨o, h1, h2, n, h3⟩ := hjt
        refine lam_key0 (s := { s2 with heap := h, toks := tk }) (A := X.A.in1.in1) (u := t0) (items := js) L hda (kp _ _ hf) ⟨c', oc, vsc, tc, rfl, kp _ _ hoc, hdc, hvc⟩ ?_ (I2.nolimit.keeps kp) (fun v => hbind _ _ _ _ _ v) ⟨o, kp _ _ h1, h2, n, h3⟩
        have := hr.dp
        show X.A.depth < recursionLimit
        omega
    · intro out cc h' tk kp fresh hD hlen' hE
      have hv := each_vals1 hE
      have hle : PySem.W.dataLe false (fun y : V × α => PyData.str (kf y.2)) = leK fun y => kf y.2 := PySem.W.dataLe_str _
      rw [hle] at hv
      have hl2 : ((bs.mergeSort (leK fun y => kf y.2)).map Prod.fst).length ≤ sizeLine := by
        rw [List.length_map, List.length_mergeSort]
        rw [List.length_map] at hz
        exact hz
      exact ⟨.ref _, upd H2 (s2.heap.objs.size + 1) (.lst ((bs.mergeSort (leK fun y => kf y.2)).map Prod.fst)), I2.laid (t' := tk) kp (Nat.le_succ _) ⟨hl2, out, cc, hv, hD⟩, rfl, q H2 xN hT2 _ (I2.hok.fresh (Nat.le_succ _))⟩
end
/-- a dict comprehension over a walk -/
theorem dc_it {J : It} {n : Nat} {G : Hp → Prop} {Y : Nat → Hp → V → Hp → Prop} (w : Walk J n G Y) {g : TG} {tt : TT} {tk tv : TE} {vs : List Nat} {σ : L2.St} {H1 : Hp} {D : Addr} {Qd : Hp → Prop} (Pv : Nat → Hp → Prop) (h0 : Pv 0 (upd H1 D (.dK []))) (hG : ∀ i H, i ≤ n → Pv i H → G H)
    (hs : ∀ i x H H', i < n → Pv i H → Y i H x H' → g x (wipe σ vs) H' fun σ2 H2 => wipe σ2 vs = wipe σ vs ∧ tt σ2 H2 fun b H3 =>
      if b = true then tk σ2 H3 fun y H4 => tv σ2 H4 fun z H5 => ∃ kvs k, y = kV k ∧ H5 D = some (.dK kvs) ∧ kvs.length < sizeLine ∧ Pv (i + 1) (upd H5 D (.dK (putK kvs k z))) else Pv (i + 1) H3) (hd : ∀ H, Pv n H → Qd H) :
    ∃ W : Nat → Nat → Hp → Prop, (∃ m, W 0 m (upd H1 D (.dK []))) ∧ ∀ i m H, W i m H →
      (J.stop i H ∧ Qd H) ∨ (J.go i H ∧ ∃ Nx : Hp → Prop, (∀ H', Nx H' → ∃ m', m' < m ∧ W (i + 1) m' H') ∧ ∀ x H', J.yld i H x H' → g x (wipe σ vs) H' fun σ2 H2 => wipe σ2 vs = wipe σ vs ∧ tt σ2 H2 fun b H3 =>
        if b = true then tk σ2 H3 fun y H4 => tv σ2 H4 fun z H5 => ∃ kvs k, y = kV k ∧ H5 D = some (.dK kvs) ∧ kvs.length < sizeLine ∧ Nx (upd H5 D (.dK (putK kvs k z))) else Nx H3) := by
  refine ⟨fun i m H => m = n - i ∧ i ≤ n ∧ Pv i H, ⟨n, by simp, Nat.zero_le _, h0⟩, ?_⟩
  rintro i m H ⟨rfl, hi, p⟩
  have q := hG i H hi p
  by_cases hlt : i < n
  · exact .inr ⟨w.goes i H hlt q, Pv (i + 1), fun H' p' => ⟨n - (i + 1), by omega, rfl, hlt, p'⟩, fun x H' y => hs i x H H' hlt p (w.yields i H x H' hlt q y)⟩
  · have e : i = n := by omega
    subst e
    exact .inl ⟨w.stops H q, hd H p⟩
theorem SD.ext {H H' : Hp} (x : LamX.ExtN H H') : SD H H' := fun b o h d => x b o h fun ps z => by
  rw [z] at d
  cases d
theorem tabs_upd {T : List (Addr × Str)} {H : Hp} {s : Addr} {u o : HO} (hT : LamX.Tabs T H) (h : H s = some u) (n1 : ∀ ps, u ≠ .tbl ps) (n2 : ∀ c q, u ≠ LamX.CodeO c q) : LamX.Tabs T (upd H s o) := by
  intro p hp
  obtain ⟨ps, h1, h2, h3⟩ := hT p hp
  refine ⟨ps, ?_, h2, fun pos cv hc => ?_⟩
  · rw [upd_ne fun z => by
      rw [z, h] at h1
      exact n1 _ (Option.some.inj h1)]
    exact h1
  · obtain ⟨c, e1, e2⟩ := h3 pos cv hc
    refine ⟨c, e1, ?_⟩
    rw [upd_ne fun z => by
      rw [z, h] at e2
      exact n2 _ _ (Option.some.inj e2)]
    exact e2
theorem tabs_ins {T : List (Addr × Str)} {H : Hp} {s C dx : Addr} {fs : List (Str × V)} {o : HO} (hT : LamX.Tabs T H) (h : H s = some (.ins C dx fs)) : LamX.Tabs T (upd H s o) := tabs_upd hT h (fun ps z => by cases z) (fun c q z => by unfold LamX.CodeO at z; cases z)
theorem tabs_lst {T : List (Addr × Str)} {H : Hp} {s : Addr} {xs : List V} {o : HO} (hT : LamX.Tabs T H) (h : H s = some (.lst xs)) : LamX.Tabs T (upd H s o) := tabs_upd hT h (fun ps z => by cases z) (fun c q z => by unfold LamX.CodeO at z; cases z)
end Fr

namespace Fr
open PySem PySem.Spec PyProof.Rows L2
section
variable {prog : Program} {w : World} {A : Around} {E : Value → Shared → Prop} {s : Shared}
theorem min_intTup {l : Addr} {xs : Array (Int × Tok)} {Q : Value → Shared → Prop} (hh : A.handled = none) (hl : s.heap.IsTuple l (intItems xs)) (hne : 0 < xs.size)
    (h : ∀ v h' tk, (intItems xs)[argBest (fun i j => decide (numAt xs i < numAt xs j)) (xs.size - 1)]? = some v → (∀ b o, s.heap.get? b = some o → h'.get? b = some o) → Q v { s with heap := h', toks := tk }) :
    wpAny (model prog w) A (call (.builtin "min") [.ref l]) Q E s := by
  refine call_min_walk (wpAny_pyIter_tuple hl ?_)
  obtain ⟨o, ho, hc, n, hd⟩ := hl
  have hlt : l < s.heap.objs.size := Heap.lt_size ho
  refine ⟨_, [_, l], [_], _, _, _, _, rfl, Walks.tuple (A := A.in1) hh _ l (Nat.ne_of_lt hlt) (intItems xs), ⟨⟨_, Heap.get?_push_size _ rfl, rfl, rfl⟩, ⟨o, Heap.get?_push_of_some _ ho, hc, n, hd⟩⟩, fun d hdm => ?_, by simpa [intItems] using hne, CmpOf.ints_lt (numAt xs) (fun _ _ => intItems_at), fun v h' tk hP hk => ?_⟩
  · show d < (s.heap.push _).objs.size
    rw [Heap.size_push]
    rcases List.mem_cons.mp hdm with rfl | hdm
    · exact Nat.lt_succ_self _
    · rcases List.mem_cons.mp hdm with rfl | hdm
      · exact Nat.lt_succ_of_lt hlt
      · cases hdm
  · refine h v h' tk (by simpa [intItems] using hP) fun d o e => hk d o (fun hm => ?_) (Heap.get?_push_of_some _ e)
    rcases List.mem_cons.mp hm with e1 | hm
    · have := Heap.lt_size e
      rw [e1] at this
      exact Nat.lt_irrefl _ this
    · cases hm
end
def rMinT (K : PySem.W.Frag) : List V → Hp → VK → Prop := fun vs H Q => ∃ (a : Addr) (ns : List Int), vs = [V.ref a] ∧ SqT K H a (ns.map V.int) ∧ 0 < ns.length ∧ ∀ m, m ∈ ns → (∀ y, y ∈ ns → m ≤ y) → Q (.int m) H
theorem cr_minT {X : Cx} (hc : X.calm = true) : CallR X (.builtin "min") (rMinT X.K) := by
  intro pins s σ H vs us Q I r h
  obtain ⟨a, ns, rfl, hs, hne, q⟩ := h
  obtain ⟨its, rv, hl, _⟩ := I.tuple hs
  rw [Vals.ref1 r]
  obtain ⟨xs, e⟩ := rv.ints.allInts.items
  have hn : numsOf (intItems xs).toList = ns := by rw [← e]; exact rv.ints.numsOf
  rw [nums_intItems] at hn
  subst hn
  rw [e] at hl
  have hsz : 0 < xs.size := by simpa using hne
  refine min_intTup (I.ok.hd hc) hl hsz fun v h' tk hv hk => ?_
  obtain ⟨t, rfl⟩ := intItems_at hv
  obtain ⟨h1, h2⟩ := argBest_lt (numAt xs) (xs.size - 1)
  refine ⟨.int _, H, I.kept hk, ⟨_, rfl⟩, q _ ?_ fun a ha => ?_⟩
  · rw [numAt_eq]; exact PySem.getD_mem (by rw [List.length_map, Array.length_toList]; omega)
  · obtain ⟨j, hj, rfl⟩ := mem_getD ha
    rw [List.length_map, Array.length_toList] at hj
    rw [← numAt_eq]; exact h2 j (by omega)
theorem sgrow {B H : Hp} {p : Addr} {o : HO} (e : Same B H) : Same (upd B p o) (upd H p o) := fun c u h => by
  by_cases hc : c = p
  · rw [hc, upd_same] at h ⊢
    exact h
  · rw [upd_ne hc] at h ⊢
    exact e c u h
/-- an object that the base does not know may change -/
theorem swrite {B H : Hp} {p : Addr} {o : HO} (e : Same B H) (n : B p = none) : Same B (upd H p o) := fun c u h => by
  rw [upd_ne (ne_of_none h n)]
  exact e c u h
theorem walk_zipT {K : PySem.W.Frag} {a b : Addr} {xs ys : List V} {n : Nat} (hn : n = min xs.length ys.length) : Walk (RZ.ItzT K a b) n (fun H => SqT K H a xs ∧ SqT K H b ys) (YPair (fun i => xs[i]?) (fun i => ys[i]?)) := by
  subst hn
  refine ⟨fun i _ hi q => ?_, fun _ q => ⟨xs, ys, q.1, q.2, by omega⟩, fun i H v H' _ q y => ?_⟩
  · have h1 : i < xs.length := by omega
    have h2 : i < ys.length := by omega
    exact ⟨xs, ys, xs[i], ys[i], q.1, q.2, by simp [h1], by simp [h2]⟩
  · obtain ⟨T, x, z, h1, h2, h3, h4, h5⟩ := y
    exact ⟨T, x, z, h1, h2, h3, h4 xs q.1, h5 ys q.2⟩
theorem range_map_get' {α : Type} (xs : List α) (f : Nat → α) (h : ∀ i x, xs[i]? = some x → f i = x) : (List.range xs.length).map f = xs := by
  refine List.ext_getElem? fun i => ?_
  by_cases hi : i < xs.length
  · rw [List.getElem?_map, get_range hi, List.getElem?_eq_getElem hi]
    exact congrArg some (h i _ (List.getElem?_eq_getElem hi))
  · rw [List.getElem?_eq_none (by simp; omega), List.getElem?_eq_none (by omega)]
/-- p - v -/
def minus (p v : List Int) : List Int := List.zipWith (fun a b => a - b) p v
theorem minus_at {p v : List Int} {i : Nat} {a b : Int} (h1 : p[i]? = some a) (h2 : v[i]? = some b) : (minus p v).getD i 0 = a - b := by
  unfold minus
  rw [List.getD_eq_getElem?_getD, List.getElem?_zipWith, h1, h2]
  rfl
theorem minus_range (p v : List Int) : (List.range (min p.length v.length)).map (fun i => V.int ((minus p v).getD i 0)) = (minus p v).map V.int := by
  have := range_map_get' ((minus p v).map V.int) (fun i => V.int ((minus p v).getD i 0)) (fun i b hb => by
    rw [List.getElem?_map] at hb
    obtain ⟨c, h1, h2⟩ := Option.map_eq_some_iff.mp hb
    rw [List.getD_eq_getElem?_getD, h1]
    exact h2)
  rw [List.length_map] at this
  unfold minus at this ⊢
  rw [List.length_zipWith] at this
  exact this
end Fr

namespace Fr
open PySem PySem.Spec PyProof.Rows L2
def topS (i : Nat) : Stmt := PySem.Challenge.pw_farreads_k32_errors_of_shifts.main.body.getD i (.Pass ⟨0, 0, 0, 0⟩)
abbrev s_is_name : Stmt := topS 20
theorem sc_is_name : FnScope ["text", "letter"] ["text"] (defScope s_is_name) := ⟨rfl, rfl, rfl, by decide +kernel, rfl, by decide +kernel, by decide +kernel⟩
-- slots: 0 text, 1 letter
abbrev s_is_read : Stmt := topS 21
theorem sc_is_read : FnScope ["read", "dimensions", "table", "vector", "factor"] ["read", "dimensions"] (defScope s_is_read) := ⟨rfl, rfl, rfl, by decide +kernel, rfl, by decide +kernel, by decide +kernel⟩
-- slots: 0 read, 1 dimensions, 2 table, 3 vector, 4 factor
abbrev s_System_dimensions : Stmt := inClass (topS 31) 3
theorem sc_System_dimensions : FnScope ["self"] ["self"] (defScope s_System_dimensions) := ⟨rfl, rfl, rfl, by decide +kernel, rfl, by decide +kernel, by decide +kernel⟩
-- slots: 0 self
abbrev s_System_modulus : Stmt := inClass (topS 31) 4
theorem sc_System_modulus : FnScope ["self"] ["self"] (defScope s_System_modulus) := ⟨rfl, rfl, rfl, by decide +kernel, rfl, by decide +kernel, by decide +kernel⟩
-- slots: 0 self
abbrev s_System_names : Stmt := inClass (topS 31) 5
theorem sc_System_names : FnScope ["self"] ["self"] (defScope s_System_names) := ⟨rfl, rfl, rfl, by decide +kernel, rfl, by decide +kernel, by decide +kernel⟩
-- slots: 0 self
abbrev s_check_table : Stmt := topS 25
theorem sc_check_table : FnScope ["system", "name"] ["system", "name"] (defScope s_check_table) := ⟨rfl, rfl, rfl, by decide +kernel, rfl, by decide +kernel, by decide +kernel⟩
-- slots: 0 system, 1 name
abbrev s_System_reads : Stmt := inClass (topS 31) 7
theorem sc_System_reads : FnScope ["self", "name"] ["self", "name"] (defScope s_System_reads) := ⟨rfl, rfl, rfl, by decide +kernel, rfl, by decide +kernel, by decide +kernel⟩
-- slots: 0 self, 1 name
abbrev s_check_tables : Stmt := topS 23
theorem sc_check_tables : FnScope ["dimensions", "tables", "names", "table", "many", "row", "name", "_", "reads", "read"] ["dimensions", "tables"] (defScope s_check_tables) := ⟨rfl, rfl, rfl, by decide +kernel, rfl, by decide +kernel, by decide +kernel⟩
-- slots: 0 dimensions, 1 tables, 2 names, 3 table, 4 many, 5 row, 6 name, 7 _, 8 reads, 9 read
abbrev s_check_tables_that_are_read : Stmt := topS 24
theorem sc_check_tables_that_are_read : FnScope ["tables", "names", "table", "row", "read"] ["tables"] (defScope s_check_tables_that_are_read) := ⟨rfl, rfl, rfl, by decide +kernel, rfl, by decide +kernel, by decide +kernel⟩
-- slots: 0 tables, 1 names, 2 table, 3 row, 4 read
abbrev s_check_system : Stmt := topS 22
theorem sc_check_system : FnScope ["dimensions", "tables", "modulus"] ["dimensions", "tables", "modulus"] (defScope s_check_system) := ⟨rfl, rfl, rfl, by decide +kernel, rfl, by decide +kernel, by decide +kernel⟩
-- slots: 0 dimensions, 1 tables, 2 modulus
abbrev s_System_init : Stmt := inClass (topS 31) 0
theorem sc_System_init : FnScope ["self", "dimensions", "tables", "modulus", "rows", "name", "constant", "reads"] ["self", "dimensions", "tables", "modulus"] (defScope s_System_init) := ⟨rfl, rfl, rfl, by decide +kernel, rfl, by decide +kernel, by decide +kernel⟩
-- slots: 0 self, 1 dimensions, 2 tables, 3 modulus, 4 rows, 5 name, 6 constant, 7 reads
structure Rd1 where
  t : Str
  v : List Int
  f : Int
structure Tb where
  n : Str
  c : Int
  rs : List Rd1
def Rd1.d (r : Rd1) : PyData := .tuple [.str r.t, .tuple (r.v.map .int), .int r.f]
/-- as a caller hands it in: the reads in a list -/
def Tb.d (t : Tb) : PyData := .tuple [.str t.n, .int t.c, .list (t.rs.map Rd1.d)]
/-- as a system keeps it -/
def Tb.k (t : Tb) : PyData := .tuple [.int t.c, .tuple (t.rs.map Rd1.d)]
def flds (d m : Int) (t : Addr) : List (Str × V) := putF "_tables" (.ref t) (putF "_modulus" (.int m) (putF "_dimensions" (.int d) []))
theorem nDM : ¬ (("_dimensions" : Str) = "_modulus") := by decide +kernel
theorem nDT : ¬ (("_dimensions" : Str) = "_tables") := by decide +kernel
theorem nMT : ¬ (("_modulus" : Str) = "_tables") := by decide +kernel
theorem flds_d (d m : Int) (t : Addr) : (flds d m t).lookup ("_dimensions" : Str) = some (.int d) := by
  unfold flds
  rw [lookup_putF, if_neg nDT, lookup_putF, if_neg nDM, lookup_putF, if_pos rfl]
theorem flds_m (d m : Int) (t : Addr) : (flds d m t).lookup ("_modulus" : Str) = some (.int m) := by
  unfold flds
  rw [lookup_putF, if_neg nMT, lookup_putF, if_pos rfl]
theorem flds_t (d m : Int) (t : Addr) : (flds d m t).lookup ("_tables" : Str) = some (.ref t) := by
  unfold flds
  rw [lookup_putF, if_pos rfl]
theorem flds_no (d m : Int) (t : Addr) {x : Str} (h1 : ¬ x = "_dimensions") (h2 : ¬ x = "_modulus") (h3 : ¬ x = "_tables") : (flds d m t).lookup x = none := by
  unfold flds
  rw [lookup_putF, if_neg h3, lookup_putF, if_neg h2, lookup_putF, if_neg h1]
  rfl
def KvAt (K : PySem.W.Frag) (H : Hp) (kvs : List (Key × V)) (ts : List Tb) : Prop := Paired (fun (kv : Key × V) (t : Tb) => kv.1 = Sum.inr t.n ∧ Dp K H kv.2 t.k) kvs ts
theorem KvAt.mono {K : PySem.W.Frag} {H H' : Hp} (e : Same H H') : ∀ {kvs : List (Key × V)} {ts : List Tb}, KvAt K H kvs ts → KvAt K H' kvs ts
  | [], _, h => by cases h; exact .nil
  | kv :: kvs, _, h => by
    cases h with
    | cons h1 h2 => exact .cons ⟨h1.1, dpm e _ _ h1.2⟩ (KvAt.mono e h2)
theorem KvAt.monoD {K : PySem.W.Frag} {H H' : Hp} (e : SD H H') : ∀ {kvs : List (Key × V)} {ts : List Tb}, KvAt K H kvs ts → KvAt K H' kvs ts
  | [], _, h => by cases h; exact .nil
  | kv :: kvs, _, h => by
    cases h with
    | cons h1 h2 => exact .cons ⟨h1.1, dpd e _ _ h1.2⟩ (KvAt.monoD e h2)
theorem KvAt.app {K : PySem.W.Frag} {H : Hp} : ∀ {kvs ls : List (Key × V)} {ts us : List Tb}, KvAt K H kvs ts → KvAt K H ls us → KvAt K H (kvs ++ ls) (ts ++ us)
  | [], _, _, _, h, k => by cases h; exact k
  | kv :: kvs, _, _, _, h, k => by
    cases h with
    | cons h1 h2 => exact .cons h1 (KvAt.app h2 k)
theorem KvAt.noVal {K : PySem.W.Frag} {H : Hp} {x : Str} : ∀ {kvs : List (Key × V)} {ts : List Tb}, KvAt K H kvs ts → x ∉ ts.map (·.n) → valV kvs (Sum.inr x) = none
  | [], _, h, e => by cases h; rfl
  | (k, v) :: kvs, _, h, e => by
    cases h with
    | @cons _ t' _ ts' h1 h2 =>
      have h1' : k = Sum.inr t'.n := h1.1
      have hx : ¬ t'.n = x := fun z => e (by rw [← z]; exact List.mem_cons_self)
      have e2 := KvAt.noVal (x := x) h2 fun z => e (List.mem_cons_of_mem _ z)
      unfold valV at e2 ⊢
      rw [List.find?_cons_of_neg (by simp [h1', hx])]
      exact e2
theorem KvAt.len {K : PySem.W.Frag} {H : Hp} {kvs : List (Key × V)} {ts : List Tb} (h : KvAt K H kvs ts) : kvs.length = ts.length := Paired.length h
theorem KvAt.keys {K : PySem.W.Frag} {H : Hp} : ∀ {kvs : List (Key × V)} {ts : List Tb}, KvAt K H kvs ts → kvs.map (fun kv => kV kv.1) = ts.map fun t => V.str t.n
  | [], _, h => by cases h; rfl
  | kv :: kvs, _, h => by
    cases h with
    | cons h1 h2 =>
      rw [List.map_cons, List.map_cons, KvAt.keys h2, h1.1]
      rfl
theorem KvAt.get {K : PySem.W.Frag} {H : Hp} {x : Str} : ∀ {kvs : List (Key × V)} {ts : List Tb}, KvAt K H kvs ts → ∀ {t : Tb}, ts.find? (fun t => decide (t.n = x)) = some t → ∃ v, valV kvs (Sum.inr x) = some v ∧ Dp K H v t.k
  | [], _, h, t, e => by cases h; cases e
  | (k, v) :: kvs, _, h, t, e => by
    cases h with
    | @cons _ t' _ ts' h1 h2 =>
      obtain ⟨h1, h3⟩ := h1
      have h1 : k = Sum.inr t'.n := h1
      by_cases hx : t'.n = x
      · rw [List.find?_cons_of_pos (by simpa using hx)] at e
        cases e
        refine ⟨v, ?_, h3⟩
        unfold valV
        rw [List.find?_cons_of_pos (by simp [h1, hx])]
        rfl
      · rw [List.find?_cons_of_neg (by simpa using hx)] at e
        obtain ⟨v', e1, e2⟩ := KvAt.get h2 e
        refine ⟨v', ?_, e2⟩
        unfold valV at e1 ⊢
        rw [List.find?_cons_of_neg (by simp [h1, hx])]
        exact e1
structure SysAt (K : PySem.W.Frag) (C : Addr) (H : Hp) (s : Addr) (d m : Int) (ts : List Tb) : Prop where
  ob : ∃ (dx t : Addr) (kvs : List (Key × V)), H s = some (.ins C dx (flds d m t)) ∧ H t = some (.dK kvs) ∧ KvAt K H kvs ts
theorem SysAt.mono {K : PySem.W.Frag} {C : Addr} {H H' : Hp} {s : Addr} {d m : Int} {ts : List Tb} (e : Same H H') (h : SysAt K C H s d m ts) : SysAt K C H' s d m ts := by
  obtain ⟨dx, t, kvs, h1, h2, h3⟩ := h.ob
  exact ⟨dx, t, kvs, e _ _ h1, e _ _ h2, h3.mono e⟩
structure TxtC (K : PySem.W.Frag) (mg : Str → Option Value) (C : Addr) : Prop where
  cl : Cls K C
  nD : NoAttr K C "_dimensions"
  nM : NoAttr K C "_modulus"
  nT : NoAttr K C "_tables"
  g_System : mg "System" = some (.ref C)
def okSign (c : Nat) : Bool := !decide ([c] < [97]) && !decide ([122] < [c])
def isName (x : Str) : Bool := decide (1 ≤ (x.length : Int)) && decide ((x.length : Int) ≤ 8) && x.cps.toList.all okSign
structure Txt (mg : Str → Option Value) : Prop where
  b_len : mg "len" = none
  b_all : mg "all" = none
  b_min : mg "min" = none
  b_abs : mg "abs" = none
  b_int : mg "int" = none
  b_list : mg "list" = none
  b_tuple : mg "tuple" = none
  b_range : mg "range" = none
  b_zip : mg "zip" = none
  b_enumerate : mg "enumerate" = none
  b_sorted : mg "sorted" = none
  g_MOST_DIMENSIONS : ∃ u, mg "MOST_DIMENSIONS" = some u ∧ RelV (.int 3) u
  g_MOST_TABLES : ∃ u, mg "MOST_TABLES" = some u ∧ RelV (.int 6) u
  g_MOST_READS : ∃ u, mg "MOST_READS" = some u ∧ RelV (.int 12) u
  g_MOST_LETTERS : ∃ u, mg "MOST_LETTERS" = some u ∧ RelV (.int 8) u
theorem range_map_get {α : Type} (xs : List α) (f : Nat → α) (h : ∀ i x, xs[i]? = some x → f i = x) : (List.range xs.length).map f = xs := by
  refine List.ext_getElem? fun i => ?_
  by_cases hi : i < xs.length
  · rw [List.getElem?_map, get_range hi, List.getElem?_eq_getElem hi]
    exact congrArg some (h i _ (List.getElem?_eq_getElem hi))
  · rw [List.getElem?_eq_none (by simp; omega), List.getElem?_eq_none (by omega)]
section
variable {P : Program} {w : World} {K : PySem.W.Frag} {mg : Str → Option Value} {base : Heap}
def spIsName : Sp := fun vs H Q _ => ∃ x : Str, vs = [.str x] ∧ x.length ≤ 100000 ∧ ∀ H', Same H H' → Q (.bl (isName x)) H'
theorem ok_is_name {f : Addr} {fd : FuncData} (F : Fun K "is_name" "is_name" s_is_name f fd) (T : Txt mg) : FnOk P w K mg base CX0 1 f fd ["text"] spIsName := by
  refine F.ok sc_is_name (fun vs H Q E h => ?_) (fun cdv A outer s H vs Q E hr h => ?_)
  · obtain ⟨x, rfl, _⟩ := h
    rfl
  · obtain ⟨x, rfl, hx, q⟩ := h
    refine ⟨_, (pss_one (ps_ret (pe_and (pe_chain op_le op_le pe_int (pe_callB call_len_str (by rfl) T.b_len PySem.boot_len (pa_cons (pv 0) pa_nil)) (C8.pe_gc (by rfl) T.g_MOST_LETTERS)) (pe_one (pe_callB (cr_all rfl) (by rfl) T.b_all (by decide +kernel) (pa_cons (pe_lc (own := [("letter", 1)]) (g := gName 1) (tt := tYes) (by rfl) sc_is_name.nd (pi_str (pv 0)) (blkOk_by (N := ["text", "letter"]) (sc := defScope s_is_name) (by decide +kernel)) (fun _ _ _ _ _ => (pg_name (i := 1) sc_is_name.nd rfl (by first | exact Or.inl rfl | exact Or.inr rfl))) (fun _ _ _ _ _ => pts_nil) (fun _ _ _ _ _ => (pe_chain op_le_str op_le_str pe_str (pv 1) pe_str))) pa_nil)))))), ?_⟩
    have hs : x.length ≤ sizeLine := Nat.le_trans hx (by rw [sizeLine_eq]; decide)
    refine ⟨.str x, rfl, x, rfl, hs, 1, x.length, rfl, rfl, decide (1 ≤ (x.length : Int)), rfl, ?_⟩
    unfold isName at q
    refine ite2 (fun h1 => ?_) (fun h1 => ?_)
    · refine ⟨x.length, 8, rfl, rfl, decide ((x.length : Int) ≤ 8), rfl, ?_⟩
      rw [h1] at q
      refine ite2 (fun h2 => ?_) (fun h2 => ?_)
      · rw [h2] at q
        refine ⟨.str x, rfl, x, rfl, fun D hD => lc_flat walk_str (fun i => .bl (okSign (x.cps.toList.getD i 0))) ?_ hD (fun _ _ => True.intro) (fun i H x H' y => by obtain ⟨rfl, _⟩ := y; exact same_refl) ?_ ?_⟩
        · show x.length ≤ _
          omega
        · rintro i v H1 H2 hi sm ⟨rfl, c, hc, rfl⟩ R hR
          have ec : x.cps.toList.getD i 0 = c := by
            rw [List.getD_eq_getElem?_getD, Array.getElem?_toList, hc]
            rfl
          refine ⟨rfl, .str ⟨#[c]⟩, rfl, ⟨#[97]⟩, ⟨#[c]⟩, rfl, rfl, _, rfl, ?_⟩
          have e2 : okSign (x.cps.toList.getD i 0) = (!decide ([c] < [97]) && !decide ([122] < [c])) := by rw [ec]; rfl
          refine ite2 (fun h3 => ?_) (fun h3 => ?_)
          · refine ⟨⟨#[c]⟩, ⟨#[122]⟩, rfl, rfl, ?_⟩
            have r := hR H2 same_refl
            rw [e2] at r
            have h3' : (!decide ([c] < [97])) = true := h3
            rw [h3'] at r
            exact r
          · have r := hR H2 same_refl
            rw [e2] at r
            have h3' : (!decide ([c] < [97])) = false := by simpa using h3
            rw [h3'] at r
            exact r
        · intro H1 sm hD1
          refine ⟨D, (List.range x.cps.size).map fun i => okSign (x.cps.toList.getD i 0), rfl, Or.inl (Or.inl ?_), ?_⟩
          · rw [hD1, List.map_map]
            rfl
          · have e : (List.range x.cps.size).map (fun i => okSign (x.cps.toList.getD i 0)) = x.cps.toList.map okSign := by
              have := range_map_get (x.cps.toList.map okSign) (fun i => okSign (x.cps.toList.getD i 0)) (fun i b hb => by
                rw [List.getElem?_map] at hb
                obtain ⟨c, h1, h2⟩ := Option.map_eq_some_iff.mp hb
                rw [List.getD_eq_getElem?_getD, h1]
                exact h2)
              rw [List.length_map] at this
              exact this
            rw [e, List.all_map]
            exact q H1 sm
      · have h2' : decide ((x.length : Int) ≤ 8) = false := by simpa using h2
        rw [h2'] at q
        exact q H same_refl
    · have h1' : decide (1 ≤ (x.length : Int)) = false := by simpa using h1
      rw [h1'] at q
      refine ⟨false, rfl, ?_⟩
      exact q H same_refl
def isRead (d : Int) (r : Rd1) : Bool := isName r.t && (decide ((r.v.length : Int) = d) && !decide (r.f = 0))
def spIsRead (K : PySem.W.Frag) : Sp := fun vs H Q _ => ∃ (v : V) (r : Rd1) (d : Int), vs = [v, .int d] ∧ Dp K H v r.d ∧ r.t.length ≤ 100000 ∧ ∀ H', Same H H' → Q (.bl (isRead d r)) H'
theorem ok_is_read {f : Addr} {fd : FuncData} (F : Fun K "is_read" "is_read" s_is_read f fd) (T : Txt mg) (c_is_name : C8.Cal P w K mg base 1 "is_name" spIsName []) : FnOk P w K mg base CX0 2 f fd ["read", "dimensions"] (spIsRead K) := by
  refine F.ok sc_is_read (fun vs H Q E h => ?_) (fun cdv A outer s H vs Q E hr h => ?_)
  · obtain ⟨v, r, d, rfl, _⟩ := h
    rfl
  · obtain ⟨v, r, d, rfl, hv, hz, q⟩ := h
    refine ⟨_, (pss_cons (ps_asg (pv 0) (pg_tup rfl (pgs_cons (pg_name (i := 2) sc_is_read.nd rfl (by first | exact Or.inl rfl | exact Or.inr rfl)) (pgs_cons (pg_name (i := 3) sc_is_read.nd rfl (by first | exact Or.inl rfl | exact Or.inr rfl)) (pgs_cons (pg_name (i := 4) sc_is_read.nd rfl (by first | exact Or.inl rfl | exact Or.inr rfl)) pgs_nil)))))
  (pss_one (ps_ret (pe_and (C8.pe_c c_is_name hr (by decide) (by rfl) (pa_cons (pv 2) pa_nil)) (pe_and (pe_cmpR op_eq (pe_callB call_len_seq (by rfl) T.b_len PySem.boot_len (pa_cons (pv 3) pa_nil)) (pv 1) (nomark _)) (pe_one (pe_cmpR op_ne (pv 4) pe_int (nomark _)))))))), ?_⟩
    obtain ⟨a, xs, rfl, ht, hd⟩ := dtup hv
    obtain ⟨x1, x2, x3, rfl, h1, h2, h3⟩ := dps3 hd
    obtain rfl := dstr h1
    obtain rfl := dint h3
    obtain ⟨b, ys, rfl, ht2, hd2⟩ := dtup h2
    have hl2 := dps_len hd2
    refine ⟨_, rfl, a, _, rfl, ht, rfl, _, _, rfl, _, _, rfl, _, _, rfl, rfl, ?_⟩
    unfold isRead at q
    refine ⟨.str r.t, rfl, r.t, rfl, hz, fun H1 sm => ⟨_, rfl, ?_⟩⟩
    cases hn : isName r.t with
    | false =>
      refine iteF ?_
      have z := q H1 sm
      rw [hn] at z
      exact z
    | true =>
      refine iteT ?_
      refine ⟨_, rfl, b, ys, rfl, Or.inr (sqt sm ht2), _, rfl, rfl, _, rfl, ?_⟩
      have z := q H1 sm
      rw [hn] at z
      have e : decide (V.int (ys.length : Int) = V.int d) = decide ((r.v.length : Int) = d) := by
        rw [hl2, List.length_map]
        exact decide_eq_decide.mpr ⟨fun h => V.int.inj h, fun h => congrArg V.int h⟩
      rw [e]
      cases hq : decide ((r.v.length : Int) = d) with
      | false =>
        refine iteF ?_
        rw [hq] at z
        exact z
      | true =>
        refine iteT ?_
        rw [hq] at z
        refine ⟨_, rfl, rfl, ?_⟩
        have e3 : decide (V.int r.f = V.int 0) = decide (r.f = 0) := decide_eq_decide.mpr ⟨fun h => V.int.inj h, fun h => congrArg V.int h⟩
        rw [e3]
        exact z
def spDims (K : PySem.W.Frag) (C : Addr) : Sp := fun vs H Q _ => ∃ (s : Addr) (d m : Int) (ts : List Tb), vs = [.ref s] ∧ SysAt K C H s d m ts ∧ Q (.int d) H
theorem ok_dims {f C : Addr} {fd : FuncData} (F : Fun K "dimensions" "System.dimensions" s_System_dimensions f fd) (TC : TxtC K mg C) : FnOk P w K mg base CX0 1 f fd ["self"] (spDims K C) := by
  refine F.ok sc_System_dimensions (fun vs H Q E h => ?_) (fun cdv A outer s H vs Q E hr h => ?_)
  · obtain ⟨s, d, m, ts, rfl, _⟩ := h
    rfl
  · obtain ⟨s, d, m, ts, rfl, S, q⟩ := h
    refine ⟨_, (pss_one (ps_ret (pe_fld (pv 0) rfl))), ?_⟩
    obtain ⟨dx, t, kvs, h1, h2, h3⟩ := S.ob
    exact ⟨_, rfl, s, C, dx, _, _, rfl, h1, TC.cl, TC.nD, flds_d _ _ _, q⟩
def spMod (K : PySem.W.Frag) (C : Addr) : Sp := fun vs H Q _ => ∃ (s : Addr) (d m : Int) (ts : List Tb), vs = [.ref s] ∧ SysAt K C H s d m ts ∧ Q (.int m) H
theorem ok_mod {f C : Addr} {fd : FuncData} (F : Fun K "modulus" "System.modulus" s_System_modulus f fd) (TC : TxtC K mg C) : FnOk P w K mg base CX0 1 f fd ["self"] (spMod K C) := by
  refine F.ok sc_System_modulus (fun vs H Q E h => ?_) (fun cdv A outer s H vs Q E hr h => ?_)
  · obtain ⟨s, d, m, ts, rfl, _⟩ := h
    rfl
  · obtain ⟨s, d, m, ts, rfl, S, q⟩ := h
    refine ⟨_, (pss_one (ps_ret (pe_fld (pv 0) rfl))), ?_⟩
    obtain ⟨dx, t, kvs, h1, h2, h3⟩ := S.ob
    exact ⟨_, rfl, s, C, dx, _, _, rfl, h1, TC.cl, TC.nM, flds_m _ _ _, q⟩
def spNames (K : PySem.W.Frag) (C : Addr) : Sp := fun vs H Q _ => ∃ (s : Addr) (d m : Int) (ts : List Tb), vs = [.ref s] ∧ SysAt K C H s d m ts ∧ ∀ p H', H p = none → Same H H' → H' p = some (.lst (ts.map fun t => V.str t.n)) → Q (.ref p) H'
theorem ok_names {f C : Addr} {fd : FuncData} (F : Fun K "names" "System.names" s_System_names f fd) (T : Txt mg) (TC : TxtC K mg C) : FnOk P w K mg base CX0 1 f fd ["self"] (spNames K C) := by
  refine F.ok sc_System_names (fun vs H Q E h => ?_) (fun cdv A outer s H vs Q E hr h => ?_)
  · obtain ⟨s, d, m, ts, rfl, _⟩ := h
    rfl
  · obtain ⟨s, d, m, ts, rfl, S, q⟩ := h
    refine ⟨_, (pss_one (ps_ret (pe_callTy (call_listD rfl) (by rfl) T.b_list (by decide +kernel) (pa_cons (pe_fld (pv 0) rfl) pa_nil)))), ?_⟩
    obtain ⟨dx, t, kvs, h1, h2, h3⟩ := S.ob
    refine ⟨_, rfl, s, C, dx, _, _, rfl, h1, TC.cl, TC.nT, flds_t _ _ _, t, kvs, rfl, Or.inl h2, fun p hp => ?_⟩
    refine q p _ hp (snew hp) ?_
    rw [upd_same, h3.keys]
def okPoint (d : Int) (p : List Int) : Bool := decide ((p.length : Int) = d) && p.all fun i => decide (0 ≤ i)
def spCheckTable (K : PySem.W.Frag) (C : Addr) : Sp := fun vs H Q _ => ∃ (s : Addr) (d m : Int) (ts : List Tb) (x : Str), vs = [.ref s, .str x] ∧ SysAt K C H s d m ts ∧ x ∈ ts.map (·.n) ∧ ∀ H', Same H H' → Q .non H'
theorem inV_str {x : Str} : ∀ {l : List Str}, x ∈ l → inV (.str x) (l.map V.str) = true := by
  intro l h
  unfold inV
  rw [List.any_map, List.any_eq_true]
  refine ⟨x, h, ?_⟩
  first
    | rfl
    | simp [eqV]
theorem flat_strs (l : List Str) : (l.map V.str).all flatV = true := by
  rw [List.all_map, List.all_eq_true]
  intro x _
  rfl
theorem ok_check_table {f C : Addr} {fd : FuncData} (F : Fun K "check_table" "check_table" s_check_table f fd) (T : Txt mg) (p_names : Prp P w K mg base 1 C "names" (spNames K C)) : FnOk P w K mg base CX0 3 f fd ["system", "name"] (spCheckTable K C) := by
  refine F.ok sc_check_table (fun vs H Q E h => ?_) (fun cdv A outer s H vs Q E hr h => ?_)
  · obtain ⟨s, d, m, ts, x, rfl, _⟩ := h
    rfl
  · obtain ⟨s, d, m, ts, x, rfl, S, hx, q⟩ := h
    refine ⟨_, (pss_one (ps_if (pt_cmpR op_notIn_seq (pv 1) (pe_pr (pv 0) p_names hr (by decide) rfl) (by rfl))
    (pss_one ps_never)
    pss_nil)), ?_⟩
    obtain ⟨dx, t, kvs, h1, h2, h3⟩ := S.ob
    refine ⟨_, rfl, _, rfl, s, dx, _, rfl, h1, s, d, m, ts, rfl, S, fun p H' hp sm hl => ?_⟩
    have e : (ts.map fun t => V.str t.n) = (ts.map (·.n)).map V.str := by
      rw [List.map_map]
      rfl
    refine ⟨p, _, rfl, Or.inl (Or.inl (Or.inl hl)), rfl, ?_, ?_⟩
    · rw [e]
      exact flat_strs _
    · rw [e, inV_str hx]
      exact ⟨_, rfl, iteF (q H' sm)⟩
def spReads (K : PySem.W.Frag) (C : Addr) : Sp := fun vs H Q _ => ∃ (B : Hp) (s : Addr) (d m : Int) (ts : List Tb) (x : Str) (tb : Tb), vs = [.ref s, .str x] ∧ Same B H ∧ SysAt K C B s d m ts ∧ x ∈ ts.map (·.n) ∧ ts.find? (fun t => decide (t.n = x)) = some tb ∧
  ∀ p H' xs, H p = none → Same H H' → H' p = some (.lst xs) → DpAll K B xs (tb.rs.map Rd1.d) → Q (.ref p) H'
theorem ok_reads {f C : Addr} {fd : FuncData} (F : Fun K "reads" "System.reads" s_System_reads f fd) (T : Txt mg) (TC : TxtC K mg C) (c_check_table : C8.Cal P w K mg base 3 "check_table" (spCheckTable K C) []) : FnOk P w K mg base CX0 4 f fd ["self", "name"] (spReads K C) := by
  refine F.ok sc_System_reads (fun vs H Q E h => ?_) (fun cdv A outer s H vs Q E hr h => ?_)
  · obtain ⟨B, s, d, m, ts, x, tb, rfl, _⟩ := h
    rfl
  · obtain ⟨B, s, d, m, ts, x, tb, rfl, sB, S, hx, hf, q⟩ := h
    have hu := hu_of hr
    refine ⟨_, (pss_cons (ps_expr (C8.pe_c c_check_table hr (by decide) (by rfl) (pa_cons (pv 0) (pa_cons (pv 1) pa_nil))))
  (pss_one (ps_ret (pe_callTy call_list_of (by rfl) T.b_list (by decide +kernel) (pa_cons (pe_ix ix_tup (pe_dget hu (pe_fld (pv 0) rfl) (pv 1) (fun _ _ => rfl)) pe_int (fun _ _ => rfl)) pa_nil))))), ?_⟩
    refine ⟨_, rfl, _, rfl, s, d, m, ts, x, rfl, S.mono sB, hx, fun H1 sm => ?_⟩
    obtain ⟨dx, t, kvs, h1, h2, h3⟩ := S.ob
    have sB1 := same_tr sB sm
    have h1 := sB1 _ _ h1
    have h2 := sB1 _ _ h2
    obtain ⟨v, e1, e2⟩ := h3.get hf
    obtain ⟨a, ys, rfl, ht, hd⟩ := dtup e2
    obtain ⟨y1, y2, rfl, g1, g2⟩ := dps2 hd
    obtain ⟨b, zs, rfl, ht2, hd2⟩ := dtup g2
    refine ⟨_, rfl, s, C, dx, _, _, rfl, h1, TC.cl, TC.nT, flds_t _ _ _, _, rfl, t, _, rfl, ?_, a, _, 1, _, rfl, rfl, sqt sB1 ht, rfl, b, zs, rfl, Or.inr (sqt sB1 ht2), fun p hp => ?_⟩
    · have g := DGet.k (k := Sum.inr x) h2
      rw [e1] at g
      exact g
    · exact q p _ _ (free_of sm hp) (same_tr sm (snew hp)) upd_same hd2
structure OkT (d : Int) (ts : List Tb) : Prop where
  names : ∀ t ∈ ts, isName t.n = true
  nodup : (ts.map (·.n)).Nodup
  few : (ts.map fun t => t.rs.length).sum ≤ 12
  reads : ∀ t ∈ ts, ∀ r ∈ t.rs, isRead d r = true
  here : ∀ t ∈ ts, ∀ r ∈ t.rs, r.t ∈ ts.map (·.n)
theorem name_len {x : Str} (h : isName x = true) : x.length ≤ 100000 := by
  unfold isName at h
  rw [Bool.and_eq_true, Bool.and_eq_true] at h
  have := of_decide_eq_true h.1.2
  omega
theorem read_len {d : Int} {r : Rd1} (h : isRead d r = true) : r.t.length ≤ 100000 := by
  unfold isRead at h
  rw [Bool.and_eq_true] at h
  exact name_len h.1
def nth (l : List Str) (i : Nat) : Str := l.getD i Str.empty
theorem nth_of {l : List Str} {i : Nat} {x : Str} (h : l[i]? = some x) : nth l i = x := by
  unfold nth
  rw [List.getD_eq_getElem?_getD, h]
  rfl
theorem nths (l : List Str) : (List.range l.length).map (fun i => V.str (nth l i)) = l.map V.str := by
  have := range_map_get (l.map V.str) (fun i => V.str (nth l i)) (fun i b hb => by
    rw [List.getElem?_map] at hb
    obtain ⟨c, h1, h2⟩ := Option.map_eq_some_iff.mp hb
    rw [nth_of h1]
    exact h2)
  rw [List.length_map] at this
  exact this
theorem cut_to (xs : List V) (i : Nat) (h : i ≤ xs.length) : cutV xs none (some (i : Int)) = xs.take i := by
  unfold cutV
  rw [show HT.sIx xs.length xs.length (some (i : Int)) = min i xs.length from HT.sIx_nat xs.length xs.length i, HT.sIx_none, List.drop_zero, Nat.sub_zero, Nat.min_eq_left h]
theorem notin_take {l : List Str} {i : Nat} {x : Str} (hn : l.Nodup) (h : l[i]? = some x) : x ∉ l.take i := by
  intro hm
  obtain ⟨j, hj, e⟩ := List.mem_iff_getElem.mp hm
  rw [List.length_take] at hj
  have e2 : l[j]? = some x := by
    rw [List.getElem_take] at e
    rw [List.getElem?_eq_getElem (by omega), e]
  have := nd_ix hn e2 h
  omega
theorem inV_no {x : Str} : ∀ {l : List Str}, x ∉ l → inV (.str x) (l.map V.str) = false := by
  intro l h
  unfold inV
  rw [List.any_map, List.any_eq_false]
  intro y hy e
  have e' : y = x := by
    first
      | exact of_decide_eq_true e
      | simpa [eqV] using e
  exact h (e' ▸ hy)
/-- what stands at the i-th place of a list of tables -/
theorem tb_at {H : Hp} {xs : List V} {ts : List Tb} {i : Nat} {x : V} (h : DpAll K H xs (ts.map Tb.d)) (e : xs[i]? = some x) : ∃ t a l ys, ts[i]? = some t ∧ x = .ref a ∧ SqT K H a [.str t.n, .int t.c, .ref l] ∧ SqL K H l ys ∧ DpAll K H ys (t.rs.map Rd1.d) := by
  obtain ⟨d, e1, e2⟩ := dps_get h e
  rw [List.getElem?_map] at e1
  obtain ⟨t, e3, rfl⟩ := Option.map_eq_some_iff.mp e1
  obtain ⟨a, zs, rfl, ht, hd⟩ := dtup e2
  obtain ⟨z1, z2, z3, rfl, h1, h2, h3⟩ := dps3 hd
  obtain rfl := dstr h1
  obtain rfl := dint h2
  obtain ⟨l, ys, rfl, hl, hy⟩ := dlst h3
  exact ⟨t, a, l, ys, e3, rfl, ht, hl, hy⟩
theorem rd_at {H : Hp} {xs : List V} {rs : List Rd1} {i : Nat} {x : V} (h : DpAll K H xs (rs.map Rd1.d)) (e : xs[i]? = some x) : ∃ r a b, rs[i]? = some r ∧ x = .ref a ∧ Dp K H x r.d ∧ SqT K H a [.str r.t, .ref b, .int r.f] ∧ SqT K H b (r.v.map V.int) := by
  obtain ⟨d, e1, e2⟩ := dps_get h e
  rw [List.getElem?_map] at e1
  obtain ⟨r, e3, rfl⟩ := Option.map_eq_some_iff.mp e1
  obtain ⟨a, zs, rfl, ht, hd⟩ := dtup e2
  obtain ⟨z1, z2, z3, rfl, h1, h2, h3⟩ := dps3 hd
  obtain rfl := dstr h1
  obtain rfl := dint h3
  obtain ⟨b, ys, rfl, hb, hy⟩ := dtup h2
  obtain rfl := dps_ints hy
  exact ⟨r, a, b, e3, rfl, e2, ht, hb⟩
def cnt (ts : List Tb) : Nat := (ts.map fun t => t.rs.length).sum
theorem cnt_take {ts : List Tb} {i : Nat} {t : Tb} (h : ts[i]? = some t) : cnt (ts.take (i + 1)) = cnt (ts.take i) + t.rs.length := by
  unfold cnt
  rw [List.take_add_one, h, List.map_append, List.sum_append]
  rfl
theorem cnt_le (ts : List Tb) (i : Nat) : cnt (ts.take i) ≤ cnt ts := by
  unfold cnt
  have e := congrArg (fun l : List Tb => (l.map fun t => t.rs.length).sum) (List.take_append_drop i ts)
  simp only [List.map_append, List.sum_append] at e
  omega
def spCheckTables (K : PySem.W.Frag) : Sp := fun vs H Q _ => ∃ (d : Int) (v : V) (ts : List Tb), vs = [.int d, v] ∧ Dp K H v (.list (ts.map Tb.d)) ∧ ts.length ≤ 6 ∧ OkT d ts ∧ ∀ H', Same H H' → Q .non H'
theorem ok_check_tables {f : Addr} {fd : FuncData} (F : Fun K "check_tables" "check_tables" s_check_tables f fd) (T : Txt mg) (c_is_name : C8.Cal P w K mg base 1 "is_name" spIsName []) (c_is_read : C8.Cal P w K mg base 2 "is_read" (spIsRead K) []) : FnOk P w K mg base CX0 3 f fd ["dimensions", "tables"] (spCheckTables K) := by
  refine F.ok sc_check_tables (fun vs H Q E h => ?_) (fun cdv A outer s H vs Q E hr h => ?_)
  · obtain ⟨d, v, ts, rfl, _⟩ := h
    rfl
  · obtain ⟨d, v, ts, rfl, hv, hl6, O, q⟩ := h
    refine ⟨_, (pss_cons (ps_setLc (i := 2) (own := [("table", 3)]) (g := gName 3) (tt := tYes) (by rfl) sc_check_tables.nd rfl rfl (sw_true rfl rfl rfl (by decide +kernel)) (pi_list (pv 1)) (blkOk_by (N := ["dimensions", "tables", "names", "table", "many", "row", "name", "_", "reads", "read"]) (sc := defScope s_check_tables) (by decide +kernel)) (fun _ _ _ _ _ => (pg_name (i := 3) sc_check_tables.nd rfl (by first | exact Or.inl rfl | exact Or.inr rfl))) (fun _ _ _ _ _ => pts_nil) (fun _ _ _ _ _ => (pe_ix (r := rIxT K) ix_tup (pv 3) pe_int (fun _ _ => rfl))))
  (pss_cons (ps_set (i := 4) sc_check_tables.nd rfl (by first | exact Or.inl rfl | exact Or.inr rfl) pe_int)
  (pss_one (ps_for PassesOwn.never rfl (pi_enum (by rfl) T.b_enumerate (pa_cons (pv 1) pa_nil)) (pg_tup rfl (pgs_cons (pg_name (i := 5) sc_check_tables.nd rfl (by first | exact Or.inl rfl | exact Or.inr rfl)) (pgs_cons (pg_tup rfl (pgs_cons (pg_name (i := 6) sc_check_tables.nd rfl (by first | exact Or.inl rfl | exact Or.inr rfl)) (pgs_cons (pg_name (i := 7) sc_check_tables.nd rfl (by first | exact Or.inl rfl | exact Or.inr rfl)) (pgs_cons (pg_name (i := 8) sc_check_tables.nd rfl (by first | exact Or.inl rfl | exact Or.inr rfl)) pgs_nil)))) pgs_nil)))
    (pss_cons (ps_aug (i := 4) sc_check_tables.nd rfl (by first | exact Or.inl rfl | exact Or.inr rfl) (pe_callB call_len_seq (by rfl) T.b_len PySem.boot_len (pa_cons (pv 8) pa_nil)) ip_add)
    (pss_cons (ps_if (PW.pt (pw_or (pt_not (pt_val (C8.pe_c c_is_name hr (by decide) (by rfl) (pa_cons (pv 6) pa_nil)))) (pw_or (pt_cmpR op_in_seq (pv 6) (pe_slice sl_list (pv 2) po_none (po_some (pv 5))) (by rfl)) (pw_or1 (pt_cmpR op_gt (pv 4) (C8.pe_gc (by rfl) T.g_MOST_READS) (nomark _))))))
      (pss_one ps_never)
      pss_nil)
    (pss_one (ps_if (pt_not (pt_val (pe_callB (cr_all rfl) (by rfl) T.b_all (by decide +kernel) (pa_cons (pe_lc (own := [("read", 9)]) (g := gName 9) (tt := tYes) (by rfl) sc_check_tables.nd (pi_list (pv 8)) (blkOk_by (N := ["dimensions", "tables", "names", "table", "many", "row", "name", "_", "reads", "read"]) (sc := defScope s_check_tables) (by decide +kernel)) (fun _ _ _ _ _ => (pg_name (i := 9) sc_check_tables.nd rfl (by first | exact Or.inl rfl | exact Or.inr rfl))) (fun _ _ _ _ _ => pts_nil) (fun _ _ _ _ _ => (C8.pe_c c_is_read hr (by decide) (by rfl) (pa_cons (pv 9) (pa_cons (pv 0) pa_nil))))) pa_nil))))
      (pss_one ps_never)
      pss_nil)))))))), ?_⟩
    obtain ⟨a, xs, rfl, ha, hd⟩ := dlst hv
    have hxl : xs.length = ts.length := by rw [dps_len hd, List.length_map]
    -- names = [table[0] ..]
    refine ⟨_, rfl, a, rfl, ⟨_, ha⟩, fun D hD => lc_flat (walk_list (K := K) (a := a) (xs := xs)) (fun i => .str (nth (ts.map (·.n)) i)) (by omega) hD (fun H' sm => sql sm ha) (fun i H x H' y => yat_same y) ?_ ?_⟩
    · rintro i x H1 H2 hi sm ⟨rfl, hx⟩ R hR
      obtain ⟨t, b, l, ys, e1, rfl, g1, _, _⟩ := tb_at (dpsm sm _ _ hd) hx
      have en : nth (ts.map (·.n)) i = t.n := nth_of (by rw [List.getElem?_map, e1]; rfl)
      refine ⟨rfl, _, rfl, b, _, 0, _, rfl, rfl, g1, rfl, ?_⟩
      have r := hR H2 same_refl
      rw [en] at r
      exact r
    · intro H1 sm hD1
      have hD1 : H1 D = some (.lst ((ts.map (·.n)).map V.str)) := by
        rw [hD1, hxl, ← nths, List.length_map]
      -- many = 0; the loop
      refine ⟨_, rfl, a, xs, rfl, sql sm ha, for_it (walk_enum (K := K) (a := a) (xs := xs)) (fun i σ H2 => ∃ y5 y6 y7 y8, σ = [some (.int d), some (.ref a), some (.ref D), none, some (.int (cnt (ts.take i))), y5, y6, y7, y8, none] ∧ Same H1 H2)
        ⟨none, none, none, none, rfl, same_refl⟩ (fun i σ H2 _ ⟨_, _, _, _, _, s2⟩ => sql (same_tr sm s2) ha) ?_ ?_⟩
      · rintro i x σ H2 H3 hi ⟨y5, y6, y7, y8, rfl, s2⟩ ⟨Tp, z1, z2, rfl, hT, rfl, e1, e2⟩
        cases e1
        have s3 : Same H1 (upd H2 Tp (.tup [.int (i : Nat), z2])) := same_tr s2 (snew hT)
        obtain ⟨t, b, l, ys, f1, rfl, g1, g2, g3⟩ := tb_at (dpsm (same_tr sm s3) _ _ hd) e2
        have htm : t ∈ ts := List.mem_of_getElem? f1
        have hyl : ys.length = t.rs.length := by rw [dps_len g3, List.length_map]
        refine ⟨Tp, _, rfl, Or.inl (Or.inl upd_same), rfl, _, _, rfl, _, _, rfl, b, _, rfl, g1, rfl, _, _, rfl, _, _, rfl, _, _, rfl, rfl, rfl, ?_⟩
        -- many += len(reads)
        refine ⟨_, rfl, _, rfl, l, ys, rfl, Or.inl g2, _, _, rfl, rfl, ?_⟩
        have hc := cnt_take f1
        have hc2 := cnt_le ts (i + 1)
        have h12 : cnt ts ≤ 12 := O.few
        -- the first test
        refine ⟨.str t.n, rfl, t.n, rfl, name_len (O.names t htm), fun H4 s4 => ⟨_, rfl, ?_⟩⟩
        rw [O.names t htm]
        refine iteF ?_
        have hD4 : H4 D = some (.lst ((ts.map (·.n)).map V.str)) := s4 _ _ (s3 _ _ hD1)
        refine ⟨_, rfl, _, rfl, _, rfl, (i : Int), rfl, D, _, rfl, Or.inl (Or.inl hD4), fun p hp => ?_⟩
        have s5 : Same H4 (upd H4 p (.lst (cutV ((ts.map (·.n)).map V.str) none (some (i : Int))))) := snew hp
        rw [cut_to _ _ (by rw [List.length_map, List.length_map]; omega), ← List.map_take]
        refine ⟨p, _, rfl, Or.inl (Or.inl (Or.inl upd_same)), rfl, flat_strs _, false, ?_, iteF ?_⟩
        · rw [inV_no (notin_take O.nodup (by rw [List.getElem?_map, f1]; rfl))]
          rfl
        · refine ⟨_, rfl, _, 12, rfl, rfl, decide (12 < (cnt (ts.take i) : Int) + (ys.length : Int)), rfl, ?_⟩
          rw [decide_eq_false (by omega)]
          refine iteF ?_
          -- the second test
          have s6 : Same H1 (upd H4 p (.lst (((ts.map (·.n)).take i).map V.str))) := same_tr s3 (same_tr s4 (snew hp))
          refine ⟨_, rfl, l, rfl, ⟨ys, sql (same_tr s4 (snew hp)) g2⟩, fun D2 hD2 => lc_flat (walk_list (K := K) (a := l) (xs := ys)) (fun j => .bl true) (by omega) hD2 (fun H' sm' => sql sm' (sql (same_tr s4 (snew hp)) g2)) (fun i H x H' y => yat_same y) ?_ ?_⟩
          · rintro j x H5 H6 hj sm5 ⟨rfl, hx⟩ R hR
            obtain ⟨r, ra, rb, e3, rfl, e4, _, _⟩ := rd_at (dpsm sm5 _ _ (dpsm (same_tr s4 (snew hp)) _ _ g3)) hx
            have hro := O.reads t htm r (List.mem_of_getElem? e3)
            refine ⟨rfl, _, rfl, _, rfl, .ref ra, r, d, rfl, e4, read_len hro, fun H7 s7 => ?_⟩
            rw [hro]
            exact hR H7 s7
          · intro H5 sm5 hD5
            refine ⟨D2, (List.range ys.length).map fun _ => true, rfl, Or.inl (Or.inl ?_), ⟨_, rfl, ?_⟩⟩
            · rw [hD5, List.map_map]
              rfl
            · have e : ((List.range ys.length).map fun _ => true).all id = true := by
                rw [List.all_map, List.all_eq_true]
                intro _ _
                rfl
              rw [e]
              refine iteF ?_
              refine ⟨some (.int (i : Int)), some (.str t.n), some (.int t.c), some (.ref l), ?_, same_tr s6 sm5⟩
              rw [hc]
              have ec : (cnt (ts.take i) : Int) + (ys.length : Int) = ((cnt (ts.take i) + t.rs.length : Nat) : Int) := by omega
              rw [← ec]
              rfl
      · rintro σ H2 ⟨_, _, _, _, rfl, s2⟩
        exact q H2 (same_tr sm s2)
theorem dict_flat_any : True := True.intro
def spCheckRead (K : PySem.W.Frag) : Sp := fun vs H Q _ => ∃ (d : Int) (v : V) (ts : List Tb), vs = [v] ∧ Dp K H v (.list (ts.map Tb.d)) ∧ ts.length ≤ 6 ∧ OkT d ts ∧ ∀ H', Same H H' → Q .non H'
theorem few_reads {d : Int} {ts : List Tb} (O : OkT d ts) {t : Tb} (h : t ∈ ts) : t.rs.length ≤ 12 := by
  obtain ⟨i, hi⟩ := List.mem_iff_getElem?.mp h
  have h1 := cnt_take hi
  have h2 := cnt_le ts (i + 1)
  have h3 : cnt ts ≤ 12 := O.few
  omega
theorem ok_check_read {f : Addr} {fd : FuncData} (F : Fun K "check_tables_that_are_read" "check_tables_that_are_read" s_check_tables_that_are_read f fd) (T : Txt mg) : FnOk P w K mg base CX0 3 f fd ["tables"] (spCheckRead K) := by
  refine F.ok sc_check_tables_that_are_read (fun vs H Q E h => ?_) (fun cdv A outer s H vs Q E hr h => ?_)
  · obtain ⟨d, v, ts, rfl, _⟩ := h
    rfl
  · obtain ⟨d, v, ts, rfl, hv, hl6, O, q⟩ := h
    refine ⟨_, (pss_cons (ps_set (i := 1) sc_check_tables_that_are_read.nd rfl (by first | exact Or.inl rfl | exact Or.inr rfl) (pe_lc (own := [("table", 2)]) (g := gName 2) (tt := tYes) (by rfl) sc_check_tables_that_are_read.nd (pi_list (pv 0)) (blkOk_by (N := ["tables", "names", "table", "row", "read"]) (sc := defScope s_check_tables_that_are_read) (by decide +kernel)) (fun _ _ _ _ _ => (pg_name (i := 2) sc_check_tables_that_are_read.nd rfl (by first | exact Or.inl rfl | exact Or.inr rfl))) (fun _ _ _ _ _ => pts_nil) (fun _ _ _ _ _ => (pe_ix (r := rIxT K) ix_tup (pv 2) pe_int (fun _ _ => rfl)))))
  (pss_one (ps_for PassesOwn.never rfl (pi_enum (by rfl) T.b_enumerate (pa_cons (pv 0) pa_nil)) (pg_tup rfl (pgs_cons (pg_name (i := 3) sc_check_tables_that_are_read.nd rfl (by first | exact Or.inl rfl | exact Or.inr rfl)) (pgs_cons (pg_name (i := 2) sc_check_tables_that_are_read.nd rfl (by first | exact Or.inl rfl | exact Or.inr rfl)) pgs_nil)))
    (pss_one (ps_if (pt_not (pt_val (pe_callB (cr_all rfl) (by rfl) T.b_all (by decide +kernel) (pa_cons (pe_lc (own := [("read", 4)]) (g := gName 4) (tt := tYes) (by rfl) sc_check_tables_that_are_read.nd (pi_list (pe_ix ix_tup (pv 2) pe_int (fun _ _ => rfl))) (blkOk_by (N := ["tables", "names", "table", "row", "read"]) (sc := defScope s_check_tables_that_are_read) (by decide +kernel)) (fun _ _ _ _ _ => (pg_name (i := 4) sc_check_tables_that_are_read.nd rfl (by first | exact Or.inl rfl | exact Or.inr rfl))) (fun _ _ _ _ _ => pts_nil) (fun _ _ _ _ _ => (pe_cmpR (r := rIn K false) op_in_seq (pe_ix (r := rIxT K) ix_tup (pv 4) pe_int (fun _ _ => rfl)) (pv 1) (by rfl)))) pa_nil))))
      (pss_one ps_never)
      pss_nil))))), ?_⟩
    obtain ⟨a, xs, rfl, ha, hd⟩ := dlst hv
    have hxl : xs.length = ts.length := by rw [dps_len hd, List.length_map]
    refine ⟨_, rfl, a, rfl, ⟨_, ha⟩, fun D hD => lc_flat (walk_list (K := K) (a := a) (xs := xs)) (fun i => .str (nth (ts.map (·.n)) i)) (by omega) hD (fun H' sm => sql sm ha) (fun i H x H' y => yat_same y) ?_ ?_⟩
    · rintro i x H1 H2 hi sm ⟨rfl, hx⟩ R hR
      obtain ⟨t, b, l, ys, e1, rfl, g1, _, _⟩ := tb_at (dpsm sm _ _ hd) hx
      have en : nth (ts.map (·.n)) i = t.n := nth_of (by rw [List.getElem?_map, e1]; rfl)
      refine ⟨rfl, _, rfl, b, _, 0, _, rfl, rfl, g1, rfl, ?_⟩
      have r := hR H2 same_refl
      rw [en] at r
      exact r
    · intro H1 sm hD1
      have hD1 : H1 D = some (.lst ((ts.map (·.n)).map V.str)) := by
        rw [hD1, hxl, ← nths, List.length_map]
      refine ⟨_, rfl, a, xs, rfl, sql sm ha, for_it (walk_enum (K := K) (a := a) (xs := xs)) (fun i σ H2 => ∃ y2 y3, σ = [some (.ref a), some (.ref D), y2, y3, none] ∧ Same H1 H2)
        ⟨none, none, rfl, same_refl⟩ (fun i σ H2 _ ⟨_, _, _, s2⟩ => sql (same_tr sm s2) ha) ?_ ?_⟩
      · rintro i x σ H2 H3 hi ⟨y2, y3, rfl, s2⟩ ⟨Tp, z1, z2, rfl, hT, rfl, e1, e2⟩
        cases e1
        have s3 : Same H1 (upd H2 Tp (.tup [.int (i : Nat), z2])) := same_tr s2 (snew hT)
        obtain ⟨t, b, l, ys, f1, rfl, g1, g2, g3⟩ := tb_at (dpsm (same_tr sm s3) _ _ hd) e2
        have htm : t ∈ ts := List.mem_of_getElem? f1
        have hyl : ys.length = t.rs.length := by rw [dps_len g3, List.length_map]
        have h12 := few_reads O htm
        refine ⟨Tp, _, rfl, Or.inl (Or.inl upd_same), rfl, _, _, rfl, _, _, rfl, rfl, ?_⟩
        refine ⟨_, rfl, b, _, 2, _, rfl, rfl, g1, rfl, l, rfl, ⟨ys, g2⟩, fun D2 hD2 => lc_flat (walk_list (K := K) (a := l) (xs := ys)) (fun j => .bl true) (by omega) hD2 (fun H' sm' => sql sm' g2) (fun i H x H' y => yat_same y) ?_ ?_⟩
        · rintro j x H5 H6 hj sm5 ⟨rfl, hx⟩ R hR
          obtain ⟨r, ra, rb, e3, rfl, e4, g5, _⟩ := rd_at (dpsm sm5 _ _ g3) hx
          have hm := O.here t htm r (List.mem_of_getElem? e3)
          refine ⟨rfl, _, rfl, ra, _, 0, _, rfl, rfl, g5, rfl, _, rfl, D, _, rfl, Or.inl (Or.inl (Or.inl (sm5 _ _ (s3 _ _ hD1)))), rfl, flat_strs _, ?_⟩
          rw [inV_str hm]
          exact hR H6 same_refl
        · intro H5 sm5 hD5
          refine ⟨D2, (List.range ys.length).map fun _ => true, rfl, Or.inl (Or.inl ?_), ⟨_, rfl, ?_⟩⟩
          · rw [hD5, List.map_map]
            rfl
          · have e : ((List.range ys.length).map fun _ => true).all id = true := by
              rw [List.all_map, List.all_eq_true]
              intro _ _
              rfl
            rw [e]
            refine iteF ?_
            exact ⟨some (.ref b), some (.int (i : Int)), rfl, same_tr s3 sm5⟩
      · rintro σ H2 ⟨_, _, rfl, s2⟩
        exact q H2 (same_tr sm s2)
def spCheckSystem (K : PySem.W.Frag) : Sp := fun vs H Q _ => ∃ (d m : Int) (v : V) (ts : List Tb), vs = [.int d, v, .int m] ∧ 1 ≤ d ∧ d ≤ 3 ∧ 2 ≤ m ∧ Dp K H v (.list (ts.map Tb.d)) ∧ 1 ≤ ts.length ∧ ts.length ≤ 6 ∧ OkT d ts ∧ ∀ H', Same H H' → Q .non H'
theorem ok_check_system {f : Addr} {fd : FuncData} (F : Fun K "check_system" "check_system" s_check_system f fd) (T : Txt mg) (c_check_tables : C8.Cal P w K mg base 3 "check_tables" (spCheckTables K) []) (c_check_tables_that_are_read : C8.Cal P w K mg base 3 "check_tables_that_are_read" (spCheckRead K) []) :
    FnOk P w K mg base CX0 4 f fd ["dimensions", "tables", "modulus"] (spCheckSystem K) := by
  refine F.ok sc_check_system (fun vs H Q E h => ?_) (fun cdv A outer s H vs Q E hr h => ?_)
  · obtain ⟨d, m, v, ts, rfl, _⟩ := h
    rfl
  · obtain ⟨d, m, v, ts, rfl, hd1, hd3, hm, hv, hl1, hl6, O, q⟩ := h
    refine ⟨_, (pss_cons (ps_if (pt_not (pt_chain op_le op_le pe_int (pv 0) (C8.pe_gc (by rfl) T.g_MOST_DIMENSIONS)))
    (pss_one ps_never)
    pss_nil)
  (pss_cons (ps_if (pt_not (pt_chain op_le op_le pe_int (pe_callB call_len_seq (by rfl) T.b_len PySem.boot_len (pa_cons (pv 1) pa_nil)) (C8.pe_gc (by rfl) T.g_MOST_TABLES)))
    (pss_one ps_never)
    pss_nil)
  (pss_cons (ps_expr (C8.pe_c c_check_tables hr (by decide) (by rfl) (pa_cons (pv 0) (pa_cons (pv 1) pa_nil))))
  (pss_cons (ps_expr (C8.pe_c c_check_tables_that_are_read hr (by decide) (by rfl) (pa_cons (pv 1) pa_nil)))
  (pss_one (ps_if (pt_cmpR op_lt (pv 2) pe_int (nomark _))
    (pss_one ps_never)
    pss_nil)))))), ?_⟩
    obtain ⟨a, xs, rfl, ha, hd⟩ := dlst hv
    have hxl : xs.length = ts.length := by rw [dps_len hd, List.length_map]
    refine ⟨_, rfl, 1, d, rfl, rfl, decide (1 ≤ d), rfl, ?_⟩
    rw [decide_eq_true hd1]
    refine iteT ⟨d, 3, rfl, rfl, decide (d ≤ 3), rfl, ?_⟩
    rw [decide_eq_true hd3]
    refine iteF ?_
    refine ⟨_, rfl, a, xs, rfl, Or.inl ha, 1, _, rfl, rfl, decide (1 ≤ (xs.length : Int)), rfl, ?_⟩
    rw [decide_eq_true (by omega)]
    refine iteT ⟨_, 6, rfl, rfl, decide ((xs.length : Int) ≤ 6), rfl, ?_⟩
    rw [decide_eq_true (by omega)]
    refine iteF ?_
    refine ⟨_, rfl, _, rfl, d, .ref a, ts, rfl, hv, hl6, O, fun H1 s1 => ?_⟩
    refine ⟨_, rfl, d, .ref a, ts, rfl, dpm s1 _ _ hv, hl6, O, fun H2 s2 => ?_⟩
    refine ⟨_, rfl, m, 2, rfl, rfl, decide (m < 2), rfl, ?_⟩
    rw [decide_eq_false (by omega)]
    exact iteF (q H2 (same_tr s1 s2))
/-- a def with a code object that is known -/
structure FunC (K : PySem.W.Frag) (x qual : Str) (st : Stmt) (f : Addr) (fd : FuncData) (c : Addr) : Prop where
  ex : ∃ (oc : Value) (od : Option Addr) (dV kV doc pm : Value) (an : Option Addr) (ct : Value) (osl : Array (Option Value)),
    fd = PySem.W.fnOf x qual (defArgs st) (defBody st) (defScope st) dV kV doc pm an (.ref c) ct ∧ K.lookup f = some ⟨oc, od, .func fd, osl⟩ ∧ PySem.W.codeIn K (.ref c) qual = true
theorem FunC.ok {x qual : Str} {st : Stmt} {f c : Addr} {fd : FuncData} {N ps : List Str} {k : Nat} {sp : Sp} (F : FunC K x qual st f fd c) (S : FnScope N ps (defScope st)) (len : ∀ vs H Q E, sp vs H Q E → vs.length = ps.length)
    (hbody : ∀ (A : Around) (outer : List Env) (s : Shared) (H : Hp) (vs : List V) (Q : VK) (E : XK), Room k (A.deeper (envOfC qual (defScope st) s.heap.objs.size f (.ref c))) → sp vs H Q E →
      ∃ t, PSs (cxOf CX0 P w K mg base N qual (defScope st) f (.ref c) A outer s H E).nox (defBody st) t ∧ t { nx := fun _ H' => Q .non H', rt := Q } (start N vs) H) : FnOk P w K mg base CX0 (k + 1) f fd ps sp := by
  obtain ⟨oc, od, dV, kV, doc, pm, an, ct, osl, rfl, lk, hcd⟩ := F.ex
  refine fn_of lk hcd S len fun A outer s H vs Q E hr hsp => ?_
  obtain ⟨t, h, q⟩ := hbody A outer s H vs Q E hr hsp
  exact ⟨t, h.nox, q⟩
def srt (ts : List Tb) : List Tb := ts.mergeSort (leK Tb.n)
/-- what a system may be made of -/
structure OkSys (d m : Int) (ts : List Tb) : Prop where
  d1 : 1 ≤ d
  d3 : d ≤ 3
  m2 : 2 ≤ m
  l1 : 1 ≤ ts.length
  l6 : ts.length ≤ 6
  ok : OkT d ts
/-- all but the tables of code objects and one object stay -/
def ExtB (s : Addr) (H H' : Hp) : Prop := ∀ b o, H b = some o → b ≠ s → (∀ ps, o ≠ .tbl ps) → H' b = some o
def spInit (K : PySem.W.Frag) (C : Addr) (TT : List (Addr × Str)) : Sp := fun vs H Q _ => ∃ (s dx : Addr) (d m : Int) (v : V) (ts : List Tb), vs = [.ref s, .int d, v, .int m] ∧ H s = some (.ins C dx []) ∧ LamX.Tabs TT H ∧ OkSys d m ts ∧ Dp K H v (.list (ts.map Tb.d)) ∧
  ∀ H', ExtB s H H' → LamX.Tabs TT H' → SysAt K C H' s d m (srt ts) → Q .non H'
theorem ok_init {f C c Pt : Addr} {fd : FuncData} {TT : List (Addr × Str)} (F : FunC K "__init__" "System.__init__" s_System_init f fd c) (T : Txt mg) (TC : TxtC K mg C) (c_check_system : C8.Cal P w K mg base 4 "check_system" (spCheckSystem K) [])
    (TBc : LamX.TabB base mg c Pt) (hmT : (Pt, ("System.__init__.<locals>.<lambda>" : Str)) ∈ TT) (huT : ∀ p ∈ TT, p.1 = Pt → p.2 = ("System.__init__.<locals>.<lambda>" : Str)) : FnOk P w K mg base CX0 5 f fd ["self", "dimensions", "tables", "modulus"] (spInit K C TT) := by
  refine F.ok sc_System_init (fun vs H Q E h => ?_) (fun A outer sh H vs Q E hr h => ?_)
  · obtain ⟨s, dx, d, m, v, ts, rfl, _⟩ := h
    rfl
  · obtain ⟨s, dx, d, m, v, ts, rfl, hs, hT, O, hv, q⟩ := h
    have hu := hu_of hr
    have hcode : (cxOf CX0 P w K mg base ["self", "dimensions", "tables", "modulus", "rows", "name", "constant", "reads"] "System.__init__" (defScope s_System_init) f (.ref c) A outer sh H E).nox.env.code = .ref c := rfl
    refine ⟨_, (pss_cons (ps_expr (C8.pe_c c_check_system hr (by decide) (by rfl) (pa_cons (pv 1) (pa_cons (pv 2) (pa_cons (pv 3) pa_nil)))))
  (pss_cons (ps_fld (pv 0) (pv 1) rfl)
  (pss_cons (ps_fld (pv 0) (pv 3) rfl)
  (pss_cons (ps_set (i := 4) sc_System_init.nd rfl (by first | exact Or.inl rfl | exact Or.inr rfl) (pe_sortKey Tb.n (a := "table") (by rfl) T.b_sorted (pv 2) hr TBc hcode hmT huT rfl ⟨rfl, rfl, rfl, rfl, by decide +kernel, by decide +kernel⟩ (by decide) (fun _ _ _ _ _ _ => rfl)))
  (pss_one (ps_fld (pv 0) (pe_dc (own := [("name", 5), ("constant", 6), ("reads", 7)]) (g := gTup K 3 (gCons (gName 5) (gCons (gName 6) (gCons (gName 7) gNil)))) (tt := tYes) (by rfl) sc_System_init.nd (pi_list (pv 4)) (blkOk_by (N := ["self", "dimensions", "tables", "modulus", "rows", "name", "constant", "reads"]) (sc := defScope s_System_init) (by decide +kernel)) (fun _ _ _ _ _ => (pg_tup rfl (pgs_cons (pg_name (i := 5) sc_System_init.nd rfl (by first | exact Or.inl rfl | exact Or.inr rfl)) (pgs_cons (pg_name (i := 6) sc_System_init.nd rfl (by first | exact Or.inl rfl | exact Or.inr rfl)) (pgs_cons (pg_name (i := 7) sc_System_init.nd rfl (by first | exact Or.inl rfl | exact Or.inr rfl)) pgs_nil))))) (fun _ _ _ _ _ => pts_nil) (fun _ _ _ _ _ => (pv 5)) (fun _ _ _ _ _ => (pe_tup (pa_cons (pv 6) (pa_cons (pe_callTy (r := rTupS K) call_tuple_of (by rfl) T.b_tuple (by decide +kernel) (pa_cons (pv 7) pa_nil)) pa_nil))))) rfl)))))), ?_⟩
    -- check_system(..)
    refine ⟨_, rfl, _, rfl, _, rfl, d, m, v, ts, rfl, O.d1, O.d3, O.m2, hv, O.l1, O.l6, O.ok, fun H1 s1 => ?_⟩
    have hs1 := s1 _ _ hs
    have hT1 := hT.ext s1
    -- self._dimensions, self._modulus
    refine ⟨_, rfl, _, rfl, s, C, dx, _, rfl, hs1, TC.cl, TC.nD, (by show 0 < 1000; decide), ?_⟩
    have hT2 := tabs_ins (o := .ins C dx (putF "_dimensions" (.int d) [])) hT1 hs1
    have d2 : SD H (upd H1 s (.ins C dx (putF "_dimensions" (.int d) []))) := SD.upd (.of s1) hs1 rfl
    have e2 : ExtB s H (upd H1 s (.ins C dx (putF "_dimensions" (.int d) []))) := fun b o h nb _ => by
      rw [upd_ne nb]
      exact s1 b o h
    have hs2 : (upd H1 s (.ins C dx (putF "_dimensions" (.int d) []))) s = some (.ins C dx (putF "_dimensions" (.int d) [])) := upd_same
    generalize upd H1 s (.ins C dx (putF "_dimensions" (.int d) [])) = H2 at hT2 d2 e2 hs2 ⊢
    refine ⟨_, rfl, _, rfl, s, C, dx, _, rfl, hs2, TC.cl, TC.nM, (by show 1 < 1000; decide), ?_⟩
    have hT3 := tabs_ins (o := .ins C dx (putF "_modulus" (.int m) (putF "_dimensions" (.int d) []))) hT2 hs2
    have d3 : SD H (upd H2 s (.ins C dx (putF "_modulus" (.int m) (putF "_dimensions" (.int d) [])))) := SD.upd d2 hs2 rfl
    have e3 : ExtB s H (upd H2 s (.ins C dx (putF "_modulus" (.int m) (putF "_dimensions" (.int d) [])))) := fun b o h nb nt => by
      rw [upd_ne nb]
      exact e2 b o h nb nt
    have hs3 : (upd H2 s (.ins C dx (putF "_modulus" (.int m) (putF "_dimensions" (.int d) [])))) s = some (.ins C dx (putF "_modulus" (.int m) (putF "_dimensions" (.int d) []))) := upd_same
    generalize upd H2 s (.ins C dx (putF "_modulus" (.int m) (putF "_dimensions" (.int d) []))) = H3 at hT3 d3 e3 hs3 ⊢
    -- rows = sorted(..)
    obtain ⟨a, xs, rfl, ha, hd⟩ := dlst hv
    have hxl : xs.length = ts.length := by rw [dps_len hd, List.length_map]
    have hfst : (xs.zip ts).map Prod.fst = xs := by rw [List.map_fst_zip]; omega
    have hsnd : (xs.zip ts).map Prod.snd = ts := by rw [List.map_snd_zip]; omega
    have hbs : ∀ y ∈ xs.zip ts, Dp K H3 y.1 y.2.d := fun y hy => by
      obtain ⟨i, hi⟩ := List.mem_iff_getElem?.mp hy
      obtain ⟨h1, h2⟩ := List.getElem?_zip_eq_some.mp hi
      obtain ⟨t, _, _, _, e1, _⟩ := tb_at hd h1
      obtain ⟨dd, f1, f2⟩ := dps_get hd h1
      rw [List.getElem?_map, h2] at f1
      cases f1
      exact dpd d3 _ _ f2
    refine ⟨_, rfl, a, xs.zip ts, rfl, (by rw [hfst]; exact sqld d3 ha), hT3, fun y hy => ?_, fun H4 x4 hT4 p hp => ?_⟩
    · obtain ⟨b, zs, e1, ht, hz⟩ := dtup (hbs y hy)
      obtain ⟨z1, z2, z3, rfl, g1, g2, g3⟩ := dps3 hz
      obtain rfl := dstr g1
      exact ⟨b, [z2, z3], e1, ht⟩
    · have hsrt : ((xs.zip ts).mergeSort (leK fun y => y.2.n)).map Prod.snd = srt ts := by
        rw [show (leK fun y : V × Tb => y.2.n) = fun a b => leK Tb.n a.2 b.2 from rfl]
        rw [List.map_mergeSort (r := fun a b : V × Tb => leK Tb.n a.2 b.2) (s := leK Tb.n) (f := Prod.snd) (fun _ _ _ _ => rfl), hsnd]
        rfl
      have hmem : ∀ y ∈ (xs.zip ts).mergeSort (leK fun y => y.2.n), Dp K H4 y.1 y.2.d := fun y hy => dpd (.ext x4) _ _ (hbs y (List.mem_mergeSort.mp hy))
      generalize hL : (xs.zip ts).mergeSort (leK fun y => y.2.n) = bs at hsrt hmem ⊢
      have hbl : bs.length = ts.length := by rw [← hL, List.length_mergeSort, List.length_zip]; omega
      have hs4 : H4 s = some (.ins C dx (putF "_modulus" (.int m) (putF "_dimensions" (.int d) []))) := x4 _ _ hs3 fun ps z => by cases z
      have s5 : Same H4 (upd H4 p (.lst (bs.map Prod.fst))) := snew hp
      have hnd : (bs.map fun y => y.2.n).Nodup := by
        have e : (bs.map fun y => y.2.n) = (srt ts).map (·.n) := by
          rw [← hsrt, List.map_map]
          rfl
        rw [e]
        exact ((List.mergeSort_perm ts (leK Tb.n)).map (·.n)).nodup_iff.mpr O.ok.nodup
      -- self._tables = {..}
      refine ⟨_, rfl, p, rfl, ⟨_, Or.inl (Or.inl upd_same)⟩, fun D hD => dc_it (walk_list (K := K) (a := p) (xs := bs.map Prod.fst)) (fun i H' => ∃ (B : Hp) (kvs : List (Key × V)), Same (upd H4 p (.lst (bs.map Prod.fst))) B ∧ B D = none ∧ Same B H' ∧ H' D = some (.dK kvs) ∧ KvAt K B kvs ((srt ts).take i))
        ⟨_, [], same_refl, hD, snew hD, upd_same, .nil⟩ (fun i H' _ ⟨B, kvs, b1, b2, b3, _⟩ => sql b3 (sql b1 (Or.inl (Or.inl upd_same)))) ?_ ?_⟩
      · rintro i x _ Hi hi ⟨B, kvs, b1, b2, b3, b4, b5⟩ ⟨rfl, hx⟩
        rw [List.getElem?_map] at hx
        obtain ⟨y, hy, rfl⟩ := Option.map_eq_some_iff.mp hx
        have hyd := dpm b1 _ _ (dpm s5 _ _ (hmem y (List.mem_of_getElem? hy)))
        obtain ⟨b, zs, e1, ht, hz⟩ := dtup hyd
        obtain ⟨z1, z2, z3, rfl, g1, g2, g3⟩ := dps3 hz
        obtain rfl := dstr g1
        obtain rfl := dint g2
        obtain ⟨l, ys, rfl, hl, hys⟩ := dlst g3
        have hsi : (srt ts)[i]? = some y.2 := by
          rw [← hsrt, List.getElem?_map, hy]
          rfl
        refine ⟨b, _, e1, sqt b3 ht, rfl, _, _, rfl, _, _, rfl, _, _, rfl, rfl, rfl, ?_⟩
        refine ⟨_, rfl, _, rfl, _, rfl, l, ys, rfl, Or.inl ⟨sql b3 hl, fun q1 hq1 => ?_⟩⟩
        refine ⟨(by show 2 ≤ sizeLine; decide), fun q2 hq2 => ?_⟩
        have nq1 : q1 ≠ D := fun z => by
          rw [z, b4] at hq1
          cases hq1
        have nq2 : q2 ≠ D := fun z => by
          rw [z, upd_ne nq1.symm, b4] at hq2
          cases hq2
        have bq1 : B q1 = none := free_of b3 hq1
        have c1 : Same (upd B q1 (.tup ys)) (upd Hi q1 (.tup ys)) := fun c o h => by
          by_cases hc : c = q1
          · rw [hc, upd_same] at h ⊢
            exact h
          · rw [upd_ne hc] at h ⊢
            exact b3 c o h
        have bq2 : (upd B q1 (.tup ys)) q2 = none := free_of c1 hq2
        have c2 : Same (upd (upd B q1 (.tup ys)) q2 (.tup [.int y.2.c, .ref q1])) (upd (upd Hi q1 (.tup ys)) q2 (.tup [.int y.2.c, .ref q1])) := fun c o h => by
          by_cases hc : c = q2
          · rw [hc, upd_same] at h ⊢
            exact h
          · rw [upd_ne hc] at h ⊢
            exact c1 c o h
        have bb : Same B (upd (upd B q1 (.tup ys)) q2 (.tup [.int y.2.c, .ref q1])) := same_tr (snew bq1) (snew bq2)
        have bD : (upd (upd B q1 (.tup ys)) q2 (.tup [.int y.2.c, .ref q1])) D = none := by
          rw [upd_ne nq2.symm, upd_ne nq1.symm]
          exact b2
        have hDv : (upd (upd Hi q1 (.tup ys)) q2 (.tup [.int y.2.c, .ref q1])) D = some (.dK kvs) := by
          rw [upd_ne nq2.symm, upd_ne nq1.symm]
          exact b4
        have hkl : kvs.length ≤ 6 := by
          rw [b5.len, List.length_take]
          have := O.l6
          have : (srt ts).length = ts.length := List.length_mergeSort _
          omega
        refine ⟨kvs, Sum.inr y.2.n, rfl, hDv, small1000 (by omega), ?_⟩
        have hno : valV kvs (Sum.inr y.2.n) = none := b5.noVal (by
          have e : ((srt ts).take i).map (·.n) = (bs.map fun y => y.2.n).take i := by
            rw [← hsrt, List.map_take, List.map_map]
            rfl
          rw [e]
          exact notin_take hnd (by rw [List.getElem?_map, hy]; rfl))
        refine ⟨_, kvs ++ [(Sum.inr y.2.n, .ref q2)], same_tr b1 bb, bD, ?_, ?_, ?_⟩
        · intro c o h
          have hc : c ≠ D := fun z => by
            rw [z, bD] at h
            cases h
          rw [upd_ne hc]
          exact c2 c o h
        · rw [upd_same, putK_new _ hno]
        · rw [List.take_add_one, hsi]
          refine KvAt.app (b5.mono bb) (.cons ⟨rfl, ?_⟩ .nil)
          refine .tup (Or.inl (Or.inl upd_same)) (.cons (.int _) (.cons (.tup (Or.inl (Or.inl ?_)) (dpsm bb _ _ hys)) .nil))
          rw [upd_ne (ne_of_none upd_same bq2)]
          exact upd_same
      · rintro Hf ⟨B, kvs, b1, b2, b3, b4, b5⟩
        have hlen : (bs.map Prod.fst).length = (srt ts).length := by rw [← hsrt, List.length_map, List.length_map]
        rw [hlen, List.take_length] at b5
        have sf : Same H4 Hf := same_tr s5 (same_tr b1 b3)
        have hsf := sf _ _ hs4
        refine ⟨_, rfl, s, C, dx, _, rfl, hsf, TC.cl, TC.nT, (by show 2 < 1000; decide), ?_⟩
        refine q _ (fun b o h nb nt => ?_) (tabs_ins (hT4.ext sf) hsf) ⟨dx, D, kvs, upd_same, ?_, ?_⟩
        · rw [upd_ne nb]
          exact sf _ _ (x4 _ _ (e3 b o h nb nt) nt)
        · rw [upd_ne fun z => by
            rw [z, hsf] at b4
            cases b4]
          exact b4
        · exact b5.monoD (SD.upd (.of b3) hsf rfl)
end
end Fr

namespace Fr
open PySem PySem.Spec PyProof.Rows L2
abbrev s_Ldraw : Stmt := topS 34
theorem sc_Ldraw : FnScope ["_law_pool_here", "_law_many", "_law_drawn", "_law_mixed"] ["_law_pool_here", "_law_many"] (defScope s_Ldraw) := ⟨rfl, rfl, rfl, by decide +kernel, rfl, by decide +kernel, by decide +kernel⟩
-- slots: 0 _law_pool_here, 1 _law_many, 2 _law_drawn, 3 _law_mixed
abbrev s_Lpool : Stmt := topS 33
theorem sc_Lpool : FnScope ["_law_script", "_law_at", "_law_given"] ["_law_script", "_law_at"] (defScope s_Lpool) := ⟨rfl, rfl, rfl, by decide +kernel, rfl, by decide +kernel, by decide +kernel⟩
-- slots: 0 _law_script, 1 _law_at, 2 _law_given
/-- the state of the draws: digits, seed, counter -/
structure RngN (a b c : Int) (m : Nat) : Prop where
  a0 : 0 ≤ a
  a1 : True
  b0 : 0 ≤ b
  b1 : b < 2 ^ 62
  c0 : 0 ≤ c
  c1 : c ≤ m
def RngOk (H : Hp) (r : Addr) (m : Nat) : Prop := ∃ a b c : Int, H r = some (.lst [.int a, .int b, .int c]) ∧ RngN a b c m
theorem RngN.mono {a b c : Int} {m m' : Nat} (h : RngN a b c m) (e : m ≤ m') : RngN a b c m' := ⟨h.a0, h.a1, h.b0, h.b1, h.c0, by have := h.c1; omega⟩
theorem RngOk.mono {H : Hp} {r : Addr} {m m' : Nat} (h : RngOk H r m) (e : m ≤ m') : RngOk H r m' := by
  obtain ⟨a, b, c, h1, h2⟩ := h
  exact ⟨a, b, c, h1, h2.mono e⟩
theorem atI_in {α : Type} {xs : List α} {i : Int} (h0 : 0 ≤ i) (h1 : i < xs.length) : ∃ v, atI xs i = some v ∧ v ∈ xs ∧ xs[i.toNat]? = some v := by
  have h2 : i.toNat < xs.length := by omega
  have e := List.getElem?_eq_getElem h2
  refine ⟨xs[i.toNat], ?_, List.getElem_mem h2, e⟩
  have := atI_nat e
  rw [Int.toNat_of_nonneg h0] at this
  exact this
theorem cut_take (xs : List V) (i : Nat) : cutV xs none (some (i : Int)) = xs.take i := by
  unfold cutV
  rw [show HT.sIx xs.length xs.length (some (i : Int)) = min i xs.length from HT.sIx_nat xs.length xs.length i, HT.sIx_none, List.drop_zero, Nat.sub_zero]
  exact (List.take_eq_take_min).symm
theorem cut_all (xs : List V) (i : Nat) (h : xs.length ≤ i) : cutV xs none (some (i : Int)) = xs := by
  unfold cutV
  rw [show HT.sIx xs.length xs.length (some (i : Int)) = min i xs.length from HT.sIx_nat xs.length xs.length i, HT.sIx_none, List.drop_zero, Nat.sub_zero, Nat.min_eq_right h, List.take_length]
theorem p1060 : ((10 : Int) ^ ((60 : Int).toNat)).natAbs < 2 ^ 200 := by decide +kernel
theorem p1060' : ((10 : Int) ^ ((60 : Int).toNat)) < 2 ^ 200 := by decide +kernel
theorem pos1 : (0 : Int) < 2305843009213693921 := by decide
theorem pos2 : (0 : Int) < 2305843009213693951 := by decide
theorem p1060p : 0 < ((10 : Int) ^ ((60 : Int).toNat)) := by decide +kernel
section
variable {P : Program} {w : World} {K : PySem.W.Frag} {mg : Str → Option Value} {base : Heap}
/-- only the state of the draws changed -/
structure Dr (r : Addr) (m : Nat) (H H' : Hp) : Prop where
  ne : ∀ b, b ≠ r → H' b = H b
  ok : RngOk H' r m
structure RS (r : Addr) (m : Nat) (B H : Hp) : Prop where
  s : Same B H
  n : B r = none
  ok : RngOk H r m
theorem RS.dr {r : Addr} {m m' : Nat} {B H H' : Hp} (h : RS r m B H) (d : Dr r m' H H') : RS r m' B H' := ⟨fun b o e => by
  rw [d.ne b (ne_of_none e h.n)]
  exact h.s b o e, h.n, d.ok⟩
theorem RngOk.at {r : Addr} {m : Nat} {H H' : Hp} (h : RngOk H r m) (e : H' r = H r) : RngOk H' r m := by
  obtain ⟨a, b, c, h1, h2⟩ := h
  exact ⟨a, b, c, by rw [e, h1], h2⟩
theorem RngOk.some {r : Addr} {m : Nat} {H : Hp} (h : RngOk H r m) : ∃ o, H r = some o := by
  obtain ⟨a, b, c, h1, h2⟩ := h
  exact ⟨_, h1⟩
theorem RngOk.new {r p : Addr} {m : Nat} {H : Hp} {o : HO} (h : RngOk H r m) (e : H p = none) : RngOk (upd H p o) r m := by
  obtain ⟨o', ho⟩ := h.some
  exact h.at (upd_ne (ne_of_none ho e))
theorem RS.new {r p : Addr} {m : Nat} {B H : Hp} {o : HO} (h : RS r m B H) (e : H p = none) : RS r m B (upd H p o) := ⟨same_tr h.s (snew e), h.n, h.ok.new e⟩
theorem RS.put {r p : Addr} {m : Nat} {B H : Hp} {o : HO} (h : RS r m B H) (e : B p = none) (n : r ≠ p) : RS r m B (upd H p o) := ⟨swrite h.s e, h.n, h.ok.at (upd_ne n)⟩
/-- a new thing that stays -/
theorem RS.keep {r p : Addr} {m : Nat} {B H : Hp} {o : HO} (h : RS r m B H) (e : H p = some o) (k : B p = none) (n : r ≠ p) : RS r m (upd B p o) H := ⟨fun b x q => by
  by_cases hb : b = p
  · rw [hb, upd_same] at q
    rw [hb, e, q]
  · rw [upd_ne hb] at q
    exact h.s b x q, by rw [upd_ne n]; exact h.n, h.ok⟩
theorem RS.ne {r p : Addr} {m : Nat} {B H : Hp} (h : RS r m B H) (e : H p = none) : r ≠ p := by
  obtain ⟨o', ho⟩ := h.ok.some
  exact ne_of_none ho e
theorem RS.mono {r : Addr} {m m' : Nat} {B H : Hp} (h : RS r m B H) (e : m ≤ m') : RS r m' B H := ⟨h.s, h.n, h.ok.mono e⟩
def spDraw : Sp := fun vs H Q _ => ∃ (r : Addr) (lim : Int) (m : Nat), vs = [.ref r, .int lim] ∧ RngOk H r m ∧ m ≤ 2 ^ 60 ∧ 0 < lim ∧ lim.natAbs < 2 ^ 200 ∧ ∀ d H', 0 ≤ d → d < lim → Dr r (m + 1) H H' → Q (.int d) H'
theorem pos3 : (0 : Int) < 162259276829213363391578010288127 := by decide
theorem pos4 : (0 : Int) < 170141183460469231731687303715884105727 := by decide
theorem pos5 : (0 : Int) < 1048576 := by decide
/-- ** with an exponent up to 5 -/
def CPow5 (i j : Int) : Prop := 0 ≤ j ∧ j ≤ 5 ∧ i.natAbs < 2 ^ 1000000
theorem op_pow5 {X : Cx} : OpR X (binaryOp .Pow) (rI CPow5 fun i j => .int (i ^ j.toNat)) := opI fun i j _ _ _ _ _ hc q => by
  obtain ⟨h0, h3, hb⟩ := hc
  refine pow_int h0 ?_ q
  have b : Builtin.Int.intBits i ≤ i.natAbs.log2 + 1 := by
    unfold Builtin.Int.intBits
    split <;> omega
  have l : i.natAbs.log2 < 1000000 := PySem.Flt.log2_lt_of (by decide) hb
  have c : (Builtin.Int.intBits i : Int) ≤ 1000000 := by omega
  have c0 : (0 : Int) ≤ (Builtin.Int.intBits i : Int) := Int.natCast_nonneg _
  calc (Builtin.Int.intBits i : Int) * j ≤ 1000000 * 5 := Int.mul_le_mul c h3 h0 (by decide)
    _ ≤ 2 ^ 27 := by decide
theorem nat_lt_of {x : Int} {n : Nat} (h0 : 0 ≤ x) (h : x < 2 ^ n) : x.natAbs < 2 ^ n := by
  have e : (x.natAbs : Int) = x := Int.natAbs_of_nonneg h0
  have h' : (x.natAbs : Int) < ((2 ^ n : Nat) : Int) := by
    rw [e]
    push_cast
    exact h
  exact Int.ofNat_lt.mp h'
def spPool (K : PySem.W.Frag) : Sp := fun vs H Q _ => ∃ (a : Addr) (ns : List Int) (i : Nat), vs = [.ref a, .int (i : Int)] ∧ SqL K H a (ns.map V.int) ∧ i ≤ 1000 ∧ ns.length ≤ 63 ∧ ∀ p H', H p = none → Same H H' → RngOk H' p 0 → Q (.ref p) H'
theorem ok_pool {f : Addr} {fd : FuncData} (F : Fun K "_law_pool" "_law_pool" s_Lpool f fd) (T : Txt mg) (zm : mg "max" = none) : FnOk P w K mg base CX0 1 f fd ["_law_script", "_law_at"] (spPool K) := by
  refine F.ok sc_Lpool (fun vs H Q E h => ?_) (fun cdv A outer sh H vs Q E hr h => ?_)
  · obtain ⟨a, ns, i, rfl, _⟩ := h
    rfl
  · obtain ⟨a, ns, i, rfl, ha, hi, hl, q⟩ := h
    refine ⟨_, (pss_cons (ps_set (i := 2) sc_Lpool.nd rfl (by first | exact Or.inl rfl | exact Or.inr rfl) pe_int)
  (pss_cons (ps_if (pt_cmpR op_lt (pv 1) (pe_callB call_len_seq (by rfl) T.b_len PySem.boot_len (pa_cons (pv 0) pa_nil)) (nomark _))
    (pss_one (ps_set (i := 2) sc_Lpool.nd rfl (by first | exact Or.inl rfl | exact Or.inr rfl) (pe_ix ix_list (pv 0) (pv 1) (fun _ _ => rfl))))
    pss_nil)
  (pss_one (ps_ret (pe_lst (pa_cons (pe_callB (call_max2 rfl) (by rfl) zm (by decide +kernel) (pa_cons pe_int (pa_cons (pe_op op_sub (pe_callB call_abs (by rfl) T.b_abs (by decide +kernel) (pa_cons (pv 2) pa_nil)) (pe_op op_pow pe_int pe_int)) pa_nil))) (pa_cons (pe_op op_add (pe_op op_mod (pv 2) pe_int) (pe_op op_mulW pe_int (pe_op op_add (pv 1) pe_int))) (pa_cons pe_int pa_nil)))))))), ?_⟩
    have go : ∀ g : Int, ∀ l, H l = none → Q (.ref l) (upd H l (.lst [.int (if (if g < 0 then -g else g) - 10 ^ ((18 : Int).toNat) > 0 then (if g < 0 then -g else g) - 10 ^ ((18 : Int).toNat) else 0), .int (g % 2305843009213693951 + 3367900543 * ((i : Int) + 1)), .int 0])) := fun g l hl' => by
      refine q l _ hl' (snew hl') ⟨_, _, 0, upd_same, ?_, True.intro, ?_, ?_, by decide, by decide⟩
      · split <;> omega
      · have := Int.emod_nonneg g (show (2305843009213693951 : Int) ≠ 0 by decide)
        omega
      · have := Int.emod_lt_of_pos g pos2
        omega
    have wi : ((i : Int) + 1).natAbs < 2 ^ 100 := by omega
    have hp18 : (10 : Int).natAbs < 2 ^ 64 := by decide
    refine ⟨_, rfl, _, rfl, a, _, rfl, Or.inl ha, (i : Int), _, rfl, rfl, _, rfl, ?_⟩
    refine ite2 (fun h1 => ?_) (fun _ => ?_)
    · have h1 : (i : Int) < ((ns.map V.int).length : Int) := of_decide_eq_true h1
      obtain ⟨v, a1, a2, _⟩ := atI_in (xs := ns.map V.int) (i := (i : Int)) (by omega) h1
      obtain ⟨g, _, rfl⟩ := List.mem_map.mp a2
      refine ⟨_, rfl, _, rfl, a, _, _, _, rfl, rfl, ha, a1, ?_⟩
      exact ⟨_, rfl, g, rfl, 10, 18, rfl, rfl, ⟨by decide, by decide, by decide⟩, _, _, rfl, rfl, _, _, rfl, _, rfl, g, _, rfl, rfl, pos2, _, rfl, _, _, rfl, rfl, _, _, rfl, rfl, wide_mul (a := 100) (b := 100) (by decide) wi (by decide) (by decide) (by decide), _, _, rfl, rfl, (by show 3 ≤ sizeLine; decide), go g⟩
    · exact ⟨_, rfl, 0, rfl, 10, 18, rfl, rfl, ⟨by decide, by decide, by decide⟩, _, _, rfl, rfl, _, _, rfl, _, rfl, 0, _, rfl, rfl, pos2, _, rfl, _, _, rfl, rfl, _, _, rfl, rfl, wide_mul (a := 100) (b := 100) (by decide) wi (by decide) (by decide) (by decide), _, _, rfl, rfl, (by show 3 ≤ sizeLine; decide), go 0⟩
theorem pos6 : (0 : Int) < 2 := by decide
theorem ok_draw {f : Addr} {fd : FuncData} (F : Fun K "_law_draw" "_law_draw" s_Ldraw f fd) (T : Txt mg) : FnOk P w K mg base CX0 1 f fd ["_law_pool_here", "_law_many"] spDraw := by
  refine F.ok sc_Ldraw (fun vs H Q E h => ?_) (fun cdv A outer sh H vs Q E hr h => ?_)
  · obtain ⟨r, lim, m, rfl, _⟩ := h
    rfl
  · obtain ⟨r, lim, m, rfl, ⟨a, b, c, hR, N⟩, hm, l0, l1, q⟩ := h
    refine ⟨_, (pss_cons (ps_if (pt_cmpR op_gt (pe_ix ix_list (pv 0) pe_int (fun _ _ => rfl)) pe_int (nomark _))
    (pss_cons (ps_set (i := 2) sc_Ldraw.nd rfl (by first | exact Or.inl rfl | exact Or.inr rfl) (pe_op op_mod (pe_ix ix_list (pv 0) pe_int (fun _ _ => rfl)) (pv 1)))
    (pss_cons (ps_asg (pe_op op_fdivW (pe_ix ix_list (pv 0) pe_int (fun _ _ => rfl)) (pv 1)) (pg_sub (pv 0) pe_int set_list))
    (pss_one (ps_ret (pv 2)))))
    pss_nil)
  (pss_cons (ps_asg (pe_op op_add (pe_ix ix_list (pv 0) pe_int (fun _ _ => rfl)) pe_int) (pg_sub (pv 0) pe_int set_list))
  (pss_cons (ps_set (i := 3) sc_Ldraw.nd rfl (by first | exact Or.inl rfl | exact Or.inr rfl) (pe_op op_mod (pe_op op_pow5 (pe_op op_add (pe_ix ix_list (pv 0) pe_int (fun _ _ => rfl)) (pe_op op_mulW pe_int (pe_ix ix_list (pv 0) pe_int (fun _ _ => rfl)))) pe_int) pe_int))
  (pss_cons (ps_set (i := 3) sc_Ldraw.nd rfl (by first | exact Or.inl rfl | exact Or.inr rfl) (pe_op op_mod (pe_op op_pow5 (pe_op op_add (pv 3) (pe_op op_mulW pe_int (pe_ix ix_list (pv 0) pe_int (fun _ _ => rfl)))) pe_int) pe_int))
  (pss_one (ps_ret (pe_op op_mod (pe_op op_fdivW (pv 3) pe_int) (pv 1)))))))), ?_⟩
    have sq : SqL K H r [.int a, .int b, .int c] := Or.inl (Or.inl hR)
    refine ⟨_, rfl, r, _, 0, _, rfl, rfl, sq, rfl, a, 0, rfl, rfl, decide (0 < a), rfl, ?_⟩
    refine ite2 (fun h0 => ?_) (fun h0 => ?_)
    · have h0 : 0 < a := of_decide_eq_true h0
      refine ⟨_, rfl, r, _, 0, _, rfl, rfl, sq, rfl, _, rfl, a, lim, rfl, rfl, l0, ?_⟩
      refine ⟨_, rfl, r, _, 0, _, rfl, rfl, sq, rfl, _, rfl, a, lim, rfl, rfl, wide_div l0 l1 (by decide) (by decide), ?_⟩
      · refine ⟨_, rfl, r, _, 0, 0, rfl, rfl, hR, rfl, ?_⟩
        refine ⟨_, rfl, q _ _ (Int.emod_nonneg _ (Int.ne_of_gt l0)) (Int.emod_lt_of_pos _ l0) ⟨fun x hx => upd_ne hx, _, b, c, upd_same, ?_⟩⟩
        exact ⟨Int.ediv_nonneg N.a0 (Int.le_of_lt l0), True.intro, N.b0, N.b1, N.c0, by have := N.c1; omega⟩
    · have hc : (c + 1).natAbs < 2 ^ 100 := by
        have h1 := N.c0
        have h2 := N.c1
        omega
      have hcc : c + 1 ≤ ((m + 1 : Nat) : Int) := by
        have h2 := N.c1
        omega
      refine ⟨_, rfl, r, _, 2, _, rfl, rfl, sq, rfl, c, 1, rfl, rfl, _, rfl, r, _, 2, 2, rfl, rfl, hR, rfl, ?_⟩
      have dr : Dr r (m + 1) H (upd H r (.lst [.int a, .int b, .int (c + 1)])) := ⟨fun x hx => upd_ne hx, a, b, c + 1, upd_same, ⟨N.a0, N.a1, N.b0, N.b1, by have := N.c0; omega, hcc⟩⟩
      have hR' : (upd H r (.lst [.int a, .int b, .int (c + 1)])) r = some (.lst [.int a, .int b, .int (c + 1)]) := upd_same
      have sq2 : SqL K (upd H r (.lst [.int a, .int b, .int (c + 1)])) r [.int a, .int b, .int (c + 1)] := Or.inl (Or.inl hR')
      have c0 := N.c0
      have b0 := N.b0
      have b1 := N.b1
      have hc9 : c + 1 < 2 ^ 100 := by omega
      have w1 : (b + 15488653 * (c + 1)).natAbs < 2 ^ 1000000 := Nat.lt_of_lt_of_le (m := 2 ^ 200) (by omega) (Nat.pow_le_pow_right (by decide) (by decide))
      refine ⟨_, rfl, r, _, 1, _, rfl, rfl, sq2, rfl, _, rfl, r, _, 2, _, rfl, rfl, sq2, rfl, _, _, rfl, rfl, wide_mul (a := 100) (b := 100) (by decide) hc (by decide) (by decide) (by decide), _, _, rfl, rfl, _, 3, rfl, rfl, ⟨by decide, by decide, w1⟩, _, _, rfl, rfl, pos3, ?_⟩
      have x0 := Int.emod_nonneg ((b + 15488653 * (c + 1)) ^ 3) (Int.ne_of_gt pos3)
      have x1 := Int.emod_lt_of_pos ((b + 15488653 * (c + 1)) ^ 3) pos3
      have w2 : ((b + 15488653 * (c + 1)) ^ 3 % 162259276829213363391578010288127 + 32454427 * (c + 1)).natAbs < 2 ^ 1000000 := Nat.lt_of_lt_of_le (m := 2 ^ 200) (by omega) (Nat.pow_le_pow_right (by decide) (by decide))
      refine ⟨_, rfl, _, rfl, r, _, 2, _, rfl, rfl, sq2, rfl, _, _, rfl, rfl, wide_mul (a := 100) (b := 100) (by decide) hc (by decide) (by decide) (by decide), _, _, rfl, rfl, _, 5, rfl, rfl, ⟨by decide, by decide, w2⟩, _, _, rfl, rfl, pos4, ?_⟩
      refine ⟨_, rfl, _, _, rfl, rfl, wide_div pos5 (b := 100) (by decide) (by decide) (by decide), _, rfl, _, lim, rfl, rfl, l0, ?_⟩
      exact q _ _ (Int.emod_nonneg _ (Int.ne_of_gt l0)) (Int.emod_lt_of_pos _ l0) dr
end
end Fr

namespace Fr
open PySem PySem.Spec PyProof.Rows L2
/-- all but one place -/
def cutr (H : Hp) (r : Addr) : Hp := fun b => if b = r then none else H b
theorem cutr_ne {H : Hp} {r b : Addr} (h : b ≠ r) : cutr H r b = H b := if_neg h
theorem RS.cut {r : Addr} {m : Nat} {H : Hp} (h : RngOk H r m) : RS r m (cutr H r) H := ⟨fun b o e => by
  unfold cutr at e
  split at e
  · cases e
  · exact e, if_pos rfl, h⟩
section
variable {P : Program} {w : World} {K : PySem.W.Frag} {mg : Str → Option Value} {base : Heap}
def Good (d : PyData) : Prop := d.canLay0 = true ∧ d.depth ≤ 30
theorem goods : ∀ {ds : List PyData}, (∀ d ∈ ds, Good d) → PyData.canLayAll0 ds = true ∧ PyData.depthAll ds ≤ 30
  | [], _ => ⟨by simp [PyData.canLayAll0], by simp [PyData.depthAll]⟩
  | d :: ds, h => by
    obtain ⟨h1, h2⟩ := h d List.mem_cons_self
    obtain ⟨h3, h4⟩ := goods fun e he => h e (List.mem_cons_of_mem _ he)
    exact ⟨by simp [PyData.canLayAll0, h1, h3], by simp [PyData.depthAll]; omega⟩
theorem shaped_list {ds : List PyData} (h : ∀ d ∈ ds, Good d) : SeqAt.shaped (.list ds) = true := by
  obtain ⟨h1, h2⟩ := goods h
  unfold SeqAt.shaped
  rw [Bool.and_eq_true]
  refine ⟨by simpa [PyData.canLay0] using h1, decide_eq_true ?_⟩
  simp [PyData.depth]
  omega
theorem eqv_nil (ds : List PyData) : PyData.eqv (.list ds) (.list []) = ds.isEmpty := by
  cases ds <;> simp [PyData.eqv, PyData.eqvAll]
theorem dps_erase : ∀ {H : Hp} {ds : List PyData} {vs : List V} {k : Nat}, DpAll K H vs ds → DpAll K H (vs.eraseIdx k) (ds.eraseIdx k)
  | _, [], _, _, h => by cases h; exact .nil
  | _, d :: ds, _, 0, h => by
    cases h with
    | cons h1 h2 => exact h2
  | _, d :: ds, _, k + 1, h => by
    cases h with
    | cons h1 h2 => exact .cons h1 (dps_erase h2)
theorem perm_erase {α : Type} : ∀ {xs : List α} {k : Nat} {x : α}, xs[k]? = some x → List.Perm xs (x :: xs.eraseIdx k)
  | [], _, _, h => by cases h
  | y :: xs, 0, x, h => by cases h; exact .refl _
  | y :: xs, k + 1, x, h => by
    have := perm_erase (xs := xs) (k := k) (x := x) (by simpa using h)
    exact (this.cons y).trans (.swap _ _ _)
end
end Fr

namespace Fr
open PySem PySem.Spec PyProof.Rows L2
/-- a statement, up to what holds behind it -/
def tCsq (t : TS) : TS := fun D σ H => ∃ N : L2.St → Hp → Prop, (∀ σ H, N σ H → D.nx σ H) ∧ t { D with nx := N } σ H
theorem ps_csq {X : Cx} {st : Stmt} {t : TS} (h : PS X st t) : PS X st (tCsq t) := ⟨fun pins s σ H D I ⟨N, hN, q⟩ => thn (h.run pins s σ H _ I q) fun f s2 q2 => by
  cases f with
  | next =>
    obtain ⟨σ3, H3, I3, n3⟩ := q2
    exact ⟨σ3, H3, I3, hN _ _ n3⟩
  | cont => exact q2
  | brk => exact q2
  | ret v => exact q2⟩
def W0 : List Str := ["a", "b", "c", "ab", "zz", "readhere"]
def row5 (x : Str) : Str := "row" ++ cutS x none (some 5)
theorem W0_names : ∀ x ∈ W0, isName x = true ∧ isName (row5 x) = true ∧ x.length ≤ 8 ∧ PyData.strOk x = true ∧ PyData.strOk (row5 x) = true ∧ (cutS x none (some 5)).length ≤ 5 := by decide +kernel
theorem W0_nodup : W0.Nodup := by decide +kernel
theorem W0_nodup5 : (W0.map row5).Nodup := by decide +kernel
/-- what words may be -/
structure Words (ws : List Str) (n : Nat) : Prop where
  len : ws.length = n
  nodup : ws.Nodup
  names : ∀ x ∈ ws, isName x = true
  oks : ∀ x ∈ ws, PyData.strOk x = true
  src : (∀ x ∈ ws, x ∈ W0) ∨ ∀ x ∈ ws, x ∈ W0.map row5
def unstr : PyData → Str
  | .str x => x
  | _ => Str.empty
theorem perm_words {es : List PyData} (h : List.Perm (W0.map PyData.str) es) : ∃ ws, es = ws.map PyData.str ∧ List.Perm W0 ws := by
  refine ⟨es.map unstr, ?_, ?_⟩
  · rw [List.map_map]
    refine (List.map_id es).symm.trans (List.map_congr_left fun e he => ?_)
    obtain ⟨x, _, rfl⟩ := List.mem_map.mp (h.mem_iff.mpr he)
    rfl
  · have := h.map unstr
    rw [List.map_map] at this
    have e : W0.map (unstr ∘ PyData.str) = W0 := by
      refine (List.map_congr_left fun e he => ?_).trans (List.map_id W0)
      rfl
    rw [e] at this
    exact this
theorem nthsf (l : List Str) (g : Str → Str) : (List.range l.length).map (fun i => V.str (g (nth l i))) = (l.map g).map V.str := by
  have := range_map_get ((l.map g).map V.str) (fun i => V.str (g (nth l i))) (fun i b hb => by
    rw [List.getElem?_map, List.getElem?_map] at hb
    obtain ⟨c, h1, h2⟩ := Option.map_eq_some_iff.mp hb
    obtain ⟨c', h3, h4⟩ := Option.map_eq_some_iff.mp h1
    rw [nth_of h3, h4]
    exact h2)
  rw [List.length_map, List.length_map] at this
  exact this
theorem RS.grow {r : Addr} {m : Nat} {B H H' : Hp} (h : RS r m B H) (e : Same H H') : RS r m B H' := ⟨same_tr h.s e, h.n, by
  obtain ⟨o, ho⟩ := h.ok.some
  exact h.ok.at (by rw [ho, e _ _ ho])⟩
section
variable {P : Program} {w : World} {K : PySem.W.Frag} {mg : Str → Option Value} {base : Heap}
theorem strs_dps {H : Hp} : ∀ (xs : List Str), DpAll K H (xs.map V.str) (xs.map PyData.str)
  | [] => .nil
  | x :: xs => .cons (.str x) (strs_dps xs)
theorem dps_strs {H : Hp} : ∀ {xs : List Str} {vs : List V}, DpAll K H vs (xs.map PyData.str) → vs = xs.map V.str
  | [], _, h => by cases h; rfl
  | n :: ns, _, h => by
    cases h with
    | cons h1 h2 => cases h1; rw [dps_strs h2]; rfl
structure Row1 where
  t : Addr
  w : Str
  c : Int
  l : Addr
  rs : List Rd1
def Row1.tb (y : Row1) : Tb := ⟨y.w, y.c, y.rs⟩
structure RowsAt (K : PySem.W.Frag) (B H : Hp) (r : Addr) (rows : List Row1) : Prop where
  at_ : ∀ (i : Nat) (y : Row1), rows[i]? = some y → SqT K B y.t [.str y.w, .int y.c, .ref y.l] ∧ B y.l = none ∧ r ≠ y.l ∧ ∃ xs, H y.l = some (.lst xs) ∧ DpAll K B xs (y.rs.map Rd1.d)
  inj : ∀ (i j : Nat) (y z : Row1), rows[i]? = some y → rows[j]? = some z → y.l = z.l → i = j
theorem RowsAt.step {B B' H H' : Hp} {r : Addr} {rows : List Row1} (h : RowsAt K B H r rows) (e : Same B B') (f : ∀ (i : Nat) (y : Row1), rows[i]? = some y → B' y.l = none ∧ H' y.l = H y.l) : RowsAt K B' H' r rows :=
  ⟨fun i y hy => by
    obtain ⟨a1, a2, a3, xs, a4, a5⟩ := h.at_ i y hy
    obtain ⟨b1, b2⟩ := f i y hy
    exact ⟨sqt e a1, b1, a3, xs, by rw [b2, a4], dpsm e _ _ a5⟩, h.inj⟩
theorem get_snoc {α : Type} {xs : List α} {x y : α} {i : Nat} (h : (xs ++ [x])[i]? = some y) : (xs[i]? = some y ∧ i < xs.length) ∨ (i = xs.length ∧ y = x) := by
  by_cases hi : i < xs.length
  · rw [List.getElem?_append_left hi] at h
    exact .inl ⟨h, hi⟩
  · rw [List.getElem?_append_right (by omega)] at h
    have : i - xs.length = 0 := by
      by_cases h0 : i - xs.length = 0
      · exact h0
      · rw [List.getElem?_eq_none (by simp; omega)] at h
        cases h
    rw [this] at h
    cases h
    exact .inr ⟨by omega, rfl⟩
theorem RowsAt.snoc {B H : Hp} {r : Addr} {rows : List Row1} {y : Row1} (h : RowsAt K B H r rows) (a : SqT K B y.t [.str y.w, .int y.c, .ref y.l]) (b : B y.l = none) (c : r ≠ y.l) (d : H y.l = some (.lst [])) (e : y.rs = []) (n : ∀ (i : Nat) (z : Row1), rows[i]? = some z → z.l ≠ y.l) : RowsAt K B H r (rows ++ [y]) :=
  ⟨fun i z hz => by
    rcases get_snoc hz with ⟨h1, _⟩ | ⟨_, rfl⟩
    · exact h.at_ i z h1
    · exact ⟨a, b, c, [], d, by rw [e]; exact .nil⟩, fun i j y' z hy hz hl => by
    rcases get_snoc hy with ⟨h1, k1⟩ | ⟨k1, rfl⟩ <;> rcases get_snoc hz with ⟨h2, k2⟩ | ⟨k2, rfl⟩
    · exact h.inj i j _ _ h1 h2 hl
    · exact absurd hl (n _ _ h1)
    · exact absurd hl.symm (n _ _ h2)
    · omega⟩
theorem get_set {α : Type} {xs : List α} {x y : α} {i j : Nat} (h : (xs.set j x)[i]? = some y) : (i = j ∧ y = x) ∨ (i ≠ j ∧ xs[i]? = some y) := by
  by_cases hi : j = i
  · subst hi
    rw [List.getElem?_set_self'] at h
    cases hx : xs[j]? with
    | none =>
      rw [hx] at h
      cases h
    | some z =>
      rw [hx] at h
      cases h
      exact .inl ⟨rfl, rfl⟩
  · rw [List.getElem?_set_ne hi] at h
    exact .inr ⟨fun e => hi e.symm, h⟩
theorem map_set_same {α β : Type} {xs : List α} {x y : α} {j : Nat} {f : α → β} (h : xs[j]? = some y) (e : f x = f y) : (xs.set j x).map f = xs.map f := by
  rw [List.map_set, e]
  refine List.ext_getElem? fun i => ?_
  by_cases hi : j = i
  · subst hi
    rw [List.getElem?_set_self', List.getElem?_map, h]
    rfl
  · rw [List.getElem?_set_ne hi]
theorem sum_set {α : Type} {f : α → Nat} : ∀ {xs : List α} {x y : α} {j : Nat}, xs[j]? = some y → f x = f y + 1 → ((xs.set j x).map f).sum = (xs.map f).sum + 1
  | [], _, _, _, h, _ => by cases h
  | z :: xs, x, y, 0, h, e => by
    cases h
    simp [e]
    omega
  | z :: xs, x, y, j + 1, h, e => by
    have := sum_set (xs := xs) (x := x) (y := y) (j := j) (by simpa using h) e
    rw [List.set_cons_succ, List.map_cons, List.map_cons, List.sum_cons, List.sum_cons, this]
    omega
/-- a read more at the j-th row -/
theorem RowsAt.put {B H : Hp} {r : Addr} {rows : List Row1} {y : Row1} {j : Nat} {rd : Rd1} {v : V} {xs : List V} (h : RowsAt K B H r rows) (e : rows[j]? = some y) (hx : H y.l = some (.lst xs)) (hv : Dp K B v rd.d) :
    RowsAt K B (upd H y.l (.lst (xs ++ [v]))) r (rows.set j { y with rs := y.rs ++ [rd] }) :=
  ⟨fun i z hz => by
    rcases get_set hz with ⟨rfl, rfl⟩ | ⟨ne, hz⟩
    · obtain ⟨a1, a2, a3, xs', a4, a5⟩ := h.at_ _ y e
      rw [hx] at a4
      cases a4
      refine ⟨a1, a2, a3, xs ++ [v], upd_same, ?_⟩
      show DpAll K B (xs ++ [v]) ((y.rs ++ [rd]).map Rd1.d)
      rw [List.map_append]
      exact dps_snoc a5 hv
    · obtain ⟨a1, a2, a3, xs', a4, a5⟩ := h.at_ _ z hz
      refine ⟨a1, a2, a3, xs', ?_, a5⟩
      rw [upd_ne fun hl => ne (h.inj i j z y hz e hl)]
      exact a4, fun i i' z z' hz hz' hl => by
    rcases get_set hz with ⟨rfl, rfl⟩ | ⟨ne, hz1⟩ <;> rcases get_set hz' with ⟨rfl, rfl⟩ | ⟨ne', hz2⟩
    · rfl
    · exact h.inj _ _ y z' e hz2 hl
    · exact h.inj _ _ z y hz1 e hl
    · exact h.inj _ _ z z' hz1 hz2 hl⟩
theorem RowsAt.dr {B H H' : Hp} {r : Addr} {m : Nat} {rows : List Row1} (h : RowsAt K B H r rows) (d : Dr r m H H') : RowsAt K B H' r rows := h.step same_refl fun j y hy => ⟨(h.at_ j y hy).2.1, d.ne _ (h.at_ j y hy).2.2.1.symm⟩
theorem RowsAt.new {B H : Hp} {r p : Addr} {o : HO} {rows : List Row1} (h : RowsAt K B H r rows) (e : H p = none) : RowsAt K B (upd H p o) r rows := h.step same_refl fun j y hy => by
  obtain ⟨a1, a2, a3, xs, a4, a5⟩ := h.at_ j y hy
  exact ⟨a2, upd_ne (ne_of_none a4 e)⟩
theorem dps_of {α : Type} {H : Hp} {f : α → V} {g : α → PyData} : ∀ {xs : List α}, (∀ x ∈ xs, Dp K H (f x) (g x)) → DpAll K H (xs.map f) (xs.map g)
  | [], _ => .nil
  | x :: xs, h => .cons (h x List.mem_cons_self) (dps_of fun y hy => h y (List.mem_cons_of_mem _ hy))
theorem yes_if {σ : L2.St} {H : Hp} {A B : Hp → Prop} (h : A H) : tYes σ H (fun b H3 => if b = true then A H3 else B H3) := by
  show (if true = true then A H else B H)
  rw [if_pos rfl]
  exact h
theorem mem_le_sum {α : Type} {f : α → Nat} : ∀ {xs : List α} {x : α}, x ∈ xs → f x ≤ (xs.map f).sum
  | [], _, h => by cases h
  | y :: xs, x, h => by
    rw [List.map_cons, List.sum_cons]
    rcases List.mem_cons.mp h with rfl | h
    · omega
    · have := mem_le_sum (f := f) h
      omega
theorem sum_zero {α : Type} {f : α → Nat} : ∀ {xs : List α}, (∀ x ∈ xs, f x = 0) → (xs.map f).sum = 0
  | [], _ => rfl
  | x :: xs, h => by
    rw [List.map_cons, List.sum_cons, h x List.mem_cons_self, sum_zero fun y hy => h y (List.mem_cons_of_mem _ hy)]
theorem RS.vec {r q : Addr} {m m' : Nat} {B H H' : Hp} {o : HO} (h : RS r m B H) (e : RS r m' (upd (cutr H r) q o) H') (n : cutr H r q = none) (k : r ≠ q) : RS r m' (upd B q o) H' ∧ B q = none ∧ H q = none ∧ ∀ b, b ≠ r → H b ≠ none → H' b = H b := by
  have hq : H q = none := by
    rw [cutr_ne k.symm] at n
    exact n
  have keep : ∀ b, b ≠ r → H b ≠ none → H' b = H b := fun b nb hb => by
    cases ho : H b with
    | none => exact absurd ho hb
    | some o' =>
      refine e.s b o' ?_
      rw [upd_ne (ne_of_none ho hq), cutr_ne nb]
      exact ho
  refine ⟨⟨fun b x hx => ?_, by rw [upd_ne k]; exact h.n, e.ok⟩, free_of h.s hq, hq, keep⟩
  by_cases hb : b = q
  · rw [hb, upd_same] at hx
    rw [hb]
    exact e.s q x (by rw [upd_same]; exact hx)
  · rw [upd_ne hb] at hx
    have hH := h.s b x hx
    rw [keep b (ne_of_none hx h.n) (by rw [hH]; exact fun z => by cases z)]
    exact hH
/-- a list of data that may still be changed -/
def LD (K : PySem.W.Frag) (H : Hp) (l : Addr) (ds : List PyData) : Prop := ∃ xs, H l = some (.lst xs) ∧ DpAll K H xs ds
theorem LD.dp {H : Hp} {l : Addr} {ds : List PyData} (h : LD K H l ds) : Dp K H (.ref l) (.list ds) := by
  obtain ⟨xs, h1, h2⟩ := h
  exact .lst (Or.inl (Or.inl h1)) h2
theorem LD.grow {H H' : Hp} {l : Addr} {ds : List PyData} (h : LD K H l ds) (e : Same H H') : LD K H' l ds := by
  obtain ⟨xs, h1, h2⟩ := h
  exact ⟨xs, e _ _ h1, dpsm e _ _ h2⟩
/-- numbers within bounds -/
structure SmT (t : Tb) : Prop where
  c : -99 ≤ t.c ∧ t.c ≤ 99
  f : ∀ rd ∈ t.rs, -10 ≤ rd.f ∧ rd.f ≤ 10
  v : ∀ rd ∈ t.rs, ∀ x ∈ rd.v, -1000 ≤ x ∧ x ≤ 1000
end
end Fr

namespace Fr
open PySem PySem.Spec PyProof.Rows L2
/-- a read of the laws: who, its number, whom, the vector -/
structure RowP where
  w : Str
  n : Nat
  o : Str
  v : List Int
def RowP.d (y : RowP) : PyData := .tuple [.str y.w, .int (y.n : Int), .str y.o, .tuple (y.v.map .int)]
theorem dps4 {K : PySem.W.Frag} {H : Hp} {a b c e : PyData} {vs : List V} (h : DpAll K H vs [a, b, c, e]) : ∃ x y z u, vs = [x, y, z, u] ∧ Dp K H x a ∧ Dp K H y b ∧ Dp K H z c ∧ Dp K H u e := by
  cases h with
  | cons h1 h =>
    obtain ⟨y, z, u, rfl, h2, h3, h4⟩ := dps3 h
    exact ⟨_, _, _, _, rfl, h1, h2, h3, h4⟩
theorem row_at {K : PySem.W.Frag} {H : Hp} {xs : List V} {rows : List RowP} {i : Nat} {x : V} (h : DpAll K H xs (rows.map RowP.d)) (e : xs[i]? = some x) : ∃ y a b, rows[i]? = some y ∧ x = .ref a ∧ SqT K H a [.str y.w, .int (y.n : Int), .str y.o, .ref b] ∧ SqT K H b (y.v.map V.int) := by
  obtain ⟨d, e1, e2⟩ := dps_get h e
  rw [List.getElem?_map] at e1
  obtain ⟨y, e3, rfl⟩ := Option.map_eq_some_iff.mp e1
  obtain ⟨a, zs, rfl, ht, hd⟩ := dtup e2
  obtain ⟨z1, z2, z3, z4, rfl, h1, h2, h3, h4⟩ := dps4 hd
  obtain rfl := dstr h1
  obtain rfl := dint h2
  obtain rfl := dstr h3
  obtain ⟨b, ys, rfl, hb, hy⟩ := dtup h4
  obtain rfl := dps_ints hy
  exact ⟨y, a, b, e3, rfl, ht, hb⟩
theorem good_row (y : RowP) (h1 : PyData.strOk y.w = true) (h2 : PyData.strOk y.o = true) : Good y.d := by
  have hi : ∀ ns : List Int, PyData.canLayAll0 (ns.map PyData.int) = true ∧ PyData.depthAll (ns.map PyData.int) = 0 := by
    intro ns
    induction ns with
    | nil => exact ⟨by simp [PyData.canLayAll0], by simp [PyData.depthAll]⟩
    | cons n ns ih => exact ⟨by simp [PyData.canLayAll0, PyData.canLay0, ih.1], by simp [PyData.depthAll, PyData.depth, ih.2]⟩
  unfold RowP.d
  exact ⟨by simp [PyData.canLay0, PyData.canLayAll0, h1, h2, hi], by simp [PyData.depth, PyData.depthAll, hi]⟩
abbrev s_Lvector : Stmt := topS 35
theorem sc_Lvector : FnScope ["_law_pool_here", "_law_axes", "_law_rows", "_law_found", "_law_axis", "_law_part"] ["_law_pool_here", "_law_axes", "_law_rows"] (defScope s_Lvector) := ⟨rfl, rfl, rfl, by decide +kernel, rfl, by decide +kernel, by decide +kernel⟩
-- slots: 0 _law_pool_here, 1 _law_axes, 2 _law_rows, 3 _law_found, 4 _law_axis, 5 _law_part
section
variable {P : Program} {w : World} {K : PySem.W.Frag} {mg : Str → Option Value} {base : Heap}
def Five (v : List Int) : Prop := ∀ x ∈ v, -5 ≤ x ∧ x ≤ 5
def spVec (K : PySem.W.Frag) : Sp := fun vs H Q _ => ∃ (r lr : Addr) (ax : Int) (m : Nat) (B : Hp) (rows : List RowP), vs = [.ref r, .int ax, .ref lr] ∧ RS r m B H ∧ 1 ≤ ax ∧ ax ≤ 3 ∧ LD K B lr (rows.map RowP.d) ∧ (∀ y ∈ rows, (y.v.length : Int) = ax ∧ Five y.v ∧ PyData.strOk y.w = true ∧ PyData.strOk y.o = true) ∧ rows.length ≤ 100 ∧ m ≤ 2 ^ 59 ∧
  ∀ p H' (v : List Int), B p = none → r ≠ p → (v.length : Int) = ax → Five v → RS r (m + 20) (upd B p (.tup (v.map V.int))) H' → Q (.ref p) H'
theorem ok_vec {f : Addr} {fd : FuncData} (F : Fun K "_law_vector" "_law_vector" s_Lvector f fd) (T : Txt mg) (zm : mg "max" = none) (c_Ldraw : C8.Cal P w K mg base 1 "_law_draw" spDraw []) : FnOk P w K mg base CX0 2 f fd ["_law_pool_here", "_law_axes", "_law_rows"] (spVec K) := by
  refine F.ok sc_Lvector (fun vs H Q E h => ?_) (fun cdv A outer sh H vs Q E hr h => ?_)
  · obtain ⟨r, lr, ax, m, B, rows, rfl, _⟩ := h
    rfl
  · obtain ⟨r, lr, ax, m, B, rows, rfl, R, ha1, ha3, hrw, hrows, hlen, hm, q⟩ := h
    refine ⟨_, (pss_cons (ps_setLc (i := 3) (own := [("_law_axis", 4)]) (g := gName 4) (tt := tYes) (by rfl) sc_Lvector.nd rfl rfl (sw_true rfl rfl rfl (by decide +kernel)) (pi_range1 (by rfl) T.b_range (pa_cons (pv 1) pa_nil)) (blkOk_by (N := ["_law_pool_here", "_law_axes", "_law_rows", "_law_found", "_law_axis", "_law_part"]) (sc := defScope s_Lvector) (by decide +kernel)) (fun _ _ _ _ _ => (pg_name (i := 4) sc_Lvector.nd rfl (by first | exact Or.inl rfl | exact Or.inr rfl))) (fun _ _ _ _ _ => pts_nil) (fun _ _ _ _ _ => (pe_ix (r := rIxL K) ix_list (pe_lst (pa_cons pe_int (pa_cons pe_int (pa_cons pe_int (pa_cons (pe_un un_neg pe_int) (pa_cons pe_int (pa_cons (pe_un un_neg pe_int) (pa_cons pe_int (pa_cons (pe_op op_sub (C8.pe_c c_Ldraw hr (by decide) (by rfl) (pa_cons (pv 0) (pa_cons pe_int pa_nil))) pe_int) pa_nil))))))))) (C8.pe_c c_Ldraw hr (by decide) (by rfl) (pa_cons (pv 0) (pa_cons pe_int pa_nil))) (fun _ _ => rfl))))
  (pss_cons (ps_if (PW.pt (pw_and (pt_cmpR (op_neD hr.units) (pv 2) (pe_lst pa_nil) (nomark _)) (pw_and1 (pt_cmpR op_eq (C8.pe_c c_Ldraw hr (by decide) (by rfl) (pa_cons (pv 0) (pa_cons pe_int pa_nil))) pe_int (nomark _)))))
    (pss_cons (ps_setLc (i := 3) (own := [("_law_part", 5)]) (g := gName 5) (tt := tYes) (by rfl) sc_Lvector.nd rfl rfl (sw_true rfl rfl rfl (by decide +kernel)) (pi_tup (pe_ix ix_tup (pe_ix ix_list (pv 2) (C8.pe_c c_Ldraw hr (by decide) (by rfl) (pa_cons (pv 0) (pa_cons (pe_callB call_len_seq (by rfl) T.b_len PySem.boot_len (pa_cons (pv 2) pa_nil)) pa_nil))) (fun _ _ => rfl)) pe_int (fun _ _ => rfl))) (blkOk_by (N := ["_law_pool_here", "_law_axes", "_law_rows", "_law_found", "_law_axis", "_law_part"]) (sc := defScope s_Lvector) (by decide +kernel)) (fun _ _ _ _ _ => (pg_name (i := 5) sc_Lvector.nd rfl (by first | exact Or.inl rfl | exact Or.inr rfl))) (fun _ _ _ _ _ => pts_nil) (fun _ _ _ _ _ => (pe_op op_sub pe_int (pv 5))))
    (pss_one (ps_if (pt_cmpR op_eq (C8.pe_c c_Ldraw hr (by decide) (by rfl) (pa_cons (pv 0) (pa_cons pe_int pa_nil))) pe_int (nomark _))
      (pss_cons (ps_set (i := 4) sc_Lvector.nd rfl (by first | exact Or.inl rfl | exact Or.inr rfl) (C8.pe_c c_Ldraw hr (by decide) (by rfl) (pa_cons (pv 0) (pa_cons (pv 1) pa_nil))))
      (pss_one (ps_asg (pe_callB (call_max2 rfl) (by rfl) zm (by decide +kernel) (pa_cons (pe_un un_neg pe_int) (pa_cons (pe_callB (call_min2 rfl) (by rfl) T.b_min (by decide +kernel) (pa_cons pe_int (pa_cons (pe_op op_add (pe_ix ix_list (pv 3) (pv 4) (fun _ _ => rfl)) pe_int) pa_nil))) pa_nil))) (pg_sub (pv 3) (pv 4) set_list))))
      pss_nil)))
    pss_nil)
  (pss_one (ps_ret (pe_callTy call_tuple_of (by rfl) T.b_tuple (by decide +kernel) (pa_cons (pv 3) pa_nil)))))), ?_⟩
    refine ⟨_, rfl, ax, rfl, by omega, by omega, fun D hD => ?_⟩
    have bD := free_of R.s hD
    have rD := R.ne hD
    refine lc_it walk_range (fun i H' => ∃ xs : List Int, xs.length = i ∧ Five xs ∧ H' D = some (.lst (xs.map V.int)) ∧ RS r (m + 2 * i) B H') ⟨[], rfl, (by intro x hx; cases hx), upd_same, R.new hD⟩ (fun _ _ _ _ => True.intro) ?_ ?_
    · rintro i y _ H1 hi ⟨xs, e1, e2, e3, e4⟩ ⟨rfl, rfl⟩
      have hi3 : i < 3 := by omega
      refine ⟨rfl, yes_if ?_⟩
      refine ⟨1, rfl, 2, rfl, _, rfl, r, 11, _, rfl, e4.ok, by omega, by decide, by decide, fun d1 H2 d10 d11 D1 => ⟨_, _, rfl, rfl, (by show 8 ≤ sizeLine; decide), fun p hp => ?_⟩⟩
      have R2 := e4.dr D1
      have D2 : H2 D = some (.lst (xs.map V.int)) := by rw [D1.ne _ rD.symm]; exact e3
      have R3 := R2.new (o := .lst ([0, 0, 1, -1, 1, -2, 2, d1 - 5].map V.int)) hp
      have D3 : (upd H2 p (.lst ([0, 0, 1, -1, 1, -2, 2, d1 - 5].map V.int))) D = some (.lst (xs.map V.int)) := snew hp _ _ D2
      have p3 : (upd H2 p (.lst ([0, 0, 1, -1, 1, -2, 2, d1 - 5].map V.int))) p = some (.lst ([0, 0, 1, -1, 1, -2, 2, d1 - 5].map V.int)) := upd_same
      refine ⟨_, rfl, r, 8, _, rfl, R3.ok, by omega, by decide, by decide, fun d2 H4 d20 d21 D4 => ?_⟩
      have R4 := R3.dr D4
      have D5 : H4 D = some (.lst (xs.map V.int)) := by rw [D4.ne _ rD.symm]; exact D3
      have p4 : H4 p = some (.lst ([0, 0, 1, -1, 1, -2, 2, d1 - 5].map V.int)) := by rw [D4.ne _ (R2.ne hp).symm]; exact p3
      obtain ⟨v, a1, a2, _⟩ := atI_in (xs := [0, 0, 1, -1, 1, -2, 2, d1 - 5].map V.int) d20 d21
      obtain ⟨n, hn, rfl⟩ := List.mem_map.mp a2
      have hnb : -5 ≤ n ∧ n ≤ 5 := by
        simp only [List.mem_cons, List.not_mem_nil, or_false] at hn
        omega
      refine ⟨p, _, d2, .int n, rfl, rfl, Or.inl (Or.inl p4), a1, ?_⟩
      refine ⟨_, D5, small1000 (by rw [List.length_map]; omega), xs ++ [n], by rw [List.length_append, e1]; rfl, ?_, by rw [upd_same, List.map_append]; rfl, (R4.put bD rD).mono (by omega)⟩
      intro x hx
      rcases List.mem_append.mp hx with h | h
      · exact e2 x h
      · rw [List.mem_singleton.mp h]
        exact hnb
    · rintro H1 ⟨xs, e1, e2, e3, e4⟩
      have e4 := e4.mono (show m + 2 * ax.toNat ≤ m + 6 by omega)
      have e1 : (xs.length : Int) = ax := by omega
      obtain ⟨rx, r1, r2⟩ := id hrw
      have hxl : rx.length = rows.length := by rw [dps_len r2, List.length_map]
      -- the end
      have fin : ∀ (D : Addr) (H2 : Hp) (xs : List Int) (k : Nat), B D = none → r ≠ D → H2 D = some (.lst (xs.map V.int)) → (xs.length : Int) = ax → Five xs → RS r (m + k) B H2 → k ≤ 20 → ∃ (a : Addr) (ys : List V), [V.ref D] = [V.ref a] ∧ ((SqL K H2 a ys ∧ ∀ l, H2 l = none → Q (.ref l) (upd H2 l (.tup ys))) ∨ (SqT K H2 a ys ∧ Q (.ref a) H2)) := fun D H2 xs k b1 b2 b3 b4 b5 b6 b7 =>
        ⟨D, _, rfl, Or.inl ⟨Or.inl (Or.inl b3), fun l hl => q l _ xs (free_of b6.s hl) (b6.ne hl) b4 b5 (((b6.new hl).keep upd_same (free_of b6.s hl) (b6.ne hl)).mono (by omega))⟩⟩
      refine ⟨_, rfl, Nat.zero_le _, fun p hp => ⟨.list (rows.map RowP.d), .list [], .lst (Or.inl (Or.inl (snew hp _ _ (e4.s _ _ r1)))) (dpsm (same_tr e4.s (snew hp)) _ _ r2), .lst (Or.inl (Or.inl upd_same)) .nil, shaped_list (fun d hd => by
        obtain ⟨y, hy, rfl⟩ := List.mem_map.mp hd
        exact good_row y (hrows y hy).2.2.1 (hrows y hy).2.2.2), shaped_list (by intro d h; cases h), _, rfl, ?_⟩⟩
      rw [eqv_nil]
      have D1 : (upd H1 p (.lst [])) D = some (.lst (xs.map V.int)) := snew hp _ _ e3
      have R1 : RS r (m + 6) B (upd H1 p (.lst [])) := e4.new hp
      generalize upd H1 p (.lst []) = H2 at D1 R1
      clear e3 e4
      cases hrows0 : rows with
      | nil =>
        refine iteF ?_
        exact ⟨_, rfl, fin D H2 xs 6 bD rD D1 e1 e2 R1 (by decide)⟩
      | cons y0 ys0 =>
        rw [← hrows0]
        have hpos : 0 < rows.length := by rw [hrows0]; exact Nat.succ_pos _
        have hne : (rows.map RowP.d).isEmpty = false := by rw [hrows0]; rfl
        rw [hne]
        refine iteT ?_
        refine ⟨_, rfl, r, 3, _, rfl, R1.ok, by omega, by decide, by decide, fun d3 H3 d30 d31 D3 => ⟨rfl, _, rfl, ?_⟩⟩
        have R3 := R1.dr D3
        have Da : H3 D = some (.lst (xs.map V.int)) := by rw [D3.ne _ rD.symm]; exact D1
        refine ite2 (fun _ => ?_) (fun _ => ⟨_, rfl, fin D H3 xs (6 + 1) bD rD Da e1 e2 R3 (by decide)⟩)
        refine ⟨_, rfl, _, rfl, _, rfl, lr, rx, rfl, Or.inl (Or.inl (Or.inl (R3.s _ _ r1))), r, _, _, rfl, R3.ok, by omega, by omega, by omega, fun d4 H4 d40 d41 D4 => ?_⟩
        have R4 := R3.dr D4
        obtain ⟨vy, a1, a2, a3⟩ := atI_in (xs := rx) d40 d41
        obtain ⟨y, ya, yb, b1, rfl, b2, b3⟩ := row_at r2 a3
        have hy := hrows y (List.mem_of_getElem? b1)
        refine ⟨lr, rx, d4, _, rfl, rfl, Or.inl (Or.inl (R4.s _ _ r1)), a1, ya, _, 3, _, rfl, rfl, sqt R4.s b2, rfl, yb, rfl, ⟨_, sqt R4.s b3⟩, fun E hE => ?_⟩
        have bE := free_of R4.s hE
        have rE := R4.ne hE
        refine lc_it (walk_tup (K := K) (a := yb) (xs := y.v.map V.int)) (fun i H' => ∃ zs : List Int, zs.length = i ∧ Five zs ∧ H' E = some (.lst (zs.map V.int)) ∧ RS r (m + 6 + 1 + 1) B H') ⟨[], rfl, (by intro x hx; cases hx), upd_same, R4.new hE⟩ (fun i H' _ ⟨zs, _, _, _, c4⟩ => sqt c4.s b3) ?_ ?_
        · rintro i x _ H5 hi ⟨zs, c1, c2, c3, c4⟩ ⟨rfl, hx⟩
          rw [List.getElem?_map] at hx
          obtain ⟨n, hn, rfl⟩ := Option.map_eq_some_iff.mp hx
          have nb := hy.2.1 n (List.mem_of_getElem? hn)
          rw [List.length_map] at hi
          refine ⟨rfl, yes_if ?_⟩
          refine ⟨_, rfl, _, _, rfl, rfl, _, c3, small1000 (by rw [List.length_map]; omega), zs ++ [0 - n], by rw [List.length_append, c1]; rfl, ?_, by rw [upd_same, List.map_append]; rfl, c4.put bE rE⟩
          intro x hx
          rcases List.mem_append.mp hx with h | h
          · exact c2 x h
          · rw [List.mem_singleton.mp h]
            omega
        · rintro H5 ⟨zs, c1, c2, c3, c4⟩
          rw [List.length_map] at c1
          have zl : (zs.length : Int) = ax := by omega
          refine ⟨_, rfl, r, 2, _, rfl, c4.ok, by omega, by decide, by decide, fun d6 H6 d60 d61 D6 => ⟨rfl, _, rfl, ?_⟩⟩
          have R6 := c4.dr D6
          have E6 : H6 E = some (.lst (zs.map V.int)) := by rw [D6.ne _ rE.symm]; exact c3
          refine ite2 (fun _ => ?_) (fun _ => ⟨_, rfl, fin E H6 zs (6 + 1 + 1 + 1) bE rE E6 zl c2 R6 (by decide)⟩)
          refine ⟨_, rfl, _, rfl, r, ax, _, rfl, R6.ok, by omega, by omega, by omega, fun d7 H7 d70 d71 D7 => ?_⟩
          have R7 := R6.dr D7
          have E7 : H7 E = some (.lst (zs.map V.int)) := by rw [D7.ne _ rE.symm]; exact E6
          have d71' : d7 < ((zs.map V.int).length : Int) := by rw [List.length_map, zl]; exact d71
          obtain ⟨vz, f1, f2, f3⟩ := atI_in (xs := zs.map V.int) d70 d71'
          obtain ⟨n, hn, rfl⟩ := List.mem_map.mp f2
          have hix : ixN (zs.map V.int).length d7 = some d7.toNat := by
            unfold ixN
            rw [if_pos d70, if_pos d71']
          refine ⟨5, rfl, _, rfl, _, rfl, E, _, d7, _, rfl, rfl, Or.inl (Or.inl E7), f1, n, 1, rfl, rfl, _, _, rfl, _, _, rfl, ?_⟩
          refine ⟨_, rfl, _, rfl, E, _, d7, d7.toNat, rfl, rfl, E7, hix, ?_⟩
          have em : ∀ k : Int, (zs.map V.int).set d7.toNat (.int k) = (zs.set d7.toNat k).map V.int := fun k => by rw [List.map_set]
          rw [em]
          refine ⟨_, rfl, fin E _ (zs.set d7.toNat _) (6 + 1 + 1 + 1 + 1) bE rE upd_same (by rw [List.length_set]; exact zl) ?_ (R7.put bE rE) (by decide)⟩
          intro x hx
          rcases List.mem_or_eq_of_mem_set hx with h | h
          · exact c2 x h
          · rw [h]
            split <;> split <;> omega
end
end Fr

namespace Fr
open PySem PySem.Spec PyProof.Rows L2
abbrev s_Ltables : Stmt := topS 36
theorem sc_Ltables : FnScope ["_law_pool_here", "_law_axes", "_law_most", "_law_start", "_law_titles", "_law_sign", "_law_held", "_law_rows", "_law_title", "_law_turn", "_law_spot", "_law_place", "_law_row", "_law_some"] ["_law_pool_here", "_law_axes", "_law_most"] (defScope s_Ltables) := ⟨rfl, rfl, rfl, by decide +kernel, rfl, by decide +kernel, by decide +kernel⟩
-- slots: 0 _law_pool_here, 1 _law_axes, 2 _law_most, 3 _law_start, 4 _law_titles, 5 _law_sign, 6 _law_held, 7 _law_rows, 8 _law_title, 9 _law_turn, 10 _law_spot, 11 _law_place, 12 _law_row, 13 _law_some
def PN : List Str := ["b", "a", "ab", "m"]
def stN (k : Nat) : Str := cutS "readin" none (some (k : Int))
theorem PN_facts : ∀ k ∈ List.range 7, (∀ x ∈ PN, isName (stN k ++ x) = true ∧ PyData.strOk (stN k ++ x) = true ∧ (stN k).length + x.length ≤ 100) ∧ (PN.map fun x => stN k ++ x).Nodup := by decide +kernel
section
variable {P : Program} {w : World} {K : PySem.W.Frag} {mg : Str → Option Value} {base : Heap}
structure Held where
  l : Addr
  rs : List Rd1
structure HeldAt (K : PySem.W.Frag) (B H : Hp) (r : Addr) (hs : List Held) : Prop where
  at_ : ∀ (i : Nat) (y : Held), hs[i]? = some y → B y.l = none ∧ r ≠ y.l ∧ ∃ xs, H y.l = some (.lst xs) ∧ DpAll K B xs (y.rs.map Rd1.d)
  inj : ∀ (i j : Nat) (y z : Held), hs[i]? = some y → hs[j]? = some z → y.l = z.l → i = j
theorem HeldAt.step {B B' H H' : Hp} {r : Addr} {hs : List Held} (h : HeldAt K B H r hs) (e : Same B B') (f : ∀ (i : Nat) (y : Held), hs[i]? = some y → B' y.l = none ∧ H' y.l = H y.l) : HeldAt K B' H' r hs :=
  ⟨fun i y hy => by
    obtain ⟨a2, a3, xs, a4, a5⟩ := h.at_ i y hy
    obtain ⟨b1, b2⟩ := f i y hy
    exact ⟨b1, a3, xs, by rw [b2, a4], dpsm e _ _ a5⟩, h.inj⟩
theorem HeldAt.dr {B H H' : Hp} {r : Addr} {m : Nat} {hs : List Held} (h : HeldAt K B H r hs) (d : Dr r m H H') : HeldAt K B H' r hs := h.step same_refl fun j y hy => ⟨(h.at_ j y hy).1, d.ne _ (h.at_ j y hy).2.1.symm⟩
theorem HeldAt.new {B H : Hp} {r p : Addr} {o : HO} {hs : List Held} (h : HeldAt K B H r hs) (e : H p = none) : HeldAt K B (upd H p o) r hs := h.step same_refl fun j y hy => by
  obtain ⟨a2, a3, xs, a4, a5⟩ := h.at_ j y hy
  exact ⟨a2, upd_ne (ne_of_none a4 e)⟩
/-- a new thing that the base keeps -/
theorem HeldAt.keep {B H : Hp} {r p : Addr} {o : HO} {hs : List Held} (h : HeldAt K B H r hs) (k : B p = none) (n : ∀ (i : Nat) (y : Held), hs[i]? = some y → y.l ≠ p) : HeldAt K (upd B p o) H r hs := h.step (snew k) fun j y hy => ⟨by rw [upd_ne (n j y hy)]; exact (h.at_ j y hy).1, rfl⟩
theorem HeldAt.snoc {B H : Hp} {r l : Addr} {hs : List Held} (h : HeldAt K B H r hs) (b : B l = none) (c : r ≠ l) (d : H l = some (.lst [])) (n : ∀ (i : Nat) (z : Held), hs[i]? = some z → z.l ≠ l) : HeldAt K B H r (hs ++ [⟨l, []⟩]) :=
  ⟨fun i z hz => by
    rcases get_snoc hz with ⟨h1, _⟩ | ⟨_, rfl⟩
    · exact h.at_ i z h1
    · exact ⟨b, c, [], d, .nil⟩, fun i j y' z hy hz hl => by
    rcases get_snoc hy with ⟨h1, k1⟩ | ⟨k1, rfl⟩ <;> rcases get_snoc hz with ⟨h2, k2⟩ | ⟨k2, rfl⟩
    · exact h.inj i j _ _ h1 h2 hl
    · exact absurd hl (n _ _ h1)
    · exact absurd hl.symm (n _ _ h2)
    · omega⟩
theorem HeldAt.put {B H : Hp} {r : Addr} {hs : List Held} {y : Held} {j : Nat} {rd : Rd1} {v : V} {xs : List V} (h : HeldAt K B H r hs) (e : hs[j]? = some y) (hx : H y.l = some (.lst xs)) (hv : Dp K B v rd.d) :
    HeldAt K B (upd H y.l (.lst (xs ++ [v]))) r (hs.set j { y with rs := y.rs ++ [rd] }) :=
  ⟨fun i z hz => by
    rcases get_set hz with ⟨rfl, rfl⟩ | ⟨ne, hz⟩
    · obtain ⟨a2, a3, xs', a4, a5⟩ := h.at_ _ y e
      rw [hx] at a4
      cases a4
      refine ⟨a2, a3, xs ++ [v], upd_same, ?_⟩
      show DpAll K B (xs ++ [v]) ((y.rs ++ [rd]).map Rd1.d)
      rw [List.map_append]
      exact dps_snoc a5 hv
    · obtain ⟨a2, a3, xs', a4, a5⟩ := h.at_ _ z hz
      refine ⟨a2, a3, xs', ?_, a5⟩
      rw [upd_ne fun hl => ne (h.inj i j z y hz e hl)]
      exact a4, fun i i' z z' hz hz' hl => by
    rcases get_set hz with ⟨rfl, rfl⟩ | ⟨ne, hz1⟩ <;> rcases get_set hz' with ⟨rfl, rfl⟩ | ⟨ne', hz2⟩
    · rfl
    · exact h.inj _ _ y z' e hz2 hl
    · exact h.inj _ _ z y hz1 e hl
    · exact h.inj _ _ z z' hz1 hz2 hl⟩
structure TbI (ax : Int) (ts : List Str) (hs : List Held) (rows : List RowP) (i : Nat) : Prop where
  few : (hs.map fun y => y.rs.length).sum = i
  rlen : rows.length = i
  rok : ∀ y ∈ rows, (y.v.length : Int) = ax ∧ Five y.v ∧ PyData.strOk y.w = true ∧ PyData.strOk y.o = true
  ok : ∀ y ∈ hs, ∀ rd ∈ y.rs, isRead ax rd = true ∧ rd.t ∈ ts ∧ (-10 ≤ rd.f ∧ rd.f ≤ 10) ∧ ∀ x ∈ rd.v, -1000 ≤ x ∧ x ≤ 1000
def spTabs (K : PySem.W.Frag) : Sp := fun vs H Q _ => ∃ (r : Addr) (ax most : Int) (m : Nat) (B : Hp), vs = [.ref r, .int ax, .int most] ∧ RS r m B H ∧ 1 ≤ ax ∧ ax ≤ 3 ∧ 0 ≤ most ∧ most ≤ 12 ∧ m ≤ 2 ^ 58 ∧
  ∀ p B' H' (ts : List Tb), Same B B' → RS r (m + 1000) B' H' → LD K B' p (ts.map Tb.d) → 1 ≤ ts.length → ts.length ≤ 4 → OkT ax ts → (∀ t ∈ ts, PyData.strOk t.n = true) → (∀ t ∈ ts, SmT t) → (((ts.map fun t => t.rs.length).sum : Nat) : Int) ≤ most → Q (.ref p) H'
theorem ok_tabs {f : Addr} {fd : FuncData} (F : Fun K "_law_tables" "_law_tables" s_Ltables f fd) (T : Txt mg) (c_Ldraw : C8.Cal P w K mg base 1 "_law_draw" spDraw []) (c_Lvector : C8.Cal P w K mg base 2 "_law_vector" (spVec K) []) : FnOk P w K mg base CX0 3 f fd ["_law_pool_here", "_law_axes", "_law_most"] (spTabs K) := by
  refine F.ok sc_Ltables (fun vs H Q E h => ?_) (fun cdv A outer sh H vs Q E hr h => ?_)
  · obtain ⟨r, ax, most, m, B, rfl, _⟩ := h
    rfl
  · obtain ⟨r, ax, most, m, B, rfl, R, ha1, ha3, hm0, hm12, hm, q⟩ := h
    refine ⟨_, (pss_cons (ps_set (i := 3) sc_Ltables.nd rfl (by first | exact Or.inl rfl | exact Or.inr rfl) (pe_slice sl_str pe_str po_none (po_some (pe_op op_mulW (C8.pe_c c_Ldraw hr (by decide) (by rfl) (pa_cons (pv 0) (pa_cons pe_int pa_nil))) (pe_callTy call_int1 (by rfl) T.b_int (by decide +kernel) (pa_cons (pe_cmpR op_eq (C8.pe_c c_Ldraw hr (by decide) (by rfl) (pa_cons (pv 0) (pa_cons pe_int pa_nil))) pe_int (nomark _)) pa_nil))))))
  (pss_cons (ps_setLc (i := 4) (own := [("_law_sign", 5)]) (g := gName 5) (tt := tYes) (by rfl) sc_Ltables.nd rfl rfl (sw_true rfl rfl rfl (by decide +kernel)) (pi_list (pe_slice sl_list (pe_lst (pa_cons pe_str (pa_cons pe_str (pa_cons pe_str (pa_cons pe_str pa_nil))))) po_none (po_some (pe_op op_add pe_int (C8.pe_c c_Ldraw hr (by decide) (by rfl) (pa_cons (pv 0) (pa_cons pe_int pa_nil))))))) (blkOk_by (N := ["_law_pool_here", "_law_axes", "_law_most", "_law_start", "_law_titles", "_law_sign", "_law_held", "_law_rows", "_law_title", "_law_turn", "_law_spot", "_law_place", "_law_row", "_law_some"]) (sc := defScope s_Ltables) (by decide +kernel)) (fun _ _ _ _ _ => (pg_name (i := 5) sc_Ltables.nd rfl (by first | exact Or.inl rfl | exact Or.inr rfl))) (fun _ _ _ _ _ => pts_nil) (fun _ _ _ _ _ => (pe_op op_add_str (pv 3) (pv 5))))
  (pss_cons (ps_par (i := 6) (j := 7) (by rfl) sc_Ltables.nd rfl rfl (by decide) rfl rfl (pa_cons (pe_lc (own := [("_law_title", 8)]) (g := gName 8) (tt := tYes) (by rfl) sc_Ltables.nd (pi_list (pv 4)) (blkOk_by (N := ["_law_pool_here", "_law_axes", "_law_most", "_law_start", "_law_titles", "_law_sign", "_law_held", "_law_rows", "_law_title", "_law_turn", "_law_spot", "_law_place", "_law_row", "_law_some"]) (sc := defScope s_Ltables) (by decide +kernel)) (fun _ _ _ _ _ => (pg_name (i := 8) sc_Ltables.nd rfl (by first | exact Or.inl rfl | exact Or.inr rfl))) (fun _ _ _ _ _ => pts_nil) (fun _ _ _ _ _ => (pe_lst pa_nil))) (pa_cons (pe_lst pa_nil) pa_nil)) (by rfl))
  (pss_cons (ps_for PassesOwn.never rfl (pi_range1 (by rfl) T.b_range (pa_cons (C8.pe_c c_Ldraw hr (by decide) (by rfl) (pa_cons (pv 0) (pa_cons (pe_op op_add (pv 2) pe_int) pa_nil))) pa_nil)) (pg_name (i := 9) sc_Ltables.nd rfl (by first | exact Or.inl rfl | exact Or.inr rfl))
    (pss_cons (ps_set (i := 10) sc_Ltables.nd rfl (by first | exact Or.inl rfl | exact Or.inr rfl) (C8.pe_c c_Ldraw hr (by decide) (by rfl) (pa_cons (pv 0) (pa_cons (pe_callB call_len_seq (by rfl) T.b_len PySem.boot_len (pa_cons (pv 4) pa_nil)) pa_nil))))
    (pss_cons (ps_set (i := 11) sc_Ltables.nd rfl (by first | exact Or.inl rfl | exact Or.inr rfl) (pe_ix ix_list (pe_lst (pa_cons (pv 10) (pa_cons (C8.pe_c c_Ldraw hr (by decide) (by rfl) (pa_cons (pv 0) (pa_cons (pe_callB call_len_seq (by rfl) T.b_len PySem.boot_len (pa_cons (pv 4) pa_nil)) pa_nil))) pa_nil))) (C8.pe_c c_Ldraw hr (by decide) (by rfl) (pa_cons (pv 0) (pa_cons pe_int pa_nil))) (fun _ _ => rfl)))
    (pss_cons (ps_set (i := 12) sc_Ltables.nd rfl (by first | exact Or.inl rfl | exact Or.inr rfl) (pe_tup (pa_cons (pe_ix ix_list (pv 4) (pv 10) (fun _ _ => rfl)) (pa_cons (pe_callB call_len_seq (by rfl) T.b_len PySem.boot_len (pa_cons (pe_ix ix_list (pv 6) (pv 10) (fun _ _ => rfl)) pa_nil)) (pa_cons (pe_ix ix_list (pv 4) (pv 11) (fun _ _ => rfl)) (pa_cons (C8.pe_c c_Lvector hr (by decide) (by rfl) (pa_cons (pv 0) (pa_cons (pv 1) (pa_cons (pv 7) pa_nil)))) pa_nil))))))
    (pss_cons (ps_expr (pe_bm PySem.F.plainAttrs_list PySem.F.slot_list_append PySem.F.type_list_append mt_append (pe_ix ix_list (pv 6) (pv 10) (fun _ _ => rfl)) (pa_cons (pe_tup (pa_cons (pe_ix ix_tup (pv 12) pe_int (fun _ _ => rfl)) (pa_cons (pe_ix ix_tup (pv 12) pe_int (fun _ _ => rfl)) (pa_cons (pe_ix ix_list (pe_lst (pa_cons pe_int (pa_cons pe_int (pa_cons (pe_un un_neg pe_int) (pa_cons (pe_un un_neg pe_int) pa_nil))))) (C8.pe_c c_Ldraw hr (by decide) (by rfl) (pa_cons (pv 0) (pa_cons pe_int pa_nil))) (fun _ _ => rfl)) pa_nil)))) pa_nil)))
    (pss_one (ps_expr (pe_bm PySem.F.plainAttrs_list PySem.F.slot_list_append PySem.F.type_list_append mt_append (pv 7) (pa_cons (pv 12) pa_nil)))))))))
  (pss_one (ps_ret (pe_lc (own := [("_law_title", 8), ("_law_some", 13)]) (g := gTup K 2 (gCons (gName 8) (gCons (gName 13) gNil))) (tt := tYes) (by rfl) sc_Ltables.nd (pi_zip (by rfl) T.b_zip (pa_cons (pv 4) (pa_cons (pv 6) pa_nil))) (blkOk_by (N := ["_law_pool_here", "_law_axes", "_law_most", "_law_start", "_law_titles", "_law_sign", "_law_held", "_law_rows", "_law_title", "_law_turn", "_law_spot", "_law_place", "_law_row", "_law_some"]) (sc := defScope s_Ltables) (by decide +kernel)) (fun _ _ _ _ _ => (pg_tup rfl (pgs_cons (pg_name (i := 8) sc_Ltables.nd rfl (by first | exact Or.inl rfl | exact Or.inr rfl)) (pgs_cons (pg_name (i := 13) sc_Ltables.nd rfl (by first | exact Or.inl rfl | exact Or.inr rfl)) pgs_nil)))) (fun _ _ _ _ _ => pts_nil) (fun _ _ _ _ _ => (pe_tup (pa_cons (pv 8) (pa_cons (pe_op op_sub (C8.pe_c c_Ldraw hr (by decide) (by rfl) (pa_cons (pv 0) (pa_cons pe_int pa_nil))) pe_int) (pa_cons (pv 13) pa_nil)))))))))))), ?_⟩
    -- start
    refine ⟨_, rfl, r, 7, _, rfl, R.ok, by omega, by decide, by decide, fun d1 H1 d10 d11 D1 => ?_⟩
    have R1 := R.dr D1
    refine ⟨_, rfl, r, 3, _, rfl, R1.ok, by omega, by decide, by decide, fun d2 H2 d20 d21 D2 => ?_⟩
    have R2 := R1.dr D2
    have hk : ∃ k : Nat, k ≤ 6 ∧ d1 * (if decide (V.int d2 = V.int 0) = true then 1 else 0) = (k : Int) := by
      split
      · exact ⟨d1.toNat, by omega, by omega⟩
      · exact ⟨0, by omega, by omega⟩
    obtain ⟨k, hk6, ek⟩ := hk
    obtain ⟨pf, pn⟩ := PN_facts k (List.mem_range.mpr (by omega))
    refine ⟨rfl, Or.inr ⟨_, rfl, _, _, rfl, rfl, wide_mul (a := 100) (b := 100) (by omega) (by split <;> decide) (by decide) (by decide) (by decide), (k : Int), congrArg V.int ek, _, rfl, by decide +kernel, ?_⟩⟩
    -- titles
    refine ⟨(by show 4 ≤ sizeLine; decide), fun p hp => ?_⟩
    have R3 := R2.new (o := .lst (PN.map V.str)) hp
    have p3 : (upd H2 p (.lst (PN.map V.str))) p = some (.lst (PN.map V.str)) := upd_same
    have rp := R2.ne hp
    refine ⟨_, rfl, r, 4, _, rfl, R3.ok, by omega, by decide, by decide, fun d3 H4 d30 d31 D4 => ⟨1, d3, rfl, rfl, _, rfl, p, _, rfl, Or.inl (Or.inl (by rw [D4.ne _ rp.symm]; exact p3)), fun p2 hp2 => ?_⟩⟩
    have R4 := R3.dr D4
    have ec : cutV (PN.map V.str) none (some (1 + d3)) = (PN.take (1 + d3).toNat).map V.str := by
      have h := cut_take (PN.map V.str) (1 + d3).toNat
      rw [Int.toNat_of_nonneg (by omega)] at h
      rw [h, List.map_take]
    rw [ec]
    have R5 := R4.new (o := .lst ((PN.take (1 + d3).toNat).map V.str)) hp2
    have p5 : (upd H4 p2 (.lst ((PN.take (1 + d3).toNat).map V.str))) p2 = some (.lst ((PN.take (1 + d3).toNat).map V.str)) := upd_same
    generalize upd H4 p2 (.lst ((PN.take (1 + d3).toNat).map V.str)) = H5 at R5 p5
    have hl1 : 1 ≤ (PN.take (1 + d3).toNat).length ∧ (PN.take (1 + d3).toNat).length ≤ 4 := by
      rw [List.length_take]
      show 1 ≤ min _ 4 ∧ min _ 4 ≤ 4
      omega
    have hmem : ∀ x ∈ PN.take (1 + d3).toNat, x ∈ PN := fun x hx => List.mem_of_mem_take hx
    have hnd : ((PN.take (1 + d3).toNat).map fun x => stN k ++ x).Nodup := by
      rw [List.map_take]
      exact pn.sublist (List.take_sublist _ _)
    generalize PN.take (1 + d3).toNat = ss at hl1 hmem hnd p5
    refine ⟨p2, rfl, ⟨_, Or.inl (Or.inl p5)⟩, fun D hD => lc_flat (walk_list (K := K) (a := p2) (xs := ss.map V.str)) (fun i => .str (stN k ++ nth ss i)) (by rw [List.length_map]; omega) hD (fun H' sm => Or.inl (Or.inl (sm _ _ p5))) (fun i H x H' y => yat_same y) ?_ ?_⟩
    · rintro i x H6 H7 hi sm ⟨rfl, hx⟩ R hR
      rw [List.getElem?_map] at hx
      obtain ⟨z, hz, rfl⟩ := Option.map_eq_some_iff.mp hx
      have zz := pf z (hmem z (List.mem_of_getElem? hz))
      refine ⟨rfl, _, rfl, _, rfl, _, _, rfl, rfl, Nat.le_trans zz.2.2 (by rw [sizeLine_eq]; decide), ?_⟩
      have r := hR H7 same_refl
      rw [nth_of hz] at r
      exact r
    · intro H6 sm hD6
      rw [List.length_map, nthsf ss (fun x => stN k ++ x)] at hD6
      have R6 := R5.grow sm
      have bD : B D = none := free_of R5.s hD
      have rD := R5.ne hD
      have K6 := R6.keep hD6 bD rD
      have sB : Same B (upd B D (.lst ((ss.map fun x => stN k ++ x).map V.str))) := snew bD
      have D0 : (upd B D (.lst ((ss.map fun x => stN k ++ x).map V.str))) D = some (.lst ((ss.map fun x => stN k ++ x).map V.str)) := upd_same
      generalize upd B D (.lst ((ss.map fun x => stN k ++ x).map V.str)) = B6 at K6 sB D0
      clear R6 sm R5 R4 R3 R2 R1 R D1 D2 D4 p3 p5 hD hD6
      have ht : ∀ x ∈ ss.map fun x => stN k ++ x, isName x = true ∧ PyData.strOk x = true := fun x hx => by
        obtain ⟨y, hy, rfl⟩ := List.mem_map.mp hx
        exact ⟨(pf y (hmem y hy)).1, (pf y (hmem y hy)).2.1⟩
      have htl : 1 ≤ (ss.map fun x => stN k ++ x).length ∧ (ss.map fun x => stN k ++ x).length ≤ 4 := by rw [List.length_map]; exact hl1
      generalize (ss.map fun x => stN k ++ x) = ts at ht htl hnd D0
      have K6 := K6.mono (show m + 1 + 1 + 1 ≤ m + 3 by omega)
      -- held, rows
      refine ⟨_, rfl, D, rfl, ⟨_, Or.inl (Or.inl (K6.s _ _ D0))⟩, fun E hE => ?_⟩
      have bE := free_of K6.s hE
      have rE := K6.ne hE
      refine lc_it (walk_list (K := K) (a := D) (xs := ts.map V.str)) (fun i H' => ∃ hs : List Held, hs.length = i ∧ (∀ y ∈ hs, y.rs = []) ∧ H' E = some (.lst (hs.map fun y => V.ref y.l)) ∧ RS r (m + 3) B6 H' ∧ HeldAt K B6 H' r hs ∧ ∀ y ∈ hs, y.l ≠ E)
        ⟨[], rfl, (by intro y h; cases h), upd_same, K6.new hE, ⟨fun i y h => (by cases h), fun i j y z h => (by cases h)⟩, (by intro y h; cases h)⟩ (fun i H' _ ⟨_, _, _, _, c4, _⟩ => Or.inl (Or.inl (c4.s _ _ D0))) ?_ ?_
      · rintro i x _ H7 hi ⟨hs, c1, c2, c3, c4, c5, c6⟩ ⟨rfl, hx⟩
        rw [List.length_map] at hi
        refine ⟨rfl, yes_if ⟨Nat.zero_le _, fun l hl => ?_⟩⟩
        have lE : l ≠ E := fun z => by rw [z, c3] at hl; cases hl
        have c4' := c4.new (o := .lst []) hl
        have c5' := (c5.new (o := .lst []) hl).snoc (free_of c4.s hl) (c4.ne hl) upd_same (fun j z hz => by
          obtain ⟨_, _, xs, a4, _⟩ := c5.at_ j z hz
          exact ne_of_none a4 hl)
        have E7 : (upd H7 l (.lst [])) E = some (.lst (hs.map fun y => V.ref y.l)) := snew hl _ _ c3
        refine ⟨_, E7, small1000 (by rw [List.length_map]; omega), hs ++ [⟨l, []⟩], by rw [List.length_append, c1]; rfl, ?_, by rw [upd_same, List.map_append]; rfl, c4'.put bE rE, c5'.step same_refl (fun j y hy => ⟨(c5'.at_ j y hy).1, upd_ne ?_⟩), ?_⟩
        · intro y hy
          rcases List.mem_append.mp hy with h | h
          · exact c2 y h
          · rw [List.mem_singleton.mp h]
        · rcases List.mem_append.mp (List.mem_of_getElem? hy) with h | h
          · exact c6 y h
          · rw [List.mem_singleton.mp h]
            exact lE
        · intro y hy
          rcases List.mem_append.mp hy with h | h
          · exact c6 y h
          · rw [List.mem_singleton.mp h]
            exact lE
      · rintro H7 ⟨hs, c1, c2, c3, c4, c5, c6⟩
        rw [List.length_map] at c1
        have K7 := c4.keep c3 bE rE
        have c5 := c5.keep (o := .lst (hs.map fun y => V.ref y.l)) bE fun j y hy => c6 y (List.mem_of_getElem? hy)
        have sB7 : Same B (upd B6 E (.lst (hs.map fun y => V.ref y.l))) := same_tr sB (snew bE)
        have D7 : (upd B6 E (.lst (hs.map fun y => V.ref y.l))) D = some (.lst (ts.map V.str)) := snew bE _ _ D0
        have E7 : (upd B6 E (.lst (hs.map fun y => V.ref y.l))) E = some (.lst (hs.map fun y => V.ref y.l)) := upd_same
        generalize upd B6 E (.lst (hs.map fun y => V.ref y.l)) = B7 at K7 c5 sB7 D7 E7
        clear c3 c4 K6 D0 sB
        refine ⟨Nat.zero_le _, fun U hU => ⟨_, _, rfl, ?_⟩⟩
        have bU := free_of K7.s hU
        have rU := K7.ne hU
        have lsU : ∀ (j : Nat) (y : Held), hs[j]? = some y → y.l ≠ U := fun j y hy => by
          obtain ⟨_, _, xs, a4, _⟩ := c5.at_ j y hy
          exact ne_of_none a4 hU
        have K8 := K7.new (o := .lst []) hU
        have c5 := c5.new (o := .lst []) hU
        have U8 : (upd H7 U (.lst [])) U = some (.lst []) := upd_same
        generalize upd H7 U (.lst []) = H8 at K8 c5 U8
        clear K7 hU hE
        refine ⟨_, rfl, _, rfl, _, _, rfl, rfl, r, _, _, rfl, K8.ok, by omega, by omega, by omega, fun n H9 n0 n1 D9 => ⟨n, rfl, by omega, by omega, ?_⟩⟩
        have K9 := K8.dr D9
        have U9 : H9 U = some (.lst []) := by rw [D9.ne _ rU.symm]; exact U8
        have c9 := c5.dr D9
        clear K8 c5 U8 D9
        refine for_range (fun i σ H' => ∃ y9 y10 y11 y12, σ = [some (.ref r), some (.int ax), some (.int most), some (.str (stN k)), some (.ref D), none, some (.ref E), some (.ref U), none, y9, y10, y11, y12, none] ∧ ∃ (B' : Hp) (hs' : List Held) (rows : List RowP) (rx : List V), Same B7 B' ∧ RS r (m + 3 + 1 + 40 * i) B' H' ∧ HeldAt K B' H' r hs' ∧ hs'.map (·.l) = hs.map (·.l) ∧ B' U = none ∧ H' U = some (.lst rx) ∧ DpAll K B' rx (rows.map RowP.d) ∧ TbI ax ts hs' rows i)
          ⟨none, none, none, none, rfl, B7, hs, [], [], same_refl, K9, c9, rfl, bU, U9, .nil, ?_⟩ ?_ ?_
        · refine ⟨sum_zero (fun y hy => by rw [c2 y hy]; rfl), rfl, (by intro y hy; cases hy), fun y hy rd hrd => ?_⟩
          rw [c2 y hy] at hrd
          cases hrd
        · rintro i σ H10 hi ⟨y9, y10, y11, y12, rfl, B', hs', rows, rx, s1, K1, h1, e1, bU1, U1, dr1, T1⟩
          have hi12 : i < 13 := by omega
          have lsU' : ∀ (j : Nat) (y : Held), hs'[j]? = some y → y.l ≠ U := fun j y hy => by
            have z := congrArg (fun l : List Addr => l[j]?) e1
            simp only [List.getElem?_map, hy, Option.map_some] at z
            cases hz : hs[j]? with
            | none => rw [hz] at z; cases z
            | some y0 =>
              rw [hz] at z
              rw [Option.some.inj z]
              exact lsU j y0 hz
          have D1 := K1.s _ _ (s1 _ _ D7)
          have tll : ((ts.map V.str).length : Int) ≤ 4 := by rw [List.length_map]; omega
          have tlp : 0 < ((ts.map V.str).length : Int) := by rw [List.length_map]; omega
          -- spot
          refine ⟨_, rfl, _, rfl, D, _, rfl, Or.inl (Or.inl (Or.inl D1)), r, _, _, rfl, K1.ok, by omega, by omega, by omega, fun d4 H11 d40 d41 D11 => ?_⟩
          have K2 := K1.dr D11
          have h2 := h1.dr D11
          have U2 : H11 U = some (.lst rx) := by rw [D11.ne _ rU.symm]; exact U1
          -- place
          refine ⟨_, rfl, _, rfl, _, rfl, D, _, rfl, Or.inl (Or.inl (Or.inl (K2.s _ _ (s1 _ _ D7)))), r, _, _, rfl, K2.ok, by omega, by omega, by omega, fun d5 H12 d50 d51 D12 => ?_⟩
          have K3 := K2.dr D12
          have h3 := h2.dr D12
          have U3 : H12 U = some (.lst rx) := by rw [D12.ne _ rU.symm]; exact U2
          refine ⟨(by show 2 ≤ sizeLine; decide), fun p hp => ?_⟩
          have rp := K3.ne hp
          have K4 := K3.new (o := .lst [.int d4, .int d5]) hp
          have h4 := h3.new (o := .lst [.int d4, .int d5]) hp
          have U4 : (upd H12 p (.lst [.int d4, .int d5])) U = some (.lst rx) := snew hp _ _ U3
          have p4 : (upd H12 p (.lst [.int d4, .int d5])) p = some (.lst [.int d4, .int d5]) := upd_same
          refine ⟨_, rfl, r, 2, _, rfl, K4.ok, by omega, by decide, by decide, fun d6 H13 d60 d61 D13 => ?_⟩
          have K5 := K4.dr D13
          have h5 := h4.dr D13
          have U5 : H13 U = some (.lst rx) := by rw [D13.ne _ rU.symm]; exact U4
          have p5 : H13 p = some (.lst [.int d4, .int d5]) := by rw [D13.ne _ rp.symm]; exact p4
          obtain ⟨pv, a1, a2, _⟩ := atI_in (xs := [V.int d4, V.int d5]) d60 d61
          have hpl : ∃ d7, pv = .int d7 ∧ 0 ≤ d7 ∧ d7 < ((ts.map V.str).length : Int) := by
            simp only [List.mem_cons, List.not_mem_nil, or_false] at a2
            rcases a2 with rfl | rfl
            · exact ⟨_, rfl, d40, d41⟩
            · exact ⟨_, rfl, d50, d51⟩
          obtain ⟨d7, rfl, d70, d71⟩ := hpl
          refine ⟨p, _, d6, _, rfl, rfl, Or.inl (Or.inl p5), a1, ?_⟩
          clear K1 K2 K3 K4 h1 h2 h3 h4 U1 U2 U3 U4 p4 p5 D11 D12 D13 a2 hp
          have E5 := K5.s _ _ (s1 _ _ E7)
          have D5 := K5.s _ _ (s1 _ _ D7)
          obtain ⟨v4, f1, f2, f3⟩ := atI_in (xs := ts.map V.str) d40 d41
          rw [List.getElem?_map] at f3
          obtain ⟨x4, hx4, rfl⟩ := Option.map_eq_some_iff.mp f3
          obtain ⟨v7, g1, g2, g3⟩ := atI_in (xs := ts.map V.str) d70 d71
          rw [List.getElem?_map] at g3
          obtain ⟨x7, hx7, rfl⟩ := Option.map_eq_some_iff.mp g3
          have hel : (hs.map fun y => V.ref y.l).length = (ts.map V.str).length := by rw [List.length_map, List.length_map, c1]
          obtain ⟨vl, k1, k2, k3⟩ := atI_in (xs := hs.map fun y => V.ref y.l) d40 (by rw [hel]; exact d41)
          rw [List.getElem?_map] at k3
          obtain ⟨y0, hy0, rfl⟩ := Option.map_eq_some_iff.mp k3
          obtain ⟨y, hy, ey⟩ : ∃ y, hs'[d4.toNat]? = some y ∧ y.l = y0.l := by
            have z := congrArg (fun l : List Addr => l[d4.toNat]?) e1
            simp only [List.getElem?_map, hy0, Option.map_some] at z
            cases hz : hs'[d4.toNat]? with
            | none => rw [hz] at z; cases z
            | some y =>
              rw [hz] at z
              exact ⟨y, rfl, Option.some.inj z⟩
          obtain ⟨yb, yr, xs, yx, yd⟩ := h5.at_ _ y hy
          rw [← ey] at k1
          have hxl : xs.length = y.rs.length := by rw [dps_len yd, List.length_map]
          have hyl : y.rs.length ≤ i := by rw [← T1.few]; exact mem_le_sum (f := fun y : Held => y.rs.length) (List.mem_of_getElem? hy)
          have sc : Same B' (cutr H13 r) := fun b o e => by
            rw [cutr_ne (ne_of_none e K5.n)]
            exact K5.s b o e
          have mem4 := List.mem_of_getElem? hx4
          have mem7 := List.mem_of_getElem? hx7
          refine ⟨_, rfl, _, rfl, D, _, d4, _, rfl, rfl, Or.inl (Or.inl D5), f1, _, rfl, _, rfl, E, _, d4, _, rfl, rfl, Or.inl (Or.inl E5), k1, y.l, xs, rfl, Or.inl (Or.inl (Or.inl yx)), _, rfl, _, rfl, D, _, d7, _, rfl, rfl, Or.inl (Or.inl D5), g1, _, rfl, _, rfl, _, rfl, r, U, ax, _, cutr H13 r, rows, rfl, RS.cut K5.ok, ha1, ha3, ⟨rx, by rw [cutr_ne rU.symm]; exact U5, dpsm sc _ _ dr1⟩, T1.rok, by rw [T1.rlen]; omega, by omega, fun q1 H14 vv bq rq vl vb RV => ?_⟩
          obtain ⟨K6, bq', hq', keep⟩ := K5.vec RV bq rq
          have h6 : HeldAt K (upd B' q1 (.tup (vv.map V.int))) H14 r hs' := h5.step (snew bq') fun j z hz => by
            obtain ⟨z1, z2, zx, z3, _⟩ := h5.at_ j z hz
            have nq : z.l ≠ q1 := ne_of_none z3 hq'
            exact ⟨by rw [upd_ne nq]; exact z1, keep _ z2.symm (by rw [z3]; exact fun w => by cases w)⟩
          have U6 : H14 U = some (.lst rx) := by rw [keep U rU.symm (by rw [U5]; exact fun w => by cases w)]; exact U5
          have bU6 : (upd B' q1 (.tup (vv.map V.int))) U = none := by rw [upd_ne (ne_of_none U5 hq')]; exact bU1
          have q6 : (upd B' q1 (.tup (vv.map V.int))) q1 = some (.tup (vv.map V.int)) := upd_same
          have s6 : Same B' (upd B' q1 (.tup (vv.map V.int))) := snew bq'
          have dr6 := dpsm s6 _ _ dr1
          have s7 := same_tr s1 s6
          generalize upd B' q1 (.tup (vv.map V.int)) = B6' at K6 h6 bU6 q6 s6 dr6 s7
          clear RV bq keep hq' bq' K5 h5 U5 s6 sc dr1 s1 E5 D5 yb yr yx yd
          refine ⟨(by show 4 ≤ sizeLine; decide), fun u hu => ?_⟩
          have bu := free_of K6.s hu
          have K7 := (K6.new (o := .tup [.str x4, .int (xs.length : Int), .str x7, .ref q1]) hu).keep upd_same bu (K6.ne hu)
          have h7 := (h6.new (o := .tup [.str x4, .int (xs.length : Int), .str x7, .ref q1]) hu).keep (o := .tup [.str x4, .int (xs.length : Int), .str x7, .ref q1]) bu fun j z hz => by
            obtain ⟨_, _, zx, z3, _⟩ := h6.at_ j z hz
            exact ne_of_none z3 hu
          have U7 : (upd H14 u (.tup [.str x4, .int (xs.length : Int), .str x7, .ref q1])) U = some (.lst rx) := snew hu _ _ U6
          have bU7 : (upd B6' u (.tup [.str x4, .int (xs.length : Int), .str x7, .ref q1])) U = none := by rw [upd_ne (ne_of_none U6 hu)]; exact bU6
          have u7 : (upd B6' u (.tup [.str x4, .int (xs.length : Int), .str x7, .ref q1])) u = some (.tup [.str x4, .int (xs.length : Int), .str x7, .ref q1]) := upd_same
          have q7 := snew (o := .tup [.str x4, .int (xs.length : Int), .str x7, .ref q1]) bu _ _ q6
          have dr7 := dpsm (snew (o := .tup [.str x4, .int (xs.length : Int), .str x7, .ref q1]) bu) _ _ dr6
          have s8 := same_tr s7 (snew (o := .tup [.str x4, .int (xs.length : Int), .str x7, .ref q1]) bu)
          generalize upd B6' u (.tup [.str x4, .int (xs.length : Int), .str x7, .ref q1]) = B8 at K7 h7 bU7 u7 q7 dr7 s8
          generalize upd H14 u (.tup [.str x4, .int (xs.length : Int), .str x7, .ref q1]) = H15 at K7 h7 U7
          clear K6 h6 U6 bU6 q6 dr6 s7 hu bu
          -- held[spot].append(..)
          obtain ⟨yb, yr, ys, yx, yd⟩ := h7.at_ _ y hy
          have hyl2 : ys.length = y.rs.length := by rw [dps_len yd, List.length_map]
          have E7' := K7.s _ _ (s8 _ _ E7)
          have u8 := K7.s _ _ u7
          refine ⟨_, rfl, _, rfl, E, _, d4, _, rfl, rfl, Or.inl (Or.inl E7'), k1, Or.inl ⟨rfl, _, Or.inl (Or.inl yx)⟩, ?_⟩
          refine ⟨_, rfl, u, _, 2, _, rfl, rfl, Or.inl (Or.inl u8), rfl, _, rfl, u, _, 3, _, rfl, rfl, Or.inl (Or.inl u8), rfl, 1, rfl, 9, rfl, (by show 4 ≤ sizeLine; decide), fun p2 hp2 => ?_⟩
          have rp2 := K7.ne hp2
          have K8 := K7.new (o := .lst ([1, 2, -1, -9].map V.int)) hp2
          have h8 := h7.new (o := .lst ([1, 2, -1, -9].map V.int)) hp2
          have U8 : (upd H15 p2 (.lst ([1, 2, -1, -9].map V.int))) U = some (.lst rx) := snew hp2 _ _ U7
          have p8 : (upd H15 p2 (.lst ([1, 2, -1, -9].map V.int))) p2 = some (.lst ([1, 2, -1, -9].map V.int)) := upd_same
          refine ⟨_, rfl, r, 4, _, rfl, K8.ok, by omega, by decide, by decide, fun d8 H16 d80 d81 D16 => ?_⟩
          have K9 := K8.dr D16
          have h9 := h8.dr D16
          have U9 : H16 U = some (.lst rx) := by rw [D16.ne _ rU.symm]; exact U8
          have p9 : H16 p2 = some (.lst ([1, 2, -1, -9].map V.int)) := by rw [D16.ne _ rp2.symm]; exact p8
          obtain ⟨vf, a3, a4, _⟩ := atI_in (xs := [1, 2, -1, -9].map V.int) d80 d81
          obtain ⟨ff, hff, rfl⟩ := List.mem_map.mp a4
          have hfb : ff ≠ 0 ∧ -10 ≤ ff ∧ ff ≤ 10 := by
            simp only [List.mem_cons, List.not_mem_nil, or_false] at hff
            omega
          refine ⟨p2, _, d8, _, rfl, rfl, Or.inl (Or.inl p9), a3, (by show 3 ≤ sizeLine; decide), fun u2 hu2 => ?_⟩
          have bu2 := free_of K9.s hu2
          have K10 := (K9.new (o := .tup [.str x7, .ref q1, .int ff]) hu2).keep upd_same bu2 (K9.ne hu2)
          have h10 := (h9.new (o := .tup [.str x7, .ref q1, .int ff]) hu2).keep (o := .tup [.str x7, .ref q1, .int ff]) bu2 fun j z hz => by
            obtain ⟨_, _, zx, z3, _⟩ := h9.at_ j z hz
            exact ne_of_none z3 hu2
          have U10 : (upd H16 u2 (.tup [.str x7, .ref q1, .int ff])) U = some (.lst rx) := snew hu2 _ _ U9
          have sN := snew (o := .tup [.str x7, .ref q1, .int ff]) bu2
          have bU10 : (upd B8 u2 (.tup [.str x7, .ref q1, .int ff])) U = none := by rw [upd_ne (ne_of_none U9 hu2)]; exact bU7
          have u10 : (upd B8 u2 (.tup [.str x7, .ref q1, .int ff])) u2 = some (.tup [.str x7, .ref q1, .int ff]) := upd_same
          have u10' := sN _ _ u7
          have q10 := sN _ _ q7
          have dr10 := dpsm sN _ _ dr7
          have s10 := same_tr s8 sN
          generalize upd B8 u2 (.tup [.str x7, .ref q1, .int ff]) = B10 at K10 h10 bU10 u10 u10' q10 dr10 s10
          generalize upd H16 u2 (.tup [.str x7, .ref q1, .int ff]) = H17 at K10 h10 U10
          clear K7 h7 U7 bU7 u7 q7 dr7 s8 K8 h8 U8 p8 K9 h9 U9 p9 D16 a4 hp2 hu2 bu2 sN yb yr yx yd E7' u8
          obtain ⟨yb, yr, ys', yx, yd⟩ := h10.at_ _ y hy
          have hyl3 : ys'.length = y.rs.length := by rw [dps_len yd, List.length_map]
          refine ⟨y.l, ys', _, rfl, rfl, yx, small1000 (by omega), ?_⟩
          have hrd : Dp K B10 (.ref u2) (Rd1.d ⟨x7, vv, ff⟩) := .tup (Or.inl (Or.inl u10)) (.cons (.str _) (.cons (.tup (Or.inl (Or.inl q10)) (ints_dps _)) (.cons (.int _) .nil)))
          have h11 := h10.put (rd := ⟨x7, vv, ff⟩) hy yx hrd
          have K11 := K10.put (o := .lst (ys' ++ [.ref u2])) yb yr
          have nU := lsU' _ y hy
          have U11 : (upd H17 y.l (.lst (ys' ++ [.ref u2]))) U = some (.lst rx) := by rw [upd_ne nU.symm]; exact U10
          generalize upd H17 y.l (.lst (ys' ++ [.ref u2])) = H18 at h11 K11 U11
          clear K10 h10 U10 yb yr yx yd
          -- rows.append(row)
          have hrl : rx.length = rows.length := by rw [dps_len dr10, List.length_map]
          refine ⟨_, rfl, Or.inl ⟨rfl, _, Or.inl (Or.inl U11)⟩, _, rfl, U, rx, _, rfl, rfl, U11, small1000 (by rw [hrl, T1.rlen]; omega), ?_⟩
          refine ⟨_, _, _, _, rfl, B10, hs'.set d4.toNat { y with rs := y.rs ++ [⟨x7, vv, ff⟩] }, rows ++ [⟨x4, xs.length, x7, vv⟩], rx ++ [.ref u], s10, (K11.put bU10 rU).mono (by omega), h11.step same_refl (fun j z hz => ⟨(h11.at_ j z hz).1, upd_ne ?_⟩), ?_, bU10, upd_same, ?_, ?_⟩
          · rcases get_set hz with ⟨_, rfl⟩ | ⟨_, hz⟩
            · exact nU
            · exact lsU' j z hz
          · exact (map_set_same (f := fun x : Held => x.l) (x := { y with rs := y.rs ++ [⟨x7, vv, ff⟩] }) hy rfl).trans e1
          · rw [List.map_append]
            exact dps_snoc dr10 (.tup (Or.inl (Or.inl u10')) (.cons (.str _) (.cons (.int _) (.cons (.str _) (.cons (.tup (Or.inl (Or.inl q10)) (ints_dps _)) .nil)))))
          · refine ⟨?_, by rw [List.length_append, T1.rlen]; rfl, fun z hz => ?_, fun z hz rd hrd => ?_⟩
            · rw [sum_set (f := fun y : Held => y.rs.length) hy (by show (y.rs ++ [_]).length = _; rw [List.length_append]; rfl), T1.few]
            · rcases List.mem_append.mp hz with h | h
              · exact T1.rok z h
              · rw [List.mem_singleton.mp h]
                exact ⟨vl, vb, (ht _ mem4).2, (ht _ mem7).2⟩
            · rcases List.mem_or_eq_of_mem_set hz with h | h
              · exact T1.ok z h rd hrd
              · rw [h] at hrd
                rcases List.mem_append.mp hrd with h' | h'
                · exact T1.ok y (List.mem_of_getElem? hy) rd h'
                · rw [List.mem_singleton.mp h']
                  refine ⟨?_, mem7, hfb.2, fun x hx => ?_⟩
                  · unfold isRead
                    rw [Bool.and_eq_true, Bool.and_eq_true]
                    exact ⟨(ht _ mem7).1, decide_eq_true vl, by rw [decide_eq_false hfb.1]; rfl⟩
                  · have := vb x hx
                    omega
        · rintro σ H10 ⟨y9, y10, y11, y12, rfl, B', hs', rows, rx, s1, K1, h1, e1, bU1, U1, dr1, T1⟩
          have hsl : hs'.length = ts.length := by
            have z := congrArg List.length e1
            rw [List.length_map, List.length_map] at z
            rw [z, c1]
          have Kc := (RS.cut K1.ok).mono (show m + 3 + 1 + 40 * n.toNat ≤ m + 600 by omega)
          have sc : Same B' (cutr H10 r) := fun b o e => by
            rw [cutr_ne (ne_of_none e K1.n)]
            exact K1.s b o e
          have Dc := sc _ _ (s1 _ _ D7)
          have Ec := sc _ _ (s1 _ _ E7)
          have hdc : ∀ (j : Nat) (y : Held), hs'[j]? = some y → Dp K (cutr H10 r) (.ref y.l) (.list (y.rs.map Rd1.d)) := fun j y hy => by
            obtain ⟨_, z2, xs, z3, z4⟩ := h1.at_ j y hy
            exact .lst (Or.inl (Or.inl (by rw [cutr_ne z2.symm]; exact z3))) (dpsm sc _ _ z4)
          have sBc : Same B (cutr H10 r) := same_tr sB7 (same_tr s1 sc)
          generalize cutr H10 r = Bc at Kc Dc Ec hdc sBc
          clear K1 h1 bU1 U1 dr1 sc
          have eE : (hs.map fun y => V.ref y.l) = hs'.map fun y => V.ref y.l := by
            have z := congrArg (List.map V.ref) e1
            rw [List.map_map, List.map_map] at z
            exact z.symm
          rw [eE] at Ec
          have hmin : ts.length = min (ts.map V.str).length (hs'.map fun y => V.ref y.l).length := by rw [List.length_map, List.length_map, hsl, Nat.min_self]
          refine ⟨_, rfl, _, rfl, D, E, ts.map V.str, hs'.map fun y => V.ref y.l, rfl, Or.inl (Or.inl (Kc.s _ _ Dc)), Or.inl (Or.inl (Kc.s _ _ Ec)), fun G hG => ?_⟩
          have bG := free_of Kc.s hG
          have rG := Kc.ne hG
          refine lc_it (walk_zip (K := K) (a := D) (b := E) hmin) (fun i H' => ∃ (Bx : Hp) (cs : List Tb) (zs : List V), Same Bc Bx ∧ RS r (m + 600 + i) Bx H' ∧ Bx G = none ∧ H' G = some (.lst zs) ∧ DpAll K Bx zs (cs.map Tb.d) ∧ cs.length = i ∧ cs.map (·.n) = ts.take i ∧ cs.map (·.rs) = (hs'.map (·.rs)).take i ∧ ∀ t ∈ cs, -99 ≤ t.c ∧ t.c ≤ 99)
            ⟨Bc, [], [], same_refl, Kc.new hG, bG, upd_same, .nil, rfl, rfl, rfl, (by intro t h; cases h)⟩ (fun i H' _ ⟨Bx, _, _, b1, b2, _⟩ => ⟨Or.inl (Or.inl (b2.s _ _ (b1 _ _ Dc))), Or.inl (Or.inl (b2.s _ _ (b1 _ _ Ec)))⟩) ?_ ?_
          · rintro i x Hi _ hi ⟨Bx, cs, zs, b1, b2, b3, b4, b5, b6, b7, b8, b9⟩ ⟨Tp, k1, k2, rfl, hTp, rfl, f1, f2⟩
            have f1 : (ts.map V.str)[i]? = some k1 := f1
            have f2 : (hs'.map fun y => V.ref y.l)[i]? = some k2 := f2
            rw [List.getElem?_map] at f1 f2
            obtain ⟨x1, hx1, rfl⟩ := Option.map_eq_some_iff.mp f1
            obtain ⟨y1, hy1, rfl⟩ := Option.map_eq_some_iff.mp f2
            refine ⟨Tp, _, rfl, Or.inl (Or.inl upd_same), rfl, _, _, rfl, _, _, rfl, rfl, rfl, yes_if ?_⟩
            have q1 := b2.new (o := .tup [.str x1, .ref y1.l]) hTp
            have G1 : (upd Hi Tp (.tup [.str x1, .ref y1.l])) G = some (.lst zs) := snew hTp _ _ b4
            generalize upd Hi Tp (.tup [.str x1, .ref y1.l]) = Hj at q1 G1
            refine ⟨_, rfl, _, rfl, r, 9, _, rfl, q1.ok, by omega, by decide, by decide, fun d9 Hk d90 d91 D9 => ⟨_, _, rfl, rfl, _, rfl, (by show 3 ≤ sizeLine; decide), fun u hu => ?_⟩⟩
            have q2 := q1.dr D9
            have G2 : Hk G = some (.lst zs) := by rw [D9.ne _ rG.symm]; exact G1
            have bu := free_of q2.s hu
            have q3 := (q2.new (o := .tup [.str x1, .int (d9 - 4), .ref y1.l]) hu).keep upd_same bu (q2.ne hu)
            have G3 : (upd Hk u (.tup [.str x1, .int (d9 - 4), .ref y1.l])) G = some (.lst zs) := snew hu _ _ G2
            have bG3 : (upd Bx u (.tup [.str x1, .int (d9 - 4), .ref y1.l])) G = none := by rw [upd_ne (ne_of_none G2 hu)]; exact b3
            have sN := snew (o := .tup [.str x1, .int (d9 - 4), .ref y1.l]) bu
            have hzl : zs.length = i := by rw [dps_len b5, List.length_map, b6]
            refine ⟨zs, G3, small1000 (by omega), _, cs ++ [⟨x1, d9 - 4, y1.rs⟩], zs ++ [.ref u], same_tr b1 sN, (q3.put bG3 rG).mono (by omega), bG3, upd_same, ?_, by rw [List.length_append, b6]; rfl, ?_, ?_, ?_⟩
            · rw [List.map_append]
              exact dps_snoc (dpsm sN _ _ b5) (.tup (Or.inl (Or.inl upd_same)) (.cons (.str _) (.cons (.int _) (.cons (dpm (same_tr b1 sN) _ _ (hdc i y1 hy1)) .nil))))
            · rw [List.map_append, b7, List.take_add_one, hx1]
              rfl
            · rw [List.map_append, b8, List.take_add_one, List.getElem?_map, hy1]
              rfl
            · intro t h
              rcases List.mem_append.mp h with h | h
              · exact b9 t h
              · rw [List.mem_singleton.mp h]
                show -99 ≤ d9 - 4 ∧ d9 - 4 ≤ 99
                omega
          · rintro H11 ⟨Bx, cs, zs, b1, b2, b3, b4, b5, b6, b7, b8, b9⟩
            rw [List.take_length] at b7
            rw [List.take_of_length_le (by rw [List.length_map]; omega)] at b8
            have hrs : ∀ t ∈ cs, ∃ y ∈ hs', t.rs = y.rs := fun t h => by
              have z : t.rs ∈ hs'.map (·.rs) := by rw [← b8]; exact List.mem_map.mpr ⟨t, h, rfl⟩
              obtain ⟨y, hy, e⟩ := List.mem_map.mp z
              exact ⟨y, hy, e.symm⟩
            have hsum : (cs.map fun t => t.rs.length).sum = n.toNat := by
              have z := congrArg (fun l : List (List Rd1) => (l.map List.length).sum) b8
              simp only [List.map_map] at z
              rw [← T1.few]
              exact z
            have K2 := b2.keep b4 b3 rG
            refine q G _ H11 cs (same_tr sBc (same_tr b1 (snew b3))) (K2.mono (by omega)) ⟨zs, upd_same, dpsm (snew b3) _ _ b5⟩ (by omega) (by omega) ⟨fun t h => (ht _ (by rw [← b7]; exact List.mem_map.mpr ⟨t, h, rfl⟩)).1, by rw [b7]; exact hnd, by rw [hsum]; omega, fun t h rd hrd => ?_, fun t h rd hrd => ?_⟩ (fun t h => (ht _ (by rw [← b7]; exact List.mem_map.mpr ⟨t, h, rfl⟩)).2) (fun t h => ⟨b9 t h, fun rd hrd => ?_, fun rd hrd => ?_⟩) (by rw [hsum]; omega)
            · obtain ⟨y, hy, e⟩ := hrs t h
              exact (T1.ok y hy rd (by rw [← e]; exact hrd)).1
            · obtain ⟨y, hy, e⟩ := hrs t h
              rw [b7]
              exact (T1.ok y hy rd (by rw [← e]; exact hrd)).2.1
            · obtain ⟨y, hy, e⟩ := hrs t h
              exact (T1.ok y hy rd (by rw [← e]; exact hrd)).2.2.1
            · obtain ⟨y, hy, e⟩ := hrs t h
              exact (T1.ok y hy rd (by rw [← e]; exact hrd)).2.2.2
end
end Fr

namespace Fr
open PySem PySem.Spec PyProof.Rows L2
open PySem.Sem (wp)
abbrev Tri (h : Heap) (T : Addr) (a b c : Value) : Prop := h.get? T = some { cls := .type "tuple", data := .seq #[a, b, c] }
/-- a zip of three tuples, its parts at n .. n + 5, that gave k items -/
structure Zi3 (h : Heap) (n p1 p2 p3 : Addr) (k : Nat) (f0 : Value) : Prop where
  zz : IsZip h (n + 5) (n + 3) (n + 4) f0
  ti : Tri h (n + 3) (.ref n) (.ref (n + 1)) (.ref (n + 2))
  to : ∃ a b c, Tri h (n + 4) a b c
  j1 : h.IsTupleIter n p1 k
  j2 : h.IsTupleIter (n + 1) p2 k
  j3 : h.IsTupleIter (n + 2) p3 k
theorem nd3 (n i j : Nat) (h : i ≠ j) : ((n + i : Nat) : Addr) ≠ ((n + j : Nat) : Addr) := fun e => h (Nat.add_left_cancel e)
section
variable {prog : Program} {w : World} {A : Around} {E : Value → Shared → Prop} {s : Shared}
theorem upd_tri {T : Addr} {a b c x : Value} {k : Nat} {Q : Unit → Shared → Prop} (ht : Tri s.heap T a b c)
    (q : ∀ g, g.get? T = some { cls := .type "tuple", data := .seq ((#[a, b, c] : Array Value).setIfInBounds k x) } → Heap.SameBut T s.heap g → Q () { s with heap := g }) :
    wpAny (model prog w) A (updateSeq T (·.setIfInBounds k x)) Q E s := by
  refine wpAny_updateSeq ht rfl (q _ ?_ (Heap.SameBut.update ..))
  rw [Heap.get?_update_self _ ht rfl]
  simp [Obj.mapSeq]
theorem zi3_item {n p1 p2 p3 : Addr} {k : Nat} {xs ys zs : Array Value} {x y z : Value} {Q : Value → Shared → Prop} (q1 : p1 < n) (q2 : p2 < n) (q3 : p3 < n) (Z : Zi3 s.heap n p1 p2 p3 k .none) (t1 : s.heap.IsTuple p1 xs) (t2 : s.heap.IsTuple p2 ys) (t3 : s.heap.IsTuple p3 zs)
    (e1 : xs[k]? = some x) (e2 : ys[k]? = some y) (e3 : zs[k]? = some z)
    (hQ : ∀ g, IsZip g (n + 5) (n + 3) (n + 4) (rawInt s.heap.objs.size) → Tri g (n + 4) x y z → g.IsTupleIter n p1 (k + 1) → g.IsTupleIter (n + 1) p2 (k + 1) → g.IsTupleIter (n + 2) p3 (k + 1) → Tri g s.heap.objs.size x y z → g.objs.size = s.heap.objs.size + 1 →
      (∀ c o, c ≠ n → c ≠ n + 1 → c ≠ n + 2 → c ≠ n + 4 → c ≠ n + 5 → s.heap.get? c = some o → g.get? c = some o) → Q (.ref s.heap.objs.size) { s with heap := g }) :
    wpAny (model prog w) A (Builtin.«zip.__next__» ⟨[.ref (n + 5)], []⟩) (fun fin s' => ∃ v, fin = .done (.ret v) ∧ Q v s') E s := by
  obtain ⟨gz, gi, ⟨a, b, c, go⟩, r1, r2, r3⟩ := Z
  have d0 : n ≠ n + 5 := nd3 n 0 5 (by decide)
  have d1 : n + 1 ≠ n + 5 := nd3 n 1 5 (by decide)
  have d2 : n + 2 ≠ n + 5 := nd3 n 2 5 (by decide)
  have d4 : n + 4 ≠ n + 5 := nd3 n 4 5 (by decide)
  have d40 : n + 4 ≠ n := nd3 n 4 0 (by decide)
  have d41 : n + 4 ≠ n + 1 := nd3 n 4 1 (by decide)
  have d42 : n + 4 ≠ n + 2 := nd3 n 4 2 (by decide)
  have d01 : n ≠ n + 1 := nd3 n 0 1 (by decide)
  have d02 : n ≠ n + 2 := nd3 n 0 2 (by decide)
  have d12 : n + 1 ≠ n + 2 := nd3 n 1 2 (by decide)
  have lp : ∀ {p : Addr} {m : Nat}, p < n → p ≠ n + m := fun hp => Nat.ne_of_lt (Nat.lt_of_lt_of_le hp (Nat.le_add_right _ _))
  show wpAny _ _ (field (.ref (n + 5)) 2 >>= _) _ _ _
  refine wpAny_bind (wpAny_field gz rfl (x := .bool false) rfl ?_)
  show wpAny _ _ (field (.ref (n + 5)) 3 >>= _) _ _ _
  refine wpAny_bind (wpAny_field gz rfl (x := .ref (n + 3)) rfl ?_)
  refine wpAny_bind (wpAny_seqItems gi rfl ?_)
  show wpAny _ _ (Builtin.SmallTypes.ownedTupleIsFree (.ref (n + 5)) >>= _) _ _ _
  refine wpAny_bind ?_
  unfold Builtin.SmallTypes.ownedTupleIsFree
  refine wpAny_bind (wpAny_field gz rfl (x := .none) rfl (wpAny_pure ?_))
  simp only [if_true]
  refine wpAny_bind (wpAny_rule ?_)
  refine wpAny_bind (wpAny_field gz rfl (x := .ref (n + 4)) rfl ?_)
  refine wpAny_bind (wpAny_setField_rec gz (by simp) fun g1 gz1 u1 => ?_)
  replace gz1 : IsZip g1 (n + 5) (n + 3) (n + 4) .ellipsis := gz1
  refine wpAny_bind ?_
  simp only [List.zipIdx_cons, List.zipIdx_nil, List.forIn_cons, List.forIn_nil]
  -- the first
  refine wpAny_bind (wpAny_bind (wpAny_onRaise ?_))
  show wpAny _ _ (Builtin.SmallTypes.nextOf (.ref n) >>= _) _ _ _
  refine wpAny_bind (RZ.nextOf_tuple_item (r1.extBut u1.extBut d0) (t1.extBut u1.extBut (lp q1)) e1 fun g2 r1' u2 => wpAny_pure ?_)
  have go2 : Tri g2 (n + 4) a b c := u2.extBut _ _ d40 (u1.extBut _ _ d4 go)
  refine wpAny_bind (wpAny_seqItems go2 rfl ?_)
  refine wpAny_bind (upd_tri go2 fun g3 go3 u3 => ?_)
  replace go3 : Tri g3 (n + 4) x b c := go3
  refine wpAny_bind (wpAny_letGo (wpAny_pure ?_))
  -- the second
  refine wpAny_bind (wpAny_bind (wpAny_onRaise ?_))
  show wpAny _ _ (Builtin.SmallTypes.nextOf (.ref (n + 1)) >>= _) _ _ _
  have lp0 : ∀ {p : Addr}, p < n → p ≠ n := fun hp => Nat.ne_of_lt hp
  refine wpAny_bind (RZ.nextOf_tuple_item (((r2.extBut u1.extBut d1).extBut u2.extBut d01.symm).extBut u3.extBut d41.symm) (((t2.extBut u1.extBut (lp q2)).extBut u2.extBut (lp0 q2)).extBut u3.extBut (lp q2)) e2 fun g4 r2' u4 => wpAny_pure ?_)
  have go4 : Tri g4 (n + 4) x b c := u4.extBut _ _ d41 go3
  refine wpAny_bind (wpAny_seqItems go4 rfl ?_)
  refine wpAny_bind (upd_tri go4 fun g5 go5 u5 => ?_)
  replace go5 : Tri g5 (n + 4) x y c := go5
  refine wpAny_bind (wpAny_letGo (wpAny_pure ?_))
  -- the third
  refine wpAny_bind (wpAny_bind (wpAny_onRaise ?_))
  show wpAny _ _ (Builtin.SmallTypes.nextOf (.ref (n + 2)) >>= _) _ _ _
  refine wpAny_bind (RZ.nextOf_tuple_item (((((r3.extBut u1.extBut d2).extBut u2.extBut d02.symm).extBut u3.extBut d42.symm).extBut u4.extBut d12.symm).extBut u5.extBut d42.symm) (((((t3.extBut u1.extBut (lp q3)).extBut u2.extBut (lp0 q3)).extBut u3.extBut (lp q3)).extBut u4.extBut (lp q3)).extBut u5.extBut (lp q3)) e3 fun g6 r3' u6 => wpAny_pure ?_)
  have go6 : Tri g6 (n + 4) x y c := u6.extBut _ _ d42 go5
  refine wpAny_bind (wpAny_seqItems go6 rfl ?_)
  refine wpAny_bind (upd_tri go6 fun g7 go7 u7 => ?_)
  replace go7 : Tri g7 (n + 4) x y z := go7
  refine wpAny_bind (wpAny_letGo (wpAny_pure (wpAny_pure ?_)))
  refine wpAny_bind (wpAny_seqItems go7 rfl ?_)
  refine wpAny_bind (wpAny_newTuple ?_)
  have gsz : g7.objs.size = s.heap.objs.size := by rw [u7.1, u6.1, u5.1, u4.1, u3.1, u2.1, u1.1]
  have all7 : ∀ c o, c ≠ n → c ≠ n + 1 → c ≠ n + 2 → c ≠ n + 4 → g1.get? c = some o → g7.get? c = some o := fun c o c0 c1 c2 c4 e =>
    u7.extBut _ _ c4 (u6.extBut _ _ c2 (u5.extBut _ _ c4 (u4.extBut _ _ c1 (u3.extBut _ _ c4 (u2.extBut _ _ c0 e)))))
  have gz7 : IsZip g7 (n + 5) (n + 3) (n + 4) .ellipsis := all7 _ _ d0.symm d1.symm d2.symm d4.symm gz1
  have k1 : g7.IsTupleIter n p1 (k + 1) := ((((r1'.extBut u3.extBut d40.symm).extBut u4.extBut d01).extBut u5.extBut d40.symm).extBut u6.extBut d02).extBut u7.extBut d40.symm
  have k2 : g7.IsTupleIter (n + 1) p2 (k + 1) := ((r2'.extBut u5.extBut d41.symm).extBut u6.extBut d12).extBut u7.extBut d41.symm
  have k3 : g7.IsTupleIter (n + 2) p3 (k + 1) := r3'.extBut u7.extBut d42.symm
  have zlt : n + 5 < g7.objs.size := Heap.lt_size gz7
  show wpAny _ _ (Builtin.SmallTypes.ownedTupleHandOut (.ref (n + 5)) (.ref g7.objs.size) >>= _) _ _ _
  refine wpAny_bind ?_
  unfold Builtin.SmallTypes.ownedTupleHandOut
  have gz8 : IsZip (g7.push { cls := .type "tuple", data := .seq #[x, y, z] }) (n + 5) (n + 3) (n + 4) .ellipsis := Heap.get?_push_of_some _ gz7
  refine wpAny_bind (wpAny_setField_rec gz8 (by simp) fun g9 gz9 u9 => ?_)
  replace gz9 : IsZip g9 (n + 5) (n + 3) (n + 4) (rawInt g7.objs.size) := gz9
  refine wpAny_setField_rec gz9 (by simp) fun g10 gz10 u10 => ?_
  replace gz10 : IsZip g10 (n + 5) (n + 3) (n + 4) (rawInt g7.objs.size) := gz10
  have up : ∀ c o, c ≠ n + 5 → g7.get? c = some o → g10.get? c = some o := fun c o cz e => u10.extBut _ _ cz (u9.extBut _ _ cz (Heap.get?_push_of_some _ e))
  have tN : Tri g10 g7.objs.size x y z := u10.extBut _ _ (Nat.ne_of_gt zlt) (u9.extBut _ _ (Nat.ne_of_gt zlt) (Heap.get?_push_size _ rfl))
  have sz10 : g10.objs.size = g7.objs.size + 1 := by rw [u10.1, u9.1, Heap.size_push]
  rw [gsz] at gz10 tN sz10
  refine wpAny_pure ⟨_, rfl, ?_⟩
  show Q (.ref g7.objs.size) _
  rw [gsz]
  exact hQ g10 gz10 (up _ _ d4 go7) (k1.at fun o e => up _ o d0 e) (k2.at fun o e => up _ o d1 e) (k3.at fun o e => up _ o d2 e) tN sz10 fun c o c0 c1 c2 c4 c5 e => up c o c5 (all7 c o c0 c1 c2 c4 (u1.extBut _ _ c5 e))
theorem zi3_end {n p1 p2 p3 : Addr} {k : Nat} {xs : Array Value} {Q : Fin → Shared → Prop} (hh : A.handled = none) (q1 : p1 < n) (Z : Zi3 s.heap n p1 p2 p3 k .none) (t1 : s.heap.IsTuple p1 xs) (e1 : xs[k]? = none)
    (hE : ∀ g e, (∀ c o, c ≠ n → c ≠ n + 5 → s.heap.get? c = some o → g.get? c = some o) → (∃ o, g.get? e = some o ∧ o.cls = .type "StopIteration") → E (.ref e) { s with heap := g }) :
    wpAny (model prog w) A (Builtin.«zip.__next__» ⟨[.ref (n + 5)], []⟩) Q E s := by
  obtain ⟨gz, gi, ⟨a, b, c, go⟩, r1, r2, r3⟩ := Z
  have d0 : n ≠ n + 5 := nd3 n 0 5 (by decide)
  have lp : ∀ {p : Addr} {m : Nat}, p < n → p ≠ n + m := fun hp => Nat.ne_of_lt (Nat.lt_of_lt_of_le hp (Nat.le_add_right _ _))
  show wpAny _ _ (field (.ref (n + 5)) 2 >>= _) _ _ _
  refine wpAny_bind (wpAny_field gz rfl (x := .bool false) rfl ?_)
  show wpAny _ _ (field (.ref (n + 5)) 3 >>= _) _ _ _
  refine wpAny_bind (wpAny_field gz rfl (x := .ref (n + 3)) rfl ?_)
  refine wpAny_bind (wpAny_seqItems gi rfl ?_)
  show wpAny _ _ (Builtin.SmallTypes.ownedTupleIsFree (.ref (n + 5)) >>= _) _ _ _
  refine wpAny_bind ?_
  unfold Builtin.SmallTypes.ownedTupleIsFree
  refine wpAny_bind (wpAny_field gz rfl (x := .none) rfl (wpAny_pure ?_))
  simp only [if_true]
  refine wpAny_bind (wpAny_rule ?_)
  refine wpAny_bind (wpAny_field gz rfl (x := .ref (n + 4)) rfl ?_)
  refine wpAny_bind (wpAny_setField_rec gz (by simp) fun g1 gz1 u1 => ?_)
  replace gz1 : IsZip g1 (n + 5) (n + 3) (n + 4) .ellipsis := gz1
  refine wpAny_bind ?_
  simp only [List.zipIdx_cons, List.zipIdx_nil, List.forIn_cons, List.forIn_nil]
  refine wpAny_bind (wpAny_bind (wpAny_onRaise ?_))
  show wpAny _ _ (Builtin.SmallTypes.nextOf (.ref n) >>= _) _ _ _
  refine wpAny_bind (RZ.nextOf_tuple_end hh (r1.extBut u1.extBut d0) (t1.extBut u1.extBut (lp q1)) e1 fun g2 e u2 he => ?_)
  obtain ⟨oe, hoe, hce⟩ := he
  have gz2 : IsZip g2 (n + 5) (n + 3) (n + 4) .ellipsis := u2 _ _ d0.symm gz1
  have ez : e ≠ n + 5 := fun x => by subst x; rw [gz2] at hoe; cases hoe; simp at hce
  refine wpAny_setField_rec gz2 (by simp) fun g3 _ u3 => hE g3 e (fun c o c0 c5 x => u3.extBut _ _ c5 (u2 _ _ c0 (u1.extBut _ _ c5 x))) ⟨oe, u3.extBut _ _ ez hoe, hce⟩
theorem next3_item {n p1 p2 p3 : Addr} {k : Nat} {xs ys zs : Array Value} {x y z : Value} {Q : Option Value → Shared → Prop} (q1 : p1 < n) (q2 : p2 < n) (q3 : p3 < n) (Z : Zi3 s.heap n p1 p2 p3 k .none) (t1 : s.heap.IsTuple p1 xs) (t2 : s.heap.IsTuple p2 ys) (t3 : s.heap.IsTuple p3 zs)
    (e1 : xs[k]? = some x) (e2 : ys[k]? = some y) (e3 : zs[k]? = some z)
    (hQ : ∀ g, IsZip g (n + 5) (n + 3) (n + 4) (rawInt s.heap.objs.size) → Tri g (n + 4) x y z → g.IsTupleIter n p1 (k + 1) → g.IsTupleIter (n + 1) p2 (k + 1) → g.IsTupleIter (n + 2) p3 (k + 1) → Tri g s.heap.objs.size x y z → g.objs.size = s.heap.objs.size + 1 →
      (∀ c o, c ≠ n → c ≠ n + 1 → c ≠ n + 2 → c ≠ n + 4 → c ≠ n + 5 → s.heap.get? c = some o → g.get? c = some o) → Q (some (.ref s.heap.objs.size)) { s with heap := g }) : wpAny (model prog w) A (pyNext (.ref (n + 5))) Q E s := by
  have ty : s.TypeIs (.ref (n + 5)) "zip" := ⟨_, Z.zz, rfl⟩
  unfold pyNext
  exact wpAny_bind (wpAny_attempt (wpAny_callSpecial?_slot (name := Str.ofString "__next__") ty F.slot_zip_next (wpAny_call_entry F.slot_zip_next ty F.entry_zip_next
    (zi3_item q1 q2 q3 Z t1 t2 t3 e1 e2 e3 fun g a1 a2 a3 a4 a5 a6 a7 a8 => wpAny_pure (hQ g a1 a2 a3 a4 a5 a6 a7 a8)) (F.args_zip_next_1 _))))
theorem next3_end {n p1 p2 p3 : Addr} {k : Nat} {xs : Array Value} {Q : Option Value → Shared → Prop} (hh : A.handled = none) (q1 : p1 < n) (Z : Zi3 s.heap n p1 p2 p3 k .none) (t1 : s.heap.IsTuple p1 xs) (e1 : xs[k]? = none)
    (hQ : ∀ g, (∀ c o, c ≠ n → c ≠ n + 5 → s.heap.get? c = some o → g.get? c = some o) → Q none { s with heap := g }) : wpAny (model prog w) A (pyNext (.ref (n + 5))) Q E s := by
  have ty : s.TypeIs (.ref (n + 5)) "zip" := ⟨_, Z.zz, rfl⟩
  unfold pyNext
  refine wpAny_bind (wpAny_attempt (wpAny_callSpecial?_slot (name := Str.ofString "__next__") ty F.slot_zip_next (wpAny_call_entry F.slot_zip_next ty F.entry_zip_next (zi3_end hh q1 Z t1 e1 fun g e kk he => ?_) (F.args_zip_next_1 _))))
  obtain ⟨o, ho, hc⟩ := he
  refine wpAny_bind (wpAny_isInstance (T := "StopIteration") (b := true) ⟨o, ho, hc⟩ isSubtype_stop ?_)
  exact wpAny_pure (hQ _ kk)
end
theorem tc_zip3 (a b c : Value) : checkTypeCall "zip" ⟨[a, b, c], []⟩ = pure () := by kernel_rfl
theorem nc_zip3 (a b c : Value) : checkBuiltinCall "zip.__new__" ⟨[.type "zip", a, b, c], []⟩ = pure () := by kernel_rfl
theorem ai_obj4 (a b c d : Value) : argsOk "object.__init__" ⟨[a, b, c, d], []⟩ := by
  unfold argsOk
  rw [signature?_of (o := ['t', 'c', 'e', 'j', 'b', 'o']) (n := ['_', '_', 't', 'i', 'n', 'i', '_', '_']) (id := "object.__init__") (by kernel_rfl) PySem.F.owner_object]
  kernel_rfl
abbrev itObj (p : Addr) : Obj := { cls := .type "tuple_iterator", data := .fields #[.ref p, .int 0 0] }
abbrev zg1 (h : Heap) (p1 : Addr) : Heap := h.push (itObj p1)
abbrev zg2 (h : Heap) (p1 p2 : Addr) : Heap := (zg1 h p1).push (itObj p2)
abbrev zg3 (h : Heap) (p1 p2 p3 : Addr) : Heap := (zg2 h p1 p2).push (itObj p3)
abbrev zg4 (h : Heap) (p1 p2 p3 : Addr) : Heap := (zg3 h p1 p2 p3).push { cls := .type "tuple", data := .seq #[.ref h.objs.size, .ref (zg1 h p1).objs.size, .ref (zg2 h p1 p2).objs.size] }
abbrev zg5 (h : Heap) (p1 p2 p3 : Addr) : Heap := (zg4 h p1 p2 p3).push { cls := .type "tuple", data := .seq #[.none, .none, .none] }
abbrev zg6 (h : Heap) (p1 p2 p3 : Addr) : Heap := (zg5 h p1 p2 p3).push { cls := .type "zip", data := .fields #[.none, .bool false, .bool false, .ref (zg3 h p1 p2 p3).objs.size, .ref (zg4 h p1 p2 p3).objs.size] }
theorem meets_zip3 (p1 p2 p3 : Addr) (xs ys zs : Array Value) :
    Meets (Builtin.«zip.__new__» ⟨[.type "zip", .ref p1, .ref p2, .ref p3], []⟩) (fun _ R s => s.heap.IsTuple p1 xs ∧ s.heap.IsTuple p2 ys ∧ s.heap.IsTuple p3 zs ∧ R (.ok (.ret (.ref (zg5 s.heap p1 p2 p3).objs.size))) { s with heap := zg6 s.heap p1 p2 p3 }) :=
  .of_wp fun prog w A R s h => by
    obtain ⟨hp, g, d, tk, os⟩ := s
    obtain ⟨t1, t2, t3, h⟩ := h
    have hsub := PySem.sub_zip
    have L1 : Heap.IsTuple (Shared.heap ⟨hp, g, d, tk, os⟩) p1 xs := t1
    have L2 : Heap.IsTuple (Shared.heap ⟨hp.push (itObj p1), g, d, tk, os⟩) p2 ys := Heap.IsTuple.push t2 _
    have L3 : Heap.IsTuple (Shared.heap ⟨(hp.push (itObj p1)).push (itObj p2), g, d, tk, os⟩) p3 zs := Heap.IsTuple.push (Heap.IsTuple.push t3 _) _
    wp_walk using wpAny_pyIter_tuple L1, wpAny_pyIter_tuple L2, wpAny_pyIter_tuple L3
    exact ⟨_, rfl, h⟩
section
variable {prog : Program} {w : World} {A : Around} {E : Value → Shared → Prop} {s : Shared}
theorem call_zip3 {p1 p2 p3 : Addr} {xs ys zs : Array Value} {Q : Value → Shared → Prop} (t1 : s.heap.IsTuple p1 xs) (t2 : s.heap.IsTuple p2 ys) (t3 : s.heap.IsTuple p3 zs)
    (h : ∀ g, Zi3 g s.heap.objs.size p1 p2 p3 0 .none → g.objs.size = s.heap.objs.size + 6 → (∀ c o, s.heap.get? c = some o → g.get? c = some o) → Q (.ref (s.heap.objs.size + 5)) { s with heap := g }) :
    wpAny (model prog w) A (call (.type "zip") [.ref p1, .ref p2, .ref p3]) Q E s := by
  refine callType_new PySem.F.called_zip (by decide) (tc_zip3 _ _ _) (nc_zip3 _ _ _) (fun obj => ai_obj4 obj _ _ _) PySem.F.entry_zip_new (meets_zip3 p1 p2 p3 xs ys zs) ⟨t1, t2, t3, ?_⟩
  have y1 : (zg1 s.heap p1).objs.size = s.heap.objs.size + 1 := Heap.size_push ..
  have y2 : (zg2 s.heap p1 p2).objs.size = s.heap.objs.size + 2 := by rw [Heap.size_push, y1]
  have y3 : (zg3 s.heap p1 p2 p3).objs.size = s.heap.objs.size + 3 := by rw [Heap.size_push, y2]
  have y4 : (zg4 s.heap p1 p2 p3).objs.size = s.heap.objs.size + 4 := by rw [Heap.size_push, y3]
  have y5 : (zg5 s.heap p1 p2 p3).objs.size = s.heap.objs.size + 5 := by rw [Heap.size_push, y4]
  have y6 : (zg6 s.heap p1 p2 p3).objs.size = s.heap.objs.size + 6 := by rw [Heap.size_push, y5]
  have up : ∀ {h : Heap} {o o' : Obj} {c : Addr}, h.get? c = some o → (h.push o').get? c = some o := fun e => Heap.get?_push_of_some _ e
  have w6 : (zg6 s.heap p1 p2 p3).get? (zg5 s.heap p1 p2 p3).objs.size = some _ := Heap.get?_push_size _ rfl
  have w5 : (zg6 s.heap p1 p2 p3).get? (zg4 s.heap p1 p2 p3).objs.size = some _ := up (Heap.get?_push_size _ rfl)
  have w4 : (zg6 s.heap p1 p2 p3).get? (zg3 s.heap p1 p2 p3).objs.size = some _ := up (up (Heap.get?_push_size _ rfl))
  have w3 : (zg6 s.heap p1 p2 p3).get? (zg2 s.heap p1 p2).objs.size = some _ := up (up (up (Heap.get?_push_size _ rfl)))
  have w2 : (zg6 s.heap p1 p2 p3).get? (zg1 s.heap p1).objs.size = some _ := up (up (up (up (Heap.get?_push_size _ rfl))))
  have w1 : (zg6 s.heap p1 p2 p3).get? s.heap.objs.size = some _ := up (up (up (up (up (Heap.get?_push_size _ rfl)))))
  show _ ∧ _
  rw [y3, y4, y5] at w6
  rw [y4] at w5
  rw [y1, y2, y3] at w4
  rw [y2] at w3
  rw [y1] at w2
  rw [y5]
  exact ⟨⟨_, w6, rfl⟩, h _ ⟨w6, w4, ⟨_, _, _, w5⟩, ⟨_, w1, rfl, rfl⟩, ⟨_, w2, rfl, rfl⟩, ⟨_, w3, rfl, rfl⟩⟩ y6 fun c o x => up (up (up (up (up (up x)))))⟩
end
end Fr

namespace Fr
open PySem PySem.Spec PyProof.Rows L2
def ItTri (K : PySem.W.Frag) (a b c : Addr) : It :=
  ⟨fun i H => ∃ (xs ys zs : List V) (x y z : V), (SqT K H a xs ∧ SqT K H b ys ∧ SqT K H c zs) ∧ xs[i]? = some x ∧ ys[i]? = some y ∧ zs[i]? = some z,
    fun i H v H' => ∃ T x y z, v = .ref T ∧ H T = none ∧ H' = upd H T (.tup [x, y, z]) ∧ (∀ l, SqT K H a l → l[i]? = some x) ∧ (∀ l, SqT K H b l → l[i]? = some y) ∧ ∀ l, SqT K H c l → l[i]? = some z,
    fun i H => ∃ xs ys zs : List V, (SqT K H a xs ∧ SqT K H b ys ∧ SqT K H c zs) ∧ xs.length ≤ i⟩
abbrev fp3 (n : Addr) : List Addr := [n, n + 1, n + 2, n + 3, n + 4, n + 5]
theorem fp3_cases {n c : Addr} (h : c ∈ fp3 n) : c = n ∨ c = n + 1 ∨ c = n + 2 ∨ c = n + 3 ∨ c = n + 4 ∨ c = n + 5 := by simpa [fp3] using h
theorem fp3_out {n c : Addr} (h : c ∉ fp3 n) : c ≠ n ∧ c ≠ n + 1 ∧ c ≠ n + 2 ∧ c ≠ n + 3 ∧ c ≠ n + 4 ∧ c ≠ n + 5 := by simpa [fp3] using h
theorem turn_tri {P : Program} {w : World} {K : PySem.W.Frag} {elts : List Expr} {kk : Nat} {tpos : Pos} {a b c n : Addr} (ha : a < n) (hb : b < n) (hc : c < n) :
    Turn P w K (.Tuple elts kk tpos) (ItTri K a b c) (fp3 n) (n + 5) (fun i h => Zi3 h n a b c i .none) where
  mem := by simp [fp3]
  obj := fun i h st d hd => by
    obtain ⟨g5, g3, ⟨_, _, _, g4⟩, ⟨o0, e0, _, d0⟩, ⟨o1, e1, _, d1⟩, ⟨o2, e2, _, d2⟩⟩ := st
    rcases fp3_cases hd with q | q | q | q | q | q <;> rw [q]
    · exact ⟨o0, e0, fun v z => by rw [d0] at z; cases z⟩
    · exact ⟨o1, e1, fun v z => by rw [d1] at z; cases z⟩
    · exact ⟨o2, e2, fun v z => by rw [d2] at z; cases z⟩
    · exact ⟨_, g3, fun v z => nomatch z⟩
    · exact ⟨_, g4, fun v z => nomatch z⟩
    · exact ⟨_, g5, fun v z => nomatch z⟩
  keep := fun i h h' st k => by
    obtain ⟨g5, g3, ⟨x, y, z, g4⟩, r0, r1, r2⟩ := st
    exact ⟨k _ (by simp [fp3]) _ g5, k _ (by simp [fp3]) _ g3, ⟨x, y, z, k _ (by simp [fp3]) _ g4⟩, r0.at fun o q => k _ (by simp [fp3]) o q, r1.at fun o q => k _ (by simp [fp3]) o q, r2.at fun o q => k _ (by simp [fp3]) o q⟩
  item := by
    intro X e1 e2 e3 hcalm i pins s σ H E I hf st hg
    subst e1 e2 e3
    obtain ⟨xs, ys, zs, x, y, z, ⟨sx, sy, sz⟩, hx, hy, hz⟩ := hg
    obtain ⟨its, rv, p1, _⟩ := I.tuple sx
    obtain ⟨its2, rv2, p2, _⟩ := I.tuple sy
    obtain ⟨its3, rv3, p3, _⟩ := I.tuple sz
    obtain ⟨u, hu, ru⟩ := rv.get hx
    obtain ⟨u2, hu2, ru2⟩ := rv2.get hy
    obtain ⟨u3, hu3, ru3⟩ := rv3.get hz
    have zl : n + 5 < s.heap.objs.size := Heap.lt_size st.zz
    refine next3_item ha hb hc st p1 p2 p3 (x := u) (y := u2) (z := u3) (by simpa using hu) (by simpa using hu2) (by simpa using hu3) fun g gz go r0 r1 r2 hT hsz hk => ?_
    refine ⟨_, rfl, wpAny_letOwnedTupleGo_zip (s := { s with heap := g }) gz fun g2 gz2 sb => ?_⟩
    have hT2 : g2.get? s.heap.objs.size = some { cls := .type "tuple", data := .seq #[u, u2, u3] } := (sb.2 _ (Nat.ne_of_gt zl)).trans hT
    have new : ObjOk X.prog X.w (upd H s.heap.objs.size (.tup [x, y, z])) g2 s.heap.objs.size (.tup [x, y, z]) := ⟨(by show 3 ≤ sizeLine; decide), [u, u2, u3], .cons ru (.cons ru2 (.cons ru3 .nil)), ⟨_, hT2, rfl, _, rfl⟩⟩
    have kk2 : ∀ d o, d ∉ fp3 n → s.heap.get? d = some o → g2.get? d = some o := fun d o hd q => by
      obtain ⟨n0, n1, n2, n3, n4, n5⟩ := fp3_out hd
      exact (sb.2 d n5).trans (hk d o n0 n1 n2 n4 n5 q)
    have I1 : Inv X pins σ (upd H s.heap.objs.size (.tup [x, y, z])) { s with heap := g2 } := I.turnedNew (t' := s.toks) (ch := fp3 n) kk2 hf (Nat.le_refl _) new
    have d35 : (n + 3 : Addr) ≠ n + 5 := nd3 n 3 5 (by decide)
    have g3 : Tri g2 (n + 3) (.ref n) (.ref (n + 1)) (.ref (n + 2)) := (sb.2 _ d35).trans (hk _ _ (nd3 n 3 0 (by decide)) (nd3 n 3 1 (by decide)) (nd3 n 3 2 (by decide)) (nd3 n 3 4 (by decide)) d35 st.ti)
    refine ⟨.ref s.heap.objs.size, _, I1, rfl, ⟨_, x, y, z, rfl, I.hok.fresh (Nat.le_refl _), rfl, fun l hl => by rw [I.tuple_inj hl sx]; exact hx, fun l hl => by rw [I.tuple_inj hl sy]; exact hy, fun l hl => by rw [I.tuple_inj hl sz]; exact hz⟩,
      ⟨gz2, g3, ⟨u, u2, u3, (sb.2 _ (nd3 n 4 5 (by decide))).trans go⟩, r0.at fun o q => (sb.2 _ (nd3 n 0 5 (by decide))).trans q, r1.at fun o q => (sb.2 _ (nd3 n 1 5 (by decide))).trans q, r2.at fun o q => (sb.2 _ (nd3 n 2 5 (by decide))).trans q⟩, fun d hd => ?_⟩
    have hlt : d < s.heap.objs.size := by
      refine Nat.lt_of_le_of_lt ?_ zl
      rcases fp3_cases hd with q | q | q | q | q | q <;> rw [q]
      · exact Nat.le_add_right n 5
      all_goals exact Nat.add_le_add_left (by decide) n
    rw [upd_ne (Nat.ne_of_lt hlt)]
    exact (hf d hd).1
  done := by
    intro X e1 e2 e3 hcalm i pins s σ H E I hf st hg
    subst e1 e2 e3
    obtain ⟨xs, ys, zs, ⟨sx, _, _⟩, hend⟩ := hg
    obtain ⟨its, rv, p1, _⟩ := I.tuple sx
    have l1 := rv.length
    exact next3_end (I.ok.hd hcalm) ha st p1 (by simp; omega) fun g hk => ⟨rfl, I.turnedL (t' := s.toks) (ch := fp3 n) (fun d o hd q => by
      obtain ⟨n0, n1, n2, n3, n4, n5⟩ := fp3_out hd
      exact hk d o n0 n5 q) hf⟩
  self := fun A i s Q E st h => wpAny_pyIter_zip st.zz h
def iTri (K : PySem.W.Frag) (ta : TA) : TI := fun σ H R => ta σ H fun vs H1 => ∃ a b c xs ys zs, vs = [.ref a, .ref b, .ref c] ∧ SqT K H1 a xs ∧ SqT K H1 b ys ∧ SqT K H1 c zs ∧ R (ItTri K a b c) H1
theorem vals3 {x y z : V} {us : List Value} (h : Vals [x, y, z] us) : ∃ u v w, us = [u, v, w] ∧ RelV x u ∧ RelV y v ∧ RelV z w := by
  cases h with
  | cons h1 h =>
    cases h with
    | cons h2 h =>
      cases h with
      | cons h3 h =>
        cases h
        exact ⟨_, _, _, rfl, h1, h2, h3⟩
theorem pi_tri {X : Cx} {e e2 e3 : Expr} {ta : TA} {p pos tpos : Pos} {elts : List Expr} {kk : Nat} (hg : Gl X "zip") (hm : X.mg "zip" = none) (ha : PA X [e, e2, e3] ta)
    (hs : starEach [e, e2, e3] X.env = (false, eval e X.env) :: starEach [e2, e3] X.env := by rfl) (hpl : (backTo pos (starEach [e2, e3] X.env)).any (·.1) = false := by rfl) :
    PI X (.Tuple elts kk tpos) (.Call (.Name "zip" p) [e, e2, e3] [] pos) (iTri X.K ta) := by
  refine ⟨fun pins s σ H R I h => ?_⟩
  refine Call_ (ld_blt I hg hm PyProof.Rows.boot_zip (PyProof.Rows.callWith_type1 (thn (ha.run pos pins s σ H _ I h) fun us s1 ⟨vs, H1, I1, r1, a, b, c, xs, ys, zs, ex, sx, sy, sz, q⟩ => ?_) hs hpl))
  subst ex
  obtain ⟨_, _, _, rfl, r, r', r''⟩ := vals3 r1
  cases r
  cases r'
  cases r''
  obtain ⟨its, rv, p1, _⟩ := I1.tuple sx
  obtain ⟨its2, rv2, p2, _⟩ := I1.tuple sy
  obtain ⟨its3, rv3, p3, _⟩ := I1.tuple sz
  obtain ⟨o1, ho1, _⟩ := id p1
  obtain ⟨o2, ho2, _⟩ := id p2
  obtain ⟨o3, ho3, _⟩ := id p3
  have fresh : ∀ d, d ∈ fp3 s1.heap.objs.size → FpOk X pins H1 d := fun d hd => by
    have hle : s1.heap.objs.size ≤ d := by
      rcases fp3_cases hd with z | z | z | z | z | z <;> rw [z]
      · exact Nat.le_refl _
      all_goals exact Nat.le_add_right _ _
    exact I1.fpOk hle (I1.hok.fresh hle)
  refine call_zip3 (show s1.heap.IsTuple a its.toArray from p1) (show s1.heap.IsTuple b its2.toArray from p2) (show s1.heap.IsTuple c its3.toArray from p3) fun g Z hsz hk => wpAny_pyIter_zip Z.zz ?_
  have I2 : Inv X pins σ H1 { s1 with heap := g } := I1.kept (t' := s1.toks) hk
  exact ⟨_, fp3 s1.heap.objs.size, _, _, H1, rfl, I2, turn_tri (Heap.lt_size ho1) (Heap.lt_size ho2) (Heap.lt_size ho3), Z, fresh, q⟩
def YTri (xs ys zs : Nat → Option V) : Nat → Hp → V → Hp → Prop := fun i H v H' => ∃ T x y z, v = .ref T ∧ H T = none ∧ H' = upd H T (.tup [x, y, z]) ∧ xs i = some x ∧ ys i = some y ∧ zs i = some z
theorem ytri_same {xs ys zs : Nat → Option V} {i : Nat} {H : Hp} {x : V} {H' : Hp} (y : YTri xs ys zs i H x H') : Same H H' := by
  obtain ⟨T, _, _, _, _, n, rfl, _⟩ := y
  exact snew n
theorem walk_tri {K : PySem.W.Frag} {a b c : Addr} {xs ys zs : List V} (h1 : xs.length = ys.length) (h2 : xs.length = zs.length) : Walk (ItTri K a b c) xs.length (fun H => SqT K H a xs ∧ SqT K H b ys ∧ SqT K H c zs) (YTri (fun i => xs[i]?) (fun i => ys[i]?) (fun i => zs[i]?)) := by
  refine ⟨fun i _ hi q => ?_, fun _ q => ⟨xs, ys, zs, q, Nat.le_refl _⟩, fun i H v H' _ q y => ?_⟩
  · have g2 : i < ys.length := by omega
    have g3 : i < zs.length := by omega
    exact ⟨xs, ys, zs, xs[i], ys[i], zs[i], q, by simp [hi], by simp [g2], by simp [g3]⟩
  · obtain ⟨T, x, y, z, e1, e2, e3, f1, f2, f3⟩ := y
    exact ⟨T, x, y, z, e1, e2, e3, f1 xs q.1, f2 ys q.2.1, f3 zs q.2.2⟩
end Fr

namespace Fr
open PySem PySem.Spec PyProof.Rows L2
def kw2 {α : Type} : List α → List α → List α
  | [], [c, s] => [s, c]
  | _, _ => []
structure CalK (P : Program) (w : World) (K : PySem.W.Frag) (mg : Str → Option Value) (base : Heap) (k : Nat) (x : Str) (sp : Sp) (ks : List Str) (gV : List V → List V → List V) : Prop where
  ex : ∃ (f : Addr) (fd : FuncData) (ps : List Str) (g : List Value → List Value → List Value), FnOk P w K mg base CX0 k f fd ps sp ∧ mg x = some (.ref f) ∧ PySem.W.keepIn K (.ref f) = true ∧ KBinds K fd ps ks g gV
theorem pe_ck {X : Cx} {k j : Nat} {x : Str} {sp : Sp} {ks : List Str} {gV : List V → List V → List V} {kws : List Keyword} {tk : TA} {p pos : Pos} (c : CalK X.prog X.w X.K X.mg X.base k x sp ks gV) (hr : Room j X.A) (hk : k ≤ j) (hg : Gl X x) (hkw : PK X kws tk)
    (hall : (backToKw pos (keywordEach kws X.env)).all (·.1.isSome) = true := by rfl) (hks : (backToKw pos (keywordEach kws X.env)).filterMap (·.1) = ks := by rfl) (hdb : (x == ("__debug__" : Str)) = false := by decide)
    (hpl : ((backTo pos (starEach [] X.env)).any (·.1) || (backToKw pos (keywordEach kws X.env)).any (·.1.isNone)) = false := by rfl) :
    PE X (.Call (.Name x p) [] kws pos) (tCallK sp gV C8.E0 tNil tk) := by
  obtain ⟨f, fd, ps, g, F, hm, kp, hb⟩ := c.ex
  refine ⟨fun pins s σ H Q I h => ?_⟩
  refine wpAny_Call_Name_kw (ld_glob I hg hm ?_ hdb)
  refine PySem.W.callWith_KW0 (h₀ := X.base) I.ok.mod.kin kp hall (thn (hkw.run pos pins s σ H _ I h) fun ws s2 ⟨zs, H2, I2, rz, q2⟩ => ⟨I2.kIn, ?_⟩) hpl
  rw [hks]
  exact run_fnk (us := []) (vs := []) F (hr.mono hk) hb pass0 I2 .nil rz q2
def bs (H : Hp) (r : Addr) : Hp := fun b => if b = r then none else match H b with
  | some (.tbl _) => none
  | o => o
theorem bs_of {H : Hp} {r b : Addr} {o : HO} (h : H b = some o) (n : b ≠ r) (t : ∀ ps, o ≠ .tbl ps) : bs H r b = some o := by
  unfold bs
  rw [if_neg n, h]
  cases o <;> first | rfl | exact absurd rfl (t _)
theorem of_bs {H : Hp} {r b : Addr} {o : HO} (h : bs H r b = some o) : H b = some o ∧ b ≠ r ∧ ∀ ps, o ≠ .tbl ps := by
  unfold bs at h
  by_cases n : b = r
  · rw [if_pos n] at h
    cases h
  · rw [if_neg n] at h
    cases e : H b with
    | none =>
      rw [e] at h
      cases h
    | some u =>
      rw [e] at h
      cases u <;> first | (cases h; exact ⟨rfl, n, fun ps z => by cases z⟩) | cases h
structure LS (TT : List (Addr × Str)) (r : Addr) (m : Nat) (B H : Hp) : Prop where
  rs : RS r m B H
  tb : LamX.Tabs TT H
  nt : ∀ b ps, B b ≠ some (.tbl ps)
theorem tabs_dr {TT : List (Addr × Str)} {r : Addr} {m m' : Nat} {H H' : Hp} (hT : LamX.Tabs TT H) (h : RngOk H r m) (d : Dr r m' H H') : LamX.Tabs TT H' := by
  obtain ⟨a, b, c, h1, _⟩ := h
  obtain ⟨a', b', c', h2, _⟩ := d.ok
  have e : H' = upd H r (.lst [.int a', .int b', .int c']) := funext fun x => by
    by_cases hx : x = r
    · rw [hx, h2, upd_same]
    · rw [upd_ne hx, d.ne x hx]
  rw [e]
  exact tabs_lst hT h1
theorem LS.dr {TT : List (Addr × Str)} {r : Addr} {m m' : Nat} {B H H' : Hp} (h : LS TT r m B H) (d : Dr r m' H H') : LS TT r m' B H' := ⟨h.rs.dr d, tabs_dr h.tb h.rs.ok d, h.nt⟩
theorem LS.new {TT : List (Addr × Str)} {r p : Addr} {m : Nat} {B H : Hp} {o : HO} (h : LS TT r m B H) (e : H p = none) : LS TT r m B (upd H p o) := ⟨h.rs.new e, h.tb.ext (snew e), h.nt⟩
theorem LS.grow {TT : List (Addr × Str)} {r : Addr} {m : Nat} {B H H' : Hp} (h : LS TT r m B H) (e : Same H H') : LS TT r m B H' := ⟨h.rs.grow e, h.tb.ext e, h.nt⟩
theorem LS.put {TT : List (Addr × Str)} {r p : Addr} {m : Nat} {B H : Hp} {o : HO} {xs : List V} (h : LS TT r m B H) (e : B p = none) (n : r ≠ p) (l : H p = some (.lst xs)) : LS TT r m B (upd H p o) := ⟨h.rs.put e n, tabs_lst h.tb l, h.nt⟩
theorem LS.mono {TT : List (Addr × Str)} {r : Addr} {m m' : Nat} {B H : Hp} (h : LS TT r m B H) (e : m ≤ m') : LS TT r m' B H := ⟨h.rs.mono e, h.tb, h.nt⟩
/-- a base of its own -/
theorem LS.own {TT : List (Addr × Str)} {r : Addr} {m : Nat} {H : Hp} (h : RngOk H r m) (t : LamX.Tabs TT H) : LS TT r m (bs H r) H := ⟨⟨fun b o e => (of_bs e).1, by
  cases e : bs H r r with
  | none => rfl
  | some o => exact absurd rfl (of_bs e).2.1, h⟩, t, fun b ps e => (of_bs e).2.2 ps rfl⟩
theorem tabs_cut {TT : List (Addr × Str)} {r : Addr} {m : Nat} {H H' : Hp} (hT : LamX.Tabs TT H) (h : RngOk H r m) (s : Same (cutr H r) H') : LamX.Tabs TT H' := by
  obtain ⟨a, b, c, h1, _⟩ := h
  intro p hp
  obtain ⟨ps, e1, e2, e3⟩ := hT p hp
  refine ⟨ps, s _ _ ?_, e2, fun pos cv hc => ?_⟩
  · rw [cutr_ne fun z => by rw [z, h1] at e1; cases e1]
    exact e1
  · obtain ⟨c', f1, f2⟩ := e3 pos cv hc
    refine ⟨c', f1, s _ _ ?_⟩
    rw [cutr_ne fun z => by rw [z, h1] at f2; unfold LamX.CodeO at f2; cases f2]
    exact f2
def tupo : HO → Bool
  | .tup _ => true
  | .frz _ (.tup _) => true
  | _ => false
def ST (H H' : Hp) : Prop := ∀ b o, H b = some o → tupo o = true → H' b = some o
theorem ST.of {H H' : Hp} (e : Same H H') : ST H H' := fun b o h _ => e b o h
theorem ST.tr {A B C : Hp} (a : ST A B) (b : ST B C) : ST A C := fun x o h d => b x o (a x o h d) d
theorem ST.put {H : Hp} {l : Addr} {xs : List V} {o : HO} (h : H l = some (.lst xs)) : ST H (upd H l o) := fun b u e d => by
  rw [upd_ne fun z => by rw [z, h] at e; cases e; cases d]
  exact e
theorem ST.dr {H H' : Hp} {r : Addr} {m m' : Nat} (h : RngOk H r m) (d : Dr r m' H H') : ST H H' := fun b u e t => by
  obtain ⟨x, y, z, h1, _⟩ := h
  rw [d.ne b fun q => by rw [q, h1] at e; cases e; cases t]
  exact e
theorem ST.bs {H : Hp} {r : Addr} {m : Nat} (h : RngOk H r m) : ST H (Fr.bs H r) := fun b u e t => by
  obtain ⟨x, y, z, h1, _⟩ := h
  refine bs_of e (fun q => ?_) fun ps q => ?_
  · rw [q, h1] at e
    cases e
    cases t
  · rw [q] at t
    cases t
mutual
def noL : PyData → Bool
  | .list _ => false
  | .tuple ds => noLs ds
  | .dict _ => false
  | .none => true
  | .bool _ => true
  | .int _ => true
  | .str _ => true
def noLs : List PyData → Bool
  | [] => true
  | d :: ds => noL d && noLs ds
end
theorem noLs_map {α : Type} {g : α → PyData} (h : ∀ x, noL (g x) = true) : ∀ xs : List α, noLs (xs.map g) = true
  | [] => rfl
  | x :: xs => by
    show (noL (g x) && noLs (xs.map g)) = true
    rw [h x, noLs_map h xs]
    rfl
theorem noL_ints (ns : List Int) : noLs (ns.map PyData.int) = true := noLs_map (fun _ => rfl) ns
theorem noL_rd (r : Rd1) : noL r.d = true := by
  show (true && (noLs (r.v.map PyData.int) && (true && true))) = true
  rw [noL_ints]
  rfl
theorem noL_k (t : Tb) : noL t.k = true := by
  show (true && (noLs (t.rs.map Rd1.d) && true)) = true
  rw [noLs_map noL_rd]
  rfl
section
variable {K : PySem.W.Frag}
theorem sqtt {H H' : Hp} (e : ST H H') {a : Addr} {xs : List V} (h : SqT K H a xs) : SqT K H' a xs := by
  rcases h with (h | ⟨o, h⟩) | h
  · exact .inl (.inl (e _ _ h rfl))
  · exact .inl (.inr ⟨o, e _ _ h rfl⟩)
  · exact .inr h
mutual
theorem dpt {H H' : Hp} (e : ST H H') : ∀ (d : PyData) (v : V), noL d = true → Dp K H v d → Dp K H' v d
  | .none, _, _, h => by cases h; exact .non
  | .bool b, _, _, h => by cases h; exact .bl b
  | .int i, _, _, h => by cases h; exact .int i
  | .str x, _, _, h => by cases h; exact .str x
  | .list ds, _, n, h => by cases n
  | .tuple ds, _, n, h => by
    cases h with
    | tup hs ha => exact .tup (sqtt e hs) (dpst e ds _ n ha)
  | .dict _, _, _, h => by cases h
theorem dpst {H H' : Hp} (e : ST H H') : ∀ (ds : List PyData) (vs : List V), noLs ds = true → DpAll K H vs ds → DpAll K H' vs ds
  | [], _, _, h => by cases h; exact .nil
  | d :: ds, _, n, h => by
    have n' : (noL d && noLs ds) = true := n
    rw [Bool.and_eq_true] at n'
    cases h with
    | cons h1 h2 => exact .cons (dpt e d _ n'.1 h1) (dpst e ds _ n'.2 h2)
end
theorem kvt {H H' : Hp} (e : ST H H') : ∀ {kvs : List (Key × V)} {ts : List Tb}, KvAt K H kvs ts → KvAt K H' kvs ts
  | [], _, h => by cases h; exact .nil
  | kv :: kvs, _, h => by
    cases h with
    | cons h1 h2 => exact .cons ⟨h1.1, dpt e _ _ (noL_k _) h1.2⟩ (kvt e h2)
end
section
variable {P : Program} {w : World} {K : PySem.W.Frag} {mg : Str → Option Value} {base : Heap}
theorem sd_bs {B H : Hp} {r : Addr} (s : Same B H) (n : B r = none) : SD B (bs H r) := fun b o h d => bs_of (s b o h) (ne_of_none h n) fun ps z => by
  rw [z] at d
  cases d
theorem SysAt.bs {C : Addr} {H : Hp} {r s : Addr} {m : Nat} {d md : Int} {ts : List Tb} (h : SysAt K C H s d md ts) (hr : RngOk H r m) (e : ∀ kvs, KvAt K H kvs ts → KvAt K (Fr.bs H r) kvs ts) : SysAt K C (Fr.bs H r) s d md ts := by
  obtain ⟨dx, t, kvs, h1, h2, h3⟩ := h.ob
  obtain ⟨a, b, c, h4, _⟩ := hr
  refine ⟨dx, t, kvs, bs_of h1 (fun z => ?_) (fun ps z => by cases z), bs_of h2 (fun z => ?_) (fun ps z => by cases z), e _ h3⟩
  · rw [z, h4] at h1
    cases h1
  · rw [z, h4] at h2
    cases h2
theorem find_nodup {x : Str} : ∀ {ts : List Tb} {tb : Tb}, (ts.map (·.n)).Nodup → tb ∈ ts → tb.n = x → ts.find? (fun t => decide (t.n = x)) = some tb
  | [], _, _, h, _ => by cases h
  | t :: ts, tb, n, h, e => by
    rw [List.map_cons, List.nodup_cons] at n
    rcases List.mem_cons.mp h with rfl | h
    · exact List.find?_cons_of_pos (by simpa using e)
    · rw [List.find?_cons_of_neg fun z => n.1 (by
        have : t.n = x := of_decide_eq_true z
        rw [this, ← e]
        exact List.mem_map.mpr ⟨tb, h, rfl⟩)]
      exact find_nodup n.2 h e
end
end Fr

namespace Fr
open PySem PySem.Spec PyProof.Rows L2
inductive KvEq (K : PySem.W.Frag) (H : Hp) (ls : List (Key × V)) : List (Key × V) → Bool → Prop
  | nil : KvEq K H ls [] true
  | miss {k : Key} {v : V} {r : List (Key × V)} : valV ls k = none → KvEq K H ls ((k, v) :: r) false
  | hit {k : Key} {v u : V} {r : List (Key × V)} {d e : PyData} {b : Bool} : valV ls k = some u → Dp K H v d → Dp K H u e → SeqAt.shaped d = true → SeqAt.shaped e = true → KvEq K H ls r b → KvEq K H ls ((k, v) :: r) (PyData.eqv d e && b)
def rEqKv (K : PySem.W.Frag) : R2 := fun x y H Q => ∃ (a b : Addr) (ks ls : List (Key × V)) (r : Bool), x = .ref a ∧ y = .ref b ∧ H a = some (.dK ks) ∧ H b = some (.dK ls) ∧ (ks.length = ls.length → KvEq K H ls ks r) ∧ Q (.bl (ks.length == ls.length && r)) H
section
variable {X : Cx} {pins : List (Addr × Obj)} {σ : L2.St} {H : Hp} {s : Shared}
theorem kvHits (I : Inv X pins σ H s) {A : Around} (hu : A.units + 64 < cLine) {ls : List (Key × V)} {vb : List (Key × Value)} (rb : KV ls vb) {ks : List (Key × V)} {r : Bool} (h : KvEq X.K H ls ks r) :
    ∀ {va : List (Key × Value)}, KV ks va → PySem.W.KeqHitsP X.prog X.w A s vb va r := by
  induction h with
  | nil =>
    intro va ra
    cases ra
    exact .nil
  | @miss k v t hv =>
    intro va ra
    cases ra with
    | @cons _ q _ qs h1 h2 =>
      obtain ⟨key, u⟩ := q
      obtain ⟨h1, h3⟩ := h1
      have h1' : k = key := h1
      subst h1'
      exact .miss (RelO.none_of (by rw [← hv]; exact rb.val k))
  | @hit k v u t d e b hv hd he sd se _ ih =>
    intro va ra
    cases ra with
    | @cons _ q _ qs h1 h2 =>
      obtain ⟨key, w⟩ := q
      obtain ⟨h1, h3⟩ := h1
      have h1' : k = key := h1
      subst h1'
      have rr : RelO (some u) (valueAt vb k) := by rw [← hv]; exact rb.val k
      obtain ⟨y, hy, ry⟩ := rr.some_of
      obtain ⟨as, q1⟩ := Dp.reads I d _ _ hd h3
      obtain ⟨bs, q2⟩ := Dp.reads I e _ _ he ry
      exact .hit hy (SeqAt.eqAt_reads d e A s _ _ as bs q1 q2 (SeqAt.canLay_of_shaped sd) (SeqAt.canLay_of_shaped se) (SeqAt.room_of_shaped sd hu)).eqP (ih h2)
theorem op_eqKv (hu : X.A.units + 65 < cLine) : OpR X (compareOp .Eq) (rEqKv X.K) := by
  intro pins s σ H x y v u Q I rx ry h
  obtain ⟨a, b, ks, ls, r, rfl, rfl, ha, hb, hr, q⟩ := h
  cases (show v = Value.ref a from rx)
  cases (show u = Value.ref b from ry)
  obtain ⟨_, ya, va, ra, da⟩ := (show ObjOk X.prog X.w H s.heap a (.dK ks) from I.hok a _ ha)
  obtain ⟨_, yb, vb, rb, db⟩ := (show ObjOk X.prog X.w H s.heap b (.dK ls) from I.hok b _ hb)
  have e1 : va.length = ks.length := ra.length.symm
  have e2 : vb.length = ls.length := rb.length.symm
  refine PySem.W.rcP_dicts (knd := mixKind X.prog X.w) (r := r) ya yb da db (by omega) (fun e => kvHits I (by show X.A.units + 1 + 64 < cLine; omega) rb (hr (by omega)) ra) _ _ ?_
  rw [e1, e2]
  exact ⟨.bl _, H, I, rfl, q⟩
end
structure EqM (P : Program) (w : World) (K : PySem.W.Frag) (mg : Str → Option Value) (base : Heap) (k : Nat) (C : Addr) (sp : Sp) : Prop where
  ex : ∃ (f : Addr) (fd : FuncData) (ps : List Str), Cls K C ∧ PySem.W.findIn K (.ref C) "__eq__" = some (some (.ref f)) ∧ PySem.W.isFn K (.ref f) = true ∧ FnOk P w K mg base CX0 k f fd ps sp ∧ Binds K fd ps []
def rEqOwn (C : Addr) (sp : Sp) : R2 := fun x y H Q => ∃ (a b dx dy : Addr) (fs gs : List (Str × V)), x = .ref a ∧ y = .ref b ∧ H a = some (.ins C dx fs) ∧ H b = some (.ins C dy gs) ∧ sp [.ref a, .ref b] H (fun v H' => ∃ r, v = .bl r ∧ Q (.bl r) H') C8.E0
theorem op_eqOwn {X : Cx} {k j : Nat} {C : Addr} {sp : Sp} (c : EqM X.prog X.w X.K X.mg X.base k C sp) (hr : Room j X.A) (hk : k ≤ j) : OpR X (compareOp .Eq) (rEqOwn C sp) := by
  intro pins s σ H x y v u Q I rx ry h
  obtain ⟨a, b, dx, dy, fs, gs, rfl, rfl, ha, hb, h⟩ := h
  cases (show v = Value.ref a from rx)
  cases (show u = Value.ref b from ry)
  obtain ⟨f, fd, ps, hc, hs, hf, F, hbd⟩ := c.ex
  obtain ⟨mA, J, _⟩ := ins_get I.hok ha
  obtain ⟨mB, J', _⟩ := ins_get I.hok hb
  obtain ⟨od, J, _⟩ := J.look
  obtain ⟨od', J', _⟩ := J'.look
  obtain ⟨m, hF⟩ := I.fr
  have hu : X.A.units < cLine := (hr.mono hk).units0
  refine PySem.W.cmp_K (op := .Eq) (tb := .ref C) hu hF I.ok.mod.kin J J'.type (by simp [PySem.W.notFirst]) hs hf ?_
  refine wpAny_mono (run_fn (us := [.ref a, .ref b]) (vs := [.ref a, .ref b]) F (hr.mono hk) hbd .nil pass0 I (.cons rfl (.cons rfl .nil)) h) (fun r s' q => ?_) fun _ _ x => x
  obtain ⟨z, H', I', rz, t, rfl, q⟩ := q
  obtain rfl : r = Value.bool t := rz
  exact ⟨.bl t, H', I', rfl, q⟩
structure MetK (P : Program) (w : World) (K : PySem.W.Frag) (mg : Str → Option Value) (base : Heap) (k : Nat) (C : Addr) (m : Str) (sp : Sp) (ks : List Str) (gV : List V → List V → List V) : Prop where
  ex : ∃ (f : Addr) (fd : FuncData) (ps : List Str) (g : List Value → List Value → List Value), Cls K C ∧ Meth K C m f ∧ FnOk P w K mg base CX0 k f fd ps sp ∧ KBinds K fd ps ks g gV
def tMethK (C : Addr) (m : Str) (sp : Sp) (gV : List V → List V → List V) (E : XK) (ta : TE) (tk : TA) : TE := fun σ H Q => ta σ H fun x H1 => ∃ a dx fs, x = .ref a ∧ H1 a = some (.ins C dx fs) ∧ fs.lookup m = none ∧
  tk σ H1 fun zs H2 => sp (gV [x] zs) H2 Q E
theorem pe_mtk {X : Cx} {k j : Nat} {C : Addr} {m : Str} {sp : Sp} {ks : List Str} {gV : List V → List V → List V} {o : Expr} {kws : List Keyword} {ta : TE} {tk : TA} {apos pos : Pos} {pl : Sem Bool} (c : MetK X.prog X.w X.K X.mg X.base k C m sp ks gV) (hr : Room j X.A) (hk : k ≤ j) (he : PE X o ta) (hkw : PK X kws tk)
    (hall : (backToKw pos (keywordEach kws X.env)).all (·.1.isSome) = true := by rfl) (hks : (backToKw pos (keywordEach kws X.env)).filterMap (·.1) = ks := by rfl)
    (hpl : ((backTo pos (starEach [] X.env)).any (·.1) || (backToKw pos (keywordEach kws X.env)).any (·.1.isNone)) = false := by rfl)
    (ht : eval (.Call (.Attribute o m apos) [] kws pos) X.env = (do
      let ov ← eval o X.env
      standAt apos.atName
      let (f, first) ← holding [ov] (getMethod ov m pl)
      callWith pos f first (backTo pos (starEach [] X.env)) (backToKw pos (keywordEach kws X.env))) := by rfl) :
    PE X (.Call (.Attribute o m apos) [] kws pos) (tMethK C m sp gV C8.E0 ta tk) := by
  obtain ⟨f, fd, ps, g, hc, hm, F, hb⟩ := c.ex
  refine ⟨fun pins s σ H Q I h => ?_⟩
  refine PySem.W.methodCall_KW (pl := pl) (thn (he.run pins s σ H _ I h) fun u s1 ⟨x, H1, I1, rx, a, dx, fs, ex, ea, l, q⟩ => ?_) ht
  subst ex
  obtain rfl : u = Value.ref a := rx
  refine getmeth_ok I1 ea hc hm l ?_
  refine PySem.W.callWith_KW0 (first := [.ref a]) (h₀ := X.base) I.ok.mod.kin hm.kp hall (thn (hkw.run pos pins s1 σ H1 _ I1 q) fun ws s2 ⟨zs, H2, I2, rz, q2⟩ => ⟨I2.kIn, ?_⟩) hpl
  rw [hks]
  exact run_fnk (us := [.ref a]) (vs := [.ref a]) F (hr.mono hk) hb pass0 I2 (.cons rfl .nil) rz q2
def kw1 {α : Type} : List α → List α → List α
  | [s], [c] => [s, c]
  | _, _ => []
end Fr

namespace Fr
open PySem PySem.Spec PyProof.Rows L2
theorem iter_dict : typeLookup (.type "dict") "__iter__" = pure (some (.builtin "dict.__iter__")) := by rw [typeLookup_type, builtinLookup_eq_fast]; kernel_rfl
section
variable {prog : Program} {w : World} {A : Around} {E : Value → Shared → Prop} {s : Shared}
theorem wp_putNew {d : Addr} {kvs : List (Key × Value)} {k : Key} {x v : Value} {Q : Unit → Shared → Prop} (hx : (mixKind prog w).is k x = true) (hm : s.heap.DictOf (mixKind prog w) d kvs) (hno : k ∉ kvs.map (·.1))
    (hQ : ∀ h', h'.DictOf (mixKind prog w) d (kvs ++ [(k, v)]) → Heap.SameBut d s.heap h' → Q () { s with heap := h' }) (hsz : kvs.length ≤ sizeLine) :
    wpAny (model prog w) A (dictPut d ((mixKind prog w).hash k) x v) Q E s := by
  obtain ⟨o, es, ep, ho, hc, hd, hk, hp, hn⟩ := hm
  have hes : es.size ≤ sizeLine := by
    have e1 := hp.length
    rw [Array.length_toList] at e1
    omega
  unfold dictPut
  refine wpAny_bind (wpAny_dictFind_of hx ho hd hk ?_)
  have hidx : (es.findIdx? fun e => (mixKind prog w).is k e.key) = none := by
    have z : (es.findIdx? fun e => (mixKind prog w).is k e.key) = kvs.findIdx? fun kv => decide (kv.1 = k) := by
      rw [← hp.findIdx k]
      obtain ⟨l⟩ := es
      simp
    rw [z, List.findIdx?_eq_none_iff]
    intro kv hkv
    exact decide_eq_false fun e => hno (List.mem_map.mpr ⟨kv, hkv, e⟩)
  rw [hidx]
  refine wpAny_updateDictKeys (hz := hes) ho hd (hQ _ ⟨_, _, ep + 1, Heap.get?_update_self _ ho (Obj.isFreed_of_dict (Obj.data_mapDictKeys hd _)), hc.mapDictKeys _, Obj.data_mapDictKeys hd _, hk.push hx _, ?_, ?_⟩ (Heap.SameBut.update ..))
  · have z := hp.append hx ((mixKind prog w).hash k) v
    obtain ⟨l⟩ := es
    simpa using z
  · rw [List.map_append, List.nodup_append]
    refine ⟨hn, by simp, ?_⟩
    intro a ha b hb
    rw [List.mem_singleton.mp hb]
    exact fun e => hno (by rw [e] at ha; exact ha)
theorem wp_mergeMap {d o : Addr} {kvs more : List (Key × Value)} {Q : Unit → Shared → Prop} (hdo : d ≠ o) (hoS : (o == sysModules) = false) (hd : s.heap.DictOf (mixKind prog w) d kvs) (ho : s.heap.DictOf (mixKind prog w) o more)
    (hnd : ((kvs ++ more).map (·.1)).Nodup) (hsz : kvs.length + more.length ≤ sizeLine) (hQ : ∀ h', h'.DictOf (mixKind prog w) d (kvs ++ more) → Heap.SameBut d s.heap h' → Q () { s with heap := h' }) :
    wpAny (model prog w) A (mergeMapping d (.ref o) false) Q E s := by
  obtain ⟨od, esd, epd, hod, hcd, hdd, hkd, hpd, hnd'⟩ := id hd
  obtain ⟨oo, eso, epo, hoo, hco, hdo', hko, hpo, hno⟩ := id ho
  have hlen : more.length = eso.size := by
    rw [← hpo.length]
    simp
  unfold mergeMapping
  refine wpAny_bind (wpAny_isInstance (T := "dict") ho.typeIs PySem.F.sub_dict_dict ?_)
  rw [if_pos rfl]
  refine wpAny_bind (wpAny_specialOf ho.typeIs iter_dict ?_)
  refine wpAny_bind (wpAny_pure ?_)
  have hb : ((some (Value.builtin "dict.__iter__") : Option Value) == some (Value.builtin "dict.__iter__")) = true := by rfl
  rw [hb]
  dsimp only
  rw [if_neg (by rw [hoS]; exact Bool.false_ne_true)]
  have tail : ∀ {T : Sem Unit}, T = (do
      let l ← dictEntries o
      let epoch ← dictEpoch o
      forIn (List.range l.size) PUnit.unit fun i (_ : PUnit) => (do
        let l' ← dictEntries o
        match l'[i]? with
          | some e => do
            holding [e.key, e.val] (dictPut d e.hash e.key e.val)
            let ep' ← dictEpoch o
            if (ep' != epoch) = true then do
                (unsupported "dict.changed-during-merge" : Sem PUnit)
                pure (ForInStep.yield PUnit.unit)
              else pure (ForInStep.yield PUnit.unit)
          | _ => do
            (unsupported "dict.changed-during-merge" : Sem PUnit)
            pure (ForInStep.yield PUnit.unit) : Sem (ForInStep PUnit))
      pure ()) → wpAny (model prog w) A T Q E s := by
    intro T hT
    rw [hT]
    refine wpAny_bind (wpAny_dictEntries hoo hdo' ?_)
    refine wpAny_bind (wpAny_dictEpoch hoo hdo' ?_)
    refine wpAny_bind ?_
    refine wpAny_forIn_list _ (fun rest _ s' => ∃ h' i, s' = { s with heap := h' } ∧ rest = (List.range eso.size).drop i ∧ i ≤ eso.size ∧ h'.DictOf (mixKind prog w) d (kvs ++ more.take i) ∧ h'.get? o = some oo ∧ Heap.SameBut d s.heap h') _ ?_ ?_ _ _
      ⟨s.heap, 0, rfl, rfl, Nat.zero_le _, by rw [List.take_zero, List.append_nil]; exact hd, hoo, Heap.SameBut.refl _ _⟩
    · rintro x rest b s' ⟨h', i, rfl, hr, hi, hd', hoo', hs'⟩
      have hlt : i < eso.size := by
        rcases Nat.lt_or_ge i eso.size with h | h
        · exact h
        · rw [List.drop_of_length_le (by simpa using h)] at hr
          cases hr
      rw [List.drop_eq_getElem_cons (by simpa using hlt)] at hr
      injection hr with h1 h2
      rw [List.getElem_range] at h1
      subst h1
      refine wpAny_bind (wpAny_dictEntries hoo' hdo' ?_)
      rw [Array.getElem?_eq_getElem hlt]
      obtain ⟨⟨k, v⟩, hkv⟩ : ∃ kv, more[x]? = some kv := ⟨more[x]'(by omega), List.getElem?_eq_getElem _⟩
      obtain ⟨hkey, hval⟩ := hpo.get? (e := eso[x]) (by simp [hlt]) hkv
      obtain ⟨k', hkey', hhash⟩ := hko eso[x] (Array.getElem_mem hlt)
      obtain rfl : k' = k := (mixKind prog w).inj _ _ _ hkey' hkey
      have hlm : x < more.length := by omega
      have hno' : k' ∉ (kvs ++ more.take x).map (·.1) := fun hm => by
        have z : ((kvs ++ more).map (·.1)).Nodup := hnd
        have e2 : kvs ++ more = (kvs ++ more.take x) ++ ((k', v) :: more.drop (x + 1)) := by
          rw [List.append_assoc]
          congr 1
          have g : more[x] = (k', v) := by
            rw [List.getElem?_eq_getElem hlm] at hkv
            exact Option.some.inj hkv
          rw [← g, ← List.drop_eq_getElem_cons hlm, List.take_append_drop]
        rw [e2, List.map_append, List.nodup_append] at z
        exact z.2.2 k' hm k' (by rw [List.map_cons]; exact List.mem_cons_self) rfl
      show wpAny _ _ (holding [eso[x].key, eso[x].val] (dictPut d eso[x].hash eso[x].key eso[x].val) >>= _) _ _ _
      rw [hhash, hval]
      refine wpAny_bind (wpAny_holding (wp_putNew hkey hd' hno' (fun h'' hd'' hs'' => ?_) (by rw [List.length_append, List.length_take]; omega)))
      have hoo'' : h''.get? o = some oo := (hs''.2 o (Ne.symm hdo)).trans hoo'
      refine wpAny_bind (wpAny_dictEpoch hoo'' hdo' ?_)
      rw [if_neg (by simp)]
      exact wpAny_pure ⟨h'', x + 1, rfl, h2, hlt, by rw [List.take_add_one, hkv, ← List.append_assoc]; exact hd'', hoo'', hs'.trans hs''⟩
    · rintro b s' ⟨h', i, rfl, hr, hi, hd', hoo', hs'⟩
      have hin : i = eso.size := by
        rcases Nat.lt_or_ge i eso.size with h | h
        · rw [List.drop_eq_getElem_cons (by simpa using h)] at hr
          cases hr
        · exact Nat.le_antisymm hi h
      refine wpAny_pure (hQ h' ?_ hs')
      rw [hin, ← hlen, List.take_length] at hd'
      exact hd'
  refine wpAny_bind (wpAny_dictEntries hod hdd ?_)
  split
  · refine wpAny_bind (wpAny_dictEntries hoo hdo' ?_)
    refine wpAny_bind ?_
    rw [← Array.forIn_toList]
    refine wpAny_forIn_list _ (fun rest _ s' => s' = s ∧ ∀ e ∈ rest, e ∈ eso.toList) _ ?_ ?_ _ _ ⟨rfl, fun e he => he⟩
    · rintro x rest b s' ⟨rfl, hm⟩
      obtain ⟨k, hk, _⟩ := hko x (by simpa using hm x List.mem_cons_self)
      have hk : keyIs k x.key = true := hk
      rcases keyIs_shape hk with ⟨i, t, _, e⟩ | ⟨z, t, _, e⟩
      · rw [e]
        exact wpAny_pure ⟨rfl, fun y hy => hm y (List.mem_cons_of_mem _ hy)⟩
      · rw [e]
        exact wpAny_pure ⟨rfl, fun y hy => hm y (List.mem_cons_of_mem _ hy)⟩
    · rintro b s' ⟨rfl, _⟩
      exact tail rfl
  · exact tail rfl
end
end Fr

namespace Fr
open PySem PySem.Spec PyProof.Rows L2
theorem kv_keys : ∀ {kvs : List (Key × V)} {vs : List (Key × Value)}, KV kvs vs → vs.map (·.1) = kvs.map (·.1)
  | [], _, h => by cases h; rfl
  | p :: kvs, _, h => by
    cases h with
    | cons h1 h2 =>
      rw [List.map_cons, List.map_cons, kv_keys h2, h1.1]
theorem kv_app : ∀ {kvs ls : List (Key × V)} {vs us : List (Key × Value)}, KV kvs vs → KV ls us → KV (kvs ++ ls) (vs ++ us)
  | [], _, _, _, h, k => by cases h; exact k
  | p :: kvs, _, _, _, h, k => by
    cases h with
    | cons h1 h2 => exact .cons h1 (kv_app h2 k)
def tMrg (t1 t2 : TE) : TE := fun σ H Q => ∀ p, H p = none → t1 σ (upd H p (.dK [])) fun x H1 => ∃ (a : Addr) (ks : List (Key × V)), x = .ref a ∧ H1 a = some (.dK ks) ∧ a ≠ p ∧ H1 p = some (.dK []) ∧ (ks.map (·.1)).Nodup ∧
  t2 σ (upd H1 p (.dK ks)) fun y H2 => ∃ (b : Addr) (ls : List (Key × V)), y = .ref b ∧ H2 b = some (.dK ls) ∧ b ≠ p ∧ H2 p = some (.dK ks) ∧ ((ks ++ ls).map (·.1)).Nodup ∧ ks.length + ls.length ≤ sizeLine ∧ Q (.ref p) (upd H2 p (.dK (ks ++ ls)))
theorem pe_mrg {X : Cx} {e1 e2 : Expr} {t1 t2 : TE} {pos : Pos} (he1 : PE X e1 t1) (he2 : PE X e2 t2) : PE X (.Dict [none, none] [e1, e2] pos) (tMrg t1 t2) := by
  refine ⟨fun pins s σ H Q I q => ?_⟩
  rw [arm_eval_Dict]
  refine wpAny_bind (wpAny_standAt ?_)
  show wpAny _ _ (dictDisplay [(none, do let x ← eval e1 X.env; standAt pos; pure x), (none, do let x ← eval e2 X.env; standAt pos; pure x)]) _ _ s
  unfold dictDisplay
  dsimp only
  simp only [List.forIn_cons, List.forIn_nil]
  have hn := I.hok.fresh (Nat.le_refl s.heap.objs.size)
  have I1 := I.laid (a := s.heap.objs.size) (o := .dK []) (h' := s.heap.push { cls := .type "dict", data := .dict #[] }) (t' := s.toks) (fun _ _ q => Heap.get?_push_of_some _ q) (Nat.le_refl _) (dk_empty s.heap I.big)
  refine wpAny_bind (wpAny_bind (wpAny_bind ?_))
  show wpAny _ _ (pure none) _ _ _
  refine wpAny_pure ?_
  dsimp only
  refine wpAny_bind (wpAny_alloc ?_)
  refine wpAny_bind (wpAny_holding (wpAny_bind (thn (he1.run pins _ σ _ _ I1 (q s.heap.objs.size hn)) fun u s1 ⟨x, H1, I2, rx, a, ks, ex, ha, nap, hp, nd, q2⟩ => wpAny_bind (wpAny_standAt (wpAny_pure ?_)))))
  subst ex
  obtain rfl : u = Value.ref a := rx
  obtain ⟨zp, hdp, vs0, r0, ddp⟩ := dk_of I2.hok hp
  cases r0
  obtain ⟨za, hda, va, ra, dda⟩ := dk_of I2.hok ha
  have nva : (va.map (·.1)).Nodup := by
    have e : va.map (·.1) = ks.map (·.1) := kv_keys ra
    rw [e]
    exact nd
  refine wpAny_bind (wpAny_onRaise (wpAny_tryCatch (wpAny_onRaise (wpAny_holding (wp_mergeMap (Ne.symm nap) hda ddp dda (by simpa using nva) (by simpa using (by rw [← ra.length]; exact za)) fun h2 dd2 sb2 => ?_)))))
  have I3 : Inv X pins σ (upd H1 s.heap.objs.size (.dK ks)) { s1 with heap := h2, toks := s1.toks } := d_write I2 (by rw [hp]; exact True.intro) sb2 (let ⟨q, _, _, hq, _⟩ := dd2; ⟨q, hq⟩) (dk_new za hdp ra (by simpa using dd2))
  refine wpAny_pure ?_
  dsimp only
  refine wpAny_bind (wpAny_bind ?_)
  show wpAny _ _ (pure (some s.heap.objs.size)) _ _ _
  refine wpAny_pure ?_
  dsimp only
  refine wpAny_bind (wpAny_pure ?_)
  refine wpAny_bind (wpAny_holding (wpAny_bind (thn (he2.run pins _ σ _ _ I3 q2) fun u2 s3 ⟨y, H2, I4, ry, b, ls, ey, hb, nbp, hp2, nd2, hz2, q3⟩ => wpAny_bind (wpAny_standAt (wpAny_pure ?_)))))
  subst ey
  obtain rfl : u2 = Value.ref b := ry
  obtain ⟨zp2, hdp2, vs2, r2, ddp2⟩ := dk_of I4.hok hp2
  obtain ⟨zb, hdb, vb, rb, ddb⟩ := dk_of I4.hok hb
  have nvb : ((vs2 ++ vb).map (·.1)).Nodup := by
    have e : (vs2 ++ vb).map (·.1) = (ks ++ ls).map (·.1) := by
      rw [List.map_append, List.map_append, kv_keys r2, kv_keys rb]
    rw [e]
    exact nd2
  refine wpAny_bind (wpAny_onRaise (wpAny_tryCatch (wpAny_onRaise (wpAny_holding (wp_mergeMap (Ne.symm nbp) hdb ddp2 ddb nvb (by rw [← r2.length, ← rb.length]; exact hz2) fun h3 dd3 sb3 => ?_)))))
  have I5 : Inv X pins σ (upd H2 s.heap.objs.size (.dK (ks ++ ls))) { s3 with heap := h3, toks := s3.toks } := d_write I4 (by rw [hp2]; exact True.intro) sb3 (let ⟨q, _, _, hq, _⟩ := dd3; ⟨q, hq⟩) (dk_new (by rw [List.length_append]; exact hz2) hdp2 (kv_app r2 rb) dd3)
  refine wpAny_pure ?_
  dsimp only
  refine wpAny_pure ?_
  refine wpAny_bind ?_
  show wpAny _ _ (pure (some s.heap.objs.size)) _ _ _
  refine wpAny_pure ?_
  exact wpAny_pure ⟨.ref _, _, I5, rfl, q3⟩
end Fr

namespace Fr
open PySem PySem.Spec PyProof.Rows L2
section
variable {prog : Program} {w : World} {A : Around} {E : Value → Shared → Prop} {s : Shared}
theorem wp_put {d : Addr} {kvs : List (Key × Value)} {k : Key} {x v : Value} {Q : Unit → Shared → Prop} (hx : (mixKind prog w).is k x = true) (hm : s.heap.DictOf (mixKind prog w) d kvs)
    (hQ : ∀ h', h'.DictOf (mixKind prog w) d (stored kvs k v) → Heap.SameBut d s.heap h' → Q () { s with heap := h' }) (hsz : kvs.length ≤ sizeLine) :
    wpAny (model prog w) A (dictPut d ((mixKind prog w).hash k) x v) Q E s := by
  by_cases hin : k ∈ kvs.map (·.1)
  · obtain ⟨o, es, ep, ho, hc, hd, hk, hp, hn⟩ := hm
    unfold dictPut
    refine wpAny_bind (wpAny_dictFind_of hx ho hd hk ?_)
    have hidx : (es.findIdx? fun e => (mixKind prog w).is k e.key) = kvs.findIdx? fun kv => decide (kv.1 = k) := by
      rw [← hp.findIdx k]
      obtain ⟨l⟩ := es
      simp
    cases hi : es.findIdx? fun e => (mixKind prog w).is k e.key with
    | none =>
      rw [hidx] at hi
      exact absurd hin (not_mem_of_findIdx_none hi)
    | some i =>
      have hany := any_of_findIdx_some (hidx ▸ hi)
      refine wpAny_updateDict ho hd ?_
      refine hQ _ ⟨_, _, ep, Heap.get?_update_self _ ho (Obj.isFreed_of_dict (Obj.data_mapDict hd _)), hc.mapDict _, Obj.data_mapDict hd _, hk.modify _ _, ?_, ?_⟩ (Heap.SameBut.update ..)
      · unfold stored
        rw [if_pos hany]
        have hl : (es.toList.findIdx? fun e => (mixKind prog w).is k e.key) = some i := by
          rw [← hi]
          obtain ⟨l⟩ := es
          simp
        have z := hp.modify hn hl v
        obtain ⟨l⟩ := es
        simpa using z
      · unfold stored
        rw [if_pos hany, keys_map_store]
        exact hn
  · refine wp_putNew hx hm hin (fun h' hd' hs' => hQ h' ?_ hs') hsz
    have e : stored kvs k v = kvs ++ [(k, v)] := by
      unfold stored
      rw [if_neg]
      intro z
      obtain ⟨kv, h1, h2⟩ := List.any_eq_true.mp z
      exact hin (List.mem_map.mpr ⟨kv, h1, of_decide_eq_true h2⟩)
    rw [e]
    exact hd'
theorem merged_len (kvs : List (Key × Value)) : ∀ more : List (Key × Value), (merged kvs more).length ≤ kvs.length + more.length := fun more => by
  induction more generalizing kvs with
  | nil => exact Nat.le_refl _
  | cons p t ih =>
    have h1 := ih (stored kvs p.1 p.2)
    have h2 := stored_length_le kvs p.1 p.2
    show (merged (stored kvs p.1 p.2) t).length ≤ _
    rw [List.length_cons]
    omega
theorem wp_mergeAny {d o : Addr} {kvs more : List (Key × Value)} {Q : Unit → Shared → Prop} (hdo : d ≠ o) (hoS : (o == sysModules) = false) (hd : s.heap.DictOf (mixKind prog w) d kvs) (ho : s.heap.DictOf (mixKind prog w) o more)
    (hsz : kvs.length + more.length ≤ sizeLine) (hQ : ∀ h', h'.DictOf (mixKind prog w) d (merged kvs more) → Heap.SameBut d s.heap h' → Q () { s with heap := h' }) :
    wpAny (model prog w) A (mergeMapping d (.ref o) false) Q E s := by
  obtain ⟨od, esd, epd, hod, hcd, hdd, hkd, hpd, hnd'⟩ := id hd
  obtain ⟨oo, eso, epo, hoo, hco, hdo', hko, hpo, hno⟩ := id ho
  have hlen : more.length = eso.size := by
    rw [← hpo.length]
    simp
  unfold mergeMapping
  refine wpAny_bind (wpAny_isInstance (T := "dict") ho.typeIs PySem.F.sub_dict_dict ?_)
  rw [if_pos rfl]
  refine wpAny_bind (wpAny_specialOf ho.typeIs iter_dict ?_)
  refine wpAny_bind (wpAny_pure ?_)
  have hb : ((some (Value.builtin "dict.__iter__") : Option Value) == some (Value.builtin "dict.__iter__")) = true := by rfl
  rw [hb]
  dsimp only
  rw [if_neg (by rw [hoS]; exact Bool.false_ne_true)]
  have tail : ∀ {T : Sem Unit}, T = (do
      let l ← dictEntries o
      let epoch ← dictEpoch o
      forIn (List.range l.size) PUnit.unit fun i (_ : PUnit) => (do
        let l' ← dictEntries o
        match l'[i]? with
          | some e => do
            holding [e.key, e.val] (dictPut d e.hash e.key e.val)
            let ep' ← dictEpoch o
            if (ep' != epoch) = true then do
                (unsupported "dict.changed-during-merge" : Sem PUnit)
                pure (ForInStep.yield PUnit.unit)
              else pure (ForInStep.yield PUnit.unit)
          | _ => do
            (unsupported "dict.changed-during-merge" : Sem PUnit)
            pure (ForInStep.yield PUnit.unit) : Sem (ForInStep PUnit))
      pure ()) → wpAny (model prog w) A T Q E s := by
    intro T hT
    rw [hT]
    refine wpAny_bind (wpAny_dictEntries hoo hdo' ?_)
    refine wpAny_bind (wpAny_dictEpoch hoo hdo' ?_)
    refine wpAny_bind ?_
    refine wpAny_forIn_list _ (fun rest _ s' => ∃ h' i, s' = { s with heap := h' } ∧ rest = (List.range eso.size).drop i ∧ i ≤ eso.size ∧ h'.DictOf (mixKind prog w) d (merged kvs (more.take i)) ∧ h'.get? o = some oo ∧ Heap.SameBut d s.heap h') _ ?_ ?_ _ _
      ⟨s.heap, 0, rfl, rfl, Nat.zero_le _, by rw [List.take_zero]; exact hd, hoo, Heap.SameBut.refl _ _⟩
    · rintro x rest b s' ⟨h', i, rfl, hr, hi, hd', hoo', hs'⟩
      have hlt : i < eso.size := by
        rcases Nat.lt_or_ge i eso.size with h | h
        · exact h
        · rw [List.drop_of_length_le (by simpa using h)] at hr
          cases hr
      rw [List.drop_eq_getElem_cons (by simpa using hlt)] at hr
      injection hr with h1 h2
      rw [List.getElem_range] at h1
      subst h1
      refine wpAny_bind (wpAny_dictEntries hoo' hdo' ?_)
      rw [Array.getElem?_eq_getElem hlt]
      obtain ⟨⟨k, v⟩, hkv⟩ : ∃ kv, more[x]? = some kv := ⟨more[x]'(by omega), List.getElem?_eq_getElem _⟩
      obtain ⟨hkey, hval⟩ := hpo.get? (e := eso[x]) (by simp [hlt]) hkv
      obtain ⟨k', hkey', hhash⟩ := hko eso[x] (Array.getElem_mem hlt)
      obtain rfl : k' = k := (mixKind prog w).inj _ _ _ hkey' hkey
      have hlm : x < more.length := by omega
      show wpAny _ _ (holding [eso[x].key, eso[x].val] (dictPut d eso[x].hash eso[x].key eso[x].val) >>= _) _ _ _
      rw [hhash, hval]
      refine wpAny_bind (wpAny_holding (wp_put hkey hd' (fun h'' hd'' hs'' => ?_) (by have := merged_len kvs (more.take x); rw [List.length_take] at this; omega)))
      have hoo'' : h''.get? o = some oo := (hs''.2 o (Ne.symm hdo)).trans hoo'
      refine wpAny_bind (wpAny_dictEpoch hoo'' hdo' ?_)
      rw [if_neg (by simp)]
      exact wpAny_pure ⟨h'', x + 1, rfl, h2, hlt, by rw [merged_take_succ kvs more x (k', v) hkv]; exact hd'', hoo'', hs'.trans hs''⟩
    · rintro b s' ⟨h', i, rfl, hr, hi, hd', hoo', hs'⟩
      have hin : i = eso.size := by
        rcases Nat.lt_or_ge i eso.size with h | h
        · rw [List.drop_eq_getElem_cons (by simpa using h)] at hr
          cases hr
        · exact Nat.le_antisymm hi h
      refine wpAny_pure (hQ h' ?_ hs')
      rw [hin, ← hlen, List.take_length] at hd'
      exact hd'
  refine wpAny_bind (wpAny_dictEntries hod hdd ?_)
  split
  · refine wpAny_bind (wpAny_dictEntries hoo hdo' ?_)
    refine wpAny_bind ?_
    rw [← Array.forIn_toList]
    refine wpAny_forIn_list _ (fun rest _ s' => s' = s ∧ ∀ e ∈ rest, e ∈ eso.toList) _ ?_ ?_ _ _ ⟨rfl, fun e he => he⟩
    · rintro x rest b s' ⟨rfl, hm⟩
      obtain ⟨k, hk, _⟩ := hko x (by simpa using hm x List.mem_cons_self)
      have hk : keyIs k x.key = true := hk
      rcases keyIs_shape hk with ⟨i, t, _, e⟩ | ⟨z, t, _, e⟩
      · rw [e]
        exact wpAny_pure ⟨rfl, fun y hy => hm y (List.mem_cons_of_mem _ hy)⟩
      · rw [e]
        exact wpAny_pure ⟨rfl, fun y hy => hm y (List.mem_cons_of_mem _ hy)⟩
    · rintro b s' ⟨rfl, _⟩
      exact tail rfl
  · exact tail rfl
end
theorem kv_stored {ks : List (Key × V)} {vs : List (Key × Value)} {k : Key} {z : V} {u : Value} (r : KV ks vs) (e : RelV z u) : KV (putK ks k z) (stored vs k u) := KV.merge (more := [(k, z)]) (rs := [(k, u)]) (.cons ⟨rfl, e⟩ .nil) r
def tMrg1 (t1 tk tv : TE) : TE := fun σ H Q => ∀ p, H p = none → t1 σ (upd H p (.dK [])) fun x H1 => ∃ (a : Addr) (ks : List (Key × V)), x = .ref a ∧ H1 a = some (.dK ks) ∧ a ≠ p ∧ H1 p = some (.dK []) ∧ (ks.map (·.1)).Nodup ∧ ks.length ≤ 1000 ∧
  ∀ q, q ≠ p → H1 q = none → tk σ (upd (upd H1 p (.dK ks)) q (.dK [])) fun y H2 => tv σ H2 fun z H3 => ∃ key : Key, y = kV key ∧ H3 p = some (.dK ks) ∧ H3 q = some (.dK []) ∧ Q (.ref p) (upd (upd H3 q (.dK [(key, z)])) p (.dK (putK ks key z)))
theorem pe_mrg1 {X : Cx} {e1 k v : Expr} {t1 tk tv : TE} {pos : Pos} (he1 : PE X e1 t1) (hk : PE X k tk) (hv : PE X v tv) : PE X (.Dict [none, some k] [e1, v] pos) (tMrg1 t1 tk tv) := by
  refine ⟨fun pins s σ H Q I q => ?_⟩
  rw [arm_eval_Dict]
  refine wpAny_bind (wpAny_standAt ?_)
  show wpAny _ _ (dictDisplay [(none, do let x ← eval e1 X.env; standAt pos; pure x), (some (eval k X.env), do let x ← eval v X.env; standAt pos; pure x)]) _ _ s
  unfold dictDisplay
  dsimp only
  simp only [List.forIn_cons, List.forIn_nil]
  have hn := I.hok.fresh (Nat.le_refl s.heap.objs.size)
  have I1 := I.laid (a := s.heap.objs.size) (o := .dK []) (h' := s.heap.push { cls := .type "dict", data := .dict #[] }) (t' := s.toks) (fun _ _ q => Heap.get?_push_of_some _ q) (Nat.le_refl _) (dk_empty s.heap I.big)
  refine wpAny_bind (wpAny_bind (wpAny_bind ?_))
  show wpAny _ _ (pure none) _ _ _
  refine wpAny_pure ?_
  dsimp only
  refine wpAny_bind (wpAny_alloc ?_)
  refine wpAny_bind (wpAny_holding (wpAny_bind (thn (he1.run pins _ σ _ _ I1 (q s.heap.objs.size hn)) fun u s1 ⟨x, H1, I2, rx, a, ks, ex, ha, nap, hp, nd, hlen, q2⟩ => wpAny_bind (wpAny_standAt (wpAny_pure ?_)))))
  subst ex
  obtain rfl : u = Value.ref a := rx
  obtain ⟨zp, hdp, vs0, r0, ddp⟩ := dk_of I2.hok hp
  cases r0
  obtain ⟨za, hda, va, ra, dda⟩ := dk_of I2.hok ha
  have nva : (va.map (·.1)).Nodup := by
    have e : va.map (·.1) = ks.map (·.1) := kv_keys ra
    rw [e]
    exact nd
  refine wpAny_bind (wpAny_onRaise (wpAny_tryCatch (wpAny_onRaise (wpAny_holding (wp_mergeMap (Ne.symm nap) hda ddp dda (by simpa using nva) (by simpa using (by rw [← ra.length]; exact za)) fun h2 dd2 sb2 => ?_)))))
  have I3 : Inv X pins σ (upd H1 s.heap.objs.size (.dK ks)) { s1 with heap := h2, toks := s1.toks } := d_write I2 (by rw [hp]; exact True.intro) sb2 (let ⟨q, _, _, hq, _⟩ := dd2; ⟨q, hq⟩) (dk_new za hdp ra (by simpa using dd2))
  refine wpAny_pure ?_
  dsimp only
  refine wpAny_bind ?_
  rw [if_neg (by simp)]
  refine wpAny_pure (wpAny_pure ?_)
  refine wpAny_bind ?_
  dsimp only
  rw [if_neg (by simp)]
  have hn3 := I3.hok.fresh (Nat.le_refl h2.objs.size)
  have np : h2.objs.size ≠ s.heap.objs.size := fun e => by
    rw [e] at hn3
    rw [upd_same] at hn3
    cases hn3
  have I4 := I3.laid (a := h2.objs.size) (o := .dK []) (h' := h2.push { cls := .type "dict", data := .dict #[] }) (t' := s1.toks) (fun _ _ q => Heap.get?_push_of_some _ q) (Nat.le_refl _) (dk_empty h2 I3.big)
  rw [upd_ne np] at hn3
  have q3 := q2 _ np hn3
  refine wpAny_bind (wpAny_holding (wpAny_subDict (knd := mixKind X.prog X.w) (s := { s1 with heap := h2, toks := s1.toks }) (by simp) (evalPairs_cons (thn (hk.run pins _ σ _ _ I4 q3) fun u2 s2 ⟨y, H2, I5, ry, q4⟩ => wpAny_bind (thn (hv.run pins _ σ _ _ I5 q4) fun u3 s3 ⟨z, H3, I6, rz, key, ey, hp3, hq3, q5⟩ => wpAny_bind (wpAny_standAt (wpAny_pure (evalPairs_nil ?_))))))))
  subst ey
  obtain ⟨rs, c, rk⟩ := carries_of (P := X.prog) (w := X.w) (kvs := [(key, z)]) (ws := [(u2, u3)]) (.cons ⟨ry, rz⟩ .nil)
  obtain ⟨zq, hdq, vs1, r1, ddq⟩ := dk_of I6.hok hq3
  cases r1
  refine ⟨rs, c, ddq, fun h4 dd4 sb4 => wpAny_bind ?_⟩
  have em : mergeK ([] : List (Key × V)) [(key, z)] = [(key, z)] := putK_new z valV_nil
  have hone : ([(key, z)] : List (Key × V)).length ≤ sizeLine := by show 1 ≤ sizeLine; decide
  have rk1 : KV [(key, z)] (merged [] rs) := by
    have w := KV.merge (more := [(key, z)]) (rs := rs) (kvs := []) (vs := []) rk .nil
    rw [em] at w
    exact w
  have I7 : Inv X pins σ (upd H3 h2.objs.size (.dK [(key, z)])) { s3 with heap := h4, toks := s3.toks + 1 } := d_write I6 (by rw [hq3]; exact True.intro) sb4 (let ⟨q, _, _, hq, _⟩ := dd4; ⟨q, hq⟩) (dk_new hone hdq rk1 dd4)
  have hp7 : (upd H3 h2.objs.size (.dK [(key, z)])) s.heap.objs.size = some (.dK ks) := by rw [upd_ne np.symm]; exact hp3
  obtain ⟨zp7, hdp7, vs7, r7, ddp7⟩ := dk_of I7.hok hp7
  have hlq : ks.length + 1 ≤ sizeLine := Nat.le_trans (Nat.add_le_add_right hlen 1) (by rw [sizeLine_eq]; decide)
  have rl : rs.length = 1 := rk.length.symm
  have ml : (merged [] rs).length = 1 := rk1.length.symm
  refine wpAny_onRaise (wpAny_holding (wp_mergeAny np.symm hdq ddp7 dd4 (by rw [← r7.length, ml]; exact hlq) fun h5 dd5 sb5 => ?_))
  have rk5 : KV (putK ks key z) (merged vs7 (merged [] rs)) := KV.merge (more := [(key, z)]) (rs := merged [] rs) rk1 r7
  have l5 : (putK ks key z).length ≤ sizeLine := by
    have w := length_mergeK [(key, z)] ks
    exact Nat.le_trans w hlq
  have I8 : Inv X pins σ (upd (upd H3 h2.objs.size (.dK [(key, z)])) s.heap.objs.size (.dK (putK ks key z))) { ({ s3 with heap := h4, toks := s3.toks + 1 } : Shared) with heap := h5 } := d_write (s := { s3 with heap := h4, toks := s3.toks + 1 }) I7 (by rw [hp7]; exact True.intro) sb5 (let ⟨q, _, _, hq, _⟩ := dd5; ⟨q, hq⟩) (dk_new l5 hdp7 rk5 dd5)
  refine wpAny_pure ?_
  exact wpAny_pure ⟨.ref _, _, I8, rfl, q5⟩
/-- dict(d) -/
def rDictC : List V → Hp → VK → Prop := fun xs H Q => ∃ (a : Addr) (kvs : List (Key × V)), xs = [.ref a] ∧ H a = some (.dK kvs) ∧ ∀ p, H p = none → Q (.ref p) (upd H p (.dK kvs))
theorem call_dictC {X : Cx} : CallR X (.type "dict") rDictC := by
  intro pins s σ H xs us Q I r h
  obtain ⟨a, kvs, rfl, ha, q⟩ := h
  rw [Vals.ref1 r]
  obtain ⟨z, hd, vs, rk, dd⟩ := dk_of I.hok ha
  have hm : (s.heap.objs.size == sysModules) = false := beq_eq_false_iff_ne.mpr (Nat.ne_of_gt I.big)
  refine kt_call_dict hd dd (by rw [← rk.length]; exact z) fun g dd' sb => ?_
  exact ⟨.ref s.heap.objs.size, upd H s.heap.objs.size (.dK kvs), I.laid (t' := s.toks) (fun b o e => (sb.2 b (Nat.ne_of_lt (Heap.lt_size e))).trans (Heap.get?_push_of_some _ e)) (Nat.le_refl _) (show ObjOk X.prog X.w _ _ _ (.dK kvs) from ⟨z, hm, vs, rk, dd'⟩), rfl, q _ (I.hok.fresh (Nat.le_refl _))⟩
end Fr

namespace Fr
open PySem PySem.Spec PyProof.Rows L2
theorem enum_newT {v : Value} {o : Obj} {G : Heap → Prop} (B : Begins v o G) :
    Meets (Builtin.«enumerate.__new__» ⟨[.type "enumerate", v], []⟩) (fun _ R s => G s.heap ∧
      R (.ok (.ret (.ref (s.heap.push o).objs.size))) { s with heap := (s.heap.push o).push { cls := .type "enumerate", data := .fields #[.none, .bool false, .ref s.heap.objs.size, rawInt 0, .none, .none] } }) :=
  .of_wp fun prog w A R s h => by
    obtain ⟨hp, g, d, tk, os⟩ := s
    obtain ⟨h1, h⟩ := h
    have hsub := sub_enumerate
    have it : ∀ {A' : Around} {E : Value → Shared → Prop} {Q : Value → Shared → Prop}, Q (.ref hp.objs.size) ⟨hp.push o, g, d, tk, os⟩ → wpAny (model prog w) A' (pyIter v) Q E ⟨hp, g, d, tk, os⟩ := fun q => B.iter prog w _ _ ⟨hp, g, d, tk, os⟩ _ h1 q
    wp_walk using it
    refine wpAny_stack_any fun st => wpAny_pure ?_
    split
    · rename_i c _ _ _ _ _
      cases (c == Value.type "enumerate") <;> (wp_walk using it; exact ⟨_, rfl, h⟩)
    · wp_walk using it
      exact ⟨_, rfl, h⟩
section
variable {prog : Program} {w : World} {A : Around} {E : Value → Shared → Prop} {s : Shared}
theorem call_enumT {v : Value} {o : Obj} {G : Heap → Prop} {Q : Value → Shared → Prop} (B : Begins v o G) (h1 : G s.heap)
    (h : ∀ h', IsEnum h' (s.heap.objs.size + 1) s.heap.objs.size 0 .none → h'.get? s.heap.objs.size = some o → (∀ b u, s.heap.get? b = some u → h'.get? b = some u) → Q (.ref (s.heap.objs.size + 1)) { s with heap := h' }) :
    wpAny (model prog w) A (call (.type "enumerate") [v]) Q E s := by
  refine callType_new PySem.F.called_enumerate (by decide) (PySem.F.typeCall_enumerate_1 _) (PySem.F.newCall_enumerate_1 _) (fun obj => PySem.F.args_object_init_2 obj _) PySem.F.entry_enumerate_new (enum_newT B) ⟨h1, ?_⟩
  have hz : (s.heap.push o).objs.size = s.heap.objs.size + 1 := Heap.size_push ..
  show _ ∧ _
  rw [hz]
  have he : IsEnum ((s.heap.push o).push { cls := .type "enumerate", data := .fields #[.none, .bool false, .ref s.heap.objs.size, rawInt 0, .none, .none] }) (s.heap.objs.size + 1) s.heap.objs.size 0 .none := by
    have z := Heap.get?_push_size (s.heap.push o) (o := { cls := .type "enumerate", data := .fields #[.none, .bool false, .ref s.heap.objs.size, rawInt 0, .none, .none] }) rfl
    rw [hz] at z
    exact z
  exact ⟨⟨_, he, rfl⟩, h _ he (Heap.get?_push_of_some _ (Heap.get?_push_size _ B.free)) fun b u e => Heap.get?_push_of_some _ (Heap.get?_push_of_some _ e)⟩
end
section
variable {prog : Program} {w : World} {A : Around} {E : Value → Shared → Prop} {s : Shared}
theorem enumT_end {e it a : Addr} {i : Nat} {items : Array Value} {old : Value} {Q : Option Value → Shared → Prop} (hh : A.in1.handled = none) (he : IsEnum s.heap e it i old) (hit : s.heap.IsTupleIter it a i) (ht : s.heap.IsTuple a items) (hne : a ≠ it) (hx : items[i]? = none)
    (hQ : ∀ h', Heap.ExtBut it s.heap h' → Q none { s with heap := h' }) : wpAny (model prog w) A (pyNext (.ref e)) Q E s := by
  have hT : s.TypeIs (.ref e) "enumerate" := ⟨_, he, rfl⟩
  unfold pyNext
  refine wpAny_bind (wpAny_attempt (wpAny_callSpecial?_slot (name := Str.ofString "__next__") hT PySem.F.slot_enumerate_next (wpAny_call_entry PySem.F.slot_enumerate_next hT PySem.F.entry_enumerate_next ?_ (PySem.F.args_enumerate_next_1 _))))
  show wpAny _ _ (field (.ref e) 2 >>= _) _ _ _
  refine wpAny_bind (wpAny_field he rfl (x := .ref it) rfl ?_)
  refine wpAny_bind (wpAny_nextOf_tuple_end hh hit ht hx fun h' x he' hx' => ?_)
  obtain ⟨o, ho, hc⟩ := hx'
  exact wpAny_bind (wpAny_isInstance (T := "StopIteration") (b := true) ⟨o, ho, hc⟩ isSubtype_stop (wpAny_pure (hQ _ he')))
end
/-- the tuple at a as it stands, each item in a new pair -/
def IteT (K : PySem.W.Frag) (a : Addr) : It :=
  ⟨fun i H => ∃ (xs : List V) (x : V), SqT K H a xs ∧ xs[i]? = some x, fun i H v H' => ∃ T x, v = .ref T ∧ H T = none ∧ H' = upd H T (.tup [.int (i : Nat), x]) ∧ ∀ xs, SqT K H a xs → xs[i]? = some x, fun i H => ∃ xs : List V, SqT K H a xs ∧ xs.length ≤ i⟩
theorem turn_enumT {P : Program} {w : World} {K : PySem.W.Frag} {elts : List Expr} {kk : Nat} {tpos : Pos} (a e it : Addr) :
    Turn P w K (.Tuple elts kk tpos) (IteT K a) [e, it] e (fun i h => (∃ old, IsEnum h e it ((i : Nat) : Int) old) ∧ h.IsTupleIter it a i ∧ e ≠ it ∧ a ≠ e ∧ a ≠ it) where
  mem := by simp
  obj := fun i h st b hb => by
    obtain ⟨⟨old, he⟩, ⟨o, ho, hc, hd⟩, _⟩ := st
    rcases (show b = e ∨ b = it by simpa using hb) with z | z <;> rw [z]
    · exact ⟨_, he, fun v q => nomatch q⟩
    · exact ⟨o, ho, fun v q => by rw [hd] at q; cases q⟩
  keep := fun i h h' st k => let ⟨⟨old, he⟩, hi, ne⟩ := st; ⟨⟨old, k e (by simp) _ he⟩, hi.at fun o q => k it (by simp) o q, ne⟩
  item := by
    intro X hP hw hK hc i pins s σ H E I hf st hg
    subst hP hw hK
    obtain ⟨⟨old, he⟩, hit, hne, hae, hai⟩ := st
    obtain ⟨xs, x, hq, hx⟩ := hg
    obtain ⟨its, rv, p, hz⟩ := I.tuple hq
    obtain ⟨u, hu, ru⟩ := rv.get hx
    have hel : e < s.heap.objs.size := Heap.lt_size he
    have hil : it < s.heap.objs.size := by
      obtain ⟨_, q, _⟩ := hit
      exact Heap.lt_size q
    have hlt : i < its.toArray.size := by
      rw [List.size_toArray]
      exact (List.getElem?_eq_some_iff.mp hu).1
    refine wpAny_pyNext_enum_itemD (Draws.tuple (show X.A.in1.handled = none from I.ok.hd hc) it a hai its.toArray) he ⟨hit, p⟩ hlt hne (by simp [hne, Ne.symm hae]) fun u' h' tk hP ho hst hT hsz hk => ?_
    obtain rfl : u' = u := by
      have z : its.toArray[i]? = some u' := hP
      rw [List.getElem?_toArray, hu] at z
      exact (Option.some.inj z).symm
    refine ⟨_, rfl, wpAny_letOwnedTupleGo_enum (s := { s with heap := h', toks := tk + 1 }) ho fun h'' he' sb => ?_⟩
    have hT2 : h''.get? s.heap.objs.size = some { cls := .type "tuple", data := .seq #[.int i tk, u'] } := (sb.2 _ (Nat.ne_of_gt hel)).trans hT
    have nw : ObjOk X.prog X.w (upd H s.heap.objs.size (.tup [.int (i : Nat), x])) h'' s.heap.objs.size (.tup [.int (i : Nat), x]) :=
      ⟨by show 2 ≤ sizeLine; decide, [.int i tk, u'], .cons ⟨_, rfl⟩ (.cons ru .nil), ⟨_, hT2, rfl, _, rfl⟩⟩
    have I1 : Inv X pins σ (upd H s.heap.objs.size (.tup [.int (i : Nat), x])) { s with heap := h'', toks := tk + 1 } :=
      I.turnedNew (ch := [e, it]) (fun b ob nb q => (sb.2 b (fun z => nb (by simp [z]))).trans (hk b ob (fun z => nb (by simp [z])) (fun z => nb (by simp [z])) q)) hf (Nat.le_refl _) nw
    refine ⟨.ref s.heap.objs.size, _, I1, rfl, ⟨_, x, rfl, I.hok.fresh (Nat.le_refl _), rfl, fun ys hy => by rw [I.tuple_inj hy hq]; exact hx⟩, ⟨⟨u', ?_⟩, hst.1.at fun o q => (sb.2 it (Ne.symm hne)).trans q, hne, hae, hai⟩, fun b hb => ?_⟩
    · rw [show ((i + 1 : Nat) : Int) = (i : Int) + 1 by omega]
      exact he'
    · have hb' : b < s.heap.objs.size := by
        rcases (show b = e ∨ b = it by simpa using hb) with z | z <;> rw [z]
        · exact hel
        · exact hil
      rw [upd_ne (Nat.ne_of_lt hb')]
      exact (hf b hb).1
  done := by
    intro X hP hw hK hc i pins s σ H E I hf st hg
    subst hP hw hK
    obtain ⟨⟨old, he⟩, hit, hne, hae, hai⟩ := st
    obtain ⟨xs, hq, hx⟩ := hg
    obtain ⟨its, rv, p, hz⟩ := I.tuple hq
    obtain ⟨f0, f1, f2, f3, f4, f5⟩ := hf it (by simp)
    have hl := rv.length
    exact enumT_end (show X.A.in1.handled = none from I.ok.hd hc) he hit p hai (by simp; omega) fun h' eb => ⟨rfl, I.turned (t' := s.toks) (fun b o hb q => eb b o hb q) f0 f1 f3 f4 f5⟩
  self := fun A i s Q E st h => let ⟨⟨_, he⟩, _⟩ := st; wpAny_pyIter_enum he h
def iEnumT (K : PySem.W.Frag) (ta : TA) : TI := fun σ H R => ta σ H fun vs H1 => ∃ a xs, vs = [.ref a] ∧ SqT K H1 a xs ∧ R (IteT K a) H1
theorem pi_enumT {X : Cx} {e : Expr} {ta : TA} {p pos tpos : Pos} {elts : List Expr} {kk : Nat} (hg : Gl X "enumerate") (hm : X.mg "enumerate" = none) (ha : PA X [e] ta) (hs : starEach [e] X.env = [(false, eval e X.env)] := by rfl) :
    PI X (.Tuple elts kk tpos) (.Call (.Name "enumerate" p) [e] [] pos) (iEnumT X.K ta) := by
  refine ⟨fun pins s σ H R I h => ?_⟩
  refine Call_ (ld_blt I hg hm boot_enumerate (PyProof.Rows.callWith_type1 (thn (ha.run pos pins s σ H _ I h) fun us s1 ⟨vs, H1, I1, r1, a, xs, ex, hq, q⟩ => ?_) hs rfl))
  subst ex
  obtain rfl := Vals.ref1 r1
  obtain ⟨its, rv, p', hz⟩ := I1.tuple hq
  have hal : a < s1.heap.objs.size := by
    obtain ⟨o, ho, _⟩ := id p'
    exact Heap.lt_size ho
  refine call_enumT (begins_tuple a its.toArray) p' fun h' he hit hk => wpAny_pyIter_enum he ?_
  have I2 : Inv X pins σ H1 { s1 with heap := h' } := I1.kept (t' := s1.toks) hk
  refine ⟨s1.heap.objs.size + 1, [s1.heap.objs.size + 1, s1.heap.objs.size], _, _, H1, rfl, I2, turn_enumT a (s1.heap.objs.size + 1) s1.heap.objs.size,
    ⟨⟨.none, he⟩, ⟨_, hit, rfl, rfl⟩, Nat.succ_ne_self _, Nat.ne_of_lt (Nat.lt_succ_of_lt hal), Nat.ne_of_lt hal⟩, fun b hb => ?_, q⟩
  have hle : s1.heap.objs.size ≤ b := by
    rcases (show b = s1.heap.objs.size + 1 ∨ b = s1.heap.objs.size by simpa using hb) with z | z <;> rw [z]
    · exact Nat.le_add_right _ _
    · exact Nat.le_refl _
  exact I1.fpOk hle (I1.hok.fresh hle)
theorem walk_enumT {K : PySem.W.Frag} {a : Addr} {xs : List V} : Walk (IteT K a) xs.length (fun H => SqT K H a xs) (YPair (fun i => some (.int (i : Nat))) (fun i => xs[i]?)) := by
  refine ⟨fun i _ hi q => ⟨xs, xs[i], q, by simp [hi]⟩, fun _ q => ⟨xs, q, Nat.le_refl _⟩, fun i H v H' _ q y => ?_⟩
  obtain ⟨T, x, y1, y2, y3, y4⟩ := y
  exact ⟨T, .int (i : Nat), x, y1, y2, y3, rfl, y4 xs q⟩
end Fr

namespace Fr
open PySem PySem.Spec PyProof.Rows L2
/-- o.f in a comprehension's block -/
theorem pe_fldK {X : Cx} {K' : PySem.W.Frag} {e : Expr} {f : Str} {pos : Pos} {ta : TE} (he : PE X e ta) (hb : attributeBase e f X.env (eval e X.env) = eval e X.env := by rfl) (hK : X.K = K' := by rfl) : PE X (.Attribute e f pos) (tFld K' ta f) := by
  subst hK
  exact pe_fld he hb
structure LenM (P : Program) (w : World) (K : PySem.W.Frag) (mg : Str → Option Value) (base : Heap) (k : Nat) (C : Addr) (sp : Sp) : Prop where
  ex : ∃ (f : Addr) (fd : FuncData) (ps : List Str), Cls K C ∧ PySem.W.findIn K (.ref C) "__len__" = some (some (.ref f)) ∧ PySem.W.isFn K (.ref f) = true ∧ FnOk P w K mg base CX0 k f fd ps sp ∧ Binds K fd ps []
def rLenOwn (C : Addr) (sp : Sp) : List V → Hp → VK → Prop := fun xs H Q => ∃ (a dx : Addr) (fs : List (Str × V)), xs = [.ref a] ∧ H a = some (.ins C dx fs) ∧ sp [.ref a] H (fun v H' => ∃ n : Nat, v = .int n ∧ n < 1000000 ∧ Q (.int n) H') C8.E0
theorem call_lenOwn {X : Cx} {k j : Nat} {C : Addr} {sp : Sp} (c : LenM X.prog X.w X.K X.mg X.base k C sp) (hr : Room j X.A) (hk : k + 1 ≤ j) : CallR X (.builtin "len") (rLenOwn C sp) := by
  intro pins s σ H xs us Q I r h
  obtain ⟨a, dx, fs, rfl, ha, h⟩ := h
  obtain ⟨u, rfl, ru⟩ := vals1 r
  obtain rfl : u = Value.ref a := ru
  obtain ⟨f, fd, ps, hc, hs, hf, F, hb⟩ := c.ex
  obtain ⟨mA, J, _⟩ := ins_get I.hok ha
  obtain ⟨od, J, _⟩ := J.look
  have sp1 : PySem.W.Looks (model X.prog X.w) s.heap (specialOf (.ref a) "__len__") (some (.ref f)) := J.type.andThen (PySem.W.looks_findIn I.kIn hs)
  refine Calls.call_function_entry kind_len plain_len entry_len (args_len1 _) ?_
  unfold Builtin.«len»
  refine wpAny_bind (m := oneArg "len" _) (wpAny_pure ?_)
  refine wpAny_bind (m := callSpecial? (.ref a) (Str.ofString "__len__")) ?_
  unfold callSpecial?
  refine wpAny_bind (sp1.here ?_)
  refine wpAny_holding (wpAny_bind ((PySem.W.bind_fn I.kIn _ (beq_iff_eq.mp hf)).here ?_))
  have hrk : Room (k + 1) X.A := hr.mono hk
  have r2 : Vals [V.ref a] [Value.ref a] := .cons rfl .nil
  have hl := F.len _ _ _ _ h
  have bt := hb s [.ref a] I.kIn (by simpa using hl)
  refine wpAny_bind (wpAny_call (codeAny_mono (F.run X.A.in1 X.stack s H ⟨[.ref a], []⟩ [.ref a] [.ref a] _ C8.E0 hrk.in1 I.env0.in1 (by simpa using bt) r2 h) fun rs s2 z => ?_))
  match rs, z with
  | .error er, z => exact pass0 (X := X) pins σ H s er s2 I z
  | .ok (.ret v), z =>
    obtain ⟨y, H', I', ry, n, rfl, hn, q⟩ := I.after z
    obtain ⟨t, rfl⟩ : ∃ t, v = Value.int n t := ry
    refine wpAny_pure ?_
    refine wpAny_bind (wpAny_holding (wpAny_pure ?_))
    refine wpAny_bind (wpAny_letGo ?_)
    show wpAny _ _ (if ((n : Nat) : Int) < 0 then _ else _) _ _ _
    rw [if_neg (by omega)]
    show wpAny _ _ (if ((n : Nat) : Int) ≥ 2 ^ 63 then _ else _) _ _ _
    rw [if_neg (by omega)]
    exact wpAny_bind (wpAny_mkInt (wpAny_pure ⟨_, rfl, .int n, H', I'.tok _, ⟨_, rfl⟩, q⟩))
  | .ok .next, z => exact z.elim
  | .ok .brk, z => exact z.elim
  | .ok .cont, z => exact z.elim
end Fr

namespace Fr
open PySem PySem.Spec PyProof.Rows L2
section
variable {X : Cx} {pins : List (Addr × Obj)} {σ : L2.St} {H : Hp} {s : Shared}
theorem kvHitsE (I : Inv X pins σ H s) {A : Around} (hu : A.units + 64 < cLine) {ls : List (Key × V)} {vb : List (Key × Value)} (rb : KV ls vb) {ks : List (Key × V)} {r : Bool} (h : KvEq X.K H ls ks r) :
    ∀ {va : List (Key × Value)}, KV ks va → PySem.W.KeqHits A s vb va r := by
  induction h with
  | nil =>
    intro va ra
    cases ra
    exact .nil
  | @miss k v t hv =>
    intro va ra
    cases ra with
    | @cons _ q _ qs h1 h2 =>
      obtain ⟨key, u⟩ := q
      obtain ⟨h1, h3⟩ := h1
      have h1' : k = key := h1
      subst h1'
      exact .miss (RelO.none_of (by rw [← hv]; exact rb.val k))
  | @hit k v u t d e b hv hd he sd se _ ih =>
    intro va ra
    cases ra with
    | @cons _ q _ qs h1 h2 =>
      obtain ⟨key, w⟩ := q
      obtain ⟨h1, h3⟩ := h1
      have h1' : k = key := h1
      subst h1'
      have rr : RelO (some u) (valueAt vb k) := by rw [← hv]; exact rb.val k
      obtain ⟨y, hy, ry⟩ := rr.some_of
      obtain ⟨as, q1⟩ := Dp.reads I d _ _ hd h3
      obtain ⟨bs, q2⟩ := Dp.reads I e _ _ he ry
      exact .hit hy (SeqAt.eqAt_reads d e A s _ _ as bs q1 q2 (SeqAt.canLay_of_shaped sd) (SeqAt.canLay_of_shaped se) (SeqAt.room_of_shaped sd hu)) (ih h2)
end
def rNeKv (K : PySem.W.Frag) : R2 := fun x y H Q => ∃ (a b : Addr) (ks ls : List (Key × V)) (r : Bool), x = .ref a ∧ y = .ref b ∧ H a = some (.dK ks) ∧ H b = some (.dK ls) ∧ (ks.length = ls.length → KvEq K H ls ks r) ∧ Q (.bl (!(ks.length == ls.length && r))) H
theorem op_neKv {X : Cx} (hu : X.A.units + 65 < cLine) : OpR X (compareOp .NotEq) (rNeKv X.K) := by
  intro pins s σ H x y v u Q I rx ry h
  obtain ⟨a, b, ks, ls, r, rfl, rfl, ha, hb, hr, q⟩ := h
  cases (show v = Value.ref a from rx)
  cases (show u = Value.ref b from ry)
  obtain ⟨_, ya, va, ra, da⟩ := (show ObjOk X.prog X.w H s.heap a (.dK ks) from I.hok a _ ha)
  obtain ⟨_, yb, vb, rb, db⟩ := (show ObjOk X.prog X.w H s.heap b (.dK ls) from I.hok b _ hb)
  have e1 : va.length = ks.length := ra.length.symm
  have e2 : vb.length = ls.length := rb.length.symm
  refine PySem.W.keq_ne (knd := mixKind X.prog X.w) (r := r) ya yb da db (by omega) (fun e => kvHitsE I (by show X.A.units + 1 + 64 < cLine; omega) rb (hr (by omega)) ra) ?_
  rw [e1, e2]
  exact ⟨.bl _, H, I, rfl, q⟩
structure NeM (P : Program) (w : World) (K : PySem.W.Frag) (mg : Str → Option Value) (base : Heap) (k : Nat) (C : Addr) (sp : Sp) : Prop where
  eq : EqM P w K mg base k C sp
  ne : PySem.W.findIn K (.ref C) "__ne__" = some (some (.builtin "object.__ne__"))
  top : PySem.W.mroIn K C (.type "object") = some true
def rNeOwn (C : Addr) (sp : Sp) : R2 := fun x y H Q => ∃ (a b dx dy : Addr) (fs gs : List (Str × V)), x = .ref a ∧ y = .ref b ∧ H a = some (.ins C dx fs) ∧ H b = some (.ins C dy gs) ∧ sp [.ref a, .ref b] H (fun v H' => ∃ r, v = .bl r ∧ Q (.bl (!r)) H') C8.E0
section
open PySem.W
variable {prog : Program} {w : World} {A : Around} {E : Value → Shared → Prop} {s : Shared} {K : Frag} {x C f : Addr} {ox : PySem.Obj} {od : Option PySem.Obj} {y tb : Value}
theorem ne_body (Z : K.In s.heap) (I : InstAt s.heap x ox C od) (hu : A.units < cLine) (hs : findIn K (.ref C) "__eq__" = some (some (.ref f))) (hf : isFn K (.ref f) = true) {R : Fin → Shared → Prop}
    (h : wpAny (model prog w) A (call (.ref f) [.ref x, y]) (fun v s' => ∃ r : Bool, v = .bool r ∧ R (.done (.ret (.bool (!r)))) s') E s) : wpAny (model prog w) A (Builtin.«object.__ne__» ⟨[.ref x, y], []⟩) R E s := by
  obtain ⟨hp, g, d, t, os⟩ := s
  unfold Builtin.«object.__ne__»
  repeat (first
    | with_reducible refine wpAny_cRoomFor hu ?_
    | (refine wpAny_bind (m := callSpecialIfBound? (.ref x) (Str.ofString "__eq__") [y])
        (ifBound_K Z I hs hf (wpAny_mono h (fun r s' hr => by
          obtain ⟨b, rfl, hq⟩ := hr
          repeat (first | exact hq | exact wpAny_pure hq | exact wpAny_truthy_bool hq | (refine wpAny_bind (m := truthy (.bool _)) (wpAny_truthy_bool ?_)) | wp_step)) fun _ _ e => e)))
    | wp_step)
theorem ifBound_S {M : Model} {name : Str} {id : String} {args : List Value} {Q : Option Value → Shared → Prop} (Z : K.In s.heap) (I : InstAt s.heap x ox C od) (hn : findIn K (.ref C) name = some (some (.builtin id))) (hb : ∀ self, bindSpecial (.builtin id) self = pure (.builtin id, [self]))
    (h : wpAny M A (call (.builtin id) (.ref x :: args)) (fun v => Q (some v)) E s) : wpAny M A (callSpecialIfBound? (.ref x) name args) Q E s := by
  simp only [callSpecialIfBound?, bindSpecialIfBound?]
  refine wpAny_holding (wpAny_bind (wpAny_bind (wpAny_bind (I.type.here ((looks_findIn Z hn).here ?_)))))
  simp only [hb]
  refine wpAny_bind (wpAny_askSetting (wpAny_ite ?_))
  have fin : wpAny M A (call (.builtin id) ([.ref x] ++ args) >>= fun v => pure (some v)) Q E s := wpAny_bind (wpAny_mono h (fun v s' h' => wpAny_pure h') fun _ _ h' => h')
  split
  · exact wpAny_bind (wpAny_pure (wpAny_pure (by exact fin)))
  · exact wpAny_tryCatch (wpAny_bind (wpAny_pure (wpAny_pure (by exact fin))))
theorem ne_call (Z : K.In s.heap) (I : InstAt s.heap x ox C od) (hu : A.units + 1 < cLine) (hs : findIn K (.ref C) "__eq__" = some (some (.ref f))) (hf : isFn K (.ref f) = true) (hn : findIn K (.ref C) "__ne__" = some (some (.builtin "object.__ne__"))) (ht : mroIn K C (.type "object") = some true) {Q : Value → Shared → Prop}
    (h : wpAny (model prog w) A.in1 (call (.ref f) [.ref x, y]) (fun v s' => ∃ r : Bool, v = .bool r ∧ Q (.bool (!r)) s') E s) : wpAny (model prog w) A (tryCompare (.ref x) "__ne__" y) (fun r s' => ∃ v, r = some v ∧ Q v s') E s := by
  unfold tryCompare
  refine wpAny_bind (ifBound_S Z I hn F.cmp_object.ne.bind (wpAny_call (codeAny_call_builtin F.cmp_object.ne.plain PySem.F.cmpEntry_ne (check_slot PySem.F.cmpKind_ne PySem.F.cmpSplit_ne (I.type.andThen (looks_mroIn Z ht)) (PySem.F.cmpArgs_ne _ _) (ne_body (A := A.in1) Z I hu hs hf (wpAny_mono h (fun v s' hv => ?_) fun _ _ e => e))))))
  obtain ⟨b, rfl, hq⟩ := hv
  exact ⟨b, rfl, wpAny_pure ⟨_, rfl, hq⟩⟩
theorem ne_K {L : Addr} {h₀ : Heap} {m : Str → Option Value} (hu : A.units + 1 < cLine) (F : Fr h₀ L s.heap m) (X₀ : K.In h₀) (I : InstAt s.heap x ox C od) (hb : Looks (model prog w) s.heap (typeOf y) tb) (hn1 : notFirst K C tb = true)
    (hs : findIn K (.ref C) "__eq__" = some (some (.ref f))) (hf : isFn K (.ref f) = true) (hn : findIn K (.ref C) "__ne__" = some (some (.builtin "object.__ne__"))) (ht : mroIn K C (.type "object") = some true) {Q : Value → Shared → Prop}
    (h : wpAny (model prog w) A.in1 (call (.ref f) [.ref x, y]) (fun v s' => ∃ r : Bool, v = .bool r ∧ Q (.bool (!r)) s') E s) : wpAny (model prog w) A (richCompare .NotEq (.ref x) y) Q E s := by
  have Z := X₀.keeps F.keep
  have one := ne_call Z I hu hs hf hn ht h
  unfold richCompare
  simp only [oneThing_ref]
  refine wpAny_holding (wpAny_bind (wpAny_cRoomFor (Nat.lt_of_succ_lt hu) ?_))
  refine wpAny_bind (I.type.here (wpAny_bind (hb.here ?_)))
  split
  · rename_i q
    have e : subIn K tb (.ref C) = some false := by
      rcases Bool.or_eq_true_iff.mp hn1 with e | e
      · rw [beq_iff_eq.mp e] at q; simp at q
      · exact beq_iff_eq.mp e
    refine wpAny_bind ((looks_subIn Z e).here ?_)
    simp only [Bool.false_eq_true, if_false]
    refine wpAny_bind (wpAny_mono one (fun r s' z => ?_) fun _ _ e => e)
    obtain ⟨v, rfl, hq⟩ := z
    exact wpAny_pure hq
  · refine wpAny_bind (wpAny_pure ?_)
    simp only [Bool.false_eq_true, if_false]
    refine wpAny_bind (wpAny_mono one (fun r s' z => ?_) fun _ _ e => e)
    obtain ⟨v, rfl, hq⟩ := z
    exact wpAny_pure hq
end
theorem op_neOwn {X : Cx} {k j : Nat} {C : Addr} {sp : Sp} (c : NeM X.prog X.w X.K X.mg X.base k C sp) (hr : Room j X.A) (hk : k + 1 ≤ j) : OpR X (compareOp .NotEq) (rNeOwn C sp) := by
  intro pins s σ H x y v u Q I rx ry h
  obtain ⟨a, b, dx, dy, fs, gs, rfl, rfl, ha, hb, h⟩ := h
  cases (show v = Value.ref a from rx)
  cases (show u = Value.ref b from ry)
  obtain ⟨f, fd, ps, hc, hs, hf, F, hbd⟩ := c.eq.ex
  obtain ⟨mA, J, _⟩ := ins_get I.hok ha
  obtain ⟨mB, J', _⟩ := ins_get I.hok hb
  obtain ⟨od, J, _⟩ := J.look
  obtain ⟨od', J', _⟩ := J'.look
  obtain ⟨m, hF⟩ := I.fr
  have hrk : Room (k + 1) X.A := hr.mono hk
  have hu : X.A.units + 1 < cLine := hrk.in1.units0
  refine ne_K (tb := .ref C) hu hF I.ok.mod.kin J J'.type (by simp [PySem.W.notFirst]) hs hf c.ne c.top ?_
  have r2 : Vals [V.ref a, V.ref b] [Value.ref a, Value.ref b] := .cons rfl (.cons rfl .nil)
  have hl := F.len _ _ _ _ h
  have bt := hbd s [.ref a, .ref b] I.kIn (by simpa using hl)
  refine wpAny_call (codeAny_mono (F.run X.A.in1 X.stack s H ⟨[.ref a, .ref b], []⟩ [.ref a, .ref b] [.ref a, .ref b] _ C8.E0 hrk.in1 I.env0.in1 (by simpa using bt) r2 h) fun rs s2 z => ?_)
  match rs, z with
  | .error er, z => exact pass0 (X := X) pins σ H s er s2 I z
  | .ok (.ret v), z =>
    obtain ⟨y, H', I', ry, t, rfl, q⟩ := I.after z
    obtain rfl : v = Value.bool t := ry
    exact ⟨t, rfl, .bl _, H', I', rfl, q⟩
  | .ok .next, z => exact z.elim
  | .ok .brk, z => exact z.elim
  | .ok .cont, z => exact z.elim
end Fr

namespace Fr
open PySem PySem.Spec PyProof.Rows L2
/-- room, and nothing under repr -/
structure RoomG (k : Nat) (A : Around) : Prop where
  room : Room k A
  free : A.guards = some []
structure FnG (P : Program) (w : World) (K : PySem.W.Frag) (mg : Str → Option Value) (base : Heap) (k : Nat) (f : Addr) (fd : FuncData) (ps : List Str) (sp : Sp) : Prop where
  len : ∀ vs H Q E, sp vs H Q E → vs.length = ps.length
  go : ∀ (A : Around) (outer : List Env) (s : Shared) (H : Hp) (args : Args) (us : List Value) (vs : List V) (Q : VK) (E : XK), RoomG k A → Env0 P w K mg base A outer s H → BindsTo s fd args (ps.zip us) → Vals vs us → sp vs H Q E → codeAny (model P w) A (.call (.ref f) args) (CR CX0 outer P w H s Q E) s
section
variable {P : Program} {w : World} {K : PySem.W.Frag} {mg : Str → Option Value} {base : Heap}
/-- a def by its body -/
theorem fnG_of {k : Nat} {f : Addr} {x qual : Str} {pa : Arguments} {body : List Stmt} {sc : Scope} {dV kV doc pm cd ct oc : Value} {an od : Option Addr} {osl : Array (Option Value)} {N ps : List Str} {sp : Sp}
    (lk : K.lookup f = some ⟨oc, od, .func (PySem.W.fnOf x qual pa body sc dV kV doc pm an cd ct), osl⟩) (hcd : PySem.W.codeIn K cd qual = true) (S : FnScope N ps sc) (len : ∀ vs H Q E, sp vs H Q E → vs.length = ps.length)
    (hb : ∀ (A : Around) (outer : List Env) (s : Shared) (H : Hp) (vs : List V) (Q : VK) (E : XK), RoomG k (A.deeper (envOfC qual sc s.heap.objs.size f cd)) → sp vs H Q E → ∃ t, PSs (cxOf CX0 P w K mg base N qual sc f cd A outer s H E) body t ∧ t { nx := fun _ H' => Q .non H', rt := Q } (start N vs) H) :
    FnG P w K mg base (k + 1) f (PySem.W.fnOf x qual pa body sc dV kV doc pm an cd ct) ps sp where
  len := len
  go A outer s H args us vs Q E hr e0 bt rv hq := by
    have h1 : vs.length = ps.length := len _ _ _ _ hq
    have inK : K.In s.heap := e0.mod.kin.keeps fun b o z => (e0.bs b o z).1
    have noL : s.heap.NoLimit := e0.mod.nolimit.keeps fun b o z => (e0.bs b o z).1
    have kinds : ∀ y ∈ ps.zip us, sc.names.lookup y.1 = some .local ∨ (sc.names.lookup y.1 = some .cell ∧ ((cellsFrom (s.heap.objs.size + 1) sc.names []).lookup y.1).isSome = true) := by
      intro y hy
      obtain ⟨n, v⟩ := y
      cases S.par n (List.of_mem_zip hy).1 with
      | inl z => exact Or.inl z
      | inr z => exact Or.inr ⟨z, PySem.W.cellsFrom_some _ _ _ (Or.inl z)⟩
    refine codeAny_call_function hr.room.depth (inK _ _ lk) rfl S.co S.gen rfl (PySem.W.codeRec_of inK hcd) (bt _ _ _ _ (wpAny_newFunctionEnv_cells S.kind kinds ?_))
    rintro _ rfl s1 ic
    refine ⟨noL.keeps ic.toInCall.keep, codeAny_func ?_⟩
    obtain ⟨t, pt, ht⟩ := hb A outer s H vs Q E ⟨hr.room.deeper _, hr.free⟩ hq
    have I0 := inv_start (CX := CX0) (E := E) S hr.room.hd e0 h1 rv ic
    refine wpAny_mono (pt.run [] s1 (start N vs) H _ I0 ht) (fun fl s2 z => ?_) fun _ _ z => z
    cases fl with
    | next =>
      obtain ⟨_, H2, J, q⟩ := z
      exact ⟨V.non, H2, J.os, J.bare, J.base, J.hok, rfl, q⟩
    | ret u =>
      obtain ⟨v, _, H2, J, ru, q⟩ := z
      exact ⟨v, H2, J.os, J.bare, J.base, J.hok, ru, q⟩
    | brk => exact z.elim fun _ z => z.elim fun _ z => z.2.elim
    | cont => exact z.elim fun _ z => z.elim fun _ z => z.2.elim
theorem Fun_okG {x qual : Str} {st : Stmt} {f : Addr} {fd : FuncData} {N ps : List Str} {k : Nat} {sp : Sp} (F : Fun K x qual st f fd) (S : FnScope N ps (defScope st)) (len : ∀ vs H Q E, sp vs H Q E → vs.length = ps.length)
    (hb : ∀ (cd : Value) (A : Around) (outer : List Env) (s : Shared) (H : Hp) (vs : List V) (Q : VK) (E : XK), RoomG k (A.deeper (envOfC qual (defScope st) s.heap.objs.size f cd)) → sp vs H Q E →
      ∃ t, PSs (cxOf CX0 P w K mg base N qual (defScope st) f cd A outer s H E).nox (defBody st) t ∧ t { nx := fun _ H' => Q .non H', rt := Q } (start N vs) H) : FnG P w K mg base (k + 1) f fd ps sp := by
  obtain ⟨oc, od, kV, doc, pm, an, cd, ct, osl, rfl, lk, hcd⟩ := F.ex
  refine fnG_of lk hcd S len fun A outer s H vs Q E hr hq => ?_
  obtain ⟨t, pt, ht⟩ := hb cd A outer s H vs Q E hr hq
  exact ⟨t, pt.nox, ht⟩
/-- a def of this kind that may be called by its name -/
structure CalG (P : Program) (w : World) (K : PySem.W.Frag) (mg : Str → Option Value) (base : Heap) (k : Nat) (x : Str) (sp : Sp) : Prop where
  ex : ∃ (f : Addr) (fd : FuncData) (ps : List Str), FnG P w K mg base k f fd ps sp ∧ mg x = some (.ref f) ∧ PySem.W.keepIn K (.ref f) = true ∧ Binds K fd ps []
end
section
variable {X : Cx} {k j : Nat} {x : Str} {sp : Sp} {p pos : Pos} {e : Expr} {es : List Expr} {t : TA}
theorem pe_cG (c : CalG X.prog X.w X.K X.mg X.base k x sp) (hr : RoomG j X.A) (hk : k ≤ j) (hg : Gl X x) (ha : PA X (e :: es) t) (hdb : (x == ("__debug__" : Str)) = false := by decide)
    (he : starEach (e :: es) X.env = (false, eval e X.env) :: starEach es X.env := by rfl) (hpl : (backTo pos (starEach es X.env)).any (·.1) = false := by rfl) : PE X (.Call (.Name x p) (e :: es) [] pos) (tCall sp [] C8.E0 t) := by
  obtain ⟨f, fd, ps, F, hm, kp, hb⟩ := c.ex
  constructor
  intro pins s σ H Q I h
  refine wpAny_Call_Name_kw (ld_glob I hg hm (PySem.W.callWith_K (h₀ := X.base) I.ok.mod.kin kp (thn (ha.run pos pins s σ H _ I h) ?_) he hpl) hdb)
  rintro us s1 ⟨vs, H1, I1, r, q⟩
  refine ⟨I1.kIn, wpAny_call ?_⟩
  have r2 : Vals (vs ++ []) (us ++ []) := r.append .nil
  have hl : (us ++ ([] : List Value)).length = ps.length := r2.length.symm.trans (F.len _ _ _ _ q)
  refine codeAny_mono (F.go X.A X.stack s1 H1 ⟨us, []⟩ (us ++ []) (vs ++ []) Q C8.E0 ⟨hr.room.mono hk, hr.free⟩ I1.env0 (hb s1 us I1.kIn hl) r2 q) fun rs s2 z => ?_
  match rs, z with
  | .error er, z => exact pass0 (X := X) pins σ H1 s1 er s2 I1 z
  | .ok (.ret u), z => exact I1.after z
  | .ok .next, z => exact z.elim
  | .ok .brk, z => exact z.elim
  | .ok .cont, z => exact z.elim
/-- repr(e), e plain data -/
def rReprD (K : PySem.W.Frag) : List V → Hp → VK → Prop := fun xs H Q => ∃ (v : V) (d : PyData), xs = [v] ∧ Dp K H v d ∧ d.canLay0 = true ∧ d.showable = true ∧ d.depth ≤ 60 ∧ ((∃ i, d = .int i) ∨ d.shown.length ≤ sizeLine) ∧ Q (.str d.shown) H
theorem call_reprD (hg : X.A.guards = some []) (hu : X.A.units + 65 < cLine) : CallR X (.builtin "repr") (rReprD X.K) := by
  intro pins s σ H xs us Q I r h
  obtain ⟨v, d, rfl, hd, hc, hs, h6, hz, q⟩ := h
  obtain ⟨u, rfl, ru⟩ := vals1 r
  obtain ⟨as, rd⟩ := Dp.reads I d v u hd ru
  cases hd with
  | non =>
    cases (show u = Value.none from ru)
    simp only [PyData.shown] at q hz
    exact P.repr_of_none ⟨.str _, H, I.tok _, ⟨_, rfl⟩, q⟩
  | bl b =>
    cases (show u = Value.bool b from ru)
    simp only [PyData.shown] at q hz
    refine P.repr_of_bool ⟨.str _, H, I.tok _, ⟨_, rfl⟩, ?_⟩
    cases b <;> exact q
  | int i =>
    obtain ⟨t, rfl⟩ := (show ∃ t, u = Value.int i t from ru)
    simp only [PyData.shown] at q hz
    simp only [PyData.showable] at hs
    exact P.repr_of_int (of_decide_eq_true hs) ⟨.str _, H, I.tok _, ⟨_, rfl⟩, q⟩
  | str y =>
    obtain ⟨t, rfl⟩ := (show ∃ t, u = Value.str y t from ru)
    simp only [PyData.shown] at q hz
    exact P.repr_of_str ⟨.str _, H, I.tok _, ⟨_, rfl⟩, q⟩ (hz.resolve_left fun ⟨_, z⟩ => by cases z)
  | lst hq ha =>
    cases (show u = Value.ref _ from ru)
    exact repr_of_reads' rd hs (PyData.noDict_hsm (PyData.hasDict_of_canLay _ hc)) hg (by omega) (fun _ _ z => z) (fun h' t tk k => ⟨.str _, H, I.kept k, ⟨_, rfl⟩, q⟩) (hz.resolve_left fun ⟨_, z⟩ => by cases z)
  | tup hq ha =>
    cases (show u = Value.ref _ from ru)
    exact repr_of_reads' rd hs (PyData.noDict_hsm (PyData.hasDict_of_canLay _ hc)) hg (by omega) (fun _ _ z => z) (fun h' t tk k => ⟨.str _, H, I.kept k, ⟨_, rfl⟩, q⟩) (hz.resolve_left fun ⟨_, z⟩ => by cases z)
end
end Fr

namespace Fr
open PySem PySem.Spec PyProof.Rows L2
structure Shw (d : PyData) (k w : Nat) : Prop where
  lay : d.canLay0 = true
  sho : d.showable = true
  dep : d.depth ≤ k
  int : d.intsShort 13 = true
  wt : d.weight ≤ w
structure ShwA (ds : List PyData) (k w : Nat) : Prop where
  lay : PyData.canLayAll0 ds = true
  sho : PyData.showableAll ds = true
  dep : PyData.depthAll ds ≤ k
  int : PyData.intsShortAll 13 ds = true
  wt : PyData.weightAll ds ≤ w
theorem ShwA.nil {k : Nat} : ShwA [] k 0 := ⟨by simp [PyData.canLayAll0], by simp [PyData.showableAll], by simp [PyData.depthAll], by simp [PyData.intsShortAll], by simp [PyData.weightAll]⟩
theorem ShwA.cons {d : PyData} {ds : List PyData} {k w v u : Nat} (h : Shw d k w) (t : ShwA ds k v) (e : w + 1 + v ≤ u) : ShwA (d :: ds) k u :=
  ⟨by simp [PyData.canLayAll0, h.lay, t.lay], by simp [PyData.showableAll, h.sho, t.sho], by simp only [PyData.depthAll]; have := h.dep; have := t.dep; omega, by simp [PyData.intsShortAll, h.int, t.int],
    by simp only [PyData.weightAll]; have := h.wt; have := t.wt; omega⟩
theorem ShwA.c {d : PyData} {ds : List PyData} {k w v : Nat} (h : Shw d k w) (t : ShwA ds k v) : ShwA (d :: ds) k (w + 1 + v) := .cons h t (Nat.le_refl _)
theorem Shw.list {ds : List PyData} {k w : Nat} (h : ShwA ds k w) : Shw (.list ds) (k + 1) w :=
  ⟨by simp [PyData.canLay0, h.lay], by simp [PyData.showable, h.sho], by simp only [PyData.depth]; have := h.dep; omega, by simp [PyData.intsShort, h.int], by simp only [PyData.weight]; exact h.wt⟩
theorem Shw.tup {ds : List PyData} {k w : Nat} (h : ShwA ds k w) : Shw (.tuple ds) (k + 1) w :=
  ⟨by simp [PyData.canLay0, h.lay], by simp [PyData.showable, h.sho], by simp only [PyData.depth]; have := h.dep; omega, by simp [PyData.intsShort, h.int], by simp only [PyData.weight]; exact h.wt⟩
theorem Shw.one {i : Int} {k : Nat} (h : i.natAbs < 10 ^ 12) : Shw (.int i) k 40 := by
  have z := PyData.intsShortAll_ints [i] (by intro n hn; rw [List.mem_singleton.mp hn]; exact h)
  have hl : i.natAbs.log2 < 40 := by
    by_cases h0 : i.natAbs = 0
    · rw [h0]; decide
    · exact (Nat.log2_lt h0).mpr (Nat.lt_trans h (by decide))
  refine ⟨by simp [PyData.canLay0], by simp only [PyData.showable]; exact decide_eq_true (by omega), by simp [PyData.depth], ?_, ?_⟩
  · simp only [List.map_cons, List.map_nil, PyData.intsShortAll, Bool.and_eq_true] at z
    exact z.1
  · simp only [PyData.weight]
    split <;> omega
theorem Shw.str {x : Str} {k w : Nat} (h : PyData.strOk x = true) (e : x.length ≤ w) : Shw (.str x) k w :=
  ⟨by simpa [PyData.canLay0] using h, by simp [PyData.showable], by simp [PyData.depth], by simp [PyData.intsShort], by simp only [PyData.weight]; exact e⟩
theorem ShwA.map {α : Type} {f : α → PyData} {k w : Nat} : ∀ {xs : List α}, (∀ x ∈ xs, Shw (f x) k w) → ShwA (xs.map f) k (xs.length * (w + 1))
  | [], _ => by simpa using ShwA.nil
  | x :: xs, h => .cons (h x List.mem_cons_self) (ShwA.map fun y hy => h y (List.mem_cons_of_mem _ hy)) (by rw [List.length_cons, Nat.succ_mul]; omega)
theorem Shw.mono {d : PyData} {k w j v : Nat} (h : Shw d k w) (e : k ≤ j) (f : w ≤ v) : Shw d j v := ⟨h.lay, h.sho, Nat.le_trans h.dep e, h.int, Nat.le_trans h.wt f⟩
theorem ShwA.mono {d : List PyData} {k w j v : Nat} (h : ShwA d k w) (e : k ≤ j) (f : w ≤ v) : ShwA d j v := ⟨h.lay, h.sho, Nat.le_trans h.dep e, h.int, Nat.le_trans h.wt f⟩
/-- what repr asks -/
theorem Shw.asks {d : PyData} {k w : Nat} (h : Shw d k w) (e : k ≤ 60) (f : w ≤ 1000000) : d.canLay0 = true ∧ d.showable = true ∧ d.depth ≤ 60 ∧ ((∃ i, d = .int i) ∨ d.shown.length ≤ sizeLine) :=
  ⟨h.lay, h.sho, Nat.le_trans h.dep e, .inr (PyData.shown_fits (by decide) (by decide) (PyData.leavesShort_of_canLay0 13 d h.lay h.int) (Nat.le_trans h.wt (Nat.le_trans f (by decide))))⟩
theorem Shw.shaped {d : PyData} {k w : Nat} (h : Shw d k w) (e : k ≤ 60) : SeqAt.shaped d = true := by
  unfold SeqAt.shaped
  rw [h.lay, decide_eq_true (Nat.le_trans h.dep (Nat.le_trans e (by decide)))]
  rfl
end Fr

namespace Fr
open PySem PySem.Spec PyProof.Rows L2
def In2 (J1 : It) (g1 : TG) (tt1 : TT) (te : TE) (vs1 : List Nat) (D : Addr) (σ2 : L2.St) (H4 : Hp) (Nx : Hp → Prop) : Prop := ∃ W1 : Nat → Nat → Hp → Prop, (∃ m, W1 0 m H4) ∧ ∀ j k H, W1 j k H →
  (J1.stop j H ∧ Nx H) ∨ (J1.go j H ∧ ∃ Nx1 : Hp → Prop, (∀ H', Nx1 H' → ∃ k', k' < k ∧ W1 (j + 1) k' H') ∧ ∀ x H', J1.yld j H x H' → g1 x (wipe σ2 vs1) H' fun σ3 H5 => wipe σ3 vs1 = wipe σ2 vs1 ∧ tt1 σ3 H5 fun b H6 =>
    if b = true then te σ3 H6 fun y H7 => ∃ acc, H7 D = some (.lst acc) ∧ acc.length < sizeLine ∧ Nx1 (upd H7 D (.lst (acc ++ [y]))) else Nx1 H6)
theorem in2_mono {J1 : It} {g1 : TG} {tt1 : TT} {te : TE} {vs1 : List Nat} {D : Addr} {σ2 : L2.St} {H4 : Hp} {Nx Nx' : Hp → Prop} (h : In2 J1 g1 tt1 te vs1 D σ2 H4 Nx) (e : ∀ H, Nx H → Nx' H) : In2 J1 g1 tt1 te vs1 D σ2 H4 Nx' := by
  obtain ⟨W1, w0, st⟩ := h
  refine ⟨W1, w0, fun j k H w => ?_⟩
  rcases st j k H w with ⟨a, b⟩ | ⟨a, Nx1, b, c⟩
  · exact .inl ⟨a, e H b⟩
  · exact .inr ⟨a, Nx1, b, c⟩
theorem lc2_it {J : It} {n : Nat} {G : Hp → Prop} {Y : Nat → Hp → V → Hp → Prop} (w : Walk J n G Y) {g g1 : TG} {tt tt1 : TT} {wi1 : TI} {te : TE} {vs vs1 : List Nat} {σ : L2.St} {H1 : Hp} {D : Addr} {Qd : Hp → Prop} (Pv : Nat → Hp → Prop) (h0 : Pv 0 (upd H1 D (.lst []))) (hG : ∀ i H, i ≤ n → Pv i H → G H)
    (hs : ∀ i x H H', i < n → Pv i H → Y i H x H' → ∀ Nx : Hp → Prop, (∀ H, Pv (i + 1) H → Nx H) → g x (wipe σ vs) H' fun σ2 H2 => wipe σ2 vs = wipe σ vs ∧ tt σ2 H2 fun b H3 =>
      if b = true then wi1 σ2 H3 fun J1 H4 => In2 J1 g1 tt1 te vs1 D σ2 H4 Nx else Nx H3) (hd : ∀ H, Pv n H → Qd H) :
    ∃ W : Nat → Nat → Hp → Prop, (∃ m, W 0 m (upd H1 D (.lst []))) ∧ ∀ i m H, W i m H →
      (J.stop i H ∧ Qd H) ∨ (J.go i H ∧ ∃ Nx : Hp → Prop, (∀ H', Nx H' → ∃ m', m' < m ∧ W (i + 1) m' H') ∧ ∀ x H', J.yld i H x H' → g x (wipe σ vs) H' fun σ2 H2 => wipe σ2 vs = wipe σ vs ∧ tt σ2 H2 fun b H3 =>
        if b = true then wi1 σ2 H3 fun J1 H4 => In2 J1 g1 tt1 te vs1 D σ2 H4 Nx else Nx H3) := by
  refine ⟨fun i m H => m = n - i ∧ i ≤ n ∧ Pv i H, ⟨n, by simp, Nat.zero_le _, h0⟩, ?_⟩
  rintro i m H ⟨rfl, hi, p⟩
  have q := hG i H hi p
  by_cases hlt : i < n
  · exact .inr ⟨w.goes i H hlt q, Pv (i + 1), fun H' p' => ⟨n - (i + 1), by omega, rfl, hlt, p'⟩, fun x H' y => hs i x H H' hlt p (w.yields i H x H' hlt q y) _ fun _ h => h⟩
  · have e : i = n := by omega
    subst e
    exact .inl ⟨w.stops H q, hd H p⟩
theorem in2_it {J1 : It} {n : Nat} {G : Hp → Prop} {Y : Nat → Hp → V → Hp → Prop} (w : Walk J1 n G Y) {g1 : TG} {tt1 : TT} {te : TE} {vs1 : List Nat} {D : Addr} {σ2 : L2.St} {H4 : Hp} {Nx : Hp → Prop} (Pv : Nat → Hp → Prop) (h0 : Pv 0 H4) (hG : ∀ i H, i ≤ n → Pv i H → G H)
    (hs : ∀ i x H H', i < n → Pv i H → Y i H x H' → g1 x (wipe σ2 vs1) H' fun σ3 H5 => wipe σ3 vs1 = wipe σ2 vs1 ∧ tt1 σ3 H5 fun b H6 =>
      if b = true then te σ3 H6 fun y H7 => ∃ acc, H7 D = some (.lst acc) ∧ acc.length < sizeLine ∧ Pv (i + 1) (upd H7 D (.lst (acc ++ [y]))) else Pv (i + 1) H6) (hd : ∀ H, Pv n H → Nx H) : In2 J1 g1 tt1 te vs1 D σ2 H4 Nx := by
  refine ⟨fun i m H => m = n - i ∧ i ≤ n ∧ Pv i H, ⟨n, by simp, Nat.zero_le _, h0⟩, ?_⟩
  rintro i m H ⟨rfl, hi, p⟩
  have q := hG i H hi p
  by_cases hlt : i < n
  · exact .inr ⟨w.goes i H hlt q, Pv (i + 1), fun H' p' => ⟨n - (i + 1), by omega, rfl, hlt, p'⟩, fun x H' y => hs i x H H' hlt p (w.yields i H x H' hlt q y)⟩
  · have e : i = n := by omega
    subst e
    exact .inl ⟨w.stops H q, hd H p⟩
theorem unlock {H H' : Hp} {t : Addr} {od : PySem.Obj} {u : HO} (h : H t = some u) (s : Same (upd H t (.frz od u)) H') : Same H (upd H' t u) := fun b o e => by
  by_cases hb : b = t
  · rw [hb, upd_same]
    rw [hb, h] at e
    exact e
  · rw [upd_ne hb]
    exact s b o (by rw [upd_ne hb]; exact e)
theorem st_unlock {B H' : Hp} {t : Addr} {u v : HO} (s : Same B H') (h : B t = some u) (n : tupo u = false) : ST B (upd H' t v) := fun b o e d => by
  have hb : b ≠ t := fun z => by
    rw [z, h] at e
    cases e
    rw [n] at d
    cases d
  rw [upd_ne hb]
  exact s b o e
def nrD (x : Str × Nat) : PyData := .tuple [.str x.1, .int (x.2 : Nat)]
def nam1 (t : Tb) : List (Str × Nat) := (List.range t.rs.length).map fun i => (t.n, i)
def named (ts : List Tb) : List (Str × Nat) := ts.flatMap nam1
theorem named_take {ts : List Tb} {i : Nat} {t : Tb} (h : ts[i]? = some t) : named (ts.take (i + 1)) = named (ts.take i) ++ nam1 t := by
  unfold named
  rw [List.take_add_one, h, List.flatMap_append]
  simp
theorem named_len (ts : List Tb) : (named ts).length = (ts.map fun t => t.rs.length).sum := by
  unfold named
  rw [List.length_flatMap]
  congr 1
  refine List.map_congr_left fun t _ => ?_
  unfold nam1
  rw [List.length_map, List.length_range]
theorem mem_named {ts : List Tb} {x : Str} {i : Nat} : (x, i) ∈ named ts ↔ ∃ t ∈ ts, t.n = x ∧ i < t.rs.length := by
  unfold named nam1
  rw [List.mem_flatMap]
  constructor
  · rintro ⟨t, ht, h⟩
    obtain ⟨j, hj, e⟩ := List.mem_map.mp h
    cases e
    exact ⟨t, ht, rfl, List.mem_range.mp hj⟩
  · rintro ⟨t, ht, rfl, h⟩
    exact ⟨t, ht, List.mem_map.mpr ⟨i, List.mem_range.mpr h, rfl⟩⟩
theorem noL_nr (x : Str × Nat) : noL (nrD x) = true := rfl
theorem noL_tb_k (t : Tb) : noL t.k = true := noL_k t
theorem LD.ext {K : PySem.W.Frag} {H H' : Hp} {l : Addr} {ds : List PyData} (h : LD K H l ds) (e : LamX.ExtN H H') : LD K H' l ds := by
  obtain ⟨xs, h1, h2⟩ := h
  exact ⟨xs, e _ _ h1 (fun ps z => by cases z), dpsd (SD.ext e) _ _ h2⟩
theorem LD.st {K : PySem.W.Frag} {H H' : Hp} {l : Addr} {ds : List PyData} (h : LD K H l ds) (e : ST H H') (n : noLs ds = true) (f : H' l = H l) : LD K H' l ds := by
  obtain ⟨xs, h1, h2⟩ := h
  exact ⟨xs, by rw [f, h1], dpst e _ _ n h2⟩
theorem name_ok {x : Str} (h : isName x = true) : PyData.strOk x = true ∧ x.length ≤ 8 := by
  unfold isName at h
  rw [Bool.and_eq_true, Bool.and_eq_true] at h
  refine ⟨?_, by have := of_decide_eq_true h.1.2; omega⟩
  unfold PyData.strOk
  rw [Array.all_eq_true_iff_forall_mem]
  intro c hc
  have z := List.all_eq_true.mp h.2 c (Array.mem_toList_iff.mpr hc)
  unfold okSign at z
  rw [Bool.and_eq_true] at z
  have z2 : ¬ ([122] < [c]) := by simpa using z.2
  have : ¬ (122 < c) := fun q => z2 (by rw [List.cons_lt_cons_iff]; exact Or.inl q)
  exact decide_eq_true (by omega)
structure Lay (d : PyData) (k : Nat) : Prop where
  lay : d.canLay0 = true
  dep : d.depth ≤ k
structure LayA (ds : List PyData) (k : Nat) : Prop where
  lay : PyData.canLayAll0 ds = true
  dep : PyData.depthAll ds ≤ k
theorem LayA.nil {k : Nat} : LayA [] k := ⟨by simp [PyData.canLayAll0], by simp [PyData.depthAll]⟩
theorem LayA.cons {d : PyData} {ds : List PyData} {k : Nat} (h : Lay d k) (t : LayA ds k) : LayA (d :: ds) k := ⟨by simp [PyData.canLayAll0, h.lay, t.lay], by simp only [PyData.depthAll]; have := h.dep; have := t.dep; omega⟩
theorem LayA.map {α : Type} {f : α → PyData} {k : Nat} : ∀ {xs : List α}, (∀ x ∈ xs, Lay (f x) k) → LayA (xs.map f) k
  | [], _ => .nil
  | x :: xs, h => .cons (h x List.mem_cons_self) (LayA.map fun y hy => h y (List.mem_cons_of_mem _ hy))
theorem Lay.int {i : Int} {k : Nat} : Lay (.int i) k := ⟨by simp [PyData.canLay0], by simp [PyData.depth]⟩
theorem Lay.str {x : Str} {k : Nat} (h : PyData.strOk x = true) : Lay (.str x) k := ⟨by simpa [PyData.canLay0] using h, by simp [PyData.depth]⟩
theorem Lay.list {ds : List PyData} {k : Nat} (h : LayA ds k) : Lay (.list ds) (k + 1) := ⟨by simp [PyData.canLay0, h.lay], by simp only [PyData.depth]; have := h.dep; omega⟩
theorem Lay.tup {ds : List PyData} {k : Nat} (h : LayA ds k) : Lay (.tuple ds) (k + 1) := ⟨by simp [PyData.canLay0, h.lay], by simp only [PyData.depth]; have := h.dep; omega⟩
theorem Lay.shaped {d : PyData} {k : Nat} (h : Lay d k) (e : k ≤ 60) : SeqAt.shaped d = true := by
  unfold SeqAt.shaped
  rw [h.lay, decide_eq_true (Nat.le_trans h.dep (Nat.le_trans e (by decide)))]
  rfl
theorem lay_rd {d : Int} {r : Rd1} (h : isRead d r = true) : Lay r.d 2 := by
  unfold isRead at h
  rw [Bool.and_eq_true] at h
  exact .tup (.cons (.str (name_ok h.1).1) (.cons (.tup (.map fun _ _ => .int)) (.cons .int .nil)))
theorem lay_k {d : Int} {ts : List Tb} (O : OkT d ts) {t : Tb} (h : t ∈ ts) : Lay t.k 4 := .tup (.cons .int (.cons (.tup (.map fun r hr => lay_rd (O.reads t h r hr))) .nil))
theorem lay_tb {d : Int} {ts : List Tb} (O : OkT d ts) {t : Tb} (h : t ∈ ts) : Lay t.d 4 := .tup (.cons (.str (name_ok (O.names t h)).1) (.cons .int (.cons (.list (.map fun r hr => lay_rd (O.reads t h r hr))) .nil)))
theorem lay_nr {x : Str × Nat} (h : isName x.1 = true) : Lay (nrD x) 1 := .tup (.cons (.str (name_ok h).1) (.cons .int .nil))
theorem lay_named {d : Int} {ts : List Tb} (O : OkT d ts) {x : Str × Nat} (h : x ∈ named ts) : Lay (nrD x) 1 := by
  obtain ⟨t, ht, e, _⟩ := mem_named.mp (show (x.1, x.2) ∈ named ts from h)
  exact lay_nr (by rw [← e]; exact O.names t ht)
theorem eqv_nr (a b : Str × Nat) : PyData.eqv (nrD a) (nrD b) = decide (a = b) := by
  obtain ⟨x, i⟩ := a
  obtain ⟨y, j⟩ := b
  unfold nrD
  simp only [PyData.eqv, PyData.eqvAll, Bool.and_true]
  by_cases h1 : x = y
  · by_cases h2 : i = j
    · subst h1 h2
      simp
    · have : ¬ ((i : Int) = (j : Int)) := by omega
      simp [h2, this]
  · simp [h1]
theorem KvAt.ext {K : PySem.W.Frag} {H H' : Hp} (e : LamX.ExtN H H') {kvs : List (Key × V)} {ts : List Tb} (h : KvAt K H kvs ts) : KvAt K H' kvs ts := h.monoD (SD.ext e)
theorem SysAt.ext {K : PySem.W.Frag} {C : Addr} {H H' : Hp} {s : Addr} {d m : Int} {ts : List Tb} (e : LamX.ExtN H H') (h : SysAt K C H s d m ts) : SysAt K C H' s d m ts := by
  obtain ⟨dx, t, kvs, h1, h2, h3⟩ := h.ob
  exact ⟨dx, t, kvs, e _ _ h1 (fun ps z => by cases z), e _ _ h2 (fun ps z => by cases z), h3.ext e⟩
def tabEq (ts us : List Tb) : Bool := ts.length == us.length && ts.all fun t => match us.find? (fun u => decide (u.n = t.n)) with
  | none => false
  | some u => PyData.eqv t.k u.k
theorem kvEq_of {K : PySem.W.Frag} {H : Hp} {ls : List (Key × V)} {us : List Tb} (hl : KvAt K H ls us) (su : ∀ u ∈ us, SeqAt.shaped u.k = true) : ∀ {ks : List (Key × V)} {ts : List Tb}, KvAt K H ks ts → (∀ t ∈ ts, SeqAt.shaped t.k = true) →
    KvEq K H ls ks (ts.all fun t => match us.find? (fun u => decide (u.n = t.n)) with
      | none => false
      | some u => PyData.eqv t.k u.k)
  | [], _, h, _ => by
    cases h
    exact .nil
  | (k, v) :: ks, _, h, st => by
    cases h with
    | @cons _ t _ ts h1 h2 =>
      obtain ⟨e1, e2⟩ := h1
      have e1 : k = Sum.inr t.n := e1
      subst e1
      have ih := kvEq_of hl su h2 fun t ht => st t (List.mem_cons_of_mem _ ht)
      rw [List.all_cons]
      cases hf : us.find? (fun u => decide (u.n = t.n)) with
      | none =>
        refine .miss (hl.noVal fun hm => ?_)
        obtain ⟨u, hu, e⟩ := List.mem_map.mp hm
        have z := List.find?_eq_none.mp hf u hu
        exact z (decide_eq_true e)
      | some u =>
        obtain ⟨y, y1, y2⟩ := hl.get hf
        exact .hit y1 e2 y2 (st t List.mem_cons_self) (su u (List.mem_of_find?_eq_some hf)) ih
theorem find_nodup' {ts : List Tb} (hn : (ts.map (·.n)).Nodup) {t : Tb} (h : t ∈ ts) : ts.find? (fun u => decide (u.n = t.n)) = some t := find_nodup hn h rfl
theorem tabEq_refl {ts : List Tb} (hn : (ts.map (·.n)).Nodup) (st : ∀ t ∈ ts, SeqAt.shaped t.k = true) : tabEq ts ts = true := by
  unfold tabEq
  rw [Bool.and_eq_true]
  refine ⟨by simp, List.all_eq_true.mpr fun t ht => ?_⟩
  rw [find_nodup' hn ht]
  exact SeqAt.eqv_refl _ (SeqAt.canLay_of_shaped (st t ht))
end Fr

namespace Fr
open PySem PySem.Spec PyProof.Rows L2
theorem ltCps_iff : ∀ a b : List Nat, ltCps a b = true ↔ a < b
  | [], [] => by simp [ltCps]
  | [], b :: t => by simp [ltCps]
  | a :: r, [] => by simp [ltCps]
  | a :: r, b :: t => by
    rw [List.cons_lt_cons_iff, ← ltCps_iff r t]
    simp [ltCps]
theorem rising_pw : ∀ (l : List Str) (p : Str), risingS p l = true → (p :: l).Pairwise fun a b => a.cps.toList ≤ b.cps.toList
  | [], p, _ => by simp
  | x :: r, p, h => by
    unfold risingS at h
    rw [Bool.and_eq_true] at h
    have ih := rising_pw r x h.2
    have hx : p.cps.toList ≤ x.cps.toList := fun z => by
      have := (ltCps_iff x.cps.toList p.cps.toList).mpr z
      rw [this] at h
      exact Bool.noConfusion h.1
    rw [List.pairwise_cons]
    refine ⟨fun y hy => ?_, ih⟩
    rcases List.mem_cons.mp hy with rfl | hy
    · exact hx
    · exact List.le_trans hx ((List.pairwise_cons.mp ih).1 y hy)
theorem sorted_pw {l : List Str} (h : sortedS l = true) : l.Pairwise fun a b => a.cps.toList ≤ b.cps.toList := by
  cases l with
  | nil => exact .nil
  | cons x r => exact rising_pw r x h
theorem str_antisymm {a b : Str} (h : a.cps.toList ≤ b.cps.toList) (k : b.cps.toList ≤ a.cps.toList) : a = b := by
  have e := List.le_antisymm h k
  obtain ⟨a⟩ := a
  obtain ⟨b⟩ := b
  have e : a.toList = b.toList := e
  rw [Array.toList_inj.mp e]
theorem srt_pw (ts : List Tb) : ((srt ts).map (·.n)).Pairwise fun a b => a.cps.toList ≤ b.cps.toList := by
  rw [List.pairwise_map]
  have h := List.pairwise_mergeSort (le := leK Tb.n) (fun a b c h1 h2 => decide_eq_true (List.le_trans (of_decide_eq_true h1) (of_decide_eq_true h2))) (fun a b => by
    unfold leK
    rw [Bool.or_eq_true, decide_eq_true_eq, decide_eq_true_eq]
    exact List.le_total _ _) ts
  exact h.imp fun h => of_decide_eq_true h
theorem srt_perm (ts : List Tb) : (srt ts).Perm ts := List.mergeSort_perm ts (leK Tb.n)
theorem sorted_names {ys : List Str} {ts : List Tb} (p : ys.Perm (ts.map (·.n))) (h : sortedS ys = true) : ys = (srt ts).map (·.n) :=
  List.Perm.eq_of_pairwise (fun _ _ _ _ h k => str_antisymm h k) (sorted_pw h) (srt_pw ts) (p.trans ((srt_perm ts).map (·.n)).symm)
/-- one order alone -/
theorem srt_same {ts us : List Tb} (p : ts.Perm us) (n : (ts.map (·.n)).Nodup) : srt ts = srt us := by
  have e : (srt ts).map (·.n) = (srt us).map (·.n) := List.Perm.eq_of_pairwise (fun _ _ _ _ h k => str_antisymm h k) (srt_pw ts) (srt_pw us) ((((srt_perm ts).trans p).trans (srt_perm us).symm).map (·.n))
  have hp : (srt ts).Perm (srt us) := ((srt_perm ts).trans p).trans (srt_perm us).symm
  have hl : (srt ts).length = (srt us).length := hp.length_eq
  refine List.ext_getElem? fun i => ?_
  cases h : (srt ts)[i]? with
  | none =>
    rw [List.getElem?_eq_none_iff] at h
    rw [List.getElem?_eq_none (by omega)]
  | some t =>
    have hi : i < (srt us).length := by
      have := (List.getElem?_eq_some_iff.mp h).1
      omega
    rw [List.getElem?_eq_getElem hi]
    have h1 : ((srt us).map (·.n))[i]? = some t.n := by rw [← e, List.getElem?_map, h]; rfl
    rw [List.getElem?_map, List.getElem?_eq_getElem hi] at h1
    have h2 : ((srt us)[i]).n = t.n := Option.some.inj h1
    have m1 : t ∈ srt us := hp.mem_iff.mp (List.mem_of_getElem? h)
    have m2 : (srt us)[i] ∈ srt us := List.getElem_mem hi
    have nn : ((srt us).map (·.n)).Nodup := (((srt_perm us).trans p.symm).map (·.n)).nodup_iff.mpr n
    have f1 := find_nodup (x := t.n) nn m1 rfl
    have f2 := find_nodup (x := t.n) nn m2 h2
    rw [f1] at f2
    exact f2
end Fr

namespace Fr
open PySem PySem.Spec PyProof.Rows L2
abbrev s_System_len : Stmt := inClass (topS 31) 1
theorem sc_System_len : FnScope ["self"] ["self"] (defScope s_System_len) := ⟨rfl, rfl, rfl, by decide +kernel, rfl, by decide +kernel, by decide +kernel⟩
-- slots: 0 self
abbrev s_System_eq : Stmt := inClass (topS 31) 2
theorem sc_System_eq : FnScope ["self", "other"] ["self", "other"] (defScope s_System_eq) := ⟨rfl, rfl, rfl, by decide +kernel, rfl, by decide +kernel, by decide +kernel⟩
-- slots: 0 self, 1 other
abbrev s_System_constant : Stmt := inClass (topS 31) 6
theorem sc_System_constant : FnScope ["self", "name"] ["self", "name"] (defScope s_System_constant) := ⟨rfl, rfl, rfl, by decide +kernel, rfl, by decide +kernel, by decide +kernel⟩
-- slots: 0 self, 1 name
abbrev s_Systemwith_tables : Stmt := inClass (topS 31) 15
theorem sc_Systemwith_tables : FnScope ["self", "tables", "made", "name"] ["self", "tables"] (defScope s_Systemwith_tables) := ⟨rfl, rfl, rfl, by decide +kernel, rfl, by decide +kernel, by decide +kernel⟩
-- slots: 0 self, 1 tables, 2 made, 3 name
section
variable {P : Program} {w : World} {K : PySem.W.Frag} {mg : Str → Option Value} {base : Heap}
def spLenS (K : PySem.W.Frag) (C : Addr) : Sp := fun vs H Q _ => ∃ (s : Addr) (d m : Int) (ts : List Tb), vs = [.ref s] ∧ SysAt K C H s d m ts ∧ Q (.int (ts.length : Nat)) H
theorem ok_lenS {f C : Addr} {fd : FuncData} (F : Fun K "__len__" "System.__len__" s_System_len f fd) (T : Txt mg) (TC : TxtC K mg C) : FnOk P w K mg base CX0 1 f fd ["self"] (spLenS K C) := by
  refine F.ok sc_System_len (fun vs H Q E h => ?_) (fun cdv A outer s H vs Q E hr h => ?_)
  · obtain ⟨s, d, m, ts, rfl, _⟩ := h
    rfl
  · obtain ⟨s, d, m, ts, rfl, S, q⟩ := h
    refine ⟨_, (pss_one (ps_ret (pe_callB call_lenD (by rfl) T.b_len PySem.boot_len (pa_cons (pe_fld (pv 0) rfl) pa_nil)))), ?_⟩
    obtain ⟨dx, t, kvs, h1, h2, h3⟩ := S.ob
    refine ⟨_, rfl, s, C, dx, _, _, rfl, h1, TC.cl, TC.nT, flds_t _ _ _, t, kvs, rfl, h2, ?_⟩
    rw [h3.len]
    exact q
def spSysEq (K : PySem.W.Frag) (C : Addr) : Sp := fun vs H Q _ => ∃ (a b : Addr) (d m d' m' : Int) (ts us : List Tb), vs = [.ref a, .ref b] ∧ SysAt K C H a d m ts ∧ SysAt K C H b d' m' us ∧ (∀ t ∈ ts, SeqAt.shaped t.k = true) ∧ (∀ t ∈ us, SeqAt.shaped t.k = true) ∧
  Q (.bl (decide (d = d') && (decide (m = m') && tabEq ts us))) H
theorem dec_int (a b : Int) : decide (V.int a = V.int b) = decide (a = b) := decide_eq_decide.mpr ⟨fun h => V.int.inj h, fun h => congrArg V.int h⟩
theorem ok_eqS {f C : Addr} {fd : FuncData} (F : Fun K "__eq__" "System.__eq__" s_System_eq f fd) (T : Txt mg) (TC : TxtC K mg C) (zi : mg "isinstance" = none) (isC : C8.InsC K C) : FnOk P w K mg base CX0 1 f fd ["self", "other"] (spSysEq K C) := by
  refine F.ok sc_System_eq (fun vs H Q E h => ?_) (fun cdv A outer s H vs Q E hr h => ?_)
  · obtain ⟨a, b, d, m, d', m', ts, us, rfl, _⟩ := h
    rfl
  · obtain ⟨a, b, d, m, d', m', ts, us, rfl, S, S', st, su, q⟩ := h
    refine ⟨_, (pss_one (ps_ret (pe_and (pe_callB (C8.call_isC isC) (by rfl) zi (by decide +kernel) (pa_cons (pv 1) (pa_cons (pe_glob (v := .ref C) (by rfl) TC.g_System rfl) pa_nil))) (pe_and (pe_cmpR op_eq (pe_fld (pv 0) rfl) (pe_fld (pv 1) rfl) (nomark _)) (pe_and (pe_cmpR op_eq (pe_fld (pv 0) rfl) (pe_fld (pv 1) rfl) (nomark _)) (pe_one (pe_cmpR (op_eqKv hr.units1) (pe_fld (pv 0) rfl) (pe_fld (pv 1) rfl) (nomark _)))))))), ?_⟩
    obtain ⟨dx, t, kvs, h1, h2, h3⟩ := S.ob
    obtain ⟨dx', t', kvs', h1', h2', h3'⟩ := S'.ob
    refine ⟨_, rfl, b, dx', _, rfl, h1', _, rfl, iteT ?_⟩
    refine ⟨_, rfl, a, C, dx, _, _, rfl, h1, TC.cl, TC.nD, flds_d _ _ _, _, rfl, b, C, dx', _, _, rfl, h1', TC.cl, TC.nD, flds_d _ _ _, rfl, _, rfl, ?_⟩
    rw [dec_int]
    cases e1 : decide (d = d') with
    | false =>
      rw [e1] at q
      exact iteF q
    | true =>
      rw [e1, Bool.true_and] at q
      refine iteT ?_
      refine ⟨_, rfl, a, C, dx, _, _, rfl, h1, TC.cl, TC.nM, flds_m _ _ _, _, rfl, b, C, dx', _, _, rfl, h1', TC.cl, TC.nM, flds_m _ _ _, rfl, _, rfl, ?_⟩
      rw [dec_int]
      cases e2 : decide (m = m') with
      | false =>
        rw [e2] at q
        exact iteF q
      | true =>
        rw [e2, Bool.true_and] at q
        refine iteT ?_
        refine ⟨_, rfl, a, C, dx, _, _, rfl, h1, TC.cl, TC.nT, flds_t _ _ _, _, rfl, b, C, dx', _, _, rfl, h1', TC.cl, TC.nT, flds_t _ _ _, t, t', kvs, kvs', _, rfl, rfl, h2, h2', fun _ => kvEq_of h3' su h3 st, ?_⟩
        unfold tabEq at q
        rw [h3.len, h3'.len]
        exact q
def spConst (K : PySem.W.Frag) (C : Addr) : Sp := fun vs H Q _ => ∃ (s : Addr) (d m : Int) (ts : List Tb) (x : Str) (tb : Tb), vs = [.ref s, .str x] ∧ SysAt K C H s d m ts ∧ x ∈ ts.map (·.n) ∧ ts.find? (fun t => decide (t.n = x)) = some tb ∧ ∀ H', Same H H' → Q (.int tb.c) H'
theorem ok_const {f C : Addr} {fd : FuncData} (F : Fun K "constant" "System.constant" s_System_constant f fd) (T : Txt mg) (TC : TxtC K mg C) (c_check_table : C8.Cal P w K mg base 3 "check_table" (spCheckTable K C) []) : FnOk P w K mg base CX0 4 f fd ["self", "name"] (spConst K C) := by
  refine F.ok sc_System_constant (fun vs H Q E h => ?_) (fun cdv A outer s H vs Q E hr h => ?_)
  · obtain ⟨s, d, m, ts, x, tb, rfl, _⟩ := h
    rfl
  · obtain ⟨s, d, m, ts, x, tb, rfl, S, hx, hf, q⟩ := h
    have hu := hu_of hr
    refine ⟨_, (pss_cons (ps_expr (C8.pe_c c_check_table hr (by decide) (by rfl) (pa_cons (pv 0) (pa_cons (pv 1) pa_nil))))
  (pss_one (ps_ret (pe_ix ix_tup (pe_dget hu (pe_fld (pv 0) rfl) (pv 1) (fun _ _ => rfl)) pe_int (fun _ _ => rfl))))), ?_⟩
    refine ⟨_, rfl, _, rfl, s, d, m, ts, x, rfl, S, hx, fun H1 sm => ?_⟩
    obtain ⟨dx, t, kvs, h1, h2, h3⟩ := (S.mono sm).ob
    obtain ⟨v, e1, e2⟩ := h3.get hf
    obtain ⟨a, ys, rfl, ht, hd⟩ := dtup e2
    obtain ⟨y1, y2, rfl, g1, g2⟩ := dps2 hd
    obtain rfl := dint g1
    refine ⟨_, rfl, s, C, dx, _, _, rfl, h1, TC.cl, TC.nT, flds_t _ _ _, _, rfl, t, _, rfl, ?_, a, _, 0, _, rfl, rfl, ht, rfl, q H1 sm⟩
    have g := DGet.k (k := Sum.inr x) h2
    rw [e1] at g
    exact g
theorem DGet.frz {H : Hp} {a : Addr} {o : PySem.Obj} {kvs : List (Key × V)} {k : Key} (e : H a = some (.frz o (.dK kvs))) : DGet H a (kV k) (valV kvs k) := .inl ⟨kvs, k, .inr ⟨o, e⟩, rfl, rfl⟩
theorem kv_at {H : Hp} : ∀ {kvs : List (Key × V)} {ts : List Tb} {i : Nat} {k : Key} {v : V}, KvAt K H kvs ts → kvs[i]? = some (k, v) → ∃ t, ts[i]? = some t ∧ k = Sum.inr t.n ∧ Dp K H v t.k
  | [], _, _, _, _, h, e => by cases e
  | p :: kvs, _, 0, k, v, h, e => by
    cases h with
    | cons h1 h2 =>
      cases e
      exact ⟨_, rfl, h1⟩
  | p :: kvs, _, i + 1, k, v, h, e => by
    cases h with
    | cons h1 h2 => exact kv_at (i := i) h2 (by simpa using e)
theorem st_upd {H : Hp} {t : Addr} {u v : HO} (h : H t = some u) (n : tupo u = false) : ST H (upd H t v) := fun b o e d => by
  have hb : b ≠ t := fun z => by
    rw [z, h] at e
    cases e
    rw [n] at d
    cases d
  rw [upd_ne hb]
  exact e
end
end Fr

namespace Fr
open PySem PySem.Spec PyProof.Rows L2
theorem putF_flds (d m : Int) (t t' : Addr) : putF "_tables" (.ref t') (flds d m t) = flds d m t' := by
  unfold flds
  simp only [putF, if_neg nDM, if_neg nDT, if_neg nMT, if_true]
def bare : Tb := ⟨"a", 0, []⟩
theorem bare_ok {d m : Int} (h1 : 1 ≤ d) (h3 : d ≤ 3) (hm : 2 ≤ m) : OkSys d m [bare] :=
  ⟨h1, h3, hm, by decide, by decide, ⟨(by intro t ht; rw [List.mem_singleton.mp ht]; decide +kernel), (by simp), (by decide), (by intro t ht r hr; rw [List.mem_singleton.mp ht] at hr; cases hr), (by intro t ht r hr; rw [List.mem_singleton.mp ht] at hr; cases hr)⟩⟩
theorem keys_kv {K : PySem.W.Frag} {H : Hp} : ∀ {kvs : List (Key × V)} {ts : List Tb}, KvAt K H kvs ts → kvs.map (·.1) = (ts.map (·.n)).map Sum.inr
  | [], _, h => by cases h; rfl
  | p :: kvs, _, h => by
    cases h with
    | cons h1 h2 =>
      rw [List.map_cons, List.map_cons, List.map_cons, keys_kv h2, h1.1]
section
variable {P : Program} {w : World} {K : PySem.W.Frag} {mg : Str → Option Value} {base : Heap}
def spWith (K : PySem.W.Frag) (C : Addr) (TT : List (Addr × Str)) : Sp := fun vs H Q _ => ∃ (s t : Addr) (d m : Int) (ts us : List Tb) (kvs : List (Key × V)), vs = [.ref s, .ref t] ∧ SysAt K C H s d m ts ∧ 1 ≤ d ∧ d ≤ 3 ∧ 2 ≤ m ∧ H t = some (.dK kvs) ∧ KvAt K H kvs us ∧ (us.map (·.n)).Nodup ∧ us.length ≤ 60 ∧ LamX.Tabs TT H ∧
  ∀ x H', H x = none → LamX.ExtN H H' → LamX.Tabs TT H' → SysAt K C H' x d m (srt us) → Q (.ref x) H'
theorem ok_with {f C : Addr} {fd : FuncData} {TT : List (Addr × Str)} (F : Fun K "_with_tables" "System._with_tables" s_Systemwith_tables f fd) (T : Txt mg) (TC : TxtC K mg C) (m_System3 : C8.Mak P w K mg base 5 "System" C (spInit K C TT) []) : FnOk P w K mg base CX0 7 f fd ["self", "tables"] (spWith K C TT) := by
  refine F.ok sc_Systemwith_tables (fun vs H Q E h => ?_) (fun cdv A outer sh H vs Q E hr h => ?_)
  · obtain ⟨s, t, d, m, ts, us, kvs, rfl, _⟩ := h
    rfl
  · obtain ⟨s, t, d, m, ts, us, kvs, rfl, S, hd1, hd3, hm2, ht, hkv, hnd, hlen, hT, q⟩ := h
    have hu := hu_of hr
    refine ⟨_, (pss_cons (ps_set (i := 2) sc_Systemwith_tables.nd rfl (by first | exact Or.inl rfl | exact Or.inr rfl) (C8.pe_mk m_System3 hr (by decide) (by rfl) (pa_cons (pe_fld (pv 0) rfl) (pa_cons (pe_lst (pa_cons (pe_tup (pa_cons pe_str (pa_cons pe_int (pa_cons (pe_lst pa_nil) pa_nil)))) pa_nil)) (pa_cons (pe_fld (pv 0) rfl) pa_nil)))))
  (pss_cons (ps_fld (pv 2) (pe_dc (own := [("name", 3)]) (g := gName 3) (tt := tYes) (by rfl) sc_Systemwith_tables.nd (pi_list (pe_callB (call_sortedD rfl) (by rfl) T.b_sorted (by decide +kernel) (pa_cons (pv 1) pa_nil))) (blkOk_by (N := ["self", "tables", "made", "name"]) (sc := defScope s_Systemwith_tables) (by decide +kernel)) (fun _ _ _ _ _ => (pg_name (i := 3) sc_Systemwith_tables.nd rfl (by first | exact Or.inl rfl | exact Or.inr rfl))) (fun _ _ _ _ _ => pts_nil) (fun _ _ _ _ _ => (pv 3)) (fun _ _ _ _ _ => (pe_dget hu (pv 1) (pv 3) (fun _ _ => rfl)))) rfl)
  (pss_one (ps_ret (pv 2))))), ?_⟩
    obtain ⟨dx, tt, kvs0, h1, h2, h3⟩ := S.ob
    -- made = System(..)
    refine ⟨_, rfl, s, C, dx, _, _, rfl, h1, TC.cl, TC.nD, flds_d _ _ _, Nat.zero_le _, fun l0 hl0 => ⟨(by show 3 ≤ sizeLine; decide), fun t0 ht0 => ⟨(by show 1 ≤ sizeLine; decide), fun l1 hl1 => ?_⟩⟩⟩
    have s1 : Same H (upd (upd (upd H l0 (.lst [])) t0 (.tup [.str "a", .int 0, .ref l0])) l1 (.lst [.ref t0])) := same_tr (snew hl0) (same_tr (snew ht0) (snew hl1))
    have D1 : Dp K (upd (upd (upd H l0 (.lst [])) t0 (.tup [.str "a", .int 0, .ref l0])) l1 (.lst [.ref t0])) (.ref l1) (.list ([bare].map Tb.d)) := by
      refine .lst (Or.inl (Or.inl upd_same)) (.cons (.tup (Or.inl (Or.inl (snew hl1 _ _ upd_same))) (.cons (.str _) (.cons (.int _) (.cons (.lst (Or.inl (Or.inl (snew hl1 _ _ (snew ht0 _ _ upd_same)))) .nil) .nil)))) .nil)
    generalize upd (upd (upd H l0 (.lst [])) t0 (.tup [.str "a", .int 0, .ref l0])) l1 (.lst [.ref t0]) = H1 at s1 D1
    refine ⟨_, rfl, s, C, dx, _, _, rfl, s1 _ _ h1, TC.cl, TC.nM, flds_m _ _ _, fun x dx2 nx ndx nex => ?_⟩
    have sx : Same H1 (upd (upd H1 dx2 (.own x)) x (.ins C dx2 [])) := same_tr (snew ndx) (snew (by rw [upd_ne nex.symm]; exact nx))
    refine ⟨x, dx2, d, m, .ref l1, [bare], rfl, upd_same, (hT.ext s1).ext sx, bare_ok hd1 hd3 hm2, dpm sx _ _ D1, fun H2 E2 hT2 S2 => ⟨rfl, ?_⟩⟩
    have xH : H x = none := free_of s1 nx
    have e2 : LamX.ExtN H H2 := fun b o e n => E2 b o (sx b o (s1 b o e)) (ne_of_none (s1 b o e) nx) n
    obtain ⟨dx3, t3, kvs3, o1, o2, o3⟩ := S2.ob
    have ht2 := e2 _ _ ht (fun ps z => by cases z)
    have hk2 := hkv.ext e2
    -- sorted(tables)
    refine ⟨_, rfl, t, kvs, us.map (·.n), rfl, Or.inl ht2, keys_kv hk2, by rw [List.length_map]; omega, fun ys p perm so hp => ?_⟩
    have ey := sorted_names perm so
    have sl : (srt us).length = us.length := List.length_mergeSort _
    have nds : ((srt us).map (·.n)).Nodup := ((srt_perm us).map (·.n)).nodup_iff.mpr hnd
    have s3 : Same H2 (upd H2 p (.lst (ys.map V.str))) := snew hp
    have hyl : (ys.map V.str).length = us.length := by rw [List.length_map, ey, List.length_map, sl]
    refine ⟨p, rfl, ⟨_, Or.inl (Or.inl upd_same)⟩, fun D hD => dc_it (walk_list (K := K) (a := p) (xs := ys.map V.str)) (fun i H' => ∃ kvs', Same (upd H2 p (.lst (ys.map V.str))) (upd H' D (.dK kvs')) ∧ H' D = some (.dK kvs') ∧ KvAt K H2 kvs' ((srt us).take i) ∧ ∀ b, b ≠ D → (upd H2 p (.lst (ys.map V.str))) b = H' b)
      ⟨[], fun b o e => by rw [upd_ne (ne_of_none e hD), upd_ne (ne_of_none e hD)]; exact e, upd_same, .nil, fun b hb => (upd_ne hb).symm⟩ (fun i H' _ ⟨kvs', b1, b2, _, b4⟩ => Or.inl (Or.inl (by rw [← b4 p fun z => by rw [← z, upd_same] at hD; cases hD]; exact upd_same))) ?_ ?_⟩
    · rintro i y _ Hi hi ⟨kvs', b1, b2, b3, b4⟩ ⟨rfl, hy⟩
      rw [List.getElem?_map, ey, List.getElem?_map] at hy
      obtain ⟨z, hz, rfl⟩ := Option.map_eq_some_iff.mp hy
      obtain ⟨u, hu1, rfl⟩ := Option.map_eq_some_iff.mp hz
      have humem : u ∈ us := (srt_perm us).mem_iff.mp (List.mem_of_getElem? hu1)
      have hf := find_nodup' hnd humem
      obtain ⟨v, e1, e3⟩ := hk2.get hf
      have tD : t ≠ D := ne_of_none (s3 _ _ ht2) hD
      have htI : Hi t = some (.dK kvs) := by rw [← b4 t tD]; exact s3 _ _ ht2
      refine ⟨rfl, yes_if ?_⟩
      refine ⟨_, rfl, _, rfl, _, rfl, t, v, rfl, ?_, kvs', Sum.inr u.n, rfl, b2, ?_, ?_⟩
      · have g := DGet.k (k := Sum.inr u.n) htI
        rw [e1] at g
        exact g
      · have : kvs'.length ≤ 60 := by
          rw [b3.len, List.length_take]
          omega
        exact Nat.lt_of_le_of_lt this (by rw [sizeLine_eq]; decide)
      · have hno : valV kvs' (Sum.inr u.n) = none := b3.noVal (by
          rw [List.map_take]
          exact notin_take nds (by rw [List.getElem?_map, hu1]; rfl))
        rw [putK_new _ hno]
        refine ⟨kvs' ++ [(Sum.inr u.n, v)], fun b o e => ?_, upd_same, ?_, fun b hb => by rw [upd_ne hb]; exact b4 b hb⟩
        · have hb : b ≠ D := ne_of_none e hD
          rw [upd_ne hb, upd_ne hb, ← b4 b hb]
          exact e
        · rw [List.take_add_one, hu1]
          exact b3.app (.cons ⟨rfl, e3⟩ .nil)
    · rintro Hf ⟨kvs', b1, b2, b3, b4⟩
      rw [hyl, ← sl, List.take_length] at b3
      have xD : x ≠ D := ne_of_none (s3 _ _ o1) hD
      have hxf : Hf x = some (.ins C dx3 (flds d m t3)) := by rw [← b4 x xD]; exact s3 _ _ o1
      refine ⟨_, rfl, x, C, dx3, _, rfl, hxf, TC.cl, TC.nT, (by show 3 < 1000; decide), _, rfl, ?_⟩
      rw [putF_flds]
      have sf : Same H2 Hf := fun b o e => by
        have hb : b ≠ D := ne_of_none (s3 _ _ e) hD
        rw [← b4 b hb]
        exact s3 _ _ e
      refine q x _ xH (fun b o e n => ?_) (tabs_ins (hT2.ext sf) hxf) ⟨dx3, D, kvs', upd_same, by rw [upd_ne xD.symm]; exact b2, b3.monoD (SD.upd (.of sf) hxf rfl)⟩
      rw [upd_ne (ne_of_none e xH)]
      exact sf _ _ (e2 _ _ e n)
end
end Fr

namespace Fr
open PySem PySem.Spec PyProof.Rows L2
/-- a system of the laws -/
structure Sys1 (d m : Int) (ts : List Tb) : Prop where
  d1 : 1 ≤ d
  d3 : d ≤ 3
  m2 : 2 ≤ m
  mx : m ≤ 1000000000
  l1 : 1 ≤ ts.length
  l6 : ts.length ≤ 6
  ok : OkT d ts
  sm : ∀ t ∈ ts, SmT t
theorem Sys1.sys {d m : Int} {ts : List Tb} (h : Sys1 d m ts) : OkSys d m ts := ⟨h.d1, h.d3, h.m2, h.l1, h.l6, h.ok⟩
theorem OkT.perm {d : Int} {ts us : List Tb} (p : ts.Perm us) (O : OkT d ts) : OkT d us := by
  refine ⟨fun t ht => O.names t (p.mem_iff.mpr ht), (p.map (·.n)).nodup_iff.mp O.nodup, ?_, fun t ht => O.reads t (p.mem_iff.mpr ht), fun t ht r hr => (p.map (·.n)).mem_iff.mp (O.here t (p.mem_iff.mpr ht) r hr)⟩
  rw [← (p.map fun t => t.rs.length).sum_nat]
  exact O.few
theorem Sys1.srt {d m : Int} {ts : List Tb} (h : Sys1 d m ts) : Sys1 d m (srt ts) := by
  have p := (srt_perm ts).symm
  have e := p.length_eq
  exact ⟨h.d1, h.d3, h.m2, h.mx, by have := h.l1; omega, by have := h.l6; omega, h.ok.perm p, fun t ht => h.sm t (p.mem_iff.mpr ht)⟩
def sysD (d m : Int) (ts : List Tb) : PyData := .list [.int d, .int m, .list (ts.map Tb.d), .list ((named ts).map nrD), .int (ts.length : Nat)]
def sysS (d m : Int) (ts : List Tb) : Str := (sysD d m ts).shown
theorem shw_rd {d : Int} {r : Rd1} (h : isRead d r = true) (hd : d ≤ 3) (f : -10 ≤ r.f ∧ r.f ≤ 10) (v : ∀ x ∈ r.v, -1000 ≤ x ∧ x ≤ 1000) : Shw r.d 3 174 := by
  unfold isRead at h
  rw [Bool.and_eq_true, Bool.and_eq_true] at h
  have hl : r.v.length ≤ 3 := by
    have := of_decide_eq_true h.2.1
    omega
  have hv : ShwA (r.v.map .int) 1 123 := (ShwA.map fun x hx => Shw.one (by have := v x hx; omega)).mono (Nat.le_refl _) (by omega)
  exact (Shw.tup (ShwA.c (Shw.str (k := 2) (name_ok h.1).1 (name_ok h.1).2) (ShwA.c (Shw.tup hv) (ShwA.c (Shw.one (k := 2) (i := r.f) (by omega)) ShwA.nil)))).mono (j := 3) (by decide) (by decide)
theorem shw_tb {d m : Int} {ts : List Tb} (h : Sys1 d m ts) {t : Tb} (ht : t ∈ ts) : Shw t.d 5 2200 := by
  have h12 := few_reads h.ok ht
  have hr : ShwA (t.rs.map Rd1.d) 3 2100 := (ShwA.map fun r hr => shw_rd (h.ok.reads t ht r hr) h.d3 ((h.sm t ht).f r hr) ((h.sm t ht).v r hr)).mono (Nat.le_refl _) (by omega)
  have hn := name_ok (h.ok.names t ht)
  have hc := (h.sm t ht).c
  exact (Shw.tup (ShwA.c (Shw.str (k := 4) hn.1 hn.2) (ShwA.c (Shw.one (i := t.c) (by omega)) (ShwA.c (Shw.list hr) ShwA.nil)))).mono (by decide) (by decide)
theorem shw_nr {x : Str × Nat} (h : isName x.1 = true) (hi : x.2 ≤ 1000) : Shw (nrD x) 1 50 := by
  have hn := name_ok h
  exact (Shw.tup (ShwA.c (Shw.str (k := 0) hn.1 hn.2) (ShwA.c (Shw.one (i := (x.2 : Nat)) (by omega)) ShwA.nil))).mono (by decide) (by decide)
theorem shw_named {d m : Int} {ts : List Tb} (h : Sys1 d m ts) {x : Str × Nat} (hx : x ∈ named ts) : Shw (nrD x) 1 50 := by
  obtain ⟨t, ht, e, hi⟩ := mem_named.mp (show (x.1, x.2) ∈ named ts from hx)
  have h12 := few_reads h.ok ht
  exact shw_nr (by rw [← e]; exact h.ok.names t ht) (by omega)
theorem sysD_ok {d m : Int} {ts : List Tb} (h : Sys1 d m ts) : Shw (sysD d m ts) 7 30000 := by
  have hts : ShwA (ts.map Tb.d) 5 13206 := (ShwA.map fun t ht => shw_tb h ht).mono (Nat.le_refl _) (by have := h.l6; omega)
  have hnl : (named ts).length ≤ 12 := by rw [named_len]; exact h.ok.few
  have hnm : ShwA ((named ts).map nrD) 5 700 := (ShwA.map (w := 50) fun x hx => shw_named h hx).mono (by decide) (by omega)
  have h1 := h.d1
  have h3 := h.d3
  have h2 := h.m2
  have hx := h.mx
  have h6 := h.l6
  exact (Shw.list (ShwA.c (Shw.one (k := 6) (i := d) (by omega)) (ShwA.c (Shw.one (i := m) (by omega)) (ShwA.c (Shw.list hts) (ShwA.c (Shw.list hnm) (ShwA.c (Shw.one (i := (ts.length : Nat)) (by omega)) ShwA.nil)))))).mono (by decide) (by decide)
end Fr

namespace Fr
open PySem PySem.Spec PyProof.Rows L2
abbrev s_System_with_table : Stmt := inClass (topS 31) 13
theorem sc_System_with_table : FnScope ["self", "name", "constant", "reads"] ["self", "name", "constant", "reads"] (defScope s_System_with_table) := ⟨rfl, rfl, rfl, by decide +kernel, rfl, by decide +kernel, by decide +kernel⟩
-- slots: 0 self, 1 name, 2 constant, 3 reads
abbrev s_moved : Stmt := topS 29
theorem sc_moved : FnScope ["vector", "own", "other", "step", "less", "more"] ["vector", "own", "other"] (defScope s_moved) := ⟨rfl, rfl, rfl, by decide +kernel, rfl, by decide +kernel, by decide +kernel⟩
-- slots: 0 vector, 1 own, 2 other, 3 step, 4 less, 5 more
def setT (x : Str) (c : Int) (rs : List Rd1) (t : Tb) : Tb := if t.n = x then ⟨t.n, c, rs⟩ else t
theorem setT_n (x : Str) (c : Int) (rs : List Rd1) (t : Tb) : (setT x c rs t).n = t.n := by
  unfold setT
  split <;> rfl
theorem setT_names (x : Str) (c : Int) (rs : List Rd1) (ts : List Tb) : (ts.map (setT x c rs)).map (·.n) = ts.map (·.n) := by
  rw [List.map_map]
  exact List.map_congr_left fun t _ => setT_n x c rs t
theorem kv_has {K : PySem.W.Frag} {H : Hp} {x : Str} : ∀ {kvs : List (Key × V)} {ts : List Tb}, KvAt K H kvs ts → x ∈ ts.map (·.n) → (kvs.any fun kv => decide (kv.1 = (Sum.inr x : Key))) = true
  | [], _, h, e => by cases h; cases e
  | kv :: kvs, _, h, e => by
    cases h with
    | @cons _ t _ ts h1 h2 =>
      rw [List.any_cons, Bool.or_eq_true]
      rw [List.map_cons, List.mem_cons] at e
      rcases e with e | e
      · exact .inl (decide_eq_true (by rw [h1.1, e]))
      · exact .inr (kv_has h2 e)
theorem kv_map {K : PySem.W.Frag} {H : Hp} {x : Str} {c : Int} {rs : List Rd1} {v : V} (hv : Dp K H v (.tuple [.int c, .tuple (rs.map Rd1.d)])) : ∀ {kvs : List (Key × V)} {ts : List Tb}, KvAt K H kvs ts →
    KvAt K H (kvs.map fun kv => if kv.1 = (Sum.inr x : Key) then (kv.1, v) else kv) (ts.map (setT x c rs))
  | [], _, h => by cases h; exact .nil
  | kv :: kvs, _, h => by
    cases h with
    | @cons _ t _ ts h1 h2 =>
      rw [List.map_cons, List.map_cons]
      refine .cons ?_ (kv_map hv h2)
      obtain ⟨k, u⟩ := kv
      have h1' : k = Sum.inr t.n := h1.1
      subst h1'
      unfold setT
      by_cases e : t.n = x
      · rw [if_pos (by rw [e]), if_pos e]
        exact ⟨rfl, hv⟩
      · rw [if_neg (fun z => e (Sum.inr.inj z)), if_neg e]
        exact h1
theorem kv_put {K : PySem.W.Frag} {H : Hp} {x : Str} {c : Int} {rs : List Rd1} {v : V} {kvs : List (Key × V)} {ts : List Tb} (h : KvAt K H kvs ts) (hx : x ∈ ts.map (·.n)) (hv : Dp K H v (.tuple [.int c, .tuple (rs.map Rd1.d)])) : KvAt K H (putK kvs (Sum.inr x) v) (ts.map (setT x c rs)) := by
  unfold putK
  rw [if_pos (kv_has h hx)]
  exact kv_map hv h
def mvV (v o f : List Int) : List Int := List.zipWith (fun a b => a + b) (List.zipWith (fun a b => a - b) v o) f
theorem mvV_len {v o f : List Int} (h1 : v.length = o.length) (h2 : v.length = f.length) : (mvV v o f).length = v.length := by
  unfold mvV
  rw [List.length_zipWith, List.length_zipWith]
  omega
theorem mvV_at {v o f : List Int} {i : Nat} {a b c : Int} (h1 : v[i]? = some a) (h2 : o[i]? = some b) (h3 : f[i]? = some c) : (mvV v o f)[i]? = some (a - b + c) := by
  unfold mvV
  rw [List.getElem?_zipWith, List.getElem?_zipWith, h1, h2, h3]
section
variable {P : Program} {w : World} {K : PySem.W.Frag} {mg : Str → Option Value} {base : Heap}
def spMoved (K : PySem.W.Frag) : Sp := fun vs H Q _ => ∃ (a b c : Addr) (v o f : List Int), vs = [.ref a, .ref b, .ref c] ∧ SqT K H a (v.map V.int) ∧ SqT K H b (o.map V.int) ∧ SqT K H c (f.map V.int) ∧ v.length = o.length ∧ v.length = f.length ∧ v.length ≤ 100000 ∧
  ∀ p H', H p = none → Same H H' → H' p = some (.tup ((mvV v o f).map V.int)) → Q (.ref p) H'
theorem ok_moved {f : Addr} {fd : FuncData} (F : Fun K "moved" "moved" s_moved f fd) (T : Txt mg) : FnOk P w K mg base CX0 1 f fd ["vector", "own", "other"] (spMoved K) := by
  refine F.ok sc_moved (fun vs H Q E h => ?_) (fun cdv A outer sh H vs Q E hr h => ?_)
  · obtain ⟨a, b, c, v, o, f, rfl, _⟩ := h
    rfl
  · obtain ⟨a, b, c, v, o, f, rfl, ha, hb, hc, l1, l2, l3, q⟩ := h
    refine ⟨_, (pss_one (ps_ret (pe_callTy call_tuple_of (by rfl) T.b_tuple (by decide +kernel) (pa_cons (pe_lc (own := [("step", 3), ("less", 4), ("more", 5)]) (g := gTup K 3 (gCons (gName 3) (gCons (gName 4) (gCons (gName 5) gNil)))) (tt := tYes) (by rfl) sc_moved.nd (pi_tri (by rfl) T.b_zip (pa_cons (pv 0) (pa_cons (pv 1) (pa_cons (pv 2) pa_nil)))) (blkOk_by (N := ["vector", "own", "other", "step", "less", "more"]) (sc := defScope s_moved) (by decide +kernel)) (fun _ _ _ _ _ => (pg_tup rfl (pgs_cons (pg_name (i := 3) sc_moved.nd rfl (by first | exact Or.inl rfl | exact Or.inr rfl)) (pgs_cons (pg_name (i := 4) sc_moved.nd rfl (by first | exact Or.inl rfl | exact Or.inr rfl)) (pgs_cons (pg_name (i := 5) sc_moved.nd rfl (by first | exact Or.inl rfl | exact Or.inr rfl)) pgs_nil))))) (fun _ _ _ _ _ => pts_nil) (fun _ _ _ _ _ => (pe_op op_add (pe_op op_sub (pv 3) (pv 4)) (pv 5)))) pa_nil)))), ?_⟩
    refine ⟨_, rfl, _, rfl, _, rfl, a, b, c, _, _, _, rfl, ha, hb, hc, fun D hD => ?_⟩
    refine lc_flat (walk_tri (K := K) (a := a) (b := b) (c := c) (xs := v.map V.int) (ys := o.map V.int) (zs := f.map V.int) (by rw [List.length_map, List.length_map]; exact l1) (by rw [List.length_map, List.length_map]; exact l2)) (fun i => .int ((mvV v o f).getD i 0)) (by rw [List.length_map]; omega) hD (fun H' sm => ⟨sqt sm ha, sqt sm hb, sqt sm hc⟩) (fun i H x H' y => ytri_same y) ?_ ?_
    · rintro i x H1 H2 hi sm ⟨Tp, x1, x2, x3, rfl, hTp, rfl, e1, e2, e3⟩ R hR
      have e1 : (v.map V.int)[i]? = some x1 := e1
      have e2 : (o.map V.int)[i]? = some x2 := e2
      have e3 : (f.map V.int)[i]? = some x3 := e3
      rw [List.getElem?_map] at e1 e2 e3
      obtain ⟨n1, h1, rfl⟩ := Option.map_eq_some_iff.mp e1
      obtain ⟨n2, h2, rfl⟩ := Option.map_eq_some_iff.mp e2
      obtain ⟨n3, h3, rfl⟩ := Option.map_eq_some_iff.mp e3
      refine ⟨Tp, _, rfl, Or.inl (Or.inl upd_same), rfl, _, _, rfl, _, _, rfl, _, _, rfl, rfl, rfl, ?_⟩
      refine ⟨_, rfl, _, rfl, _, _, rfl, rfl, _, rfl, _, _, rfl, rfl, ?_⟩
      have r := hR _ same_refl
      rw [List.getD_eq_getElem?_getD, mvV_at h1 h2 h3] at r
      exact r
    · intro H1 sm hD1
      have e : (List.range (v.map V.int).length).map (fun i => V.int ((mvV v o f).getD i 0)) = (mvV v o f).map V.int := by
        have z := range_map_get ((mvV v o f).map V.int) (fun i => V.int ((mvV v o f).getD i 0)) (fun i b hb => by
          rw [List.getElem?_map] at hb
          obtain ⟨c, h1, h2⟩ := Option.map_eq_some_iff.mp hb
          rw [List.getD_eq_getElem?_getD, h1]
          exact h2)
        rw [List.length_map, mvV_len l1 l2] at z
        rw [List.length_map]
        exact z
      rw [e] at hD1
      exact ⟨D, _, rfl, Or.inl ⟨Or.inl (Or.inl hD1), fun l hl => q l _ (free_of sm hl) (same_tr sm (snew hl)) upd_same⟩⟩
def spWT (K : PySem.W.Frag) (C : Addr) (TT : List (Addr × Str)) : Sp := fun vs H Q _ => ∃ (s l : Addr) (x : Str) (c d m : Int) (us : List Tb) (xs : List V) (rs : List Rd1), vs = [.ref s, .str x, .int c, .ref l] ∧ SysAt K C H s d m us ∧ 1 ≤ d ∧ d ≤ 3 ∧ 2 ≤ m ∧ (us.map (·.n)).Nodup ∧ us.length ≤ 60 ∧ x ∈ us.map (·.n) ∧
  SqL K H l xs ∧ DpAll K H xs (rs.map Rd1.d) ∧ LamX.Tabs TT H ∧ ∀ y H', H y = none → LamX.ExtN H H' → LamX.Tabs TT H' → SysAt K C H' y d m (srt (us.map (setT x c rs))) → Q (.ref y) H'
theorem ok_wt {f C : Addr} {fd : FuncData} {TT : List (Addr × Str)} (F : Fun K "with_table" "System.with_table" s_System_with_table f fd) (T : Txt mg) (TC : TxtC K mg C) (t__with_tables : C8.Met P w K mg base 7 C "_with_tables" (spWith K C TT) []) : FnOk P w K mg base CX0 8 f fd ["self", "name", "constant", "reads"] (spWT K C TT) := by
  refine F.ok sc_System_with_table (fun vs H Q E h => ?_) (fun cdv A outer sh H vs Q E hr h => ?_)
  · obtain ⟨s, l, x, c, d, m, us, xs, rs, rfl, _⟩ := h
    rfl
  · obtain ⟨s, l, x, c, d, m, us, xs, rs, rfl, S, hd1, hd3, hm2, hnd, hl6, hx, hl, hrs, hT, q⟩ := h
    have hu := hu_of hr
    refine ⟨_, (pss_one (ps_ret (C8.pe_mt t__with_tables hr (by decide) (pv 0) (pa_cons (pe_mrg1 (pe_fld (pv 0) rfl) (pv 1) (pe_tup (pa_cons (pv 2) (pa_cons (pe_callTy call_tuple_of (by rfl) T.b_tuple (by decide +kernel) (pa_cons (pv 3) pa_nil)) pa_nil)))) pa_nil)))), ?_⟩
    obtain ⟨dx, tt, kvs, h1, h2, h3⟩ := S.ob
    have inj : ∀ l : List Str, l.Nodup → (l.map (Sum.inr : Str → Key)).Nodup := fun l h => by
      rw [List.Nodup, List.pairwise_map]
      exact h.imp fun h e => h (Sum.inr.inj e)
    refine ⟨_, rfl, s, dx, _, rfl, h1, flds_no _ _ _ (by decide +kernel) (by decide +kernel) (by decide +kernel), fun p hp => ?_⟩
    have sp := snew (o := .dK []) hp
    refine ⟨_, rfl, s, C, dx, _, _, rfl, sp _ _ h1, TC.cl, TC.nT, flds_t _ _ _, tt, kvs, rfl, sp _ _ h2, ne_of_none h2 hp, upd_same, by rw [keys_kv h3]; exact inj _ hnd, by rw [h3.len]; omega, fun q0 nq hq0 => ?_⟩
    rw [upd_ne nq] at hq0
    have eH : upd (upd (upd H p (.dK [])) p (.dK kvs)) q0 (.dK []) = upd (upd H p (.dK kvs)) q0 (.dK []) := by rw [upd_upd]
    rw [eH]
    have s1 : Same H (upd (upd H p (.dK kvs)) q0 (.dK [])) := same_tr (snew hp) (snew (by rw [upd_ne nq]; exact hq0))
    have p1 : (upd (upd H p (.dK kvs)) q0 (.dK [])) p = some (.dK kvs) := by rw [upd_ne nq.symm]; exact upd_same
    have q1 : (upd (upd H p (.dK kvs)) q0 (.dK [])) q0 = some (.dK []) := upd_same
    generalize upd (upd H p (.dK kvs)) q0 (.dK []) = H1 at s1 p1 q1
    refine ⟨_, rfl, _, rfl, _, rfl, l, xs, rfl, Or.inl ⟨sql s1 hl, fun t1 ht1 => ⟨(by show 2 ≤ sizeLine; decide), fun t2 ht2 => ?_⟩⟩⟩
    have s2 : Same H1 (upd (upd H1 t1 (.tup xs)) t2 (.tup [.int c, .ref t1])) := same_tr (snew ht1) (snew ht2)
    have v2 : Dp K (upd (upd H1 t1 (.tup xs)) t2 (.tup [.int c, .ref t1])) (.ref t2) (.tuple [.int c, .tuple (rs.map Rd1.d)]) := .tup (Or.inl (Or.inl upd_same)) (.cons (.int _) (.cons (.tup (Or.inl (Or.inl (snew ht2 _ _ upd_same))) (dpsm (same_tr s1 s2) _ _ hrs)) .nil))
    have p2 := s2 _ _ p1
    have q2 := s2 _ _ q1
    have s3 := same_tr s1 s2
    generalize upd (upd H1 t1 (.tup xs)) t2 (.tup [.int c, .ref t1]) = H2 at s2 v2 p2 q2 s3
    refine ⟨Sum.inr x, rfl, p2, q2, ?_⟩
    have sd : Same H (upd (upd H2 q0 (.dK [(Sum.inr x, .ref t2)])) p (.dK (putK kvs (Sum.inr x) (.ref t2)))) := fun b o e => by
      rw [upd_ne (ne_of_none e hp), upd_ne (ne_of_none e hq0)]
      exact s3 _ _ e
    have st : ST H2 (upd (upd H2 q0 (.dK [(Sum.inr x, .ref t2)])) p (.dK (putK kvs (Sum.inr x) (.ref t2)))) := (st_upd q2 rfl).tr (st_upd (u := .dK kvs) (by rw [upd_ne nq.symm]; exact p2) rfl)
    refine ⟨s, p, d, m, us, us.map (setT x c rs), putK kvs (Sum.inr x) (.ref t2), rfl, S.mono sd, hd1, hd3, hm2, upd_same, kv_put (h3.mono sd) hx (dpt st _ _ ?_ v2), by rw [setT_names]; exact hnd, by rw [List.length_map]; exact hl6, hT.ext sd, fun y H3 hy e2 hT2 S2 => q y H3 (free_of sd hy) (fun b o e n => e2 _ _ (sd _ _ e) n) hT2 S2⟩
    exact noL_k ⟨x, c, rs⟩
end
end Fr

namespace Fr
open PySem PySem.Spec PyProof.Rows L2
abbrev s_check_shifts : Stmt := topS 26
theorem sc_check_shifts : FnScope ["system", "shifts", "name"] ["system", "shifts"] (defScope s_check_shifts) := ⟨rfl, rfl, rfl, by decide +kernel, rfl, by decide +kernel, by decide +kernel⟩
-- slots: 0 system, 1 shifts, 2 name
abbrev s_shifted : Stmt := topS 28
theorem sc_shifted : FnScope ["system", "shifts", "made", "name", "reads", "table", "vector", "factor"] ["system", "shifts"] (defScope s_shifted) := ⟨rfl, rfl, rfl, by decide +kernel, rfl, by decide +kernel, by decide +kernel⟩
-- slots: 0 system, 1 shifts, 2 made, 3 name, 4 reads, 5 table, 6 vector, 7 factor
/-- a dict of shifts -/
def ShAt (K : PySem.W.Frag) (H : Hp) (kvs : List (Key × V)) (gs : List (Str × List Int)) : Prop := Paired (fun (kv : Key × V) (g : Str × List Int) => kv.1 = Sum.inr g.1 ∧ Dp K H kv.2 (.tuple (g.2.map .int))) kvs gs
theorem ShAt.mono {K : PySem.W.Frag} {H H' : Hp} (e : SD H H') : ∀ {kvs : List (Key × V)} {gs : List (Str × List Int)}, ShAt K H kvs gs → ShAt K H' kvs gs
  | [], _, h => by cases h; exact .nil
  | kv :: kvs, _, h => by
    cases h with
    | cons h1 h2 => exact .cons ⟨h1.1, dpd e _ _ h1.2⟩ (ShAt.mono e h2)
theorem ShAt.st {K : PySem.W.Frag} {H H' : Hp} (e : ST H H') : ∀ {kvs : List (Key × V)} {gs : List (Str × List Int)}, ShAt K H kvs gs → ShAt K H' kvs gs
  | [], _, h => by cases h; exact .nil
  | kv :: kvs, _, h => by
    cases h with
    | cons h1 h2 => exact .cons ⟨h1.1, dpt e _ _ (noL_ints _) h1.2⟩ (ShAt.st e h2)
theorem ShAt.len {K : PySem.W.Frag} {H : Hp} {kvs : List (Key × V)} {gs : List (Str × List Int)} (h : ShAt K H kvs gs) : kvs.length = gs.length := Paired.length h
theorem ShAt.keys {K : PySem.W.Frag} {H : Hp} : ∀ {kvs : List (Key × V)} {gs : List (Str × List Int)}, ShAt K H kvs gs → kvs.map (·.1) = (gs.map (·.1)).map Sum.inr
  | [], _, h => by cases h; rfl
  | kv :: kvs, _, h => by
    cases h with
    | cons h1 h2 => rw [List.map_cons, List.map_cons, List.map_cons, ShAt.keys h2, h1.1]
theorem ShAt.get {K : PySem.W.Frag} {H : Hp} {x : Str} : ∀ {kvs : List (Key × V)} {gs : List (Str × List Int)}, ShAt K H kvs gs → ∀ {v : List Int}, gs.lookup x = some v → ∃ u, valV kvs (Sum.inr x) = some u ∧ Dp K H u (.tuple (v.map .int))
  | [], _, h, v, e => by cases h; cases e
  | (k, u) :: kvs, _, h, v, e => by
    cases h with
    | @cons _ g _ gs h1 h2 =>
      obtain ⟨y, w⟩ := g
      have h1' : k = Sum.inr y := h1.1
      subst h1'
      by_cases hx : x = y
      · subst hx
        rw [List.lookup_cons_self] at e
        cases e
        exact ⟨u, valV_pos rfl, h1.2⟩
      · rw [List.lookup_cons, beq_eq_false_iff_ne.mpr hx] at e
        obtain ⟨u', e1, e2⟩ := ShAt.get h2 e
        exact ⟨u', by rw [valV_neg (fun z => hx (Sum.inr.inj z).symm)]; exact e1, e2⟩
theorem look_some {gs : List (Str × List Int)} {x : Str} (h : x ∈ gs.map (·.1)) : ∃ v, gs.lookup x = some v ∧ (x, v) ∈ gs := by
  induction gs with
  | nil => cases h
  | cons g gs ih =>
    obtain ⟨y, w⟩ := g
    by_cases hx : x = y
    · subst hx
      exact ⟨w, List.lookup_cons_self, List.mem_cons_self⟩
    · rw [List.map_cons, List.mem_cons] at h
      obtain ⟨v, e1, e2⟩ := ih (h.resolve_left hx)
      exact ⟨v, by rw [List.lookup_cons, beq_eq_false_iff_ne.mpr hx]; exact e1, List.mem_cons_of_mem _ e2⟩
def shOf (gs : List (Str × List Int)) (x : Str) : List Int := (gs.lookup x).getD []
def shR (g : Str → List Int) (x : Str) (r : Rd1) : Rd1 := ⟨r.t, mvV r.v (g x) (g r.t), r.f⟩
def shT (g : Str → List Int) (t : Tb) : Tb := ⟨t.n, t.c, t.rs.map (shR g t.n)⟩
/-- what shifts must be for a system -/
structure ShOk (d : Int) (names : List Str) (gs : List (Str × List Int)) : Prop where
  all : ∀ x ∈ names, x ∈ gs.map (·.1)
  own : ∀ x ∈ gs.map (·.1), x ∈ names
  len : ∀ p ∈ gs, (p.2.length : Int) = d
  few : gs.length ≤ 60
theorem ShOk.at {d : Int} {names : List Str} {gs : List (Str × List Int)} (h : ShOk d names gs) {x : Str} (hx : x ∈ names) : gs.lookup x = some (shOf gs x) ∧ ((shOf gs x).length : Int) = d := by
  obtain ⟨v, e1, e2⟩ := look_some (h.all x hx)
  unfold shOf
  rw [e1]
  exact ⟨rfl, h.len _ e2⟩
def shP (g : Str → List Int) (done : List Str) (t : Tb) : Tb := if t.n ∈ done then shT g t else t
theorem shP_n (g : Str → List Int) (done : List Str) (t : Tb) : (shP g done t).n = t.n := by
  unfold shP
  split <;> rfl
theorem shP_names (g : Str → List Int) (done : List Str) (ts : List Tb) : (ts.map (shP g done)).map (·.n) = ts.map (·.n) := by
  rw [List.map_map]
  exact List.map_congr_left fun t _ => shP_n g done t
theorem srt_set {x : Str} {c : Int} {rs : List Rd1} {ws : List Tb} (n : (ws.map (·.n)).Nodup) : srt ((srt ws).map (setT x c rs)) = srt (ws.map (setT x c rs)) :=
  (srt_same ((srt_perm ws).symm.map (setT x c rs)) (by rw [setT_names]; exact n)).symm
theorem shP_step {g : Str → List Int} {done : List Str} {us : List Tb} {tb : Tb} (n : (us.map (·.n)).Nodup) (h : tb ∈ us) : (us.map (shP g done)).map (setT tb.n tb.c (tb.rs.map (shR g tb.n))) = us.map (shP g (done ++ [tb.n])) := by
  rw [List.map_map]
  refine List.map_congr_left fun t ht => ?_
  show setT tb.n tb.c (tb.rs.map (shR g tb.n)) (shP g done t) = _
  by_cases e : t.n = tb.n
  · have et : t = tb := by
      have f1 := find_nodup (x := tb.n) n ht e
      have f2 := find_nodup (x := tb.n) n h rfl
      rw [f1] at f2
      exact Option.some.inj f2
    subst et
    unfold setT
    rw [if_pos (shP_n g done t), shP_n]
    unfold shP
    rw [if_pos (List.mem_append.mpr (.inr (List.mem_singleton.mpr rfl)))]
    rfl
  · unfold setT
    rw [if_neg (by rw [shP_n]; exact e)]
    unfold shP
    by_cases k : t.n ∈ done
    · rw [if_pos k, if_pos (List.mem_append.mpr (.inl k))]
    · rw [if_neg k, if_neg]
      intro z
      rcases List.mem_append.mp z with z | z
      · exact k z
      · exact e (List.mem_singleton.mp z)
section
variable {P : Program} {w : World} {K : PySem.W.Frag} {mg : Str → Option Value} {base : Heap}
def spCheckSh (K : PySem.W.Frag) (C : Addr) : Sp := fun vs H Q _ => ∃ (s dd : Addr) (d m : Int) (ts : List Tb) (kvs : List (Key × V)) (gs : List (Str × List Int)), vs = [.ref s, .ref dd] ∧ SysAt K C H s d m ts ∧ H dd = some (.dK kvs) ∧ ShAt K H kvs gs ∧ ShOk d (ts.map (·.n)) gs ∧ ∀ H', Same H H' → Q .non H'
theorem ok_check_sh {f C : Addr} {fd : FuncData} (F : Fun K "check_shifts" "check_shifts" s_check_shifts f fd) (T : Txt mg) (p_names : Prp P w K mg base 1 C "names" (spNames K C)) (p_dimensions : Prp P w K mg base 1 C "dimensions" (spDims K C)) : FnOk P w K mg base CX0 3 f fd ["system", "shifts"] (spCheckSh K C) := by
  refine F.ok sc_check_shifts (fun vs H Q E h => ?_) (fun cdv A outer sh H vs Q E hr h => ?_)
  · obtain ⟨s, dd, d, m, ts, kvs, gs, rfl, _⟩ := h
    rfl
  · obtain ⟨s, dd, d, m, ts, kvs, gs, rfl, S, hd, hk, O, q⟩ := h
    have hu := hu_of hr
    refine ⟨_, (pss_cons (ps_for PassesOwn.never rfl (pi_list (pe_pr (pv 0) p_names hr (by decide) rfl)) (pg_name (i := 2) sc_check_shifts.nd rfl (by first | exact Or.inl rfl | exact Or.inr rfl))
    (pss_one (ps_if (PW.pt (pw_or (pt_cmp (pc_dnotin hu (pv 2) (pv 1))) (pw_or1 (pt_cmpR op_ne (pe_callB call_len_seq (by rfl) T.b_len PySem.boot_len (pa_cons (pe_dget hu (pv 1) (pv 2) (fun _ _ => rfl)) pa_nil)) (pe_pr (pv 0) p_dimensions hr (by decide) rfl) (nomark _)))))
      (pss_one ps_never)
      pss_nil)))
  (pss_one (ps_for PassesOwn.never rfl (pi_list (pe_callB (call_sortedD rfl) (by rfl) T.b_sorted (by decide +kernel) (pa_cons (pv 1) pa_nil))) (pg_name (i := 2) sc_check_shifts.nd rfl (by first | exact Or.inl rfl | exact Or.inr rfl))
    (pss_one (ps_if (pt_cmpR op_notIn_seq (pv 2) (pe_pr (pv 0) p_names hr (by decide) rfl) (by rfl))
      (pss_one ps_never)
      pss_nil))))), ?_⟩
    obtain ⟨dx, t, tkv, h1, h2, h3⟩ := id S.ob
    have en : (ts.map fun t => V.str t.n) = (ts.map (·.n)).map V.str := by
      rw [List.map_map]
      rfl
    refine ⟨_, rfl, s, dx, _, rfl, h1, s, d, m, ts, rfl, S, fun p H0 hp s0 hp0 => ⟨p, rfl, ⟨_, Or.inl (Or.inl hp0)⟩, ?_⟩⟩
    rw [en] at hp0
    refine for_it (walk_list (K := K) (a := p) (xs := (ts.map (·.n)).map V.str)) (fun i σ H' => ∃ y2, σ = [some (.ref s), some (.ref dd), y2] ∧ Same H0 H') ⟨none, rfl, same_refl⟩ (fun i σ H' _ ⟨_, _, b⟩ => Or.inl (Or.inl (b _ _ hp0))) ?_ ?_
    · rintro i y σ _ H1 hi ⟨y2, rfl, b⟩ ⟨rfl, hy⟩
      rw [List.getElem?_map] at hy
      obtain ⟨x, hx, rfl⟩ := Option.map_eq_some_iff.mp hy
      obtain ⟨e1, e2⟩ := O.at (List.mem_of_getElem? hx)
      obtain ⟨u, f1, f2⟩ := hk.get e1
      have s1 := same_tr s0 b
      have hd1 := s1 _ _ hd
      obtain ⟨ua, us, rfl, ut, ud⟩ := dtup f2
      obtain rfl := dps_ints ud
      refine ⟨_, rfl, _, rfl, dd, valV kvs (Sum.inr x), rfl, .inl ⟨kvs, Sum.inr x, .inl hd1, rfl, rfl⟩, _, rfl, ?_⟩
      rw [f1]
      refine iteF ?_
      have g := DGet.k (k := Sum.inr x) hd1
      rw [f1] at g
      refine ⟨_, rfl, _, rfl, dd, _, rfl, g, ua, _, rfl, Or.inr (sqt s1 ut), _, rfl, s, dx, _, rfl, s1 _ _ h1, s, d, m, ts, rfl, S.mono s1, rfl, _, rfl, ?_⟩
      have e : decide (V.int (((shOf gs x).map V.int).length : Int) = V.int d) = true := by
        rw [List.length_map]
        exact decide_eq_true (by rw [e2])
      rw [e]
      exact iteF ⟨_, rfl, b⟩
    · rintro σ H1 ⟨y2, rfl, b⟩
      have s1 := same_tr s0 b
      have hd1 := s1 _ _ hd
      have hgl := O.few
      refine ⟨_, rfl, dd, kvs, gs.map (·.1), rfl, Or.inl hd1, hk.keys, by rw [List.length_map]; omega, fun ys p2 perm so hp2 => ?_⟩
      refine ⟨p2, rfl, ⟨_, Or.inl (Or.inl upd_same)⟩, ?_⟩
      have s2 := snew (o := .lst (ys.map V.str)) hp2
      have a2 : (upd H1 p2 (.lst (ys.map V.str))) p2 = some (.lst (ys.map V.str)) := upd_same
      generalize upd H1 p2 (.lst (ys.map V.str)) = H2 at s2 a2
      refine for_it (walk_list (K := K) (a := p2) (xs := ys.map V.str)) (fun i σ H' => ∃ y2, σ = [some (.ref s), some (.ref dd), y2] ∧ Same H2 H') ⟨_, rfl, same_refl⟩ (fun i σ H' _ ⟨_, _, b⟩ => Or.inl (Or.inl (b _ _ a2))) ?_ ?_
      · rintro i y σ _ H3 hi ⟨y2, rfl, b3⟩ ⟨rfl, hy⟩
        rw [List.getElem?_map] at hy
        obtain ⟨x, hx, rfl⟩ := Option.map_eq_some_iff.mp hy
        have hm : x ∈ ts.map (·.n) := O.own x (perm.mem_iff.mp (List.mem_of_getElem? hx))
        have s3 := same_tr s1 (same_tr s2 b3)
        refine ⟨_, rfl, _, rfl, s, dx, _, rfl, s3 _ _ h1, s, d, m, ts, rfl, S.mono s3, fun p4 H4 hp4 s4 hl4 => ?_⟩
        refine ⟨p4, _, rfl, Or.inl (Or.inl (Or.inl hl4)), rfl, ?_, ?_⟩
        · rw [en]
          exact flat_strs _
        · rw [en, inV_str hm]
          exact ⟨_, rfl, iteF ⟨_, rfl, same_tr b3 s4⟩⟩
      · rintro σ H3 ⟨y2, rfl, b3⟩
        exact q H3 (same_tr s1 (same_tr s2 b3))
def spShifted (K : PySem.W.Frag) (C : Addr) (TT : List (Addr × Str)) : Sp := fun vs H Q _ => ∃ (s dd : Addr) (d m : Int) (us : List Tb) (kvs : List (Key × V)) (gs : List (Str × List Int)), vs = [.ref s, .ref dd] ∧ SysAt K C H s d m (srt us) ∧ 1 ≤ d ∧ d ≤ 3 ∧ 2 ≤ m ∧ us.length ≤ 60 ∧ (us.map (·.n)).Nodup ∧
  (∀ t ∈ us, t.rs.length ≤ 100 ∧ ∀ r ∈ t.rs, r.t ∈ us.map (·.n) ∧ (r.v.length : Int) = d) ∧ H dd = some (.dK kvs) ∧ ShAt K H kvs gs ∧ ShOk d (us.map (·.n)) gs ∧ LamX.Tabs TT H ∧
  ∀ x H', LamX.ExtN H H' → LamX.Tabs TT H' → SysAt K C H' x d m (srt (us.map (shT (shOf gs)))) → Q (.ref x) H'
theorem ok_shifted {f C : Addr} {fd : FuncData} {TT : List (Addr × Str)} (F : Fun K "shifted" "shifted" s_shifted f fd) (T : Txt mg) (TC : TxtC K mg C) (p_names : Prp P w K mg base 1 C "names" (spNames K C)) (c_check_shifts : C8.Cal P w K mg base 3 "check_shifts" (spCheckSh K C) []) (t_reads : C8.Met P w K mg base 4 C "reads" (spReads K C) []) (t_constant : C8.Met P w K mg base 4 C "constant" (spConst K C) [])
    (c_moved : C8.Cal P w K mg base 1 "moved" (spMoved K) []) (t_with_table : C8.Met P w K mg base 8 C "with_table" (spWT K C TT) []) : FnOk P w K mg base CX0 9 f fd ["system", "shifts"] (spShifted K C TT) := by
  refine F.ok sc_shifted (fun vs H Q E h => ?_) (fun cdv A outer sh H vs Q E hr h => ?_)
  · obtain ⟨s, dd, d, m, us, kvs, gs, rfl, _⟩ := h
    rfl
  · obtain ⟨s, dd, d, m, us, kvs, gs, rfl, S, hd1, hd3, hm2, hl6, hnd, hrd, hd, hk, O, hT, q⟩ := h
    have hu := hu_of hr
    refine ⟨_, (pss_cons (ps_expr (C8.pe_c c_check_shifts hr (by decide) (by rfl) (pa_cons (pv 0) (pa_cons (pv 1) pa_nil))))
  (pss_cons (ps_set (i := 2) sc_shifted.nd rfl (by first | exact Or.inl rfl | exact Or.inr rfl) (pv 0))
  (pss_cons (ps_for PassesOwn.never rfl (pi_list (pe_pr (pv 0) p_names hr (by decide) rfl)) (pg_name (i := 3) sc_shifted.nd rfl (by first | exact Or.inl rfl | exact Or.inr rfl))
    (pss_cons (ps_setLc (i := 4) (own := [("table", 5), ("vector", 6), ("factor", 7)]) (g := gTup K 3 (gCons (gName 5) (gCons (gName 6) (gCons (gName 7) gNil)))) (tt := tYes) (by rfl) sc_shifted.nd rfl rfl (sw_true rfl rfl rfl (by decide +kernel)) (pi_list (C8.pe_mt t_reads hr (by decide) (pv 0) (pa_cons (pv 3) pa_nil))) (blkOk_by (N := ["system", "shifts", "made", "name", "reads", "table", "vector", "factor"]) (sc := defScope s_shifted) (by decide +kernel)) (fun _ _ _ _ _ => (pg_tup rfl (pgs_cons (pg_name (i := 5) sc_shifted.nd rfl (by first | exact Or.inl rfl | exact Or.inr rfl)) (pgs_cons (pg_name (i := 6) sc_shifted.nd rfl (by first | exact Or.inl rfl | exact Or.inr rfl)) (pgs_cons (pg_name (i := 7) sc_shifted.nd rfl (by first | exact Or.inl rfl | exact Or.inr rfl)) pgs_nil))))) (fun _ _ _ _ _ => pts_nil) (fun _ _ _ _ _ => (pe_tup (pa_cons (pv 5) (pa_cons (C8.pe_c c_moved hr (by decide) (by rfl) (pa_cons (pv 6) (pa_cons (pe_dget hu (pv 1) (pv 3) (fun _ _ => rfl)) (pa_cons (pe_dget hu (pv 1) (pv 5) (fun _ _ => rfl)) pa_nil)))) (pa_cons (pv 7) pa_nil))))))
    (pss_one (ps_set (i := 2) sc_shifted.nd rfl (by first | exact Or.inl rfl | exact Or.inr rfl) (C8.pe_mt t_with_table hr (by decide) (pv 2) (pa_cons (pv 3) (pa_cons (C8.pe_mt t_constant hr (by decide) (pv 0) (pa_cons (pv 3) pa_nil)) (pa_cons (pv 4) pa_nil))))))))
  (pss_one (ps_ret (pv 2)))))), ?_⟩
    obtain ⟨dx, t, tkv, h1, h2, h3⟩ := id S.ob
    have sn := srt_perm us
    have Os : ShOk d ((srt us).map (·.n)) gs := ⟨fun x hx => O.all x ((sn.map (·.n)).mem_iff.mp hx), fun x hx => (sn.map (·.n)).mem_iff.mpr (O.own x hx), O.len, O.few⟩
    have nds : ((srt us).map (·.n)).Nodup := (sn.map (·.n)).nodup_iff.mpr hnd
    have sl : (srt us).length = us.length := List.length_mergeSort _
    refine ⟨_, rfl, _, rfl, s, dd, d, m, srt us, kvs, gs, rfl, S, hd, hk, Os, fun H0 s0 => ?_⟩
    refine ⟨_, rfl, ?_⟩
    refine ⟨_, rfl, s, dx, _, rfl, s0 _ _ h1, s, d, m, srt us, rfl, S.mono s0, fun p H1 hp s1 hp1 => ⟨p, rfl, ⟨_, Or.inl (Or.inl hp1)⟩, ?_⟩⟩
    have s01 := same_tr s0 s1
    have en : ((srt us).map fun t => V.str t.n) = ((srt us).map (·.n)).map V.str := by
      rw [List.map_map]
      rfl
    rw [en] at hp1
    have nl : (((srt us).map (·.n)).map V.str).length = us.length := by rw [List.length_map, List.length_map, sl]
    refine for_it (walk_list (K := K) (a := p) (xs := ((srt us).map (·.n)).map V.str)) (fun i σ H' => ∃ (mk : Addr) (y3 y4 : Option V), σ = [some (.ref s), some (.ref dd), some (.ref mk), y3, y4, none, none, none] ∧ LamX.ExtN H1 H' ∧ LamX.Tabs TT H' ∧ SysAt K C H' mk d m (srt (us.map (shP (shOf gs) (((srt us).map (·.n)).take i)))))
      ⟨s, none, none, rfl, LamX.ExtN.of same_refl, hT.ext s01, ?_⟩ (fun i σ H' _ ⟨_, _, _, _, b, _⟩ => Or.inl (Or.inl (b _ _ hp1 (fun ps z => by cases z)))) ?_ ?_
    · have e : us.map (shP (shOf gs) (((srt us).map (·.n)).take 0)) = us := by
        rw [List.take_zero]
        exact (List.map_congr_left fun t _ => if_neg (by simp)).trans (List.map_id us)
      rw [e]
      exact S.mono s01
    · rintro i y σ _ H2 hi ⟨mk, y3, y4, rfl, X2, T2, S2⟩ ⟨rfl, hy⟩
      rw [List.getElem?_map] at hy
      obtain ⟨x, hx, rfl⟩ := Option.map_eq_some_iff.mp hy
      rw [List.getElem?_map] at hx
      obtain ⟨tb, htb, rfl⟩ := Option.map_eq_some_iff.mp hx
      have htm := List.mem_of_getElem? htb
      have htu : tb ∈ us := sn.mem_iff.mp htm
      have hmem : tb.n ∈ (srt us).map (·.n) := List.mem_map.mpr ⟨tb, htm, rfl⟩
      have hf := find_nodup' nds htm
      have SS : SysAt K C H2 s d m (srt us) := (S.mono s01).ext X2
      have hd2 : H2 dd = some (.dK kvs) := X2 _ _ (s01 _ _ hd) (fun ps z => by cases z)
      have hk2 : ShAt K H2 kvs gs := (hk.mono (.of s01)).mono (.ext X2)
      obtain ⟨dx2, t2, tkv2, g1, g2, g3⟩ := id SS.ob
      have nf : ∀ {y : Str}, ¬ y = "_dimensions" → ¬ y = "_modulus" → ¬ y = "_tables" → (flds d m t2).lookup y = none := fun a b c => flds_no _ _ _ a b c
      -- reads = [..]
      refine ⟨_, rfl, s, dx2, _, rfl, g1, nf (by decide +kernel) (by decide +kernel) (by decide +kernel), _, rfl, H2, s, d, m, srt us, tb.n, tb, rfl, same_refl, SS, hmem, hf, fun l H3 rs hl s3 hl3 hrs => ⟨l, rfl, ⟨_, Or.inl (Or.inl hl3)⟩, fun D hD => ?_⟩⟩
      have hrs3 := dpsm s3 _ _ hrs
      have hrl : rs.length = tb.rs.length := by rw [dps_len hrs, List.length_map]
      have hd3' := s3 _ _ hd2
      have hk3 := hk2.mono (.of s3)
      have dg : ∀ {H' : Hp} {z : Str}, Same H3 H' → z ∈ us.map (·.n) → ∃ (ua : Addr), DGet H' dd (.str z) (some (.ref ua)) ∧ SqT K H' ua ((shOf gs z).map V.int) ∧ ((shOf gs z).length : Int) = d := fun {H' z} sm hz => by
        obtain ⟨e1, e2⟩ := O.at hz
        obtain ⟨u, f1, f2⟩ := hk3.get e1
        obtain ⟨ua, us', rfl, ut, ud⟩ := dtup f2
        obtain rfl := dps_ints ud
        have g := DGet.k (k := Sum.inr z) (sm _ _ hd3')
        rw [f1] at g
        exact ⟨ua, g, sqt sm ut, e2⟩
      refine lc_it (walk_list (K := K) (a := l) (xs := rs)) (fun j H' => ∃ (Bx : Hp) (zs : List V), Same H3 Bx ∧ Bx D = none ∧ Same Bx H' ∧ H' D = some (.lst zs) ∧ DpAll K Bx zs (((tb.rs.take j).map (shR (shOf gs) tb.n)).map Rd1.d))
        ⟨H3, [], same_refl, hD, snew hD, upd_same, .nil⟩ (fun j H' _ ⟨Bx, zs, b1, _, b3, _⟩ => Or.inl (Or.inl (b3 _ _ (b1 _ _ hl3)))) ?_ ?_
      · rintro j y Hj _ hj ⟨Bx, zs, b1, b2, b3, b4, b5⟩ ⟨rfl, hy⟩
        obtain ⟨rd, ra, rb, e3, rfl, e4, e5, e6⟩ := rd_at (dpsm (same_tr b1 b3) _ _ hrs3) hy
        have hrm := List.mem_of_getElem? e3
        obtain ⟨r1, r2⟩ := (hrd tb htu).2 rd hrm
        obtain ⟨ua, dg1, ut1, ul1⟩ := dg (same_tr b1 b3) (List.mem_map.mpr ⟨tb, htu, rfl⟩)
        obtain ⟨ub, dg2, ut2, ul2⟩ := dg (same_tr b1 b3) r1
        refine ⟨ra, _, rfl, e5, rfl, _, _, rfl, _, _, rfl, _, _, rfl, rfl, rfl, yes_if ?_⟩
        refine ⟨_, rfl, _, rfl, _, rfl, _, rfl, dd, _, rfl, dg1, _, rfl, _, rfl, dd, _, rfl, dg2, rb, ua, ub, rd.v, shOf gs tb.n, shOf gs rd.t, rfl, e6, ut1, ut2, by omega, by omega, by omega, fun v4 H4 hv4 s4 v4at => ⟨_, rfl, (by show 3 ≤ sizeLine; decide), fun u hu5 => ?_⟩⟩
        have b34 := same_tr b3 s4
        have bv : Bx v4 = none := free_of b3 hv4
        have c1 : Same (upd Bx v4 (.tup ((mvV rd.v (shOf gs tb.n) (shOf gs rd.t)).map V.int))) H4 := fun b o e => by
          by_cases hb : b = v4
          · rw [hb, upd_same] at e
            rw [hb, ← e]
            exact v4at
          · rw [upd_ne hb] at e
            exact b34 _ _ e
        have bu := free_of c1 hu5
        have c2 := sgrow (o := .tup [.str rd.t, .ref v4, .int rd.f]) (p := u) c1
        have D4 := s4 _ _ b4
        have nuD : D ≠ u := ne_of_none D4 hu5
        have nvD : D ≠ v4 := ne_of_none b4 hv4
        have sBB : Same Bx (upd (upd Bx v4 (.tup ((mvV rd.v (shOf gs tb.n) (shOf gs rd.t)).map V.int))) u (.tup [.str rd.t, .ref v4, .int rd.f])) := same_tr (snew bv) (snew bu)
        have bD : (upd (upd Bx v4 (.tup ((mvV rd.v (shOf gs tb.n) (shOf gs rd.t)).map V.int))) u (.tup [.str rd.t, .ref v4, .int rd.f])) D = none := by rw [upd_ne nuD, upd_ne nvD]; exact b2
        have uv : (upd (upd Bx v4 (.tup ((mvV rd.v (shOf gs tb.n) (shOf gs rd.t)).map V.int))) u (.tup [.str rd.t, .ref v4, .int rd.f])) v4 = some (.tup ((mvV rd.v (shOf gs tb.n) (shOf gs rd.t)).map V.int)) := by
          rw [upd_ne (ne_of_none (upd_same (H := Bx) (a := v4)) bu)]
          exact upd_same
        have hzl : zs.length ≤ 100 := by
          rw [dps_len b5, List.length_map, List.length_map, List.length_take]
          have := (hrd tb htu).1
          omega
        refine ⟨zs, by rw [upd_ne nuD]; exact D4, small1000 (by omega), _, zs ++ [.ref u], same_tr b1 sBB, bD, swrite c2 bD, upd_same, ?_⟩
        rw [List.take_add_one, e3, List.map_append, List.map_append]
        exact dps_snoc (dpsm sBB _ _ b5) (.tup (Or.inl (Or.inl upd_same)) (.cons (.str _) (.cons (.tup (Or.inl (Or.inl uv)) (ints_dps _)) (.cons (.int _) .nil))))
      · rintro H4 ⟨Bx, zs, b1, b2, b3, b4, b5⟩
        rw [hrl, List.take_length] at b5
        have s4 := same_tr s3 (same_tr b1 b3)
        obtain ⟨dx3, t3, tkv3, o1, o2, o3⟩ := id S2.ob
        have nf3 : ∀ {y : Str}, ¬ y = "_dimensions" → ¬ y = "_modulus" → ¬ y = "_tables" → (flds d m t3).lookup y = none := fun a b c => flds_no _ _ _ a b c
        -- made = made.with_table(..)
        refine ⟨_, rfl, mk, dx3, _, rfl, s4 _ _ o1, nf3 (by decide +kernel) (by decide +kernel) (by decide +kernel), _, rfl, _, rfl, s, dx2, _, rfl, s4 _ _ g1, nf (by decide +kernel) (by decide +kernel) (by decide +kernel), _, rfl, s, d, m, srt us, tb.n, tb, rfl, SS.mono s4, hmem, hf, fun H5 s5 => ⟨_, rfl, ?_⟩⟩
        have s45 := same_tr s4 s5
        have nW : ((us.map (shP (shOf gs) (((srt us).map (·.n)).take i))).map (·.n)).Nodup := by rw [shP_names]; exact hnd
        refine ⟨mk, D, tb.n, tb.c, d, m, srt (us.map (shP (shOf gs) (((srt us).map (·.n)).take i))), zs, tb.rs.map (shR (shOf gs) tb.n), rfl, S2.mono s45, hd1, hd3, hm2, ((srt_perm _).map (·.n)).nodup_iff.mpr nW, ?_, ?_, Or.inl (Or.inl (s5 _ _ b4)), dpsm (same_tr b3 s5) _ _ b5, T2.ext s45, fun y5 H6 hy5 X6 T6 S6 => ?_⟩
        · rw [show (srt (us.map (shP (shOf gs) (((srt us).map (·.n)).take i)))).length = _ from List.length_mergeSort _, List.length_map]
          exact hl6
        · refine ((srt_perm _).map (·.n)).mem_iff.mpr ?_
          rw [shP_names]
          exact List.mem_map.mpr ⟨tb, htu, rfl⟩
        · refine ⟨y5, _, _, rfl, fun b o e n => X6 _ _ (s45 _ _ (X2 _ _ e n)) n, T6, ?_⟩
          rw [srt_set nW, shP_step hnd htu] at S6
          rw [List.take_add_one, List.getElem?_map, htb]
          exact S6
    · rintro σ H2 ⟨mk, y3, y4, rfl, X2, T2, S2⟩
      rw [nl] at S2
      have e : us.map (shP (shOf gs) (((srt us).map (·.n)).take us.length)) = us.map (shT (shOf gs)) := by
        rw [List.take_of_length_le (by rw [List.length_map, sl]; exact Nat.le_refl _)]
        refine List.map_congr_left fun t ht => ?_
        have hm : t.n ∈ (srt us).map (·.n) := (sn.map (·.n)).mem_iff.mpr (List.mem_map.mpr ⟨t, ht, rfl⟩)
        unfold shP
        rw [if_pos hm]
      rw [e] at S2
      exact ⟨_, rfl, q mk H2 (fun b o e n => X2 _ _ (s01 _ _ e) n) T2 S2⟩
end
end Fr

namespace Fr
open PySem PySem.Spec PyProof.Rows L2
abbrev s_Lshift : Stmt := topS 37
theorem sc_Lshift : FnScope ["_law_pool_here", "_law_titles", "_law_axes", "_law_moved", "_law_title", "_law_axis"] ["_law_pool_here", "_law_titles", "_law_axes"] (defScope s_Lshift) := ⟨rfl, rfl, rfl, by decide +kernel, rfl, by decide +kernel, by decide +kernel⟩
-- slots: 0 _law_pool_here, 1 _law_titles, 2 _law_axes, 3 _law_moved, 4 _law_title, 5 _law_axis
theorem ShAt.snoc {K : PySem.W.Frag} {H : Hp} {x : Str} {v : List Int} {u : V} : ∀ {kvs : List (Key × V)} {gs : List (Str × List Int)}, ShAt K H kvs gs → Dp K H u (.tuple (v.map .int)) → ShAt K H (kvs ++ [(Sum.inr x, u)]) (gs ++ [(x, v)])
  | [], _, h, hu => by cases h; exact .cons ⟨rfl, hu⟩ .nil
  | kv :: kvs, _, h, hu => by
    cases h with
    | cons h1 h2 => exact .cons h1 (ShAt.snoc h2 hu)
theorem ShAt.noVal {K : PySem.W.Frag} {H : Hp} {x : Str} : ∀ {kvs : List (Key × V)} {gs : List (Str × List Int)}, ShAt K H kvs gs → x ∉ gs.map (·.1) → valV kvs (Sum.inr x) = none
  | [], _, h, _ => by cases h; rfl
  | (k, u) :: kvs, _, h, n => by
    cases h with
    | @cons _ g _ gs h1 h2 =>
      obtain ⟨y, w⟩ := g
      have h1' : k = Sum.inr y := h1.1
      subst h1'
      rw [valV_neg (fun z => n (by rw [Sum.inr.inj z]; exact List.mem_cons_self))]
      exact ShAt.noVal h2 fun z => n (List.mem_cons_of_mem _ z)
section
variable {P : Program} {w : World} {K : PySem.W.Frag} {mg : Str → Option Value} {base : Heap}
def Six (v : List Int) : Prop := ∀ x ∈ v, -6 ≤ x ∧ x ≤ 6
def spShift (K : PySem.W.Frag) : Sp := fun vs H Q _ => ∃ (r lt : Addr) (ax : Int) (m : Nat) (B : Hp) (names : List Str), vs = [.ref r, .ref lt, .int ax] ∧ RS r m B H ∧ 1 ≤ ax ∧ ax ≤ 3 ∧ B lt = some (.lst (names.map V.str)) ∧ names.Nodup ∧ names.length ≤ 6 ∧ m ≤ 2 ^ 59 ∧
  ∀ p B' H' (kvs : List (Key × V)) (gs : List (Str × List Int)), Same B B' → B p = none → RS r (m + 100) B' H' → B' p = some (.dK kvs) → ShAt K B' kvs gs → gs.map (·.1) = names → (∀ g ∈ gs, (g.2.length : Int) = ax ∧ Six g.2) → Q (.ref p) H'
theorem ok_shift {f : Addr} {fd : FuncData} (F : Fun K "_law_shift" "_law_shift" s_Lshift f fd) (T : Txt mg) (c_Ldraw : C8.Cal P w K mg base 1 "_law_draw" spDraw []) : FnOk P w K mg base CX0 2 f fd ["_law_pool_here", "_law_titles", "_law_axes"] (spShift K) := by
  refine F.ok sc_Lshift (fun vs H Q E h => ?_) (fun cdv A outer sh H vs Q E hr h => ?_)
  · obtain ⟨r, lt, ax, m, B, names, rfl, _⟩ := h
    rfl
  · obtain ⟨r, lt, ax, m, B, names, rfl, R, ha1, ha3, hlt, hnd, hlen, hm, q⟩ := h
    have hu := hu_of hr
    refine ⟨_, (pss_cons (ps_set (i := 3) sc_Lshift.nd rfl (by first | exact Or.inl rfl | exact Or.inr rfl) pe_dnewK)
  (pss_cons (ps_for PassesOwn.never rfl (pi_list (pv 1)) (pg_name (i := 4) sc_Lshift.nd rfl (by first | exact Or.inl rfl | exact Or.inr rfl))
    (pss_one (ps_dput hu (pv 3) (pv 4) (pe_callTy call_tuple_of (by rfl) T.b_tuple (by decide +kernel) (pa_cons (pe_lc (own := [("_law_axis", 5)]) (g := gName 5) (tt := tYes) (by rfl) sc_Lshift.nd (pi_range1 (by rfl) T.b_range (pa_cons (pv 2) pa_nil)) (blkOk_by (N := ["_law_pool_here", "_law_titles", "_law_axes", "_law_moved", "_law_title", "_law_axis"]) (sc := defScope s_Lshift) (by decide +kernel)) (fun _ _ _ _ _ => (pg_name (i := 5) sc_Lshift.nd rfl (by first | exact Or.inl rfl | exact Or.inr rfl))) (fun _ _ _ _ _ => pts_nil) (fun _ _ _ _ _ => (pe_op op_sub (C8.pe_c c_Ldraw hr (by decide) (by rfl) (pa_cons (pv 0) (pa_cons pe_int pa_nil))) pe_int))) pa_nil)) rfl)))
  (pss_one (ps_ret (pv 3))))), ?_⟩
    refine fun p hp => ⟨_, rfl, ?_⟩
    have bp := free_of R.s hp
    have rp := R.ne hp
    refine ⟨lt, rfl, ⟨_, Or.inl (Or.inl ((R.new hp).s _ _ hlt))⟩, ?_⟩
    refine for_it (walk_list (K := K) (a := lt) (xs := names.map V.str)) (fun i σ H' => ∃ (y4 : Option V) (Bi : Hp) (kvs : List (Key × V)) (gs : List (Str × List Int)), σ = [some (.ref r), some (.ref lt), some (.int ax), some (.ref p), y4, none] ∧ Same B Bi ∧ Bi p = none ∧ RS r (m + 3 * i) Bi H' ∧ H' p = some (.dK kvs) ∧ ShAt K Bi kvs gs ∧ gs.map (·.1) = names.take i ∧ ∀ g ∈ gs, (g.2.length : Int) = ax ∧ Six g.2)
      ⟨none, B, [], [], rfl, same_refl, bp, R.new hp, upd_same, .nil, by rw [List.take_zero]; rfl, by intro g hg; cases hg⟩ (fun i σ H' _ ⟨_, Bi, _, _, _, b1, _, b2, _⟩ => Or.inl (Or.inl (b2.s _ _ (b1 _ _ hlt)))) ?_ ?_
    · rintro i y σ _ H1 hi ⟨y4, Bi, kvs, gs, rfl, b1, b2, b3, b4, b5, b6, b7⟩ ⟨rfl, hy⟩
      rw [List.getElem?_map] at hy
      obtain ⟨x, hx, rfl⟩ := Option.map_eq_some_iff.mp hy
      rw [List.length_map] at hi
      refine ⟨_, rfl, ?_⟩
      refine ⟨ax, rfl, by omega, by omega, fun D hD => ?_⟩
      have bD := free_of b3.s hD
      have rD := b3.ne hD
      have pD : p ≠ D := ne_of_none b4 hD
      refine lc_it walk_range (fun j H' => ∃ xs : List Int, xs.length = j ∧ Six xs ∧ H' D = some (.lst (xs.map V.int)) ∧ H' p = some (.dK kvs) ∧ RS r (m + 3 * i + j) Bi H') ⟨[], rfl, (by intro x hx; cases hx), upd_same, by rw [upd_ne pD]; exact b4, b3.new hD⟩ (fun _ _ _ _ => True.intro) ?_ ?_
      · rintro j y _ H2 hj ⟨xs, e1, e2, e3, e5, e4⟩ ⟨rfl, rfl⟩
        refine ⟨rfl, yes_if ?_⟩
        refine ⟨_, rfl, r, 13, _, rfl, e4.ok, by omega, by decide, by decide, fun d H3 d0 d1 D1 => ?_⟩
        have R3 := e4.dr D1
        have D3 : H3 D = some (.lst (xs.map V.int)) := by rw [D1.ne _ rD.symm]; exact e3
        have P3 : H3 p = some (.dK kvs) := by rw [D1.ne _ rp.symm]; exact e5
        refine ⟨_, _, rfl, rfl, _, D3, small1000 (by rw [List.length_map]; omega), xs ++ [d - 6], by rw [List.length_append, e1]; rfl, ?_, by rw [upd_same, List.map_append]; rfl, by rw [upd_ne pD]; exact P3, (R3.put bD rD).mono (by omega)⟩
        intro z hz
        rcases List.mem_append.mp hz with h | h
        · exact e2 z h
        · rw [List.mem_singleton.mp h]
          omega
      · rintro H2 ⟨xs, e1, e2, e3, e5, e4⟩
        have e4 := e4.mono (show m + 3 * i + ax.toNat ≤ m + 3 * (i + 1) by omega)
        refine ⟨D, _, rfl, Or.inl ⟨Or.inl (Or.inl e3), fun l hl => ?_⟩⟩
        have bl := free_of e4.s hl
        have rl := e4.ne hl
        have pl : p ≠ l := ne_of_none e5 hl
        have R5 := (e4.new (o := .tup (xs.map V.int)) hl).keep upd_same bl rl
        have P5 : (upd H2 l (.tup (xs.map V.int))) p = some (.dK kvs) := by rw [upd_ne pl]; exact e5
        have s5 : Same Bi (upd Bi l (.tup (xs.map V.int))) := snew bl
        have p5 : (upd Bi l (.tup (xs.map V.int))) p = none := by rw [upd_ne pl]; exact b2
        have hgl : gs.length = i := by
          have := congrArg List.length b6
          rw [List.length_map, List.length_take] at this
          omega
        refine ⟨_, rfl, _, rfl, p, _, rfl, DPut.k (k := Sum.inr x) P5 (by rw [b5.len, hgl]; exact Nat.lt_of_le_of_lt (show i ≤ 6 by omega) (by rw [sizeLine_eq]; decide)), ?_⟩
        have nx : x ∉ gs.map (·.1) := by
          rw [b6]
          exact notin_take hnd hx
        rw [putK_new _ (b5.noVal nx)]
        refine ⟨_, _, _, gs ++ [(x, xs)], rfl, same_tr b1 s5, p5, R5.put p5 rp, upd_same, (b5.mono (.of s5)).snoc (.tup (Or.inl (Or.inl upd_same)) (ints_dps _)), ?_, ?_⟩
        · rw [List.map_append, b6, List.take_add_one, hx]
          rfl
        · intro g hg
          rcases List.mem_append.mp hg with h | h
          · exact b7 g h
          · rw [List.mem_singleton.mp h]
            exact ⟨by show (xs.length : Int) = ax; omega, e2⟩
    · rintro σ H1 ⟨y4, Bi, kvs, gs, rfl, b1, b2, b3, b4, b5, b6, b7⟩
      rw [List.length_map, List.take_length] at b6
      refine ⟨_, rfl, ?_⟩
      have hl : names.length = (names.map V.str).length := (List.length_map _).symm
      refine q p _ _ kvs gs (same_tr b1 (snew b2)) bp ((b3.keep b4 b2 rp).mono (by omega)) upd_same (b5.mono (.of (snew b2))) b6 b7
end
end Fr

namespace Fr
open PySem PySem.Spec PyProof.Rows L2
section
variable {P : Program} {w : World} {K : PySem.W.Frag} {mg : Str → Option Value} {base : Heap}
theorem mk_sys {C : Addr} {TT : List (Addr × Str)} {H : Hp} {d m : Int} {v : V} {ts : List Tb} {R : Hp → Prop} {E : XK} (hT : LamX.Tabs TT H) (O : OkSys d m ts) (hv : Dp K H v (.list (ts.map Tb.d))) {x dx : Addr} (nx : H x = none) (ndx : H dx = none) (nex : dx ≠ x)
    (q : ∀ H', LamX.ExtN H H' → LamX.Tabs TT H' → SysAt K C H' x d m (srt ts) → R H') : spInit K C TT [.ref x, .int d, v, .int m] (upd (upd H dx (.own x)) x (.ins C dx [])) (fun v H2 => v = .non ∧ R H2) E := by
  have sx : Same H (upd (upd H dx (.own x)) x (.ins C dx [])) := same_tr (snew ndx) (snew (by rw [upd_ne nex.symm]; exact nx))
  exact ⟨x, dx, d, m, v, ts, rfl, upd_same, hT.ext sx, O, dpm sx _ _ hv, fun H2 E2 hT2 S2 => ⟨rfl, q H2 (fun b o e n => E2 b o (sx b o e) (ne_of_none e nx) n) hT2 S2⟩⟩
theorem eq_sys {C a b : Addr} {H : Hp} {d m : Int} {ts : List Tb} {Q : VK} (S : SysAt K C H a d m ts) (S' : SysAt K C H b d m ts) (O : OkT d ts) (q : Q (.bl true) H) : rEqOwn C (spSysEq K C) (.ref a) (.ref b) H Q := by
  have sh : ∀ t ∈ ts, SeqAt.shaped t.k = true := fun t ht => (lay_k O ht).shaped (by decide)
  obtain ⟨dx, t, kvs, h1, _⟩ := id S.ob
  obtain ⟨dx', t', kvs', h1', _⟩ := id S'.ob
  refine ⟨a, b, dx, dx', _, _, rfl, rfl, h1, h1', a, b, d, m, d, m, ts, ts, rfl, S, S', sh, sh, _, rfl, ?_⟩
  rw [tabEq_refl O.nodup sh, decide_eq_true rfl, decide_eq_true rfl]
  exact q
theorem no_fld {d m : Int} {t : Addr} {x : Str} (h : decide (x = "_dimensions" ∨ x = "_modulus" ∨ x = "_tables") = false) : (flds d m t).lookup x = none := by
  have h := of_decide_eq_false h
  exact flds_no _ _ _ (fun e => h (.inl e)) (fun e => h (.inr (.inl e))) fun e => h (.inr (.inr e))
end
section
variable {K : PySem.W.Frag} {TT : List (Addr × Str)} {r : Addr} {m m' : Nat} {B B' H H' : Hp}
theorem LS.ext (h : LS TT r m B H) (x : LamX.ExtN H H') (t : LamX.Tabs TT H') : LS TT r m B H' := by
  obtain ⟨a, b, c, e, n⟩ := h.rs.ok
  exact ⟨⟨same_of_ext h.rs.s h.nt x, h.rs.n, a, b, c, x _ _ e (fun ps z => by cases z), n⟩, t, h.nt⟩
theorem LS.up (h : LS TT r m B H) : Same B (bs H r) := fun b o e => bs_of (h.rs.s b o e) (ne_of_none e h.rs.n) fun ps z => h.nt b ps (by rw [e, z])
theorem LS.re (h : LS TT r m B H) : LS TT r m (bs H r) H := LS.own h.rs.ok h.tb
theorem LS.call (h : LS TT r m B H) (R : RS r m' B' H') (s : Same (cutr H r) B') : LS TT r m' B H' :=
  ⟨⟨fun b o e => R.s _ _ (s _ _ (by rw [cutr_ne (ne_of_none e h.rs.n)]; exact h.rs.s b o e)), h.rs.n, R.ok⟩, tabs_cut h.tb h.rs.ok (same_tr s R.s), h.nt⟩
theorem LD.bs {l : Addr} {ds : List PyData} (h : LD K H l ds) (n : noLs ds = true) (ok : RngOk H r m) (ne : r ≠ l) : LD K (Fr.bs H r) l ds := by
  obtain ⟨xs, h1, h2⟩ := h
  exact ⟨xs, bs_of h1 ne.symm (fun ps z => by cases z), dpst (ST.bs ok) _ _ n h2⟩
theorem ST.cut (ok : RngOk H r m) : ST H (cutr H r) := fun b o e d => by
  obtain ⟨x, y, z, h1, _⟩ := ok
  rw [cutr_ne fun q => by rw [q, h1] at e; cases e; cases d]
  exact e
theorem sd_to (s : Same B H) (n : B r = none) (x : LamX.ExtN H H') : SD B (Fr.bs H' r) := fun b o e d => by
  have nt : ∀ ps, o ≠ .tbl ps := fun ps z => by
    rw [z] at d
    cases d
  exact bs_of (x _ _ (s _ _ e) nt) (ne_of_none e n) nt
theorem LD.to {l : Addr} {ds : List PyData} (h : LD K B l ds) (s : Same B H) (n : B r = none) (x : LamX.ExtN H H') : LD K (Fr.bs H' r) l ds := by
  obtain ⟨xs, h1, h2⟩ := h
  exact ⟨xs, sd_to s n x _ _ h1 rfl, dpsd (sd_to s n x) _ _ h2⟩
theorem SysAt.re {C s : Addr} {d md : Int} {ts : List Tb} (h : SysAt K C H s d md ts) (ok : RngOk H r m) : SysAt K C (Fr.bs H r) s d md ts := h.bs ok fun _ => kvt (ST.bs ok)
end
/-- an expression, up to what holds behind it -/
def tCsqE (t : TE) : TE := fun σ H Q => ∃ N : V → Hp → Prop, (∀ v H, N v H → Q v H) ∧ t σ H N
theorem pe_csqE {X : Cx} {e : Expr} {t : TE} (h : PE X e t) : PE X e (tCsqE t) := ⟨fun pins s σ H Q I ⟨N, hN, q⟩ => thn (h.run pins s σ H _ I q) fun v s1 ⟨x, H1, I1, r, n⟩ => ⟨x, H1, I1, r, hN _ _ n⟩⟩
theorem dps_take {K : PySem.W.Frag} {H : Hp} : ∀ (n : Nat) {vs : List V} {ds : List PyData}, DpAll K H vs ds → DpAll K H (vs.take n) (ds.take n)
  | 0, _, _, _ => by rw [List.take_zero, List.take_zero]; exact .nil
  | n + 1, _, _, h => by
    cases h with
    | nil => exact .nil
    | cons h1 h2 => exact .cons h1 (dps_take n h2)
theorem LS.keep {TT : List (Addr × Str)} {r p : Addr} {m : Nat} {B H : Hp} {o : HO} (h : LS TT r m B H) (e : H p = some o) (k : B p = none) (n : r ≠ p) (t : ∀ ps, o ≠ .tbl ps) : LS TT r m (upd B p o) H :=
  ⟨h.rs.keep e k n, h.tb, fun b ps z => by
    by_cases hb : b = p
    · rw [hb, upd_same] at z
      exact t ps (Option.some.inj z)
    · rw [upd_ne hb] at z
      exact h.nt b ps z⟩
theorem LD.dr {K : PySem.W.Frag} {H H' : Hp} {l r : Addr} {m m' : Nat} {ds : List PyData} (h : LD K H l ds) (n : noLs ds = true) (ok : RngOk H r m) (d : Dr r m' H H') (ne : r ≠ l) : LD K H' l ds := h.st (ST.dr ok d) n (d.ne _ ne.symm)
theorem srt_srt {ts : List Tb} (n : (ts.map (·.n)).Nodup) : srt (srt ts) = srt ts := (srt_same (srt_perm ts).symm n).symm
theorem LS.sub {TT : List (Addr × Str)} {r : Addr} {m : Nat} {B0 B H : Hp} (h : LS TT r m B H) (s : Same B0 B) : LS TT r m B0 H := by
  refine ⟨⟨same_tr s h.rs.s, ?_, h.rs.ok⟩, h.tb, fun b ps z => h.nt b ps (s _ _ z)⟩
  cases e : B0 r with
  | none => rfl
  | some o =>
    have z := s _ _ e
    rw [h.rs.n] at z
    cases z
theorem mvV_back {v o f : List Int} (h1 : v.length = o.length) (h2 : v.length = f.length) : mvV (mvV v o f) (o.map fun x => 0 - x) (f.map fun x => 0 - x) = v := by
  refine List.ext_getElem? fun i => ?_
  by_cases hi : i < v.length
  · have e1 : v[i]? = some v[i] := List.getElem?_eq_getElem hi
    have e2 : o[i]? = some (o[i]'(by omega)) := List.getElem?_eq_getElem (by omega)
    have e3 : f[i]? = some (f[i]'(by omega)) := List.getElem?_eq_getElem (by omega)
    have m1 := mvV_at e1 e2 e3
    have m2 := mvV_at (v := mvV v o f) (o := o.map fun x => 0 - x) (f := f.map fun x => 0 - x) m1 (by rw [List.getElem?_map, e2]; rfl) (by rw [List.getElem?_map, e3]; rfl)
    rw [m2, e1]
    refine congrArg some ?_
    show v[i] - o[i] + f[i] - (0 - o[i]) + (0 - f[i]) = v[i]
    omega
  · have hl : (mvV (mvV v o f) (o.map fun x => 0 - x) (f.map fun x => 0 - x)).length = v.length := by
      rw [mvV_len, mvV_len h1 h2]
      · rw [mvV_len h1 h2, List.length_map]; exact h1
      · rw [mvV_len h1 h2, List.length_map]; exact h2
    rw [List.getElem?_eq_none (show v.length ≤ i by omega), List.getElem?_eq_none (by rw [hl]; omega)]
def backOf (gs : List (Str × List Int)) : List (Str × List Int) := gs.map fun g => (g.1, g.2.map fun x => 0 - x)
theorem back_look (x : Str) : ∀ gs : List (Str × List Int), (backOf gs).lookup x = (gs.lookup x).map fun v => v.map fun z => 0 - z
  | [] => rfl
  | (y, v) :: gs => by
    by_cases h : x = y
    · subst h
      show List.lookup x ((x, v.map fun z => 0 - z) :: backOf gs) = _
      rw [List.lookup_cons_self, List.lookup_cons_self]
      rfl
    · show List.lookup x ((y, v.map fun z => 0 - z) :: backOf gs) = _
      rw [List.lookup_cons, List.lookup_cons, beq_eq_false_iff_ne.mpr h]
      exact back_look x gs
theorem back_of (gs : List (Str × List Int)) (x : Str) : shOf (backOf gs) x = (shOf gs x).map fun z => 0 - z := by
  unfold shOf
  rw [back_look]
  cases gs.lookup x <;> rfl
theorem back_names (gs : List (Str × List Int)) : (backOf gs).map (·.1) = gs.map (·.1) := by
  unfold backOf
  rw [List.map_map]
  rfl
theorem back_ok {d : Int} {names : List Str} {gs : List (Str × List Int)} (h : ShOk d names gs) : ShOk d names (backOf gs) := by
  refine ⟨fun x hx => by rw [back_names]; exact h.all x hx, fun x hx => h.own x (by rw [back_names] at hx; exact hx), fun p hp => ?_, by unfold backOf; rw [List.length_map]; exact h.few⟩
  obtain ⟨g, hg, rfl⟩ := List.mem_map.mp hp
  show ((g.2.map fun x => 0 - x).length : Int) = d
  rw [List.length_map]
  exact h.len g hg
theorem sh_names (g : Str → List Int) (ts : List Tb) : (ts.map (shT g)).map (·.n) = ts.map (·.n) := by
  rw [List.map_map]
  rfl
theorem rd_len {d : Int} {r : Rd1} (h : isRead d r = true) : (r.v.length : Int) = d := by
  unfold isRead at h
  rw [Bool.and_eq_true, Bool.and_eq_true] at h
  exact of_decide_eq_true h.2.1
theorem shr_len {d : Int} {names : List Str} {gs : List (Str × List Int)} (h : ShOk d names gs) {x : Str} {r : Rd1} (hx : x ∈ names) (hr : r.t ∈ names) (hl : (r.v.length : Int) = d) : ((shR (shOf gs) x r).v.length : Int) = d := by
  have a := (h.at hx).2
  have b := (h.at hr).2
  show ((mvV r.v (shOf gs x) (shOf gs r.t)).length : Int) = d
  rw [mvV_len (by omega) (by omega)]
  exact hl
theorem OkT.shift {d : Int} {ts : List Tb} {gs : List (Str × List Int)} (O : OkT d ts) (h : ShOk d (ts.map (·.n)) gs) : OkT d (ts.map (shT (shOf gs))) := by
  refine ⟨?_, by rw [sh_names]; exact O.nodup, ?_, ?_, ?_⟩
  · intro t ht
    obtain ⟨u, hu, rfl⟩ := List.mem_map.mp ht
    exact O.names u hu
  · rw [List.map_map]
    have e : ts.map ((fun t => t.rs.length) ∘ shT (shOf gs)) = ts.map fun t => t.rs.length := List.map_congr_left fun t _ => by
      show (t.rs.map (shR (shOf gs) t.n)).length = _
      rw [List.length_map]
    rw [e]
    exact O.few
  · intro t ht r hr
    obtain ⟨u, hu, rfl⟩ := List.mem_map.mp ht
    obtain ⟨q, hq, rfl⟩ := List.mem_map.mp hr
    have z := O.reads u hu q hq
    have hl := shr_len h (List.mem_map.mpr ⟨u, hu, rfl⟩) (O.here u hu q hq) (rd_len z)
    unfold isRead at z ⊢
    rw [Bool.and_eq_true, Bool.and_eq_true] at z ⊢
    exact ⟨z.1, decide_eq_true hl, z.2.2⟩
  · intro t ht r hr
    obtain ⟨u, hu, rfl⟩ := List.mem_map.mp ht
    obtain ⟨q, hq, rfl⟩ := List.mem_map.mp hr
    rw [sh_names]
    exact O.here u hu q hq
theorem sh_back {d : Int} {ts : List Tb} {gs : List (Str × List Int)} (O : OkT d ts) (h : ShOk d (ts.map (·.n)) gs) : (ts.map (shT (shOf gs))).map (shT (shOf (backOf gs))) = ts := by
  rw [List.map_map]
  refine (List.map_congr_left fun t ht => ?_).trans (List.map_id ts)
  show (⟨t.n, t.c, (t.rs.map (shR (shOf gs) t.n)).map (shR (shOf (backOf gs)) t.n)⟩ : Tb) = t
  have e : (t.rs.map (shR (shOf gs) t.n)).map (shR (shOf (backOf gs)) t.n) = t.rs := by
    rw [List.map_map]
    refine (List.map_congr_left fun r hr => ?_).trans (List.map_id t.rs)
    show (⟨r.t, mvV (mvV r.v (shOf gs t.n) (shOf gs r.t)) (shOf (backOf gs) t.n) (shOf (backOf gs) r.t), r.f⟩ : Rd1) = r
    have a := (h.at (List.mem_map.mpr ⟨t, ht, rfl⟩)).2
    have b := (h.at (O.here t ht r hr)).2
    have c := rd_len (O.reads t ht r hr)
    rw [back_of, back_of, mvV_back (by omega) (by omega)]
  rw [e]
theorem few_rs {d : Int} {ts : List Tb} (O : OkT d ts) {t : Tb} (ht : t ∈ ts) : t.rs.length ≤ 12 :=
  few_reads O ht
theorem sh_pre {d : Int} {ts : List Tb} (O : OkT d ts) : ∀ t ∈ ts, t.rs.length ≤ 100 ∧ ∀ r ∈ t.rs, r.t ∈ ts.map (·.n) ∧ (r.v.length : Int) = d := fun t ht =>
  ⟨by have := few_rs O ht; omega, fun r hr => ⟨O.here t ht r hr, rd_len (O.reads t ht r hr)⟩⟩
theorem look_mem {gs : List (Str × List Int)} (n : (gs.map (·.1)).Nodup) {g : Str × List Int} (h : g ∈ gs) : gs.lookup g.1 = some g.2 := by
  induction gs with
  | nil => cases h
  | cons a gs ih =>
    obtain ⟨y, v⟩ := a
    rw [List.map_cons, List.nodup_cons] at n
    rcases List.mem_cons.mp h with rfl | h
    · exact List.lookup_cons_self
    · have ne : g.1 ≠ y := fun e => n.1 (by rw [show (y, v).1 = g.1 from e.symm]; exact List.mem_map.mpr ⟨g, h, rfl⟩)
      rw [List.lookup_cons, beq_eq_false_iff_ne.mpr ne]
      exact ih n.2 h
theorem sh_ints (v : List Int) : SeqAt.shaped (.tuple (v.map .int)) = true := (Lay.tup (k := 0) (.map fun _ _ => .int)).shaped (by decide)
theorem kvEq_sh {K : PySem.W.Frag} {H : Hp} {ls : List (Key × V)} {gs : List (Str × List Int)} (hl : ShAt K H ls gs) (n : (gs.map (·.1)).Nodup) : ∀ {ks : List (Key × V)} {hs : List (Str × List Int)}, ShAt K H ks hs → (∀ h ∈ hs, h ∈ gs) → KvEq K H ls ks true
  | [], _, h, _ => by cases h; exact .nil
  | (k, v) :: ks, _, h, m => by
    cases h with
    | @cons _ g _ hs h1 h2 =>
      obtain ⟨e1, e2⟩ := h1
      have e1 : k = Sum.inr g.1 := e1
      subst e1
      obtain ⟨u, f1, f2⟩ := hl.get (look_mem n (m g List.mem_cons_self))
      have ih := kvEq_sh hl n h2 fun x hx => m x (List.mem_cons_of_mem _ hx)
      have z := KvEq.hit f1 e2 f2 (sh_ints g.2) (sh_ints g.2) ih
      rw [SeqAt.eqv_refl _ (SeqAt.canLay_of_shaped (sh_ints g.2)), Bool.true_and] at z
      exact z
theorem ne_sys {K : PySem.W.Frag} {C a b : Addr} {H : Hp} {d m : Int} {ts : List Tb} {Q : VK} (S : SysAt K C H a d m ts) (S' : SysAt K C H b d m ts) (O : OkT d ts) (q : Q (.bl false) H) : rNeOwn C (spSysEq K C) (.ref a) (.ref b) H Q := by
  have sh : ∀ t ∈ ts, SeqAt.shaped t.k = true := fun t ht => (lay_k O ht).shaped (by decide)
  obtain ⟨dx, t, kvs, h1, _⟩ := id S.ob
  obtain ⟨dx', t', kvs', h1', _⟩ := id S'.ob
  refine ⟨a, b, dx, dx', _, _, rfl, rfl, h1, h1', a, b, d, m, d, m, ts, ts, rfl, S, S', sh, sh, _, rfl, ?_⟩
  rw [tabEq_refl O.nodup sh, decide_eq_true rfl, decide_eq_true rfl]
  exact q
end Fr

namespace Fr
open PySem PySem.Spec PyProof.Rows L2
/-- what the written part says of an error class -/
structure ErrC (K : PySem.W.Frag) (C : Addr) : Prop where
  oex : OexC K C
  ga : PySem.W.findIn K (.ref C) "__getattribute__" = some (some (.builtin "BaseException.__getattribute__"))
  gg : PySem.W.findIn K (.ref C) "__getattr__" = some none
  hd : PySem.W.hasDictIn K C = true
  kc : PySem.W.findIn K (.ref C) "__class__" = some (some (.builtin "object.__class__"))
  kg : PySem.W.specialIn K (.builtin "object.__class__") "__get__" = some (some (.builtin "getset_descriptor.__get__"))
  kt : PySem.W.takesIn K (.builtin "object.__class__") = some true
  km : PySem.W.mroIn K C (.type "object") = some true
/-- an error at a with these attributes -/
def ErrAt (H : Hp) (a C : Addr) (fs : List (Str × V)) : Prop := ∃ d : Addr, H a = some (exo a C (some d)) ∧ H d = some (exd d fs)
theorem ErrAt.mono {H H' : Hp} {a C : Addr} {fs : List (Str × V)} (h : ErrAt H a C fs) (e : Same H H') : ErrAt H' a C fs := by
  obtain ⟨d, h1, h2⟩ := h
  exact ⟨d, e _ _ h1, e _ _ h2⟩
section
variable {X : Cx} {C fI : Addr} {k : Nat} {fd : FuncData} {ps : List Str} {sp : Sp} {x f : Str} {p pos : Pos} {e : Expr} {es : List Expr} {t : TA} {te : TE}
/-- C(e, ..), the error itself -/
def tMkV (C : Addr) (sp : Sp) (t : TA) : TE := fun σ H Q => t σ H fun vs H1 => vs.length ≤ 1000 ∧ ∀ a, H1 a = none → sp (.ref a :: vs) (upd H1 a (exo a C none)) (fun v H2 => v = .non ∧ Q (.ref a) H2) C8.E0
theorem pe_mkV (T : OexC X.K C) (iC : PySem.W.findIn X.K (.ref C) "__init__" = some (some (.ref fI))) (tI : PySem.W.typeIn X.K (.ref fI) = some (.type "function")) (F : FnOk X.prog X.w X.K X.mg X.base CX0 k fI fd ps sp) (hr : Room (k + 1) X.A) (hb : Binds X.K fd ps [])
    (hg : Gl X x) (hm : X.mg x = some (.ref C)) (ha : PA X (e :: es) t) (hdb : (x == ("__debug__" : Str)) = false := by decide) (he : starEach (e :: es) X.env = (false, eval e X.env) :: starEach es X.env := by rfl) (hpl : (backTo pos (starEach es X.env)).any (·.1) = false := by rfl) :
    PE X (.Call (.Name x p) (e :: es) [] pos) (tMkV C sp t) := by
  constructor
  intro pins s σ H Q I h
  obtain ⟨nm, q, N, bs, bm, sn, sub, ab, col, dd, k0, k1, k2, k3, k5, hC, hbm⟩ := T.cls
  refine wpAny_Call_Name_kw (ld_glob I hg hm (PySem.W.callWith_K (h₀ := X.base) I.ok.mod.kin T.kC (thn (ha.run pos pins s σ H _ I h) ?_) he hpl) hdb)
  rintro us s1 ⟨vs, H1, I1, r1, hz, q1⟩
  refine ⟨I1.kIn, ?_⟩
  show wpAny _ _ (call (.ref C) us) _ _ _
  obtain ⟨hp, g, dr, tk, os⟩ := s1
  have big : hp.objs.size ≤ hp.objs.size + 1 := Nat.le_succ _
  have hq := q1 (hp.objs.size + 1) (I1.hok.fresh big)
  have old : ∀ b o, hp.get? b = some o → ((hp.push (PySem.W.kdv_tup us)).push (PySem.HandSPX.excO C hp.objs.size)).get? b = some o := fun b o z => Heap.get?_push_of_some _ (Heap.get?_push_of_some _ z)
  have new : ((hp.push (PySem.W.kdv_tup us)).push (PySem.HandSPX.excO C hp.objs.size)).get? (hp.objs.size + 1) = some (PySem.HandSPX.excO C hp.objs.size) := by heap_get
  have J : Inv X pins σ (upd H1 (hp.objs.size + 1) (exo (hp.objs.size + 1) C none)) ⟨(hp.push (PySem.W.kdv_tup us)).push (PySem.HandSPX.excO C hp.objs.size), g, dr, tk, os⟩ := I1.laid (t' := tk) (o := exo (hp.objs.size + 1) C none) old big (exo_ok new)
  have rr : Vals (V.ref (hp.objs.size + 1) :: vs) (Value.ref (hp.objs.size + 1) :: us) := .cons rfl r1
  have hl : ((Value.ref (hp.objs.size + 1) :: us) ++ ([] : List Value)).length = ps.length := by
    rw [List.append_nil, ← rr.length]
    exact F.len _ _ _ _ hq
  have hu : us.length ≤ sizeLine := by
    rw [← Paired.length r1, sizeLine_eq]
    omega
  have bd := hb ⟨(hp.push (PySem.W.kdv_tup us)).push (PySem.HandSPX.excO C hp.objs.size), g, dr, tk, os⟩ (Value.ref (hp.objs.size + 1) :: us) J.kIn hl
  rw [List.append_nil] at bd
  refine wpAny_call (PySem.HandSPX.call_own PySem.F.excBase_ValueError (fun Y => PySem.HandSPX.refsVE_contains Y bm hbm) (I1.kIn _ _ hC) (PySem.W.looks_findIn I1.kIn iC) (fun self => PySem.W.bind_fn I1.kIn self tI) hu
    (codeAny_mono (FnOk.run F _ X.stack _ _ ⟨Value.ref (hp.objs.size + 1) :: us, []⟩ (Value.ref (hp.objs.size + 1) :: us) _ _ C8.E0 (hr.make C us []) (J.env0.make C us []) bd rr hq) ?_))
  intro rs s2 z
  match rs, z with
  | .error er, z => exact pass0 (X := X) pins σ _ _ er s2 J z
  | .ok .next, z => exact z.elim
  | .ok .brk, z => exact z.elim
  | .ok .cont, z => exact z.elim
  | .ok (.ret u), z =>
    obtain ⟨v, H2, I3, rv, ev, q3⟩ := J.after z
    subst ev
    exact ⟨rv, .ref (hp.objs.size + 1), H2, I3, rfl, q3⟩
/-- e.f, e an error -/
def tErrF (K : PySem.W.Frag) (f : Str) (te : TE) : TE := fun σ H Q => te σ H fun x H1 => ∃ (a C : Addr) (fs : List (Str × V)) (v : V), x = .ref a ∧ ErrC K C ∧ ErrAt H1 a C fs ∧ PySem.W.findIn K (.ref C) f = some none ∧ fs.lookup f = some v ∧ Q v H1
theorem pe_errF (he : PE X e te) (hb : attributeBase e f X.env (eval e X.env) = eval e X.env := by rfl) : PE X (.Attribute e f pos) (tErrF X.K f te) := by
  constructor
  intro pins s σ H Q I h
  refine attr_of hb (thn (he.run pins s σ H _ I h) ?_)
  rintro u s1 ⟨x, H1, I1, rx, a, C, fs, v, rfl, T, ⟨d, h1, h2⟩, no, hl, q⟩
  obtain rfl : u = Value.ref a := rx
  obtain ⟨t1, ho⟩ := exo_at I1.hok h1
  obtain ⟨mA, hns, rel⟩ := exd_at I1.hok h2
  obtain ⟨od, hod, lk⟩ := lookIn_ns hns
  obtain ⟨u, hu, ru⟩ := RelO.some_of (v := v) (o := mA f) (by rw [← hl]; exact rel f)
  exact HandSPX.exc_get I1.kIn (od := some od) ⟨ho, rfl, rfl, hod⟩ T.ga T.gg T.oex.exC (PySem.W.findObj_own T.hd no rfl (by rw [lk, hu])) (handed_of ru) ⟨v, H1, I1.tok _, ru, q⟩
/-- isinstance(e, c), e an error -/
def rIsX (K : PySem.W.Frag) : List V → Hp → VK → Prop := fun xs H Q => ∃ (a C : Addr) (fs : List (Str × V)) (c : V) (cv : Value) (b : Bool), xs = [.ref a, c] ∧ ErrC K C ∧ ErrAt H a C fs ∧ ClsV c cv ∧ PySem.W.kitOne K (.ref C) cv = some b ∧ Q (.bl b) H
theorem call_isX : CallR X (.builtin "isinstance") (rIsX X.K) := by
  intro pins s σ H xs us Q I r h
  obtain ⟨a, C, fs, c, cv, b, rfl, T, ⟨d, h1, h2⟩, hc, e, q⟩ := h
  obtain ⟨u1, u2, rfl, r1, r2⟩ := vals2 r
  obtain rfl := hc.eq r2
  obtain rfl : u1 = Value.ref a := r1
  obtain ⟨t1, ho⟩ := exo_at I.hok h1
  obtain ⟨mA, hns, rel⟩ := exd_at I.hok h2
  obtain ⟨od, hod, lk⟩ := lookIn_ns hns
  have is : PySem.W.InstAt s.heap a _ C (some od) := ⟨ho, rfl, rfl, hod⟩
  have cl : (PySem.W.clsIn X.K C).isSome = true := by
    obtain ⟨cd, hcd, _⟩ := PySem.W.any_some T.hd
    rw [hcd]
    rfl
  exact PySem.W.kia_one (PySem.W.kitx_exc cl T.ga T.gg T.oex.exC T.kc T.kg T.kt T.km) I.kIn is e (fun z => by cases z) fun tk => ⟨.bl b, H, I.tok tk, rfl, q⟩
end
end Fr

namespace Fr
open PySem PySem.Spec PyProof.Rows L2
/-- an error as a thing that is tracked: its class, its dict -/
def exq (a : Addr) (cls : Value) (d : Option Addr) : HO := .ext fun h => ∃ (o : PySem.Obj) (vs : Array Value), h.get? a = some o ∧ Zc cls d o ∧ o.data = .fields vs
theorem exq_ok {P : Program} {w : World} {H : Hp} {h : Heap} {a : Addr} {cls : Value} {d : Option Addr} {o : PySem.Obj} {vs : Array Value} (e : h.get? a = some o) (z : Zc cls d o) (f : o.data = .fields vs) : ObjOk P w H h a (exq a cls d) :=
  ⟨⟨o, vs, e, z, f⟩, ⟨_, e⟩, fun h1 h2 q k => by
    obtain ⟨o', vs', e', z', f'⟩ := q
    exact ⟨o', vs', k _ e', z', f'⟩⟩
section
variable {X : Cx} {pins : List (Addr × PySem.Obj)} {σ : L2.St} {H : Hp} {s : Shared} {a : Addr} {o : HO}
/-- a thing of the heap that was not tracked is tracked from now on -/
theorem inv_adopt (I : Inv X pins σ H s) (na : H a = none) (old : X.s_0.heap.get? a = none) (nl : a ≠ X.env.locals) (nc : ∀ x c, X.env.cells.lookup x = some c → c ≠ a) (np : ∀ p ∈ X.pn ++ pins, p.1 ≠ a) (new : ObjOk X.prog X.w (upd H a o) s.heap a o) : Inv X pins σ (upd H a o) s := by
  have up : ∀ {b : Addr} {u : HO}, H b = some u → upd H a o b = some u := fun {b u} e => by
    rw [upd_ne (ne_of_none e na)]
    exact e
  have u := I.base
  refine { I with base := { keep := u.keep, slot := u.slot, free := ?_, there := u.there, tups := ?_, frzs := ?_, tbls := ?_ }, free := ?_, freeC := ?_, pin := ?_, hok := ?_ }
  · intro b q e n hx
    have hb : b ≠ a := fun z => by
      rw [z, old] at e
      cases e
    rw [upd_ne hb]
    exact u.free b q e n hx
  · exact fun b xs e => up (u.tups b xs e)
  · exact fun b q v e => up (u.frzs b q v e)
  · intro b ps e
    obtain ⟨more, z⟩ := u.tbls b ps e
    exact ⟨more, up z⟩
  · rw [upd_ne nl.symm]
    exact I.free
  · intro x c e
    rw [upd_ne (nc x c e)]
    exact I.freeC x c e
  · intro p hp
    obtain ⟨z1, z2, z3⟩ := I.pin p hp
    exact ⟨z1, by rw [upd_ne (np p hp)]; exact z2, z3⟩
  · intro b q e
    by_cases hb : b = a
    · subst hb
      rw [upd_same] at e
      cases e
      exact new
    · rw [upd_ne hb] at e
      exact (I.hok b q e).stay (fun _ _ _ z => z) (fun c z => up z) fun c xs z => up z
end
/-- what a body must know of its error when the clause keeps it: slot i is the clause's name, slot j the variable -/
def wKeep (K : PySem.W.Frag) (c : Value) (i j : Nat) (D : Ends) : WX := fun cls d σ H => PySem.W.exmOne K cls c = some true ∧ ∀ a, H a = none → D.nx ((((σ.set i (some (.ref a))).set j (some (.ref a)))).set i none) (upd H a (exq a cls d))
section
variable {X : Cx} {x n y : Str} {c : Value} {i j : Nat} {body : List Stmt} {np yp ep pos pos' apos : Pos} {tb : WX → TS}
theorem ps_try_keep (hs : X.stack = X.env :: X.outer) (hf : X.env.frame = some X.env.locals) (hex : X.ex = []) (hN : X.N.Nodup) (hi : X.N[i]? = some n) (hj : X.N[j]? = some y) (hln : X.env.kindOf n = some .local) (hly : X.env.kindOf y = some .local) (hij : i ≠ j) (hc : Names X x c)
    (hb : ∀ (W : WX) (pn : List (Addr × PySem.Obj)) (xe : Value → Shared → Prop), Takes (X.tr pn xe) W → PassesOwn (model X.prog X.w) X.A X.env xe → PSs (X.tr pn xe) body (tb W))
    (hsw : swapsWith (.Name n ep) (some (.Name y yp)) apos.line X.env = pure false := by rfl) (hd : (n == ("__debug__" : Str)) = false := by decide) (hcd : (n == ("__classdict__" : Str)) = false := by decide) :
    PS X (.Try body [.ExceptHandler (some (.Name x np)) (some n) [.Assign [.Name y yp] (.Name n ep) apos] pos'] [] [] pos) (fun D σ H => tb (wKeep X.K c i j D) D σ H) := by
  constructor
  intro pins s σ H D I h
  have ok := I.ok
  have fra : X.A.frames = some (X.env :: X.outer) := ok.frames.trans (congrArg some hs)
  obtain ⟨xe, hxe⟩ : ∃ xe : Value → Shared → Prop, xe = fun e s₁ => wpAny (model X.prog X.w) X.A (noteFrame e X.env) (fun _ s₂ => wpAny (model X.prog X.w) X.A (setFlight e none) (fun _ s₃ =>
    wpAny (model X.prog X.w) X.A (handleBy e X.env [.ExceptHandler (some (.Name x np)) (some n) [.Assign [.Name y yp] (.Name n ep) apos] pos']) (SP X pins D) X.xe s₃) X.xe s₂) X.xe s₁ := ⟨_, rfl⟩
  have pas : PassesOwn (model X.prog X.w) X.A X.env xe := by rw [hxe]; exact PassesOwn.looking
  have caught : Takes (X.tr (X.pn ++ pins) xe) (wKeep X.K c i j D) := by
    rw [hxe]
    rintro u s1 ⟨a, B, sI, pins', σ1, H1, cls, d, rfl, J0, nb, up, sky, na, os, ag, hb1, hyes⟩
    have J : Inv X pins σ1 H1 sI := J0.ofTry ok
    have sky1 : Sky B (X.env :: X.outer) a (Zc cls d) X.env.locals s1.heap := hs ▸ sky
    show wpAny (model X.prog X.w) X.A (noteFrame (.ref a) X.env) _ _ _
    refine Sky.land Zc.steady fra hf sky1 fun g3 fly3 u3 => ?_
    have K3 : Inv X pins σ1 H1 { s1 with heap := g3 } := J.landed nb fly3.1 (up.trans u3) os ag
    obtain ⟨q3, vs3, at3, z3, dat3⟩ := fly3.there
    have out : a ∉ frs (X.env :: X.outer) := fun hm => by
      obtain ⟨_, q', e', nof⟩ := fly3.2.2.1.mem hm
      rw [at3] at e'
      cases e'
      exact nof _ dat3
    have aL : a ≠ X.env.locals := fun z => out (List.mem_filterMap.mpr ⟨X.env, List.mem_cons_self, by rw [hf, z]⟩)
    have aF : a ∉ X.fs := fun hm => by
      obtain ⟨e, he, q⟩ := List.mem_filterMap.mp hm
      exact out (List.mem_filterMap.mpr ⟨e, List.mem_cons_of_mem _ he, q⟩)
    have gone : sI.heap.get? a = none := by
      cases q : sI.heap.get? a with
      | none => rfl
      | some w =>
        have z := nb a w q (by rw [hs]; exact out)
        rw [fly3.2.1] at z
        cases z
    have S3 := K3.suite at3 dat3 na aL aF
    refine wpAny_handleBy_cons (codeAny_handlers_test ?_) (by intro q; cases q)
    have ty3 : PySem.W.Looks (model X.prog X.w) g3 (typeOf (.ref a)) cls := fun A Q E s k q => wpAny_typeOf_ref (k _ _ at3) (by rw [z3.1]; exact q)
    have hit := PySem.W.exm_one (M := model X.prog X.w) K3.kIn ty3 hb1
    have asks : ∀ {Q : Value → Shared → Prop} {E : Value → Shared → Prop}, Q c { s1 with heap := g3 } → wpAny (model X.prog X.w) (X.A.mark (some (.ref a))) (eval (.Name x np) X.env) Q E { s1 with heap := g3 } := fun {Q E} q => by
      obtain ⟨hg, nd, hm | ⟨hm, hv, nn⟩⟩ := hc
      · exact ld_glob S3 hg hm q nd
      · exact ld_blt S3 hg hm hv q nn nd
    refine asks (hit.here ?_)
    refine codeAny_handlers_suite_as (HandSPX.lands_againZ fly3 fun g4 fly4 u4 => ?_)
    have K4 : Inv X pins σ1 H1 { s1 with heap := g4 } := J.landed nb fly4.1 ((up.trans u3).trans u4) os ag
    obtain ⟨q4, vs4, at4, z4, dat4⟩ := fly4.there
    have S4 := K4.suite at4 dat4 na aL aF
    have one : PSs (X.suite a ((a, q4) :: (X.pn ++ pins))) [.Assign [.Name y yp] (.Name n ep) apos] (tAsg (tVar i) (gName j)) :=
      pss_one (ps_set (X := X.suite a ((a, q4) :: (X.pn ++ pins))) hN hj (.inl hly) (pe_var (X := X.suite a ((a, q4) :: (X.pn ++ pins))) hi (.inl hln) hd hcd) hsw (.inr hly))
    refine store_ok (X := X.suite a ((a, q4) :: (X.pn ++ pins))) (v := .ref a) S4 hN hi (.inl hln) rfl (fun s5 S5 => ?_) (.inr hln)
    have hlen : i < σ1.length := by
      rw [K4.len]
      exact (List.getElem?_eq_some_iff.mp hi).1
    refine wpAny_mono (one.run [] s5 _ H1 { nx := fun σ' H' => σ' = (σ1.set i (some (.ref a))).set j (some (.ref a)) ∧ H' = H1, rt := fun _ _ => False, bk := fun _ _ => False, ct := fun _ _ => False } S5 ⟨.ref a, List.getElem?_set_self hlen, rfl, rfl⟩) (fun f s6 q => ?_) (fun _ _ z => False.elim z)
    cases f with
    | brk => obtain ⟨_, _, _, z⟩ := q; exact z.elim
    | cont => obtain ⟨_, _, _, z⟩ := q; exact z.elim
    | ret u => obtain ⟨_, _, _, _, _, z⟩ := q; exact z.elim
    | next =>
      obtain ⟨σ6, H6, S6, rfl, rfl⟩ := q
      obtain ⟨at6, _⟩ := S6.pin (a, q4) (List.mem_append_left _ List.mem_cons_self)
      have K6 : Inv X pins _ H6 s6 := S6.unsuite ok
      have K7 := inv_adopt K6 na ?_ aL ?_ ?_ (exq_ok at6 z4 dat4)
      · exact gone_ok K7 hN hi hln fun s7 K8 => ⟨_, _, K8, hyes a na⟩
      · cases q : X.s_0.heap.get? a with
        | none => rfl
        | some w =>
          obtain ⟨w', z⟩ := J.base.there a w q (by rw [hex]; exact fun z => nomatch z)
          rw [gone] at z
          cases z
      · intro v k e z
        subst z
        obtain ⟨w, q, z, _⟩ := J.cell v _ e
        rw [gone] at z
        cases z
      · intro p hp z
        obtain ⟨e, _⟩ := J.pin p hp
        rw [z, gone] at e
        cases e
  have R := (hb (wKeep X.K c i j D) (X.pn ++ pins) xe caught pas).run [] s σ H D (I.toTry _) h
  rw [hxe] at R
  refine wpAny_Try_except (wpAny_mono R (fun f s1 q => ?_) fun _ _ z => z)
  cases f with
  | next =>
    obtain ⟨σ1, H1, J, z⟩ := q
    exact wpAny_execs_nil ⟨σ1, H1, J.ofTry ok, z⟩
  | brk =>
    obtain ⟨σ1, H1, J, z⟩ := q
    exact ⟨σ1, H1, J.ofTry ok, z⟩
  | cont =>
    obtain ⟨σ1, H1, J, z⟩ := q
    exact ⟨σ1, H1, J.ofTry ok, z⟩
  | ret u =>
    obtain ⟨v, σ1, H1, J, r, z⟩ := q
    exact ⟨v, σ1, H1, J.ofTry ok, r, z⟩
end
end Fr

namespace Fr
open PySem PySem.Spec PyProof.Rows L2
section
variable {P : Program} {w : World} {K : PySem.W.Frag} {mg : Str → Option Value} {base : Heap}
/-- the promise of a def whose body may raise -/
theorem fun_okX {x qual : Str} {st : Stmt} {f : Addr} {fd : FuncData} {N ps : List Str} {k : Nat} {sp : Sp} (F : Fun K x qual st f fd) (S : FnScope N ps (defScope st)) (len : ∀ vs H Q E, sp vs H Q E → vs.length = ps.length)
    (body : ∀ (cdv : Value) (A : Around) (outer : List Env) (s : Shared) (H : Hp) (vs : List V) (Q : VK) (E : XK), Room k (A.deeper (envOfC qual (defScope st) s.heap.objs.size f cdv)) → sp vs H Q E →
      ∃ t, PSs (cxOf (L2.CX P w) P w K mg base N qual (defScope st) f cdv A outer s H E) (defBody st) t ∧ t { nx := fun _ H' => Q .non H', rt := Q } (start N vs) H) : FnOk P w K mg base (L2.CX P w) (k + 1) f fd ps sp := by
  obtain ⟨oc, od, kV, doc, pm, an, cdv, ct, osl, rfl, lk, hcd⟩ := F.ex
  exact fn_of lk hcd S len fun A outer s H vs Q E hr hsp => body cdv A outer s H vs Q E hr hsp
/-- a def that raises, by its name -/
structure CalX (P : Program) (w : World) (K : PySem.W.Frag) (mg : Str → Option Value) (base : Heap) (k : Nat) (x : Str) (sp : Sp) : Prop where
  ex : ∃ (f : Addr) (fd : FuncData) (ps : List Str), FnOk P w K mg base (L2.CX P w) k f fd ps sp ∧ mg x = some (.ref f) ∧ PySem.W.keepIn K (.ref f) = true ∧ Binds K fd ps []
theorem pe_cx {X : Cx} {k j : Nat} {x : Str} {sp : Sp} {W : WX} {e : Expr} {es : List Expr} {t : TA} {p pos : Pos} (c : CalX X.prog X.w X.K X.mg X.base k x sp) (hr : Room j X.A) (hk : k ≤ j) (hg : Gl X x) (tk : Takes X W) (ha : PA X (e :: es) t)
    (hdb : (x == ("__debug__" : Str)) = false := by decide) (he : starEach (e :: es) X.env = (false, eval e X.env) :: starEach es X.env := by rfl) (hpl : (backTo pos (starEach es X.env)).any (·.1) = false := by rfl) : PE X (.Call (.Name x p) (e :: es) [] pos) (tCallS sp (WE W) t) := by
  obtain ⟨f, fd, ps, F, hm, kp, b⟩ := c.ex
  exact pe_callS F (hr.mono hk) hg hm kp b (fun σ => passAt tk σ) ha hdb he hpl
/-- two promises of one def, one of them without errors -/
theorem fn_or {k : Nat} {f : Addr} {fd : FuncData} {ps : List Str} {sp0 sp1 : Sp} (F0 : FnOk P w K mg base CX0 k f fd ps sp0) (F1 : FnOk P w K mg base (L2.CX P w) k f fd ps sp1) : FnOk P w K mg base (L2.CX P w) k f fd ps (fun vs H Q E => sp0 vs H Q E ∨ sp1 vs H Q E) :=
  ⟨fun vs H Q E h => h.elim (F0.len vs H Q E) (F1.len vs H Q E), fun A outer s H args us vs Q E hr e0 hb r h => h.elim
    (fun h => codeAny_mono (F0.run A outer s H args us vs Q E hr e0 hb r h) fun rs s' z => by
      cases rs with
      | error e => exact False.elim z
      | ok fl => cases fl <;> exact z) (F1.run A outer s H args us vs Q E hr e0 hb r)⟩
end
def ErrQ (H : Hp) (a C : Addr) (fs : List (Str × V)) : Prop := ∃ d : Addr, H a = some (exq a (.ref C) (some d)) ∧ H d = some (.xd fs)
theorem ErrQ.mono {H H' : Hp} {a C : Addr} {fs : List (Str × V)} (h : ErrQ H a C fs) (e : Same H H') : ErrQ H' a C fs := by
  obtain ⟨d, h1, h2⟩ := h
  exact ⟨d, e _ _ h1, e _ _ h2⟩
theorem ErrQ.look {X : Cx} {pins : List (Addr × PySem.Obj)} {σ : L2.St} {H : Hp} {s : Shared} {a C : Addr} {fs : List (Str × V)} (I : Inv X pins σ H s) (h : ErrQ H a C fs) :
    ∃ (o od : PySem.Obj) (mA : Str → Option Value), PySem.W.InstAt s.heap a o C (some od) ∧ (∀ f, RelO (fs.lookup f) (mA f)) ∧ ∀ f, PySem.W.lookIn f od = some (mA f) := by
  obtain ⟨d, h1, h2⟩ := h
  obtain ⟨⟨o, vs, e, z, df⟩, _⟩ := (show ObjOk X.prog X.w H s.heap a (exq a (.ref C) (some d)) from I.hok a _ h1)
  obtain ⟨mA, hns, rel⟩ := (show ObjOk X.prog X.w H s.heap d (.xd fs) from I.hok d _ h2)
  obtain ⟨od, hod, lk⟩ := lookIn_ns hns
  refine ⟨o, od, mA, ⟨e, z.1, ?_, ?_⟩, rel, lk⟩
  · unfold PySem.W.notCls
    rw [df]
  · rw [z.2]
    exact hod
section
variable {X : Cx} {f : Str} {pos : Pos} {e : Expr} {te : TE}
/-- e.f, e a caught error -/
def tErrG (K : PySem.W.Frag) (f : Str) (te : TE) : TE := fun σ H Q => te σ H fun x H1 => ∃ (a C : Addr) (fs : List (Str × V)) (v : V), x = .ref a ∧ ErrC K C ∧ ErrQ H1 a C fs ∧ PySem.W.findIn K (.ref C) f = some none ∧ fs.lookup f = some v ∧ Q v H1
theorem pe_errG (he : PE X e te) (hb : attributeBase e f X.env (eval e X.env) = eval e X.env := by rfl) : PE X (.Attribute e f pos) (tErrG X.K f te) := by
  constructor
  intro pins s σ H Q I h
  refine attr_of hb (thn (he.run pins s σ H _ I h) ?_)
  rintro u s1 ⟨x, H1, I1, rx, a, C, fs, v, rfl, T, eq, no, hl, q⟩
  obtain rfl : u = Value.ref a := rx
  obtain ⟨o, od, mA, J, rel, lk⟩ := eq.look I1
  obtain ⟨u, hu, ru⟩ := RelO.some_of (v := v) (o := mA f) (by rw [← hl]; exact rel f)
  exact HandSPX.exc_get I1.kIn J T.ga T.gg T.oex.exC (PySem.W.findObj_own T.hd no rfl (by rw [lk, hu])) (handed_of ru) ⟨v, H1, I1.tok _, ru, q⟩
/-- isinstance(e, c), e a caught error -/
def rIsQ (K : PySem.W.Frag) : List V → Hp → VK → Prop := fun xs H Q => ∃ (a C : Addr) (fs : List (Str × V)) (c : V) (cv : Value) (b : Bool), xs = [.ref a, c] ∧ ErrC K C ∧ ErrQ H a C fs ∧ ClsV c cv ∧ PySem.W.kitOne K (.ref C) cv = some b ∧ Q (.bl b) H
theorem ErrC.cl {K : PySem.W.Frag} {C : Addr} (T : ErrC K C) : (PySem.W.clsIn K C).isSome = true := by
  obtain ⟨cd, hcd, _⟩ := PySem.W.any_some T.hd
  rw [hcd]
  rfl
theorem call_isQ : CallR X (.builtin "isinstance") (rIsQ X.K) := by
  intro pins s σ H xs us Q I r h
  obtain ⟨a, C, fs, c, cv, b, rfl, T, eq, hc, e, q⟩ := h
  obtain ⟨u1, u2, rfl, r1, r2⟩ := vals2 r
  obtain rfl := hc.eq r2
  obtain rfl : u1 = Value.ref a := r1
  obtain ⟨o, od, mA, J, _, _⟩ := eq.look I
  exact PySem.W.kia_one (PySem.W.kitx_exc T.cl T.ga T.gg T.oex.exC T.kc T.kg T.kt T.km) I.kIn J e (fun z => by cases z) fun tk => ⟨.bl b, H, I.tok tk, rfl, q⟩
/-- isinstance(e, (c, ..)), e a caught error -/
def rIsQT (K : PySem.W.Frag) : List V → Hp → VK → Prop := fun xs H Q => ∃ (a C tp : Addr) (fs : List (Str × V)) (cs : List V) (ws : List Value) (b : Bool), xs = [.ref a, .ref tp] ∧ ErrC K C ∧ ErrQ H a C fs ∧ H tp = some (.tup cs) ∧ Paired ClsV cs ws ∧ PySem.W.kitAny K (.ref C) ws = some b ∧ Q (.bl b) H
theorem call_isQT : CallR X (.builtin "isinstance") (rIsQT X.K) := by
  intro pins s σ H xs us Q I r h
  obtain ⟨a, C, tp, fs, cs, ws, b, rfl, T, eq, ht, hc, e, q⟩ := h
  obtain ⟨u1, u2, rfl, r1, r2⟩ := vals2 r
  obtain rfl : u2 = Value.ref tp := r2
  obtain rfl : u1 = Value.ref a := r1
  obtain ⟨o, od, mA, J, _, _⟩ := eq.look I
  obtain ⟨_, its, rv, to, h1, h2, n, h3⟩ := (show ObjOk X.prog X.w H s.heap tp (.tup cs) from I.hok tp _ ht)
  obtain rfl := ClsV.all hc rv
  obtain ⟨oc, odd, dt, sl⟩ := to
  simp only at h2 h3
  subst h2 h3
  exact PySem.W.kia_tup (PySem.W.kitx_exc T.cl T.ga T.gg T.oex.exC T.kc T.kg T.kt T.km) I.kIn J h1 e (fun z => by cases z) fun tk => ⟨.bl b, H, I.tok tk, rfl, q⟩
end
end Fr

namespace Fr
open PySem PySem.Spec PyProof.Rows L2
abbrev s_ReadError_init : Stmt := inClass (topS 2) 0
theorem sc_ReadError_init : FnScope ["self", "value"] ["self", "value"] (defScope s_ReadError_init) := ⟨rfl, rfl, rfl, by decide +kernel, rfl, by decide +kernel, by decide +kernel⟩
-- slots: 0 self, 1 value
section
variable {P : Program} {w : World} {K : PySem.W.Frag} {mg : Str → Option Value} {base : Heap}
/-- self.value = value, the error being made -/
def spErrI (K : PySem.W.Frag) : Sp := fun vs H Q _ => ∃ (a C : Addr) (y : V), vs = [.ref a, y] ∧ OexC K C ∧ H a = some (exo a C none) ∧ PySem.W.findIn K (.ref C) "value" = some none ∧ ∀ dx, H dx = none → dx ≠ a → Q .non (upd (upd H dx (exd dx [(("value" : Str), y)])) a (exo a C (some dx)))
theorem ok_errI {f : Addr} {fd : FuncData} (F : Fun K "__init__" "ReadError.__init__" s_ReadError_init f fd) : FnOk P w K mg base CX0 1 f fd ["self", "value"] (spErrI K) := by
  refine F.ok sc_ReadError_init (fun vs H Q E h => ?_) (fun cdv A outer sh H vs Q E hr h => ?_)
  · obtain ⟨a, C, y, rfl, _⟩ := h
    rfl
  · obtain ⟨a, C, y, rfl, T, ha, no, q⟩ := h
    exact ⟨_, pss_one (ps_ost (pv 0) (pv 1)), _, rfl, _, rfl, a, C, rfl, T, no, Or.inl ⟨ha, q⟩⟩
/-- an error class of the program, to be raised -/
structure MkR (P : Program) (w : World) (K : PySem.W.Frag) (mg : Str → Option Value) (base : Heap) (k : Nat) (x : Str) (C : Addr) : Prop where
  err : ErrC K C
  no : PySem.W.findIn K (.ref C) "value" = some none
  ex : ∃ (f : Addr) (fd : FuncData) (ps : List Str), PySem.W.findIn K (.ref C) "__init__" = some (some (.ref f)) ∧ PySem.W.typeIn K (.ref f) = some (.type "function") ∧ FnOk P w K mg base CX0 k f fd ps (spErrI K) ∧ Binds K fd ps [] ∧ mg x = some (.ref C)
theorem ps_err {X : Cx} {W : WX} {k j : Nat} {x : Str} {C : Addr} {e : Expr} {t : TA} {p pos pos' : Pos} (c : MkR X.prog X.w X.K X.mg X.base k x C) (hc : X.calm = true) (tk : Takes X W) (hr : Room j X.A) (hk : k + 1 ≤ j) (hg : Gl X x) (ha : PA X [e] t)
    (hdb : (x == ("__debug__" : Str)) = false := by decide) (he : starEach [e] X.env = (false, eval e X.env) :: starEach [] X.env := by rfl) : PS X (.Raise (some (.Call (.Name x p) [e] [] pos)) none pos') (fun _ σ H => tMkO C (spErrI X.K) [] t σ H fun cls d H' => W cls d σ H') := by
  obtain ⟨f, fd, ps, i, ty, F, b, hm⟩ := c.ex
  exact ps_raise hc tk (pmk_oex c.err.oex i ty F (hr.mono hk) b .nil pass0 hg hm ha hdb he rfl)
theorem err_raise {C : Addr} {y : V} {Q : XK} {H1 : Hp} {vs : List V} (e : vs = [y]) (T : OexC K C) (no : PySem.W.findIn K (.ref C) "value" = some none) (q : ∀ d, H1 d = none → Q (.ref C) (some d) (upd H1 d (.xd [(("value" : Str), y)]))) :
    vs.length ≤ 1000 ∧ ∀ a, H1 a = none → spErrI K (.ref a :: (vs ++ [])) (upd H1 a (exo a C none))
      (fun v H2 => v = .non ∧ ∃ (d : Addr) (fs : List (Str × V)), H2 a = some (exo a C (some d)) ∧ H2 d = some (exd d fs) ∧ H1 d = none ∧ Q (.ref C) (some d) (upd (L2.del H2 a) d (.xd fs))) (fun _ _ _ => False) := by
  subst e
  refine ⟨(by show 1 ≤ 1000; decide), fun a ha => ⟨a, C, y, rfl, T, upd_same, no, fun dx hdx ne => ⟨rfl, dx, _, upd_same, by rw [upd_ne ne]; exact upd_same, ?_, ?_⟩⟩⟩
  · rw [upd_ne ne] at hdx
    exact hdx
  · have hd : H1 dx = none := by
      rw [upd_ne ne] at hdx
      exact hdx
    have e : upd (L2.del (upd (upd (upd H1 a (exo a C none)) dx (exd dx [(("value" : Str), y)])) a (exo a C (some dx))) a) dx (.xd [(("value" : Str), y)]) = upd H1 dx (.xd [(("value" : Str), y)]) := by
      funext b
      by_cases h1 : b = dx
      · rw [h1, upd_same, upd_same]
      · rw [upd_ne h1, upd_ne h1]
        by_cases h2 : b = a
        · rw [h2, del_same, ha]
        · rw [del_ne h2, upd_ne h2, upd_ne h1, upd_ne h2]
    rw [e]
    exact q dx hd
end
end Fr

namespace Fr
open PySem PySem.Spec PyProof.Rows L2
theorem sorted_one {ys zs : List Str} (p : ys.Perm zs) (h : sortedS ys = true) (k : sortedS zs = true) : ys = zs :=
  p.eq_of_pairwise (fun _ _ _ _ a b => str_antisymm a b) (sorted_pw h) (sorted_pw k)
def badN (d : Int) (gs : List (Str × List Int)) (x : Str) : Bool := match gs.lookup x with
  | none => true
  | some v => !decide ((v.length : Int) = d)
/-- the names that are wrong: of tables that are missing or have another number of integers, then keys of no table -/
def badS (d : Int) (names : List Str) (gs : List (Str × List Int)) (keys : List Str) : List Str := names.filter (badN d gs) ++ keys.filter fun x => !decide (x ∈ names)
theorem look_none {gs : List (Str × List Int)} {x : Str} (h : x ∉ gs.map (·.1)) : gs.lookup x = none := by
  cases e : gs.lookup x with
  | none => rfl
  | some v =>
    exfalso
    refine h ?_
    induction gs with
    | nil => cases e
    | cons g gs ih =>
      obtain ⟨y, w⟩ := g
      by_cases hx : x = y
      · rw [hx]
        exact List.mem_cons_self
      · rw [List.lookup_cons, beq_eq_false_iff_ne.mpr hx] at e
        exact List.mem_cons_of_mem _ (ih (fun z => h (List.mem_cons_of_mem _ z)) e)
theorem ShAt.val {K : PySem.W.Frag} {H : Hp} {x : Str} {kvs : List (Key × V)} {gs : List (Str × List Int)} (h : ShAt K H kvs gs) : (gs.lookup x = none ∧ valV kvs (Sum.inr x) = none) ∨ ∃ v u, gs.lookup x = some v ∧ valV kvs (Sum.inr x) = some u ∧ Dp K H u (.tuple (v.map .int)) := by
  cases e : gs.lookup x with
  | some v =>
    obtain ⟨u, f1, f2⟩ := h.get e
    exact .inr ⟨v, u, rfl, f1, f2⟩
  | none =>
    refine .inl ⟨rfl, ?_⟩
    induction gs generalizing kvs with
    | nil => cases h; rfl
    | cons g gs ih =>
      obtain ⟨y, w⟩ := g
      cases h with
      | @cons kv _ kvs _ h1 h2 =>
        obtain ⟨k, u⟩ := kv
        have h1' : k = Sum.inr y := h1.1
        subst h1'
        by_cases hx : x = y
        · subst hx
          rw [List.lookup_cons_self] at e
          cases e
        · rw [List.lookup_cons, beq_eq_false_iff_ne.mpr hx] at e
          rw [valV_neg (fun z => hx (Sum.inr.inj z).symm)]
          exact ih h2 e
theorem filter_step {α : Type} {p : α → Bool} {xs : List α} {i : Nat} {x : α} (h : (xs.take i).filter p = []) (e : xs[i]? = some x) : (p x = false ∧ (xs.take (i + 1)).filter p = []) ∨ (p x = true ∧ ∀ r, (xs.filter p ++ r).head? = some x) := by
  cases hp : p x with
  | false =>
    refine .inl ⟨rfl, ?_⟩
    rw [List.take_add_one, e, List.filter_append, h]
    simp [hp]
  | true =>
    refine .inr ⟨rfl, fun r => ?_⟩
    have hi := (List.getElem?_eq_some_iff.mp e).1
    have hs : xs.take i ++ x :: xs.drop (i + 1) = xs := by
      have z := List.drop_eq_getElem_cons hi
      rw [(List.getElem?_eq_some_iff.mp e).2] at z
      rw [← z, List.take_append_drop]
    rw [← hs, List.filter_append, h, List.filter_cons_of_pos hp]
    rfl
section
variable {P : Program} {w : World} {K : PySem.W.Frag} {mg : Str → Option Value} {base : Heap}
def spCheckShX (K : PySem.W.Frag) (C CS : Addr) : Sp := fun vs H Q E => ∃ (s dd : Addr) (d m : Int) (ts : List Tb) (kvs : List (Key × V)) (gs : List (Str × List Int)) (keys : List Str) (y : Str), vs = [.ref s, .ref dd] ∧ SysAt K C H s d m ts ∧ H dd = some (.dK kvs) ∧ ShAt K H kvs gs ∧ gs.length ≤ 60 ∧
  keys.Perm (gs.map (·.1)) ∧ sortedS keys = true ∧ (badS d (ts.map (·.n)) gs keys).head? = some y ∧ ∀ e H', Same H H' → H' e = some (.xd [(("value" : Str), .str y)]) → E (.ref CS) (some e) H'
theorem ok_check_shX {f C CS : Addr} {fd : FuncData} (F : Fun K "check_shifts" "check_shifts" s_check_shifts f fd) (T : Txt mg) (p_names : Prp P w K mg base 1 C "names" (spNames K C)) (p_dimensions : Prp P w K mg base 1 C "dimensions" (spDims K C)) (r_InvalidShifts : MkR P w K mg base 1 "InvalidShifts" CS) : FnOk P w K mg base (L2.CX P w) 3 f fd ["system", "shifts"] (spCheckShX K C CS) := by
  refine fun_okX F sc_check_shifts (fun vs H Q E h => ?_) (fun cdv A outer sh H vs Q E hr h => ?_)
  · obtain ⟨s, dd, d, m, ts, kvs, gs, keys, y, rfl, _⟩ := h
    rfl
  · obtain ⟨s, dd, d, m, ts, kvs, gs, keys, y, rfl, S, hd, hk, hgl, kp, ks, hy, q⟩ := h
    have hu := hu_of hr
    refine ⟨_, (pss_cons (ps_for (passes_of rfl) rfl (pi_list (pe_pr (pv 0) p_names hr (by decide) rfl)) (pg_name (i := 2) sc_check_shifts.nd rfl (by first | exact Or.inl rfl | exact Or.inr rfl))
    (pss_one (ps_if (PW.pt (pw_or (pt_cmp (pc_dnotin hu (pv 2) (pv 1))) (pw_or1 (pt_cmpR op_ne (pe_callB call_len_seq (by rfl) T.b_len PySem.boot_len (pa_cons (pe_dget hu (pv 1) (pv 2) (fun _ _ => rfl)) pa_nil)) (pe_pr (pv 0) p_dimensions hr (by decide) rfl) (nomark _)))))
      (pss_one (ps_err r_InvalidShifts rfl (takes_of rfl rfl rfl rfl) hr (by decide) (by rfl) (pa_cons (pv 2) pa_nil)))
      pss_nil)))
  (pss_one (ps_for (passes_of rfl) rfl (pi_list (pe_callB (call_sortedD rfl) (by rfl) T.b_sorted (by decide +kernel) (pa_cons (pv 1) pa_nil))) (pg_name (i := 2) sc_check_shifts.nd rfl (by first | exact Or.inl rfl | exact Or.inr rfl))
    (pss_one (ps_if (pt_cmpR op_notIn_seq (pv 2) (pe_pr (pv 0) p_names hr (by decide) rfl) (by rfl))
      (pss_one (ps_err r_InvalidShifts rfl (takes_of rfl rfl rfl rfl) hr (by decide) (by rfl) (pa_cons (pv 2) pa_nil)))
      pss_nil))))), ?_⟩
    obtain ⟨dx, t, tkv, h1, h2, h3⟩ := id S.ob
    have en : (ts.map fun t => V.str t.n) = (ts.map (·.n)).map V.str := by
      rw [List.map_map]
      rfl
    refine ⟨_, rfl, s, dx, _, rfl, h1, s, d, m, ts, rfl, S, fun p H0 hp s0 hp0 => ⟨p, rfl, ⟨_, Or.inl (Or.inl hp0)⟩, ?_⟩⟩
    rw [en] at hp0
    refine for_it (walk_list (K := K) (a := p) (xs := (ts.map (·.n)).map V.str)) (fun i σ H' => ∃ y2, σ = [some (.ref s), some (.ref dd), y2] ∧ Same H0 H' ∧ ((ts.map (·.n)).take i).filter (badN d gs) = []) ⟨none, rfl, same_refl, by rw [List.take_zero]; rfl⟩ (fun i σ H' _ ⟨_, _, b, _⟩ => Or.inl (Or.inl (b _ _ hp0))) ?_ ?_
    · rintro i z σ _ H1 hi ⟨y2, rfl, b, nb⟩ ⟨rfl, hz⟩
      rw [List.getElem?_map] at hz
      obtain ⟨x, hx, rfl⟩ := Option.map_eq_some_iff.mp hz
      have s1 := same_tr s0 b
      have hd1 := s1 _ _ hd
      have hk1 := hk.mono (.of s1)
      have fs := filter_step nb hx
      have bad : badN d gs x = true → ∀ (e : Addr) (H' : Hp), Same H1 H' → H' e = some (.xd [(("value" : Str), .str x)]) → E (.ref CS) (some e) H' := fun hb e H' s2 he => by
        rcases fs with ⟨z, _⟩ | ⟨_, z⟩
        · rw [z] at hb
          cases hb
        · have w := z (keys.filter fun x => !decide (x ∈ ts.map (·.n)))
          have w' : (badS d (ts.map (·.n)) gs keys).head? = some x := w
          rw [w'] at hy
          cases hy
          exact q e H' (same_tr s1 s2) he
      have good : badN d gs x = false → ((ts.map (·.n)).take (i + 1)).filter (badN d gs) = [] := fun hb => by
        rcases fs with ⟨_, z⟩ | ⟨z, _⟩
        · exact z
        · rw [z] at hb
          cases hb
      refine ⟨_, rfl, _, rfl, dd, valV kvs (Sum.inr x), rfl, .inl ⟨kvs, Sum.inr x, .inl hd1, rfl, rfl⟩, _, rfl, ?_⟩
      rcases hk1.val (x := x) with ⟨l1, l2⟩ | ⟨v, u, l1, l2, l3⟩
      · rw [l2]
        refine iteT ?_
        refine ⟨_, rfl, err_raise rfl r_InvalidShifts.err.oex r_InvalidShifts.no fun e he => bad (by unfold badN; rw [l1]) e _ (snew he) upd_same⟩
      · rw [l2]
        refine iteF ?_
        obtain ⟨ua, us, rfl, ut, ud⟩ := dtup l3
        obtain rfl := dps_ints ud
        have g := DGet.k (k := Sum.inr x) hd1
        rw [l2] at g
        refine ⟨_, rfl, _, rfl, dd, _, rfl, g, ua, _, rfl, Or.inr ut, _, rfl, s, dx, _, rfl, s1 _ _ h1, s, d, m, ts, rfl, S.mono s1, rfl, _, rfl, ?_⟩
        rw [List.length_map]
        cases hb : decide ((v.length : Int) = d) with
        | true =>
          rw [dec_int, hb]
          exact iteF ⟨_, rfl, b, good (by unfold badN; rw [l1]; simp [hb])⟩
        | false =>
          rw [dec_int, hb]
          refine iteT ?_
          exact ⟨_, rfl, err_raise rfl r_InvalidShifts.err.oex r_InvalidShifts.no fun e he => bad (by unfold badN; rw [l1]; simp [hb]) e _ (snew he) upd_same⟩
    · rintro σ H1 ⟨y2, rfl, b, nb⟩
      rw [List.length_map, List.take_length] at nb
      have hyk : (keys.filter fun x => !decide (x ∈ ts.map (·.n))).head? = some y := by
        have z : badS d (ts.map (·.n)) gs keys = keys.filter fun x => !decide (x ∈ ts.map (·.n)) := by
          unfold badS
          rw [nb]
          rfl
        rw [z] at hy
        exact hy
      have s1 := same_tr s0 b
      have hd1 := s1 _ _ hd
      refine ⟨_, rfl, dd, kvs, gs.map (·.1), rfl, Or.inl hd1, hk.keys, by rw [List.length_map]; omega, fun ys p2 perm so hp2 => ?_⟩
      obtain rfl := sorted_one (perm.trans kp.symm) so ks
      refine ⟨p2, rfl, ⟨_, Or.inl (Or.inl upd_same)⟩, ?_⟩
      have s2 := snew (o := .lst (ys.map V.str)) hp2
      have a2 : (upd H1 p2 (.lst (ys.map V.str))) p2 = some (.lst (ys.map V.str)) := upd_same
      generalize upd H1 p2 (.lst (ys.map V.str)) = H2 at s2 a2
      refine for_it (walk_list (K := K) (a := p2) (xs := ys.map V.str)) (fun i σ H' => ∃ y2, σ = [some (.ref s), some (.ref dd), y2] ∧ Same H2 H' ∧ (ys.take i).filter (fun x => !decide (x ∈ ts.map (·.n))) = []) ⟨_, rfl, same_refl, by rw [List.take_zero]; rfl⟩ (fun i σ H' _ ⟨_, _, b, _⟩ => Or.inl (Or.inl (b _ _ a2))) ?_ ?_
      · rintro i z σ _ H3 hi ⟨y2, rfl, b3, nb3⟩ ⟨rfl, hz⟩
        rw [List.getElem?_map] at hz
        obtain ⟨x, hx, rfl⟩ := Option.map_eq_some_iff.mp hz
        have s3 := same_tr s1 (same_tr s2 b3)
        refine ⟨_, rfl, _, rfl, s, dx, _, rfl, s3 _ _ h1, s, d, m, ts, rfl, S.mono s3, fun p4 H4 hp4 s4 hl4 => ?_⟩
        refine ⟨p4, _, rfl, Or.inl (Or.inl (Or.inl hl4)), rfl, ?_, ?_⟩
        · rw [en]
          exact flat_strs _
        · rw [en]
          rcases filter_step nb3 hx with ⟨z1, z2⟩ | ⟨z1, z2⟩
          · have hm : x ∈ ts.map (·.n) := by simpa using z1
            rw [inV_str hm]
            exact ⟨_, rfl, iteF ⟨_, rfl, same_tr b3 s4, z2⟩⟩
          · have hm : x ∉ ts.map (·.n) := by simpa using z1
            rw [inV_no hm]
            refine ⟨_, rfl, iteT ?_⟩
            have w := z2 []
            rw [List.append_nil, hyk] at w
            cases w
            exact ⟨_, rfl, err_raise rfl r_InvalidShifts.err.oex r_InvalidShifts.no fun e he => q e _ (same_tr s3 (same_tr s4 (snew he))) upd_same⟩
      · rintro σ H3 ⟨y2, rfl, b3, nb3⟩
        rw [List.length_map, List.take_length] at nb3
        rw [nb3] at hyk
        cases hyk
def spCheckShB (K : PySem.W.Frag) (C CS : Addr) : Sp := fun vs H Q E => spCheckSh K C vs H Q E ∨ spCheckShX K C CS vs H Q E
def spShiftedB (K : PySem.W.Frag) (C CS : Addr) (TT : List (Addr × Str)) : Sp := fun vs H Q E => spShifted K C TT vs H Q E ∨ spCheckShX K C CS vs H Q E
theorem ok_shiftedX {f C CS : Addr} {fd : FuncData} {TT : List (Addr × Str)} (F : Fun K "shifted" "shifted" s_shifted f fd) (T : Txt mg) (TC : TxtC K mg C) (p_names : Prp P w K mg base 1 C "names" (spNames K C)) (x_check_shifts : CalX P w K mg base 3 "check_shifts" (spCheckShB K C CS)) (t_reads : C8.Met P w K mg base 4 C "reads" (spReads K C) []) (t_constant : C8.Met P w K mg base 4 C "constant" (spConst K C) [])
    (c_moved : C8.Cal P w K mg base 1 "moved" (spMoved K) []) (t_with_table : C8.Met P w K mg base 8 C "with_table" (spWT K C TT) []) : FnOk P w K mg base (L2.CX P w) 9 f fd ["system", "shifts"] (spCheckShX K C CS) := by
  refine fun_okX F sc_shifted (fun vs H Q E h => ?_) (fun cdv A outer sh H vs Q E hr h => ?_)
  · obtain ⟨s, dd, d, m, ts, kvs, gs, keys, y, rfl, _⟩ := h
    rfl
  · have hu := hu_of hr
    refine ⟨_, (pss_cons (ps_expr (pe_cx x_check_shifts hr (by decide) (by rfl) (takes_of rfl rfl rfl rfl) (pa_cons (pv 0) (pa_cons (pv 1) pa_nil))))
  (pss_cons (ps_set (i := 2) sc_shifted.nd rfl (by first | exact Or.inl rfl | exact Or.inr rfl) (pv 0))
  (pss_cons (ps_for (passes_of rfl) rfl (pi_list (pe_pr (pv 0) p_names hr (by decide) rfl)) (pg_name (i := 3) sc_shifted.nd rfl (by first | exact Or.inl rfl | exact Or.inr rfl))
    (pss_cons (ps_setLc (i := 4) (own := [("table", 5), ("vector", 6), ("factor", 7)]) (g := gTup K 3 (gCons (gName 5) (gCons (gName 6) (gCons (gName 7) gNil)))) (tt := tYes) (by rfl) sc_shifted.nd rfl rfl (sw_true rfl rfl rfl (by decide +kernel)) (pi_list (C8.pe_mt t_reads hr (by decide) (pv 0) (pa_cons (pv 3) pa_nil))) (blkOk_by (N := ["system", "shifts", "made", "name", "reads", "table", "vector", "factor"]) (sc := defScope s_shifted) (by decide +kernel)) (fun _ _ _ _ _ => (pg_tup rfl (pgs_cons (pg_name (i := 5) sc_shifted.nd rfl (by first | exact Or.inl rfl | exact Or.inr rfl)) (pgs_cons (pg_name (i := 6) sc_shifted.nd rfl (by first | exact Or.inl rfl | exact Or.inr rfl)) (pgs_cons (pg_name (i := 7) sc_shifted.nd rfl (by first | exact Or.inl rfl | exact Or.inr rfl)) pgs_nil))))) (fun _ _ _ _ _ => pts_nil) (fun _ _ _ _ _ => (pe_tup (pa_cons (pv 5) (pa_cons (C8.pe_c c_moved hr (by decide) (by rfl) (pa_cons (pv 6) (pa_cons (pe_dget hu (pv 1) (pv 3) (fun _ _ => rfl)) (pa_cons (pe_dget hu (pv 1) (pv 5) (fun _ _ => rfl)) pa_nil)))) (pa_cons (pv 7) pa_nil))))))
    (pss_one (ps_set (i := 2) sc_shifted.nd rfl (by first | exact Or.inl rfl | exact Or.inr rfl) (C8.pe_mt t_with_table hr (by decide) (pv 2) (pa_cons (pv 3) (pa_cons (C8.pe_mt t_constant hr (by decide) (pv 0) (pa_cons (pv 3) pa_nil)) (pa_cons (pv 4) pa_nil))))))))
  (pss_one (ps_ret (pv 2)))))), ?_⟩
    obtain ⟨s, dd, d, m, ts, kvs, gs, keys, y, rfl, S, hd, hk, hgl, kp, ks, hy, q⟩ := h
    exact ⟨_, rfl, _, rfl, Or.inr ⟨s, dd, d, m, ts, kvs, gs, keys, y, rfl, S, hd, hk, hgl, kp, ks, hy, q⟩⟩
end
end Fr

namespace Fr
open PySem PySem.Spec PyProof.Rows L2
section
variable {X : Cx}
/-- l.count(y), flat items -/
def rCountF (K : PySem.W.Frag) : V → List V → Hp → VK → Prop := fun x xs H Q => ∃ (a : Addr) (ys : List V) (y : V), x = .ref a ∧ xs = [y] ∧ SqL K H a ys ∧ flatV y = true ∧ ys.all flatV = true ∧ Q (.int (ys.countP (fun z => eqV z y) : Nat)) H
theorem countP_vals {y : V} : ∀ {ys : List V} {us : List Value}, Vals ys us → ys.all flatV = true → us.countP (eqU y) = ys.countP (fun z => eqV z y)
  | _, _, .nil, _ => rfl
  | z :: ys, u :: us, .cons r t, f => by
    rw [List.all_cons, Bool.and_eq_true] at f
    rw [List.countP_cons, List.countP_cons, countP_vals t f.2, eqU_of r f.1]
theorem mt_countF : MtR X "list.count" (rCountF X.K) := by
  intro pins s σ H x xs v us Q I rx rxs h
  obtain ⟨a, ys, y, rfl, rfl, hs, fy, fys, q⟩ := h
  cases rx
  obtain ⟨uy, rfl, ry⟩ := vals1 rxs
  obtain ⟨its, rv, ⟨⟨cls, dd, data, sl⟩, n, ho, hc, hdn, hd⟩, hlen⟩ := I.list hs
  simp only at hc hd
  subst hc hd
  refine call_meets PySem.F.slot_list_count ⟨_, ho, rfl⟩ PySem.F.entry_list_count (PySem.F.args_list_count_2 _ _)
    (SeqAt.list_countAt a its.toArray n dd sl uy (eqU y)) ⟨ho, fun u' hu' => mem_eqAt ry fy rv fys u' (by simpa using hu'), ?_⟩
  rw [show its.toArray.toList = its from rfl, countP_vals rv fys]
  exact ⟨.int _, H, I.tok _, ⟨_, rfl⟩, q⟩
end
structure TxX (mg : Str → Option Value) (c : Nat → Addr) : Prop where
  b_ValueError : mg "ValueError" = none
  g_InvalidSystem : mg "InvalidSystem" = some (.ref (c 0))
  g_InvalidName : mg "InvalidName" = some (.ref (c 1))
  g_InvalidAxes : mg "InvalidAxes" = some (.ref (c 2))
  g_UnknownTable : mg "UnknownTable" = some (.ref (c 3))
  g_InvalidCell : mg "InvalidCell" = some (.ref (c 4))
  g_InvalidRead : mg "InvalidRead" = some (.ref (c 5))
  g_InvalidShifts : mg "InvalidShifts" = some (.ref (c 6))
  g_InvalidNumber : mg "InvalidNumber" = some (.ref (c 7))
  g_NotReady : mg "NotReady" = some (.ref (c 8))
  g_NoFar : mg "NoFar" = some (.ref (c 9))
  g_NothingToUndo : mg "NothingToUndo" = some (.ref (c 10))
  g_Unreadable : mg "Unreadable" = some (.ref (c 11))
  g_ReadError : mg "ReadError" = some (.ref (c 12))
theorem relvTy (n : String) : L2.RelV (.ty n) (.type n) := rfl
abbrev s_Lkind : Stmt := topS 38
theorem sc_Lkind : FnScope ["_law_caught", "_law_some", "_law_odd"] ["_law_caught"] (defScope s_Lkind) := ⟨rfl, rfl, rfl, by decide +kernel, rfl, by decide +kernel, by decide +kernel⟩
-- slots: 0 _law_caught, 1 _law_some, 2 _law_odd
section
variable {P : Program} {w : World} {K : PySem.W.Frag} {mg : Str → Option Value} {base : Heap} {c : Nat → Addr}
/-- what isinstance says of the class number i of the errors -/
structure KitE (K : PySem.W.Frag) (c : Nat → Addr) (i : Nat) : Prop where
  own : ∀ j, j < 13 → PySem.W.kitOne K (.ref (c i)) (.ref (c j)) = some (decide (j = i) || decide (j = 12))
  val : PySem.W.kitOne K (.ref (c i)) (.type "ValueError") = some true
def kinds : List Str := ["table", "cell", "read", "shifts", "number", "ready"]
def bsOf (i : Nat) : List V := [3, 4, 5, 6, 7, 8].map fun j => V.bl (decide (j = i) || decide (j = 12))
theorem kind_facts : ∀ i ∈ List.range 9, 3 ≤ i → (bsOf i).countP (fun z => eqV z (.bl true)) = 1 ∧ (bsOf i)[i - 3]? = some (.bl true) ∧ ∀ m ∈ List.range (i - 3), (bsOf i)[m]? = some (.bl false) := by decide +kernel
theorem kind_split : Txt.split (Str.ofString "table cell read shifts number ready") (Str.ofString " ") = kinds := by decide +kernel
theorem kind_at : ∀ i ∈ List.range 9, 3 ≤ i → atI (kinds.map V.str) ((i - 3 : Nat) : Int) = some (.str (kinds[i - 3]?.getD "odd")) := by decide +kernel
def spKind (K : PySem.W.Frag) (c : Nat → Addr) : Sp := fun vs H Q _ => ∃ (a : Addr) (fs : List (Str × V)) (i : Nat), vs = [.ref a] ∧ 3 ≤ i ∧ i ≤ 8 ∧ ErrC K (c i) ∧ KitE K c i ∧ ErrQ H a (c i) fs ∧ ∀ H', Same H H' → Q (.str (kinds[i - 3]?.getD "odd")) H'
theorem ok_kind {f : Addr} {fd : FuncData} (F : Fun K "_law_kind" "_law_kind" s_Lkind f fd) (T : Txt mg) (TE : TxX mg c) (zi : mg "isinstance" = none) : FnOk P w K mg base CX0 1 f fd ["_law_caught"] (spKind K c) := by
  refine F.ok sc_Lkind (fun vs H Q E h => ?_) (fun cdv A outer sh H vs Q E hr h => ?_)
  · obtain ⟨a, fs, i, rfl, _⟩ := h
    rfl
  · obtain ⟨a, fs, i, rfl, i3, i8, EC, KE, EQ, q⟩ := h
    refine ⟨_, (pss_cons (ps_set (i := 1) sc_Lkind.nd rfl (by first | exact Or.inl rfl | exact Or.inr rfl) (pe_lst (pa_cons (pe_callB call_isQ (by rfl) zi (by decide +kernel) (pa_cons (pv 0) (pa_cons (pe_glob (v := .ref (c 3)) (by rfl) TE.g_UnknownTable rfl) pa_nil))) (pa_cons (pe_callB call_isQ (by rfl) zi (by decide +kernel) (pa_cons (pv 0) (pa_cons (pe_glob (v := .ref (c 4)) (by rfl) TE.g_InvalidCell rfl) pa_nil))) (pa_cons (pe_callB call_isQ (by rfl) zi (by decide +kernel) (pa_cons (pv 0) (pa_cons (pe_glob (v := .ref (c 5)) (by rfl) TE.g_InvalidRead rfl) pa_nil))) pa_nil)))))
  (pss_cons (ps_set (i := 1) sc_Lkind.nd rfl (by first | exact Or.inl rfl | exact Or.inr rfl) (pe_op op_cat (pv 1) (pe_lst (pa_cons (pe_callB call_isQ (by rfl) zi (by decide +kernel) (pa_cons (pv 0) (pa_cons (pe_glob (v := .ref (c 6)) (by rfl) TE.g_InvalidShifts rfl) pa_nil))) (pa_cons (pe_callB call_isQ (by rfl) zi (by decide +kernel) (pa_cons (pv 0) (pa_cons (pe_glob (v := .ref (c 7)) (by rfl) TE.g_InvalidNumber rfl) pa_nil))) (pa_cons (pe_callB call_isQ (by rfl) zi (by decide +kernel) (pa_cons (pv 0) (pa_cons (pe_glob (v := .ref (c 8)) (by rfl) TE.g_NotReady rfl) pa_nil))) pa_nil))))))
  (pss_cons (ps_set (i := 2) sc_Lkind.nd rfl (by first | exact Or.inl rfl | exact Or.inr rfl) (pe_callB call_isQT (by rfl) zi (by decide +kernel) (pa_cons (pv 0) (pa_cons (pe_tup (pa_cons (pe_glob (v := .ref (c 0)) (by rfl) TE.g_InvalidSystem rfl) (pa_cons (pe_glob (v := .ref (c 1)) (by rfl) TE.g_InvalidName rfl) (pa_cons (pe_glob (v := .ref (c 2)) (by rfl) TE.g_InvalidAxes rfl) (pa_cons (pe_glob (v := .ref (c 9)) (by rfl) TE.g_NoFar rfl) (pa_cons (pe_glob (v := .ref (c 10)) (by rfl) TE.g_NothingToUndo rfl) (pa_cons (pe_glob (v := .ref (c 11)) (by rfl) TE.g_Unreadable rfl) pa_nil))))))) pa_nil))))
  (pss_cons (ps_if (PW.pt (pw_or (pt_truth (pv 2) (by intro _; rfl)) (pw_or (pt_not (pt_val (pe_callB call_isQ (by rfl) zi (by decide +kernel) (pa_cons (pv 0) (pa_cons (pe_glob (v := .ref (c 12)) (by rfl) TE.g_ReadError rfl) pa_nil))))) (pw_or (pt_not (pt_val (pe_callB call_isQ (by rfl) zi (by decide +kernel) (pa_cons (pv 0) (pa_cons (pe_bltn (by rfl) TE.b_ValueError (by decide +kernel) (relvTy "ValueError")) pa_nil))))) (pw_or1 (pt_cmpR (op_neD hr.units) (pe_bm PySem.F.plainAttrs_list PySem.F.slot_list_count PySem.F.type_list_count mt_countF (pv 1) (pa_cons pe_bl pa_nil)) pe_int (nomark _)))))))
    (pss_one (ps_ret pe_str))
    pss_nil)
  (pss_one (ps_ret (pe_ix ix_list (pe_bm PySem.F.plainAttrs_str PySem.F.slot_str_split PySem.F.type_str_split mt_split pe_str (pa_cons pe_str pa_nil)) (pe_bm PySem.F.plainAttrs_list PySem.F.slot_list_index PySem.F.type_list_index L2.mt_index (pv 1) (pa_cons pe_bl pa_nil)) (fun _ _ => rfl)))))))), ?_⟩
    have z3 : 3 ≤ sizeLine := by decide
    obtain ⟨b, hb⟩ : ∃ b : Nat → Bool, b = fun j => decide (j = i) || decide (j = 12) := ⟨_, rfl⟩
    have hk : ∀ j, j < 13 → PySem.W.kitOne K (.ref (c i)) (.ref (c j)) = some (b j) := by rw [hb]; exact KE.own
    refine ⟨_, rfl, a, _, fs, _, _, b 3, rfl, EC, EQ, .own _, hk 3 (by decide), _, rfl, a, _, fs, _, _, b 4, rfl, EC, EQ, .own _, hk 4 (by decide), _, rfl, a, _, fs, _, _, b 5, rfl, EC, EQ, .own _, hk 5 (by decide), z3, fun l1 hl1 => ?_⟩
    have s1 := snew (o := HO.lst [.bl (b 3), .bl (b 4), .bl (b 5)]) hl1
    have e1 := EQ.mono s1
    have k1 : (upd H l1 (.lst [.bl (b 3), .bl (b 4), .bl (b 5)])) l1 = some (.lst [.bl (b 3), .bl (b 4), .bl (b 5)]) := upd_same
    generalize upd H l1 (.lst [.bl (b 3), .bl (b 4), .bl (b 5)]) = H1 at s1 e1 k1
    refine ⟨_, rfl, _, rfl, a, _, fs, _, _, b 6, rfl, EC, e1, .own _, hk 6 (by decide), _, rfl, a, _, fs, _, _, b 7, rfl, EC, e1, .own _, hk 7 (by decide), _, rfl, a, _, fs, _, _, b 8, rfl, EC, e1, .own _, hk 8 (by decide), z3, fun l2 hl2 => ?_⟩
    have s2 := snew (o := HO.lst [.bl (b 6), .bl (b 7), .bl (b 8)]) hl2
    have e2 := e1.mono s2
    refine ⟨l1, l2, _, _, rfl, rfl, s2 _ _ k1, upd_same, (by show 3 + 3 ≤ sizeLine; decide), fun l3 hl3 => ?_⟩
    have s3 := same_tr s1 (same_tr s2 (snew (o := HO.lst ([.bl (b 3), .bl (b 4), .bl (b 5)] ++ [.bl (b 6), .bl (b 7), .bl (b 8)])) hl3))
    have e3 := e2.mono (snew (o := HO.lst ([.bl (b 3), .bl (b 4), .bl (b 5)] ++ [.bl (b 6), .bl (b 7), .bl (b 8)])) hl3)
    have k3 : (upd (upd H1 l2 (.lst [.bl (b 6), .bl (b 7), .bl (b 8)])) l3 (.lst ([.bl (b 3), .bl (b 4), .bl (b 5)] ++ [.bl (b 6), .bl (b 7), .bl (b 8)]))) l3 = some (.lst ([.bl (b 3), .bl (b 4), .bl (b 5)] ++ [.bl (b 6), .bl (b 7), .bl (b 8)])) := upd_same
    generalize upd (upd H1 l2 (.lst [.bl (b 6), .bl (b 7), .bl (b 8)])) l3 (.lst ([.bl (b 3), .bl (b 4), .bl (b 5)] ++ [.bl (b 6), .bl (b 7), .bl (b 8)])) = H3 at s3 e3 k3
    clear s1 e1 k1 s2 e2 hl1 hl2 hl3
    -- odd
    refine ⟨_, rfl, (by show 6 ≤ sizeLine; decide), fun t ht => ?_⟩
    have s4 := same_tr s3 (snew (o := .tup [.ref (c 0), .ref (c 1), .ref (c 2), .ref (c 9), .ref (c 10), .ref (c 11)]) ht)
    have e4 := e3.mono (snew (o := .tup [.ref (c 0), .ref (c 1), .ref (c 2), .ref (c 9), .ref (c 10), .ref (c 11)]) ht)
    have k4 := snew (o := .tup [.ref (c 0), .ref (c 1), .ref (c 2), .ref (c 9), .ref (c 10), .ref (c 11)]) ht _ _ k3
    refine ⟨a, _, t, fs, _, _, false, rfl, EC, e4, upd_same, .cons (.own _) (.cons (.own _) (.cons (.own _) (.cons (.own _) (.cons (.own _) (.cons (.own _) .nil))))), ?_, ?_⟩
    · have nb : ∀ j, j < 13 → j ≠ 12 → ¬ (3 ≤ j ∧ j ≤ 8) → PySem.W.kitOne K (.ref (c i)) (.ref (c j)) = some false := fun j h1 h2 h3 => by
        rw [KE.own j h1, decide_eq_false (by omega), decide_eq_false h2]
        rfl
      have cons : ∀ {j : Nat} {us : List Value}, PySem.W.kitOne K (.ref (c i)) (.ref (c j)) = some false → PySem.W.kitAny K (.ref (c i)) us = some false → PySem.W.kitAny K (.ref (c i)) (.ref (c j) :: us) = some false := fun h1 h2 => kitAny_cons h1 (fun _ => h2) (fun z => by cases z)
      exact cons (nb 0 (by decide) (by decide) (by decide)) (cons (nb 1 (by decide) (by decide) (by decide)) (cons (nb 2 (by decide) (by decide) (by decide)) (cons (nb 9 (by decide) (by decide) (by decide)) (cons (nb 10 (by decide) (by decide) (by decide)) (cons (nb 11 (by decide) (by decide) (by decide)) kitAny_nil)))))
    generalize upd H3 t (.tup [.ref (c 0), .ref (c 1), .ref (c 2), .ref (c 9), .ref (c 10), .ref (c 11)]) = H4 at s4 e4 k4
    clear k3 s3 e3 ht
    have h12 : PySem.W.kitOne K (.ref (c i)) (.ref (c 12)) = some true := by
      rw [KE.own 12 (by decide), decide_eq_true (rfl : (12 : Nat) = 12), Bool.or_true]
    refine ⟨_, rfl, false, rfl, iteF ?_⟩
    refine ⟨_, rfl, a, _, fs, _, _, true, rfl, EC, e4, .own _, h12, _, rfl, iteF ?_⟩
    refine ⟨_, rfl, a, _, fs, _, _, true, rfl, EC, e4, .ty _, KE.val, _, rfl, iteF ?_⟩
    refine ⟨_, rfl, Or.inl ⟨rfl, _, Or.inl (Or.inl k4)⟩, l3, _, _, rfl, rfl, Or.inl (Or.inl k4), rfl, rfl, ?_⟩
    obtain ⟨f1, f2, f3⟩ := kind_facts i (List.mem_range.mpr (by omega)) i3
    have el : ([.bl (b 3), .bl (b 4), .bl (b 5)] ++ [.bl (b 6), .bl (b 7), .bl (b 8)] : List V) = bsOf i := by
      rw [hb]
      rfl
    rw [el] at k4 ⊢
    rw [f1]
    refine ⟨.int 1, .int 1, .int _, .int _, by decide, by decide, _, rfl, ?_⟩
    refine iteF ?_
    refine ⟨rfl, _, _, rfl, rfl, by decide, by decide, fun p hp => ?_⟩
    have s5 := same_tr s4 (snew (o := .lst ((Txt.split (Str.ofString "table cell read shifts number ready") (Str.ofString " ")).map V.str)) hp)
    have k5 := snew (o := .lst ((Txt.split (Str.ofString "table cell read shifts number ready") (Str.ofString " ")).map V.str)) hp _ _ k4
    have p5 : (upd H4 p (.lst ((Txt.split (Str.ofString "table cell read shifts number ready") (Str.ofString " ")).map V.str))) p = some (.lst (kinds.map V.str)) := by rw [upd_same, kind_split]
    refine ⟨_, rfl, Or.inl ⟨rfl, _, Or.inl (Or.inl k5)⟩, l3, bsOf i, .bl true, i - 3, .bl true, rfl, rfl, Or.inl (Or.inl k5), rfl, rfl, f2, rfl, fun m z hm hz => ?_, ?_⟩
    · rw [f3 m (List.mem_range.mpr hm)] at hz
      cases hz
      rfl
    · exact ⟨p, _, _, _, rfl, rfl, Or.inl (Or.inl p5), kind_at i (List.mem_range.mpr (by omega)) i3, q _ s5⟩
end
end Fr

namespace Fr
open PySem PySem.Spec PyProof.Rows L2
abbrev s_Ltold : Stmt := topS 39
theorem sc_Ltold : FnScope ["_law_made", "_law_moved", "_law_caught", "e"] ["_law_made", "_law_moved"] (defScope s_Ltold) := ⟨rfl, rfl, rfl, by decide +kernel, rfl, by decide +kernel, by decide +kernel⟩
-- slots: 0 _law_made, 1 _law_moved, 2 _law_caught, 3 e
theorem bad_nil {d : Int} {names : List Str} {gs : List (Str × List Int)} {keys : List Str} (h : badS d names gs keys = []) (n : (gs.map (·.1)).Nodup) (kp : keys.Perm (gs.map (·.1))) (few : gs.length ≤ 60) : ShOk d names gs := by
  unfold badS at h
  obtain ⟨h1, h2⟩ := List.append_eq_nil_iff.mp h
  have a1 : ∀ x ∈ names, ∃ v, gs.lookup x = some v ∧ (v.length : Int) = d := fun x hx => by
    have z := List.filter_eq_nil_iff.mp h1 x hx
    unfold badN at z
    cases e : gs.lookup x with
    | none => rw [e] at z; exact absurd rfl z
    | some v =>
      rw [e] at z
      exact ⟨v, rfl, by simpa using z⟩
  have a2 : ∀ x ∈ gs.map (·.1), x ∈ names := fun x hx => by
    have z := List.filter_eq_nil_iff.mp h2 x (kp.mem_iff.mpr hx)
    simpa using z
  refine ⟨fun x hx => ?_, a2, fun p hp => ?_, few⟩
  · obtain ⟨v, e, _⟩ := a1 x hx
    exact Decidable.byContradiction fun z => by
      rw [look_none z] at e
      cases e
  · obtain ⟨v, e, l⟩ := a1 p.1 (a2 _ (List.mem_map.mpr ⟨p, hp, rfl⟩))
    rw [look_mem n hp] at e
    cases e
    exact l
def toldV (bad : List Str) : List V := match bad with
  | [] => [.str "none", .non]
  | y :: _ => [.str "shifts", .str y]
section
variable {P : Program} {w : World} {K : PySem.W.Frag} {mg : Str → Option Value} {base : Heap} {c : Nat → Addr}
def spTold (K : PySem.W.Frag) (C : Addr) (TT : List (Addr × Str)) : Sp := fun vs H Q _ => ∃ (s dd : Addr) (d m : Int) (us : List Tb) (kvs : List (Key × V)) (gs : List (Str × List Int)) (keys : List Str), vs = [.ref s, .ref dd] ∧ SysAt K C H s d m (srt us) ∧ 1 ≤ d ∧ d ≤ 3 ∧ 2 ≤ m ∧ us.length ≤ 60 ∧ (us.map (·.n)).Nodup ∧
  (∀ t ∈ us, t.rs.length ≤ 100 ∧ ∀ r ∈ t.rs, r.t ∈ us.map (·.n) ∧ (r.v.length : Int) = d) ∧ H dd = some (.dK kvs) ∧ ShAt K H kvs gs ∧ (gs.map (·.1)).Nodup ∧ gs.length ≤ 60 ∧ keys.Perm (gs.map (·.1)) ∧ sortedS keys = true ∧ LamX.Tabs TT H ∧
  ∀ l H', LamX.ExtN H H' → LamX.Tabs TT H' → H' l = some (.lst (toldV (badS d ((srt us).map (·.n)) gs keys))) → Q (.ref l) H'
theorem ok_told {f C : Addr} {fd : FuncData} {TT : List (Addr × Str)} (F : Fun K "_law_told" "_law_told" s_Ltold f fd) (T : Txt mg) (TE : TxX mg c) (no : PySem.W.findIn K (.ref (c 6)) "value" = some none) (ec : ErrC K (c 6)) (ke : KitE K c 6) (hx : PySem.W.exmOne K (.ref (c 6)) (.ref (c 12)) = some true) (x_shifted : CalX P w K mg base 9 "shifted" (spShiftedB K C (c 6) TT)) (c_Lkind : C8.Cal P w K mg base 1 "_law_kind" (spKind K c) []) : FnOk P w K mg base CX0 10 f fd ["_law_made", "_law_moved"] (spTold K C TT) := by
  refine F.ok sc_Ltold (fun vs H Q E h => ?_) (fun cdv A outer sh H vs Q E hr h => ?_)
  · obtain ⟨s, dd, d, m, us, kvs, gs, keys, rfl, _⟩ := h
    rfl
  · obtain ⟨s, dd, d, m, us, kvs, gs, keys, rfl, S, hd1, hd3, hm2, hl, hnd, pre, hd, hk, gnd, hgl, kp, ks, hT, q⟩ := h
    refine ⟨_, (pss_cons (ps_set (i := 2) sc_Ltold.nd rfl (by first | exact Or.inl rfl | exact Or.inr rfl) pe_non)
  (pss_cons (ps_try_keep (i := 3) (j := 2) rfl rfl rfl sc_Ltold.nd rfl rfl rfl rfl (by decide) ⟨by rfl, by decide, .inl TE.g_ReadError⟩ (fun W pn xe tk pas => (pss_one (ps_expr (pe_cx x_shifted hr (by decide) (by rfl) tk (pa_cons (pv 0) (pa_cons (pv 1) pa_nil)))))))
  (pss_one (ps_ret (pe_ifExp (pt_cmpR op_isN (pv 2) pe_non (nomark _)) (pe_lst (pa_cons pe_str (pa_cons pe_non pa_nil))) (pe_lst (pa_cons (C8.pe_c c_Lkind hr (by decide) (by rfl) (pa_cons (pv 2) pa_nil)) (pa_cons (pe_errG (pv 2)) pa_nil)))))))), ?_⟩
    obtain ⟨bad, hbad⟩ : ∃ bad, bad = badS d ((srt us).map (·.n)) gs keys := ⟨_, rfl⟩
    rw [← hbad] at q
    cases hb : bad with
    | nil =>
      rw [hb] at q hbad
      have O := bad_nil hbad.symm gnd kp hgl
      have O' : ShOk d (us.map (·.n)) gs := ⟨fun x hx => O.all x (((srt_perm us).map (·.n)).mem_iff.mpr hx), fun x hx => ((srt_perm us).map (·.n)).mem_iff.mp (O.own x hx), O.len, O.few⟩
      refine ⟨_, rfl, _, rfl, Or.inl ⟨s, dd, d, m, us, kvs, gs, rfl, S, hd1, hd3, hm2, hl, hnd, pre, hd, hk, O', hT, fun x H1 X1 T1 S1 => ?_⟩⟩
      refine ⟨_, rfl, rfl, _, rfl, iteT ⟨(by show 2 ≤ sizeLine; decide), fun l hl1 => ?_⟩⟩
      exact q l _ (X1.trans (.of (snew hl1))) (T1.ext (snew hl1)) upd_same
    | cons y rest =>
      rw [hb] at q hbad
      refine ⟨_, rfl, _, rfl, Or.inr ⟨s, dd, d, m, srt us, kvs, gs, keys, y, rfl, S, hd, hk, hgl, kp, ks, by rw [← hbad]; rfl, fun e H1 s1 he => ?_⟩⟩
      refine ⟨hx, fun a ha => ?_⟩
      have ne : e ≠ a := ne_of_none he ha
      have s2 : Same H1 (upd H1 a (exq a (.ref (c 6)) (some e))) := snew ha
      have EQ : ErrQ (upd H1 a (exq a (.ref (c 6)) (some e))) a (c 6) [(("value" : Str), .str y)] := ⟨e, upd_same, s2 _ _ he⟩
      have sH := same_tr s1 s2
      generalize upd H1 a (exq a (.ref (c 6)) (some e)) = H2 at EQ sH
      refine ⟨_, rfl, rfl, _, rfl, iteF ?_⟩
      refine ⟨_, rfl, a, _, 6, rfl, by decide, by decide, ec, ke, EQ, fun H3 s3 => ?_⟩
      refine ⟨_, rfl, a, _, _, _, rfl, ec, EQ.mono s3, no, rfl, (by show 2 ≤ sizeLine; decide), fun l hl1 => ?_⟩
      have s4 := same_tr sH (same_tr s3 (snew (o := .lst [.str "shifts", .str y]) hl1))
      exact q l _ (.of s4) (hT.ext s4) upd_same
end
end Fr

namespace Fr
open PySem PySem.Spec PyProof.Rows L2
def shK (gs : List (Str × List Int)) : List (PyData × PyData) := gs.map fun g => (.str g.1, .tuple (g.2.map .int))
def shD (gs : List (Str × List Int)) : PyData := .dict (shK gs)
/-- texts that repr shows shortly -/
def NmOk (x : Str) : Prop := (x.cps.toList.all fun c => decide (c < 16 ^ 8)) = true ∧ x.cps.size ≤ 20
theorem sh_show {w : Nat} : ∀ gs : List (Str × List Int), (∀ g ∈ gs, NmOk g.1 ∧ Shw (.tuple (g.2.map .int)) 2 w) → PyData.showableKv (shK gs) = true ∧ PyData.depthKv (shK gs) ≤ 2 ∧ PyData.leavesShortKv 13 (shK gs) = true ∧ PyData.weightKv (shK gs) ≤ gs.length * (w + 30)
  | [], _ => by simp [shK, PyData.showableKv, PyData.depthKv, PyData.leavesShortKv, PyData.weightKv]
  | (a, v) :: gs, h => by
    obtain ⟨h1, h2, h3, h4⟩ := sh_show gs fun p hp => h p (List.mem_cons_of_mem _ hp)
    obtain ⟨⟨a1, a2⟩, b⟩ := h (a, v) List.mem_cons_self
    have b1 := b.sho
    have b2 := b.dep
    have b3 := PyData.leavesShort_of_canLay0 13 _ b.lay b.int
    have b4 := b.wt
    have a2' : a.cps.size ≤ 20 := a2
    simp only [shK, List.map_cons, PyData.showableKv, PyData.depthKv, PyData.leavesShortKv, PyData.weightKv, Bool.and_eq_true] at h1 h2 h3 h4 ⊢
    refine ⟨⟨⟨by simp [PyData.showable], b1⟩, h1⟩, ?_, ⟨⟨by simpa [PyData.leavesShort] using a1, b3⟩, h3⟩, ?_⟩
    · simp only [PyData.depth] at b2 ⊢
      omega
    · simp only [PyData.weight, List.length_cons] at b4 ⊢
      have e : (gs.length + 1) * (w + 30) = gs.length * (w + 30) + (w + 30) := Nat.succ_mul _ _
      rw [e]
      omega
theorem reads_nil {h : Heap} : ∀ {ns : List Int} {us : List Value} {as : List Addr}, ReadsAll h us (ns.map PyData.int) as → as = []
  | [], _, _, r => by cases r; rfl
  | n :: ns, _, _, r => by
    cases r with
    | cons r1 r2 =>
      rw [reads_nil r2]
      cases r1
      rfl
theorem reads_tup {h : Heap} {ns : List Int} {u : Value} {as : List Addr} (r : Reads h u (.tuple (ns.map PyData.int)) as) : as = [] := by
  cases r with
  | tuple _ _ _ q => exact reads_nil q
section
variable {X : Cx}
theorem reads_sh {pins : List (Addr × PySem.Obj)} {σ : L2.St} {H : Hp} {s : Shared} (I : Inv X pins σ H s) : ∀ (gs : List (Str × List Int)) (kvs : List (Key × V)) (vs : List (Key × Value)) (es : List DictEntry), ShAt X.K H kvs gs → KV kvs vs → PySem.Pairs (mixKind X.prog X.w) es vs →
    ReadsAll s.heap (es.map (·.key)) ((shK gs).map (·.1)) [] ∧ ReadsAll s.heap (es.map (·.val)) ((shK gs).map (·.2)) []
  | [], _, _, _, hs, hk, hp => by
    cases hs
    cases hk
    cases hp
    exact ⟨.nil, .nil⟩
  | (a, v) :: gs, _, _, _, hs, hk, hp => by
    cases hs with
    | @cons kw _ kws _ q1 q2 =>
      cases hk with
      | @cons _ kv _ kvs k1 k2 =>
        cases hp with
        | @cons e kv es _ p1 p2 p3 =>
          obtain ⟨i1, i2⟩ := reads_sh I gs _ _ _ q2 k2 p3
          obtain ⟨g1, g2⟩ := q1
          obtain ⟨ek, rv⟩ := k1
          have pk : keyIs (Sum.inr a) e.key = true := by
            have z : kw.1 = kv.1 := ek
            have z2 : kw.1 = Sum.inr a := g1
            rw [← z2, z]
            exact p1
          obtain ⟨t1, h1⟩ : ∃ t, e.key = Value.str a t := keyIs_rel pk
          obtain ⟨as, rd⟩ := Dp.reads I (.tuple (v.map .int)) _ _ g2 rv
          obtain rfl := reads_tup rd
          refine ⟨?_, ?_⟩
          · show ReadsAll s.heap (e.key :: es.map (·.key)) (.str a :: (shK gs).map (·.1)) []
            rw [h1]
            exact ReadsAll.cons (as := []) (bs := []) (.str a t1) i1
          · show ReadsAll s.heap (e.val :: es.map (·.val)) (.tuple (v.map .int) :: (shK gs).map (·.2)) []
            rw [p2]
            exact ReadsAll.cons (as := []) (bs := []) rd i2
def ShShort (gs : List (Str × List Int)) : Prop := gs.length ≤ 100 ∧ ∀ g ∈ gs, NmOk g.1 ∧ g.2.length ≤ 10 ∧ ∀ x ∈ g.2, -1000 ≤ x ∧ x ≤ 1000
def rReprSh (K : PySem.W.Frag) : List V → Hp → VK → Prop := fun xs H Q => ∃ (a : Addr) (kvs : List (Key × V)) (gs : List (Str × List Int)), xs = [.ref a] ∧ H a = some (.dK kvs) ∧ ShAt K H kvs gs ∧ ShShort gs ∧ Q (.str (shD gs).shown) H
theorem call_reprSh (hg : X.A.guards = some []) (hu : X.A.units + 65 < cLine) : CallR X (.builtin "repr") (rReprSh X.K) := by
  intro pins s σ H xs us Q I r h
  obtain ⟨a, kvs, gs, rfl, ha, hs, ⟨hl, hn⟩, q⟩ := h
  obtain ⟨u, rfl, ru⟩ := vals1 r
  cases (show u = Value.ref a from ru)
  obtain ⟨z, lo, vs, rk, hdd⟩ := (show ObjOk X.prog X.w H s.heap a (.dK kvs) from I.hok a _ ha)
  obtain ⟨ep, o, es, ho, hx, hdat, hk, hp, hnd⟩ := hdd.dictAt
  obtain ⟨i1, i2⟩ := reads_sh I gs kvs vs es.toList hs rk hp
  have rd : Reads s.heap (.ref a) (shD gs) (a :: [] ++ []) := Reads.dict ho hx.1 hdat i1 i2
  obtain ⟨w1, w2, w3, w4⟩ := sh_show (w := 410) gs fun g hg => ⟨(hn g hg).1, (Shw.tup (k := 0) (ShwA.map (w := 40) fun x hx => Shw.one (by have := (hn g hg).2.2 x hx; omega))).mono (by decide) (by have := (hn g hg).2.1; omega)⟩
  have hdep : (shD gs).depth ≤ 3 := by
    show PyData.depthKv (shK gs) + 1 ≤ 3
    omega
  have hsz : (shD gs).shown.length ≤ sizeLine := PyData.shown_fits (B := 13) (by decide) (by decide) w3 (by
    show PyData.weightKv (shK gs) ≤ 2 ^ 20
    have : gs.length * (410 + 30) ≤ 100 * 440 := Nat.mul_le_mul_right _ hl
    omega)
  refine repr_of_reads' rd w1 (fun _ hm => ?_) hg (by omega) (fun _ _ e => e) (fun h' t tk k => ⟨.str _, H, I.kept k, ⟨_, rfl⟩, q⟩) hsz
  rw [List.append_nil, List.mem_singleton] at hm
  exact absurd hm.symm (beq_eq_false_iff_ne.mp lo)
end
end Fr

namespace Fr
open PySem PySem.Spec PyProof.Rows L2
abbrev s_Lright : Stmt := topS 40
theorem sc_Lright : FnScope ["_law_pool_here", "_law_axes", "_law_tables_here", "_law_made", "_law_titles", "_law_one", "_law_moved", "_law_turn", "_law_title", "_law_way", "_law_bad", "_law_kept", "_law_due"] ["_law_pool_here"] (defScope s_Lright) := ⟨rfl, rfl, rfl, by decide +kernel, rfl, by decide +kernel, by decide +kernel⟩
-- slots: 0 _law_pool_here, 1 _law_axes, 2 _law_tables_here, 3 _law_made, 4 _law_titles, 5 _law_one, 6 _law_moved, 7 _law_turn, 8 _law_title, 9 _law_way, 10 _law_bad, 11 _law_kept, 12 _law_due
def putG (gs : List (Str × List Int)) (x : Str) (v : List Int) : List (Str × List Int) := if x ∈ gs.map (·.1) then gs.map fun g => if g.1 = x then (g.1, v) else g else gs ++ [(x, v)]
def dropG (gs : List (Str × List Int)) (x : Str) : List (Str × List Int) := gs.filter fun g => decide (g.1 ≠ x)
theorem ShAt.has {K : PySem.W.Frag} {H : Hp} {x : Str} : ∀ {kvs : List (Key × V)} {gs : List (Str × List Int)}, ShAt K H kvs gs → (kvs.any fun kv => decide (kv.1 = (Sum.inr x : Key))) = decide (x ∈ gs.map (·.1))
  | [], _, h => by cases h; rfl
  | kv :: kvs, _, h => by
    cases h with
    | @cons _ g _ gs h1 h2 =>
      rw [List.any_cons, ShAt.has h2, List.map_cons]
      by_cases e : x = g.1
      · rw [decide_eq_true (show kv.1 = (Sum.inr x : Key) by rw [h1.1, e]), decide_eq_true (show x ∈ g.1 :: gs.map (·.1) by rw [e]; exact List.mem_cons_self)]
        rfl
      · rw [decide_eq_false (show ¬ kv.1 = (Sum.inr x : Key) from fun z => e (Sum.inr.inj (h1.1.symm.trans z)).symm), Bool.false_or]
        exact decide_eq_decide.mpr ⟨fun z => List.mem_cons_of_mem _ z, fun z => (List.mem_cons.mp z).resolve_left e⟩
theorem ShAt.map {K : PySem.W.Frag} {H : Hp} {x : Str} {v : List Int} {u : V} (hu : Dp K H u (.tuple (v.map .int))) : ∀ {kvs : List (Key × V)} {gs : List (Str × List Int)}, ShAt K H kvs gs → ShAt K H (kvs.map fun kv => if kv.1 = (Sum.inr x : Key) then (kv.1, u) else kv) (gs.map fun g => if g.1 = x then (g.1, v) else g)
  | [], _, h => by cases h; exact .nil
  | kv :: kvs, _, h => by
    cases h with
    | @cons _ g _ gs h1 h2 =>
      rw [List.map_cons, List.map_cons]
      refine .cons ?_ (ShAt.map hu h2)
      by_cases e : g.1 = x
      · rw [if_pos (show kv.1 = (Sum.inr x : Key) by rw [h1.1, e]), if_pos e]
        exact ⟨h1.1, hu⟩
      · rw [if_neg (show ¬ kv.1 = (Sum.inr x : Key) from fun z => e (Sum.inr.inj (h1.1.symm.trans z))), if_neg e]
        exact h1
theorem ShAt.put {K : PySem.W.Frag} {H : Hp} {x : Str} {v : List Int} {u : V} {kvs : List (Key × V)} {gs : List (Str × List Int)} (h : ShAt K H kvs gs) (hu : Dp K H u (.tuple (v.map .int))) : ShAt K H (putK kvs (Sum.inr x) u) (putG gs x v) := by
  unfold putK putG
  rw [h.has]
  by_cases e : x ∈ gs.map (·.1)
  · rw [decide_eq_true e, if_pos rfl, if_pos e]
    exact h.map hu
  · rw [decide_eq_false e, if_neg (by decide), if_neg e]
    exact h.snoc hu
theorem ShAt.drop {K : PySem.W.Frag} {H : Hp} {x : Str} : ∀ {kvs : List (Key × V)} {gs : List (Str × List Int)}, ShAt K H kvs gs → ShAt K H (dropK kvs (Sum.inr x)) (dropG gs x)
  | [], _, h => by cases h; exact .nil
  | kv :: kvs, _, h => by
    cases h with
    | @cons _ g _ gs h1 h2 =>
      have ih := ShAt.drop (x := x) h2
      unfold dropK dropG at ih ⊢
      rw [List.filter_cons, List.filter_cons]
      by_cases e : g.1 = x
      · rw [if_neg (by rw [h1.1, e]; simp), if_neg (by rw [e]; simp)]
        exact ih
      · rw [if_pos (decide_eq_true (show kv.1 ≠ (Sum.inr x : Key) from fun z => e (Sum.inr.inj (h1.1.symm.trans z)))), if_pos (decide_eq_true e)]
        exact .cons h1 ih
structure ShI (gs : List (Str × List Int)) (n : Nat) : Prop where
  nd : (gs.map (·.1)).Nodup
  len : gs.length ≤ n
  ok : ∀ g ∈ gs, NmOk g.1 ∧ g.2.length ≤ 10 ∧ ∀ x ∈ g.2, -1000 ≤ x ∧ x ≤ 1000
  so : ∀ x ∈ gs.map (·.1), PyData.strOk x = true
theorem putG_names {gs : List (Str × List Int)} {x : Str} {v : List Int} : (putG gs x v).map (·.1) = if x ∈ gs.map (·.1) then gs.map (·.1) else gs.map (·.1) ++ [x] := by
  unfold putG
  split
  · rw [List.map_map]
    refine List.map_congr_left fun g _ => ?_
    show (if g.1 = x then (g.1, v) else g).1 = g.1
    split <;> rfl
  · rw [List.map_append]
    rfl
theorem ShI.put {gs : List (Str × List Int)} {n : Nat} {x : Str} {v : List Int} (h : ShI gs n) (hx : NmOk x) (hs : PyData.strOk x = true) (hv : v.length ≤ 10 ∧ ∀ z ∈ v, -1000 ≤ z ∧ z ≤ 1000) : ShI (putG gs x v) (n + 1) := by
  refine ⟨?_, ?_, ?_, fun y hy => ?_⟩
  · rw [putG_names]
    split
    · exact h.nd
    · rename_i e
      rw [List.nodup_append]
      refine ⟨h.nd, by simp, fun a ha b hb => ?_⟩
      rw [List.mem_singleton.mp hb]
      exact fun z => e (z ▸ ha)
  · have := h.len
    unfold putG
    split
    · rw [List.length_map]
      omega
    · rw [List.length_append]
      simp
      omega
  · intro g hg
    unfold putG at hg
    split at hg
    · obtain ⟨q, hq, rfl⟩ := List.mem_map.mp hg
      have z := h.ok q hq
      split
      · exact ⟨z.1, hv⟩
      · exact z
    · rcases List.mem_append.mp hg with z | z
      · exact h.ok g z
      · rw [List.mem_singleton.mp z]
        exact ⟨hx, hv⟩
  · rw [putG_names] at hy
    split at hy
    · exact h.so y hy
    · rcases List.mem_append.mp hy with z | z
      · exact h.so y z
      · rw [List.mem_singleton.mp z]
        exact hs
theorem ShI.drop {gs : List (Str × List Int)} {n : Nat} {x : Str} (h : ShI gs n) : ShI (dropG gs x) n :=
  ⟨h.nd.sublist (List.Sublist.map _ List.filter_sublist), Nat.le_trans (List.length_filter_le _ _) h.len, fun g hg => h.ok g (List.mem_filter.mp hg).1, fun y hy => by
    obtain ⟨g, hg, rfl⟩ := List.mem_map.mp hy
    exact h.so _ (List.mem_map.mpr ⟨g, (List.mem_filter.mp hg).1, rfl⟩)⟩
theorem ShI.mono {gs : List (Str × List Int)} {n k : Nat} (h : ShI gs n) (e : n ≤ k) : ShI gs k := ⟨h.nd, Nat.le_trans h.len e, h.ok, h.so⟩
theorem nm_name {x : Str} (h : isName x = true) : NmOk x := by
  unfold isName at h
  rw [Bool.and_eq_true, Bool.and_eq_true] at h
  have hl := of_decide_eq_true h.1.2
  refine ⟨List.all_eq_true.mpr fun c hc => ?_, ?_⟩
  · have z := List.all_eq_true.mp h.2 c hc
    unfold okSign at z
    rw [Bool.and_eq_true] at z
    have z2 : ¬ ([122] < [c]) := by simpa using z.2
    have y2 : ¬ (122 < c) := fun q => z2 (by rw [List.cons_lt_cons_iff]; exact Or.inl q)
    exact decide_eq_true (by omega)
  · have : x.cps.size = x.length := rfl
    omega
theorem odd_ok : ∀ x ∈ [Str.ofString "zz", Str.ofString "aa", Str.ofString ""], PyData.strOk x = true := by decide +kernel
theorem nm_odd : ∀ x ∈ [Str.ofString "zz", Str.ofString "aa", Str.ofString ""], NmOk x := by
  intro x hx
  simp only [List.mem_cons, List.not_mem_nil, or_false] at hx
  rcases hx with rfl | rfl | rfl <;> exact ⟨by decide +kernel, by decide +kernel⟩
theorem LS.putK {TT : List (Addr × Str)} {r p : Addr} {m : Nat} {B H : Hp} {ks ls : List (Key × V)} (h : LS TT r m B H) (e : B p = none) (n : r ≠ p) (l : H p = some (.dK ks)) : LS TT r m B (upd H p (.dK ls)) :=
  ⟨h.rs.put e n, tabs_upd h.tb l (fun ps z => by cases z) (fun c q z => by unfold LamX.CodeO at z; cases z), h.nt⟩
theorem sh_put {K : PySem.W.Frag} {TT : List (Addr × Str)} {r p t : Addr} {m : Nat} {B H : Hp} {kvs : List (Key × V)} {gs : List (Str × List Int)} {z : Str} {v : List Int} (L : LS TT r m B H) (hp : B p = none) (rp : r ≠ p) (hk : H p = some (.dK kvs)) (hs : ShAt K B kvs gs) (ht : H t = none) :
    Same B (upd B t (.tup (v.map V.int))) ∧ (upd B t (.tup (v.map V.int))) p = none ∧ LS TT r m (upd B t (.tup (v.map V.int))) (upd (upd H t (.tup (v.map V.int))) p (.dK (putK kvs (Sum.inr z) (.ref t)))) ∧ ShAt K (upd B t (.tup (v.map V.int))) (putK kvs (Sum.inr z) (.ref t)) (putG gs z v) := by
  have bt := free_of L.rs.s ht
  have pt : p ≠ t := ne_of_none hk ht
  have s := snew (o := .tup (v.map V.int)) bt
  have b2 : (upd B t (.tup (v.map V.int))) p = none := by rw [upd_ne pt]; exact hp
  have L2 := (L.new (o := .tup (v.map V.int)) ht).keep upd_same bt (L.rs.ne ht) (fun ps z => by cases z)
  exact ⟨s, b2, L2.putK b2 rp (snew ht _ _ hk), (hs.mono (.of s)).put (.tup (Or.inl (Or.inl upd_same)) (ints_dps _))⟩
theorem rep_ints (k : Nat) (n : Int) : (List.replicate k [V.int n]).flatten = (List.replicate k n).map V.int := by
  induction k with
  | zero => rfl
  | succ k ih =>
    rw [List.replicate_succ, List.flatten_cons, ih, List.replicate_succ]
    rfl
def toldD (bad : List Str) : PyData := match bad with
  | [] => .list [.str "none", .none]
  | y :: _ => .list [.str "shifts", .str y]
def toldDs (bad : List Str) : List PyData := match bad with
  | [] => [.str "none", .none]
  | y :: _ => [.str "shifts", .str y]
theorem told_list (bad : List Str) : toldD bad = .list (toldDs bad) := by cases bad <;> rfl
theorem told_dps {K : PySem.W.Frag} {H : Hp} (bad : List Str) : DpAll K H (toldV bad) (toldDs bad) := by
  cases bad with
  | nil => exact .cons (.str _) (.cons .non .nil)
  | cons y r => exact .cons (.str _) (.cons (.str _) .nil)
theorem told_shp (bad : List Str) (h : ∀ z ∈ bad, PyData.strOk z = true) : SeqAt.shaped (toldD bad) = true := by
  cases bad with
  | nil => decide +kernel
  | cons y r => exact (Lay.list (k := 0) (.cons (.str (by decide +kernel)) (.cons (.str (h y List.mem_cons_self)) .nil))).shaped (by decide)
theorem told_shp' (bad : List Str) (h : ∀ z ∈ bad, PyData.strOk z = true) : SeqAt.shaped (.list (toldDs bad)) = true := told_list bad ▸ told_shp bad h
section
variable {P : Program} {w : World} {K : PySem.W.Frag} {mg : Str → Option Value} {base : Heap}
def spRightX (K : PySem.W.Frag) (TT : List (Addr × Str)) : Sp := fun vs H Q _ => ∃ (r : Addr) (m : Nat) (B : Hp), vs = [.ref r] ∧ LS TT r m B H ∧ m ≤ 2 ^ 57 ∧ ∀ H', LS TT r (m + 2000) B H' → Q (.bl true) H'
theorem ok_rightX {f C : Addr} {fd : FuncData} {TT : List (Addr × Str)} (F : Fun K "_law_right" "_law_right" s_Lright f fd) (T : Txt mg) (zr : mg "repr" = none) (TC : TxtC K mg C) (m_System : C8.Mak P w K mg base 5 "System" C (spInit K C TT) [.int 1000003]) (eq_System : EqM P w K mg base 1 C (spSysEq K C))
    (c_Ldraw : C8.Cal P w K mg base 1 "_law_draw" spDraw []) (c_Ltables : C8.Cal P w K mg base 3 "_law_tables" (spTabs K) []) (c_Lshift : C8.Cal P w K mg base 2 "_law_shift" (spShift K) []) (c_Ltold : C8.Cal P w K mg base 10 "_law_told" (spTold K C TT) []) : FnG P w K mg base 11 f fd ["_law_pool_here"] (spRightX K TT) := by
  refine Fun_okG F sc_Lright (fun vs H Q E h => ?_) (fun cdv A outer sh H vs Q E hr h => ?_)
  · obtain ⟨r, m, B, rfl, _⟩ := h
    rfl
  · obtain ⟨r, m, B, rfl, L, hm, q⟩ := h
    have hu := hu_of hr.room
    refine ⟨_, (pss_cons (ps_set (i := 1) sc_Lright.nd rfl (by first | exact Or.inl rfl | exact Or.inr rfl) (pe_op op_add pe_int (C8.pe_c c_Ldraw hr.room (by decide) (by rfl) (pa_cons (pv 0) (pa_cons pe_int pa_nil)))))
  (pss_cons (ps_set (i := 2) sc_Lright.nd rfl (by first | exact Or.inl rfl | exact Or.inr rfl) (C8.pe_c c_Ltables hr.room (by decide) (by rfl) (pa_cons (pv 0) (pa_cons (pv 1) (pa_cons pe_int pa_nil)))))
  (pss_cons (ps_asg (pe_tup (pa_cons (C8.pe_mk m_System hr.room (by decide) (by rfl) (pa_cons (pv 1) (pa_cons (pv 2) pa_nil))) (pa_cons (pe_callB cr_sortedS (by rfl) T.b_sorted (by decide +kernel) (pa_cons (pe_lc (own := [("_law_one", 5)]) (g := gName 5) (tt := tYes) (by rfl) sc_Lright.nd (pi_list (pv 2)) (blkOk_by (N := ["_law_pool_here", "_law_axes", "_law_tables_here", "_law_made", "_law_titles", "_law_one", "_law_moved", "_law_turn", "_law_title", "_law_way", "_law_bad", "_law_kept", "_law_due"]) (sc := defScope s_Lright) (by decide +kernel)) (fun _ _ _ _ _ => (pg_name (i := 5) sc_Lright.nd rfl (by first | exact Or.inl rfl | exact Or.inr rfl))) (fun _ _ _ _ _ => pts_nil) (fun _ _ _ _ _ => (pe_ix (r := rIxT K) ix_tup (pv 5) pe_int (fun _ _ => rfl)))) pa_nil)) pa_nil))) (pg_tup rfl (pgs_cons (pg_name (i := 3) sc_Lright.nd rfl (by first | exact Or.inl rfl | exact Or.inr rfl)) (pgs_cons (pg_name (i := 4) sc_Lright.nd rfl (by first | exact Or.inl rfl | exact Or.inr rfl)) pgs_nil))))
  (pss_cons (ps_set (i := 6) sc_Lright.nd rfl (by first | exact Or.inl rfl | exact Or.inr rfl) (C8.pe_c c_Lshift hr.room (by decide) (by rfl) (pa_cons (pv 0) (pa_cons (pv 4) (pa_cons (pv 1) pa_nil)))))
  (pss_cons (ps_for PassesOwn.never rfl (pi_range1 (by rfl) T.b_range (pa_cons (C8.pe_c c_Ldraw hr.room (by decide) (by rfl) (pa_cons (pv 0) (pa_cons pe_int pa_nil))) pa_nil)) (pg_name (i := 7) sc_Lright.nd rfl (by first | exact Or.inl rfl | exact Or.inr rfl))
    (pss_cons (ps_set (i := 8) sc_Lright.nd rfl (by first | exact Or.inl rfl | exact Or.inr rfl) (pe_ix ix_list (pv 4) (C8.pe_c c_Ldraw hr.room (by decide) (by rfl) (pa_cons (pv 0) (pa_cons (pe_callB call_len_seq (by rfl) T.b_len PySem.boot_len (pa_cons (pv 4) pa_nil)) pa_nil))) (fun _ _ => rfl)))
    (pss_cons (ps_set (i := 9) sc_Lright.nd rfl (by first | exact Or.inl rfl | exact Or.inr rfl) (C8.pe_c c_Ldraw hr.room (by decide) (by rfl) (pa_cons (pv 0) (pa_cons pe_int pa_nil))))
    (pss_one (ps_if (pt_cmpR op_eq (pv 9) pe_int (nomark _))
      (pss_one (ps_expr (pe_dpop2 (pv 6) (pv 8) pe_non ⟨by rfl, by rfl, by rfl, by rfl⟩)))
      (pss_one (ps_if (pt_cmpR op_eq (pv 9) pe_int (nomark _))
        (pss_one (ps_dput hu (pv 6) (pv 8) (pe_callTy call_tuple_of (by rfl) T.b_tuple (by decide +kernel) (pa_cons (pe_op op_rep (pe_lst (pa_cons pe_int pa_nil)) (pe_ix ix_list (pe_lst (pa_cons (pe_op op_sub (pv 1) pe_int) (pa_cons (pe_op op_add (pv 1) pe_int) (pa_cons pe_int pa_nil)))) (C8.pe_c c_Ldraw hr.room (by decide) (by rfl) (pa_cons (pv 0) (pa_cons pe_int pa_nil))) (fun _ _ => rfl))) pa_nil)) rfl))
        (pss_one (ps_dput hu (pv 6) (pe_ix ix_list (pe_lst (pa_cons pe_str (pa_cons pe_str (pa_cons pe_str pa_nil)))) (pe_op op_sub (pv 9) pe_int) (fun _ _ => rfl)) (pe_callTy call_tuple_of (by rfl) T.b_tuple (by decide +kernel) (pa_cons (pe_op op_rep (pe_lst (pa_cons pe_int pa_nil)) (C8.pe_c c_Ldraw hr.room (by decide) (by rfl) (pa_cons (pv 0) (pa_cons pe_int pa_nil)))) pa_nil)) rfl)))))))))
  (pss_cons (ps_setLc (i := 10) (own := [("_law_title", 8)]) (g := gName 8) (by rfl) sc_Lright.nd rfl rfl (sw_true rfl rfl rfl (by decide +kernel)) (pi_list (pv 4)) (blkOk_by (N := ["_law_pool_here", "_law_axes", "_law_tables_here", "_law_made", "_law_titles", "_law_one", "_law_moved", "_law_turn", "_law_title", "_law_way", "_law_bad", "_law_kept", "_law_due"]) (sc := defScope s_Lright) (by decide +kernel)) (fun _ _ _ _ _ => (pg_name (i := 8) sc_Lright.nd rfl (by first | exact Or.inl rfl | exact Or.inr rfl))) (fun _ _ _ _ _ => (pts_one (pt_cmpR op_ne (pe_callB (r := Evl.rLenS K) call_len_seq (by rfl) T.b_len PySem.boot_len (pa_cons (pe_dget2 hu (pv 6) (pv 8) (pe_op op_rep (pe_lst (pa_cons pe_int pa_nil)) pe_int) ⟨by rfl, by rfl, by rfl, by rfl⟩) pa_nil)) (pv 1) (nomark _)))) (fun _ _ _ _ _ => (pv 8)))
  (pss_cons (ps_set (i := 10) sc_Lright.nd rfl (by first | exact Or.inl rfl | exact Or.inr rfl) (pe_op op_cat (pv 10) (pe_lc (own := [("_law_title", 8)]) (g := gName 8) (by rfl) sc_Lright.nd (pi_list (pe_callB (call_sortedD rfl) (by rfl) T.b_sorted (by decide +kernel) (pa_cons (pv 6) pa_nil))) (blkOk_by (N := ["_law_pool_here", "_law_axes", "_law_tables_here", "_law_made", "_law_titles", "_law_one", "_law_moved", "_law_turn", "_law_title", "_law_way", "_law_bad", "_law_kept", "_law_due"]) (sc := defScope s_Lright) (by decide +kernel)) (fun _ _ _ _ _ => (pg_name (i := 8) sc_Lright.nd rfl (by first | exact Or.inl rfl | exact Or.inr rfl))) (fun _ _ _ _ _ => (pts_one (pt_cmpR (r := rIn K true) op_notIn_seq (pv 8) (pv 4) (by rfl)))) (fun _ _ _ _ _ => (pv 8)))))
  (pss_cons (ps_par (i := 11) (j := 12) (by rfl) sc_Lright.nd rfl rfl (by decide) rfl rfl (pa_cons (pe_callB (call_reprSh hr.free hr.room.units1) (by rfl) zr (by decide +kernel) (pa_cons (pv 6) pa_nil)) (pa_cons (pe_ifExp (pt_cmpR (op_neD hr.room.units) (pv 10) (pe_lst pa_nil) (nomark _)) (pe_lst (pa_cons pe_str (pa_cons (pe_ix ix_list (pv 10) pe_int (fun _ _ => rfl)) pa_nil))) (pe_lst (pa_cons pe_str (pa_cons pe_non pa_nil)))) pa_nil)) (by rfl))
  (pss_one (ps_ret (pe_and (pe_cmpR (op_eqD hr.room.units) (C8.pe_c c_Ltold hr.room (by decide) (by rfl) (pa_cons (pv 3) (pa_cons (pv 6) pa_nil))) (pv 12) (nomark _)) (pe_and (pe_cmpR op_eq (pe_callB (call_reprSh hr.free hr.room.units1) (by rfl) zr (by decide +kernel) (pa_cons (pv 6) pa_nil)) (pv 11) (nomark _)) (pe_one (pe_cmpR (op_eqOwn eq_System hr.room (by decide)) (pv 3) (C8.pe_mk m_System hr.room (by decide) (by rfl) (pa_cons (pv 1) (pa_cons (pv 2) pa_nil))) (nomark _))))))))))))))), ?_⟩
    -- axes
    refine ⟨_, rfl, r, 3, _, rfl, L.rs.ok, by omega, by decide, by decide, fun d1 H1 d10 d11 D1 => ⟨_, _, rfl, rfl, ?_⟩⟩
    have L1 := L.dr D1
    obtain ⟨ax, hax⟩ : ∃ ax : Int, ax = 1 + d1 := ⟨_, rfl⟩
    have ha1 : 1 ≤ ax := by omega
    have ha3 : ax ≤ 3 := by omega
    dsimp only
    rw [← hax]
    -- the tables
    refine ⟨_, rfl, _, rfl, r, ax, 6, m + 1, _, rfl, RS.cut L1.rs.ok, ha1, ha3, by decide, by decide, by omega, fun lp B2 H2 ts s2 R2 hlp l1 l4 O hs sm few => ?_⟩
    have L2 := L1.call R2 s2
    have hlp2 := hlp.grow R2.s
    have OY : OkSys ax 1000003 ts := ⟨ha1, ha3, by decide, l1, by omega, O⟩
    refine ⟨_, rfl, _, rfl, fun x dx nx ndx nex => mk_sys L2.tb OY hlp2.dp nx ndx nex fun H4 X4 T4 S4 => ?_⟩
    have L4 := L2.ext X4 T4
    have hlp4 := hlp2.ext X4
    -- titles
    obtain ⟨xs, hx, hxd⟩ := id hlp4
    have xl : xs.length = ts.length := by rw [dps_len hxd, List.length_map]
    refine ⟨_, rfl, lp, rfl, ⟨_, Or.inl (Or.inl hx)⟩, fun D hD => ?_⟩
    refine lc_it (walk_list (K := K) (a := lp) (xs := xs)) (fun i H' => H' D = some (.lst (((ts.map (·.n)).take i).map V.str)) ∧ Same H4 H') ⟨upd_same, snew hD⟩ (fun i H' _ ⟨_, b⟩ => Or.inl (Or.inl (b _ _ hx))) ?_ ?_
    · rintro i y _ Hi hi ⟨b1, b2⟩ ⟨rfl, hy⟩
      obtain ⟨tb, a, l, ys, htb, rfl, hta, _⟩ := tb_at (dpsm b2 _ _ hxd) hy
      refine ⟨rfl, yes_if ?_⟩
      refine ⟨_, rfl, a, _, 0, _, rfl, rfl, hta, rfl, _, b1, small1000 (by rw [List.length_map, List.length_take, List.length_map]; omega), ?_, swrite b2 hD⟩
      rw [upd_same, List.take_add_one, List.getElem?_map, htb, List.map_append]
      rfl
    · rintro H5 ⟨b1, b2⟩
      rw [xl, List.take_of_length_le (by rw [List.length_map]; exact Nat.le_refl _)] at b1
      refine ⟨D, ts.map (·.n), rfl, Or.inl (Or.inl b1), by rw [List.length_map]; omega, fun ys Ts perm so hTs => ⟨(by show 2 ≤ sizeLine; decide), fun t2 ht2 => ?_⟩⟩
      have ey : ys = (srt ts).map (·.n) := sorted_names perm so
      have s5 := same_tr b2 (same_tr (snew (o := .lst (ys.map V.str)) hTs) (snew (o := .tup [.ref x, .ref Ts]) ht2))
      have Ts5 : (upd (upd H5 Ts (.lst (ys.map V.str))) t2 (.tup [.ref x, .ref Ts])) Ts = some (.lst (ys.map V.str)) := snew ht2 _ _ upd_same
      have t25 : (upd (upd H5 Ts (.lst (ys.map V.str))) t2 (.tup [.ref x, .ref Ts])) t2 = some (.tup [.ref x, .ref Ts]) := upd_same
      refine ⟨t2, _, rfl, Or.inl (Or.inl t25), rfl, _, _, rfl, _, _, rfl, rfl, ?_⟩
      generalize upd (upd H5 Ts (.lst (ys.map V.str))) t2 (.tup [.ref x, .ref Ts]) = H6 at s5 Ts5
      have L6 := L4.grow s5
      have S6 := S4.mono s5
      have yl : ys.length = ts.length := by rw [ey, List.length_map, (srt_perm ts).length_eq]
      have ynd : ys.Nodup := by rw [ey]; exact ((srt_perm ts).map (·.n)).nodup_iff.mpr O.nodup
      have ynm : ∀ z ∈ ys, NmOk z := fun z hz => by
        rw [ey] at hz
        obtain ⟨t, ht, rfl⟩ := List.mem_map.mp hz
        exact nm_name (O.names t ((srt_perm ts).mem_iff.mp ht))
      have yso : ∀ z ∈ ys, PyData.strOk z = true := fun z hz => by
        rw [ey] at hz
        obtain ⟨t, ht, rfl⟩ := List.mem_map.mp hz
        exact (name_ok (O.names t ((srt_perm ts).mem_iff.mp ht))).1
      have rT : r ≠ Ts := fun z => by
        obtain ⟨a, b, c, e, _⟩ := L6.rs.ok
        rw [z, Ts5] at e
        have := congrArg (fun o => match o with | some (HO.lst xs) => xs | _ => []) e
        cases hys : ys with
        | nil => rw [hys] at yl; rw [← yl] at l1; cases l1
        | cons t ts => rw [hys] at this; cases this
      -- the shift
      refine ⟨_, rfl, _, rfl, _, rfl, r, Ts, ax, _, _, ys, rfl, RS.cut L6.rs.ok, ha1, ha3, by rw [cutr_ne rT.symm]; exact Ts5, ynd, by omega, by omega, fun p B7 H7 kvs gs s7 bp R7 hp7 hsh hgn hgl => ?_⟩
      have L7 := L6.call R7 s7
      have rp : r ≠ p := fun z => by
        have e := R7.n
        rw [z, hp7] at e
        cases e
      have hp7' := R7.s _ _ hp7
      have g6 : Same (bs H6 r) (_root_.L2.del (bs H7 r) p) := fun b o e => by
        obtain ⟨z1, z2, z3⟩ := of_bs e
        have c1 : cutr H6 r b = some o := by rw [cutr_ne z2]; exact z1
        have bp' : b ≠ p := fun z => by
          rw [z, bp] at c1
          cases c1
        rw [del_ne bp']
        exact bs_of (R7.s _ _ (s7 _ _ c1)) z2 z3
      have L8 : LS TT r (m + 1 + 1000 + 100) (_root_.L2.del (bs H7 r) p) H7 := by
        refine ⟨⟨fun b o e => ?_, ?_, L7.rs.ok⟩, L7.tb, fun b ps e => ?_⟩
        · by_cases hb : b = p
          · rw [hb, del_same] at e
            cases e
          · rw [del_ne hb] at e
            exact (of_bs e).1
        · rw [del_ne rp]
          exact (LS.own L7.rs.ok L7.tb).rs.n
        · by_cases hb : b = p
          · rw [hb, del_same] at e
            cases e
          · rw [del_ne hb] at e
            exact (of_bs e).2.2 ps rfl
      have U8 : Same B (_root_.L2.del (bs H7 r) p) := same_tr L6.up g6
      have lp8 : LD K (_root_.L2.del (bs H7 r) p) lp (ts.map Tb.d) := (LD.to hlp R2.s R2.n (X4.trans (.of s5))).grow g6
      have S8 : SysAt K C (_root_.L2.del (bs H7 r) p) x ax 1000003 (srt ts) := (S6.re L6.rs.ok).mono g6
      have Ts8 : (_root_.L2.del (bs H7 r) p) Ts = some (.lst (ys.map V.str)) := g6 _ _ (bs_of Ts5 rT.symm (fun ps z => by cases z))
      have sh8 : ShAt K (_root_.L2.del (bs H7 r) p) kvs gs := ((hsh.mono (.of R7.s)).st (ST.bs L7.rs.ok)).st fun b o e d => by
        have hb : b ≠ p := fun z => by
          have e' := (of_bs e).1
          rw [z, hp7'] at e'
          cases e'
          cases d
        rw [del_ne hb]
        exact e
      have bp8 : (_root_.L2.del (bs H7 r) p) p = none := del_same
      have hI : ShI gs 4 := ⟨by rw [hgn]; exact ynd, by
        have z := congrArg List.length hgn
        rw [List.length_map] at z
        omega, fun g hg => ⟨ynm _ (by rw [← hgn]; exact List.mem_map.mpr ⟨g, hg, rfl⟩), by have := (hgl g hg).1; omega, fun z hz => by have := (hgl g hg).2 z hz; omega⟩, fun z hz => yso z (by rw [← hgn]; exact hz)⟩
      generalize _root_.L2.del (bs H7 r) p = B8 at L8 U8 lp8 S8 Ts8 sh8 bp8
      clear g6 L7 R7 s7 hsh hp7 bp L6 S6 Ts5 s5 t25 hTs ht2 b1 b2 hD hx hxd xl hlp4 hlp2 hlp L4 S4 T4 X4 L2 R2 s2 L1 D1
      -- changes
      refine ⟨_, rfl, r, 4, _, rfl, L8.rs.ok, by omega, by decide, by decide, fun d2 H9 d20 d21 D2 => ⟨d2, rfl, by omega, by omega, ?_⟩⟩
      have L9 := L8.dr D2
      have hp9 : H9 p = some (.dK kvs) := by rw [D2.ne _ rp.symm]; exact hp7'
      clear L8 D2 hp7'
      refine for_range (fun i σ H' => ∃ (y7 y8 y9 : Option V) (Bi : Hp) (kvs : List (Key × V)) (gs : List (Str × List Int)), σ = [some (.ref r), some (.int ax), some (.ref lp), some (.ref x), some (.ref Ts), none, some (.ref p), y7, y8, y9, none, none, none] ∧ Same B8 Bi ∧ Bi p = none ∧ LS TT r (m + 1 + 1000 + 100 + 1 + 10 * i) Bi H' ∧ H' p = some (.dK kvs) ∧ ShAt K Bi kvs gs ∧ ShI gs (4 + i))
        ⟨_, _, _, B8, kvs, gs, rfl, same_refl, bp8, L9, hp9, sh8, hI⟩ ?_ ?_
      · rintro i σ H10 hi ⟨y7, y8, y9, Bi, kvs, gs, rfl, b1, b2, b3, b4, b5, b6⟩
        have hi3 : i < 3 := by omega
        have Tsi := b3.rs.s _ _ (b1 _ _ Ts8)
        -- title
        refine ⟨_, rfl, _, rfl, _, rfl, Ts, _, rfl, Or.inl (Or.inl (Or.inl Tsi)), r, _, _, rfl, b3.rs.ok, by omega, by rw [List.length_map]; omega, by rw [List.length_map]; omega, fun d3 H11 d30 d31 D3 => ?_⟩
        have L11 := b3.dr D3
        obtain ⟨tv, a1, a2, a3⟩ := atI_in (xs := ys.map V.str) d30 d31
        obtain ⟨title, htl, rfl⟩ := List.mem_map.mp a2
        refine ⟨Ts, _, d3, _, rfl, rfl, Or.inl (Or.inl (L11.rs.s _ _ (b1 _ _ Ts8))), a1, ?_⟩
        -- way
        refine ⟨_, rfl, r, 5, _, rfl, L11.rs.ok, by omega, by decide, by decide, fun d4 H12 d40 d41 D4 => ?_⟩
        have L12 := L11.dr D4
        have hp12 : H12 p = some (.dK kvs) := by rw [D4.ne _ rp.symm, D3.ne _ rp.symm]; exact b4
        clear L11 D3 D4 b3 b4
        refine ⟨_, rfl, rfl, _, rfl, ?_⟩
        refine ite2 (fun _ => ?_) (fun h3 => ?_)
        · refine ⟨_, rfl, p, rfl, Or.inl ⟨kvs, Or.inl hp12⟩, _, rfl, kvs, Sum.inr title, hp12, rfl, fun v hv => ?_, fun hv => ?_⟩
          · exact ⟨_, _, _, Bi, _, dropG gs title, rfl, b1, b2, (L12.putK b2 rp hp12).mono (by omega), upd_same, b5.drop, b6.drop.mono (by omega)⟩
          · exact ⟨_, _, _, Bi, kvs, gs, rfl, b1, b2, L12.mono (by omega), hp12, b5, b6.mono (by omega)⟩
        · have kl : kvs.length < sizeLine := by
            rw [b5.len]
            have := b6.len
            exact Nat.lt_of_le_of_lt (show gs.length ≤ 100 by omega) (by rw [sizeLine_eq]; decide)
          refine ⟨_, rfl, rfl, _, rfl, ?_⟩
          refine ite2 (fun _ => ?_) (fun h4 => ?_)
          · refine ⟨(by show 1 ≤ sizeLine; decide), fun l1' hl1 => ⟨_, rfl, _, _, rfl, rfl, _, rfl, _, _, rfl, rfl, (by show 3 ≤ sizeLine; decide), fun l2' hl2 => ?_⟩⟩
            have L13 := (L12.new (o := .lst [.int 1]) hl1).new (o := .lst [.int (ax - 1), .int (ax + 1), .int 0]) hl2
            have hp13 := snew (o := .lst [.int (ax - 1), .int (ax + 1), .int 0]) hl2 _ _ (snew (o := .lst [.int 1]) hl1 _ _ hp12)
            have k1 := snew (o := .lst [.int (ax - 1), .int (ax + 1), .int 0]) hl2 _ _ (upd_same (H := H12) (a := l1') (o := .lst [.int 1]))
            have k2 : (upd (upd H12 l1' (.lst [.int 1])) l2' (.lst [.int (ax - 1), .int (ax + 1), .int 0])) l2' = some (.lst ([ax - 1, ax + 1, 0].map V.int)) := upd_same
            have n1 := L12.rs.ne hl1
            have n2 := (L12.new (o := .lst [.int 1]) hl1).rs.ne hl2
            refine ⟨_, rfl, r, 3, _, rfl, L13.rs.ok, by omega, by decide, by decide, fun d5 H14 d50 d51 D5 => ?_⟩
            have L14 := L13.dr D5
            have hp14 : H14 p = some (.dK kvs) := by rw [D5.ne _ rp.symm]; exact hp13
            have k14 : H14 l1' = some (.lst [.int 1]) := by rw [D5.ne _ n1.symm]; exact k1
            have j14 : H14 l2' = some (.lst ([ax - 1, ax + 1, 0].map V.int)) := by rw [D5.ne _ n2.symm]; exact k2
            obtain ⟨v, c1, c2, _⟩ := atI_in (xs := [ax - 1, ax + 1, 0].map V.int) d50 d51
            obtain ⟨n, hn, rfl⟩ := List.mem_map.mp c2
            have hn4 : 0 ≤ n ∧ n ≤ 4 := by
              simp only [List.mem_cons, List.not_mem_nil, or_false] at hn
              omega
            refine ⟨l2', _, d5, _, rfl, rfl, Or.inl (Or.inl j14), c1, l1', n, _, rfl, rfl, k14, by omega, by omega, by
              show 1 * n.toNat ≤ sizeLine
              exact Nat.le_trans (show 1 * n.toNat ≤ 4 by omega) (by rw [sizeLine_eq]; decide), fun q3 hq3 => ⟨q3, _, rfl, Or.inl ⟨Or.inl (Or.inl upd_same), fun t ht => ?_⟩⟩⟩
            rw [rep_ints] at ht ⊢
            have L15 := L14.new (o := .lst ((List.replicate n.toNat 1).map V.int)) hq3
            have hp15 := snew (o := .lst ((List.replicate n.toNat 1).map V.int)) hq3 _ _ hp14
            obtain ⟨e1, e2, e3, e4⟩ := sh_put (K := K) (z := title) (v := List.replicate n.toNat 1) L15 b2 rp hp15 b5 ht
            refine ⟨_, rfl, _, rfl, p, _, rfl, DPut.k (k := Sum.inr title) (snew ht _ _ hp15) kl, ?_⟩
            exact ⟨_, _, _, _, _, _, rfl, same_tr b1 e1, e2, e3.mono (by omega), upd_same, e4, (b6.put (ynm _ htl) (yso _ htl) ⟨by rw [List.length_replicate]; omega, fun z hz => by rw [(List.mem_replicate.mp hz).2]; decide⟩).mono (by omega)⟩
          · have g2 : 2 ≤ d4 := by
              have z3 : d4 ≠ 0 := fun z => by rw [z] at h3; exact absurd h3 (by decide)
              have z4 : d4 ≠ 1 := fun z => by rw [z] at h4; exact absurd h4 (by decide)
              omega
            refine ⟨(by show 1 ≤ sizeLine; decide), fun l1' hl1 => ?_⟩
            have L13 := L12.new (o := .lst [.int 0]) hl1
            have hp13 := snew (o := .lst [.int 0]) hl1 _ _ hp12
            have k1 : (upd H12 l1' (.lst [.int 0])) l1' = some (.lst [.int 0]) := upd_same
            have n1 := L12.rs.ne hl1
            refine ⟨_, rfl, r, 4, _, rfl, L13.rs.ok, by omega, by decide, by decide, fun n H14 d50 d51 D5 => ?_⟩
            have L14 := L13.dr D5
            have hp14 : H14 p = some (.dK kvs) := by rw [D5.ne _ rp.symm]; exact hp13
            have k14 : H14 l1' = some (.lst [.int 0]) := by rw [D5.ne _ n1.symm]; exact k1
            refine ⟨l1', n, _, rfl, rfl, k14, by omega, by omega, by
              show 1 * n.toNat ≤ sizeLine
              exact Nat.le_trans (show 1 * n.toNat ≤ 4 by omega) (by rw [sizeLine_eq]; decide), fun q3 hq3 => ⟨q3, _, rfl, Or.inl ⟨Or.inl (Or.inl upd_same), fun t ht => ?_⟩⟩⟩
            rw [rep_ints] at ht ⊢
            have L15 := L14.new (o := .lst ((List.replicate n.toNat 0).map V.int)) hq3
            have hp15 := snew (o := .lst ((List.replicate n.toNat 0).map V.int)) hq3 _ _ hp14
            generalize upd H14 q3 (.lst ((List.replicate n.toNat 0).map V.int)) = H15 at L15 hp15 ht ⊢
            have bt := free_of L15.rs.s ht
            have pt : p ≠ t := ne_of_none hp15 ht
            have e1 := snew (o := .tup ((List.replicate n.toNat 0).map V.int)) bt
            have e2 : (upd Bi t (.tup ((List.replicate n.toNat 0).map V.int))) p = none := by rw [upd_ne pt]; exact b2
            have L16 := (L15.new (o := .tup ((List.replicate n.toNat 0).map V.int)) ht).keep upd_same bt (L15.rs.ne ht) (fun ps z => by cases z)
            have hp16 := snew (o := .tup ((List.replicate n.toNat 0).map V.int)) ht _ _ hp15
            refine ⟨_, rfl, (by show 3 ≤ sizeLine; decide), fun l2' hl2 => ?_⟩
            have L17 := L16.new (o := .lst ([Str.ofString "zz", Str.ofString "aa", Str.ofString ""].map V.str)) hl2
            have hp17 := snew (o := .lst ([Str.ofString "zz", Str.ofString "aa", Str.ofString ""].map V.str)) hl2 _ _ hp16
            obtain ⟨v, c1, c2, _⟩ := atI_in (xs := [Str.ofString "zz", Str.ofString "aa", Str.ofString ""].map V.str) (i := d4 - 2) (by omega) (by show d4 - 2 < 3; omega)
            obtain ⟨key, hkey, rfl⟩ := List.mem_map.mp c2
            refine ⟨_, rfl, _, _, rfl, rfl, l2', _, _, _, rfl, rfl, Or.inl (Or.inl upd_same), c1, p, _, rfl, DPut.k (k := Sum.inr key) hp17 kl, ?_⟩
            exact ⟨_, _, _, _, _, _, rfl, same_tr b1 e1, e2, (L17.putK e2 rp hp17).mono (by omega), upd_same, (b5.mono (.of e1)).put (.tup (Or.inl (Or.inl upd_same)) (ints_dps _)), (b6.put (nm_odd _ hkey) (odd_ok _ hkey) ⟨by rw [List.length_replicate]; omega, fun z hz => by rw [(List.mem_replicate.mp hz).2]; decide⟩).mono (by omega)⟩
      · rintro σ H10 ⟨y7, y8, y9, Bi, kvs, gs, rfl, b1, b2, b3, b4, b5, b6⟩
        have L10 := b3.keep b4 b2 rp (fun ps z => by cases z)
        have sB := same_tr b1 (snew (o := .dK kvs) b2)
        have U10 := same_tr U8 sB
        have lp10 := (lp8.grow sB).grow L10.rs.s
        have S10 := (S8.mono sB).mono L10.rs.s
        have Ts10 := L10.rs.s _ _ (sB _ _ Ts8)
        have sh10 := b5.mono (.of (same_tr (snew (o := .dK kvs) b2) L10.rs.s))
        have L11 := L10.sub U10
        have g6 : gs.length ≤ 7 := by have := b6.len; omega
        clear b1 b2 b3 b5 L10 L9 hp9 sB U10 lp8 S8 Ts8 sh8 bp8 U8 hI
        -- the wrong tables
        refine ⟨_, rfl, Ts, rfl, ⟨_, Or.inl (Or.inl Ts10)⟩, fun D1 hD1 => ?_⟩
        refine lc_it (walk_list (K := K) (a := Ts) (xs := ys.map V.str)) (fun i H' => H' D1 = some (.lst (((ys.take i).filter (badN ax gs)).map V.str)) ∧ Same H10 H') ⟨upd_same, snew hD1⟩ (fun i H' _ ⟨_, b⟩ => Or.inl (Or.inl (b _ _ Ts10))) ?_ ?_
        · rintro i y _ Hi hi ⟨c1, c2⟩ ⟨rfl, hy⟩
          rw [List.getElem?_map] at hy
          obtain ⟨z, hz, rfl⟩ := Option.map_eq_some_iff.mp hy
          refine ⟨rfl, ?_⟩
          refine ⟨_, rfl, p, rfl, Or.inl ⟨kvs, Or.inl (c2 _ _ b4)⟩, _, rfl, (by show 1 ≤ sizeLine; decide), fun l1' hl1 => ⟨l1', 9, _, rfl, rfl, upd_same, by decide, by decide, (by show 1 * 9 ≤ sizeLine; decide), fun q3 hq3 => ?_⟩⟩
          have s2 := same_tr (snew (o := .lst [.int 0]) hl1) (snew (o := .lst (List.replicate (9 : Int).toNat [V.int 0]).flatten) hq3)
          have q12 : (upd (upd Hi l1' (.lst [.int 0])) q3 (.lst (List.replicate (9 : Int).toNat [V.int 0]).flatten)) q3 = some (.lst (List.replicate (9 : Int).toNat [V.int 0]).flatten) := upd_same
          generalize upd (upd Hi l1' (.lst [.int 0])) q3 (.lst (List.replicate (9 : Int).toNat [V.int 0]).flatten) = H12 at s2 q12
          have c3 := same_tr c2 s2
          have D12 := s2 _ _ c1
          have step : ((ys.take (i + 1)).filter (badN ax gs)) = ((ys.take i).filter (badN ax gs)) ++ (if badN ax gs z = true then [z] else []) := by
            rw [List.take_add_one, hz, List.filter_append]
            congr 1
            by_cases hb : badN ax gs z = true
            · rw [if_pos hb]
              simp [hb]
            · rw [if_neg hb]
              simp [hb]
          refine ⟨_, DGet.k (k := Sum.inr z) (c3 _ _ b4), ?_⟩
          rcases sh10.val (x := z) with ⟨l1, l2⟩ | ⟨v, u, l1, l2, l3⟩
          · rw [l2]
            refine ⟨q3, _, rfl, Or.inl (Or.inl (Or.inl q12)), _, rfl, rfl, _, rfl, ?_⟩
            have hb : badN ax gs z = true := by unfold badN; rw [l1]
            refine ite2 (fun _ => ?_) (fun hn => ?_)
            · refine ⟨_, rfl, _, D12, small1000 (by rw [List.length_map]; exact Nat.le_trans (List.length_filter_le _ _) (by rw [List.length_take]; omega)), ?_, swrite c3 hD1⟩
              rw [upd_same, step, if_pos hb, List.map_append]
              rfl
            · exfalso
              refine hn ?_
              rw [Bool.not_eq_true', decide_eq_false_iff_not]
              intro e
              have e2 : (9 : Int) = ax := V.int.inj e
              omega
          · rw [l2]
            obtain ⟨ua, us, rfl, ut, ud⟩ := dtup l3
            obtain rfl := dps_ints ud
            refine ⟨ua, _, rfl, Or.inr (sqt c3 ut), _, rfl, rfl, _, rfl, ?_⟩
            rw [List.length_map]
            have hb : badN ax gs z = !decide ((v.length : Int) = ax) := by unfold badN; rw [l1]
            rw [dec_int, ← hb]
            refine ite2 (fun h => ?_) (fun h => ?_)
            · refine ⟨_, rfl, _, D12, small1000 (by rw [List.length_map]; exact Nat.le_trans (List.length_filter_le _ _) (by rw [List.length_take]; omega)), ?_, swrite c3 hD1⟩
              rw [upd_same, step, if_pos h, List.map_append]
              rfl
            · refine ⟨?_, c3⟩
              rw [D12, step, if_neg h, List.append_nil]
        · rintro H11 ⟨c1, c2⟩
          have tl : (ys.map V.str).length = ys.length := List.length_map _
          rw [tl, List.take_length] at c1
          -- the wrong keys
          have hp11 := c2 _ _ b4
          have sh11 := sh10.mono (.of c2)
          refine ⟨_, rfl, _, rfl, p, kvs, gs.map (·.1), rfl, Or.inl hp11, sh11.keys, by rw [List.length_map]; omega, fun keys pk kperm kso hpk => ⟨pk, rfl, ⟨_, Or.inl (Or.inl upd_same)⟩, fun D2 hD2 => ?_⟩⟩
          have s12 := snew (o := .lst (keys.map V.str)) hpk
          have pk12 : (upd H11 pk (.lst (keys.map V.str))) pk = some (.lst (keys.map V.str)) := upd_same
          generalize upd H11 pk (.lst (keys.map V.str)) = H12 at s12 pk12 hD2
          have Ts12 := s12 _ _ (c2 _ _ Ts10)
          have kl : keys.length ≤ 7 := by
            rw [kperm.length_eq, List.length_map]
            exact g6
          refine lc_it (walk_list (K := K) (a := pk) (xs := keys.map V.str)) (fun i H' => H' D2 = some (.lst (((keys.take i).filter (fun x => !decide (x ∈ ys))).map V.str)) ∧ Same H12 H') ⟨upd_same, snew hD2⟩ (fun i H' _ ⟨_, b⟩ => Or.inl (Or.inl (b _ _ pk12))) ?_ ?_
          · rintro i y _ Hi hi ⟨e1, e2⟩ ⟨rfl, hy⟩
            rw [List.getElem?_map] at hy
            obtain ⟨z, hz, rfl⟩ := Option.map_eq_some_iff.mp hy
            refine ⟨rfl, ?_⟩
            have step : ((keys.take (i + 1)).filter (fun x => !decide (x ∈ ys))) = ((keys.take i).filter (fun x => !decide (x ∈ ys))) ++ (if (!decide (z ∈ ys)) = true then [z] else []) := by
              rw [List.take_add_one, hz, List.filter_append]
              congr 1
              by_cases hb : z ∈ ys <;> simp [hb]
            refine ⟨_, rfl, _, rfl, Ts, _, rfl, Or.inl (Or.inl (Or.inl (e2 _ _ Ts12))), rfl, flat_strs _, ?_⟩
            by_cases hb : z ∈ ys
            · rw [inV_str hb]
              refine ⟨_, rfl, iteF ⟨?_, e2⟩⟩
              rw [e1, step, decide_eq_true hb]
              simp
            · rw [inV_no hb]
              refine ⟨_, rfl, iteT ?_⟩
              refine ⟨_, rfl, _, e1, small1000 (by rw [List.length_map]; exact Nat.le_trans (List.length_filter_le _ _) (by rw [List.length_take]; omega)), ?_, swrite e2 hD2⟩
              rw [upd_same, step, decide_eq_false hb, List.map_append]
              rfl
          · rintro H13 ⟨e1, e2⟩
            have tk : (keys.map V.str).length = keys.length := List.length_map _
            rw [tk, List.take_length] at e1
            have D113 := e2 _ _ (s12 _ _ c1)
            have s13 := same_tr c2 (same_tr s12 e2)
            have sz : ∀ (a b : List Str), a.length ≤ 4 → b.length ≤ 7 → (a.map V.str).length + (b.map V.str).length ≤ sizeLine := fun a b h1 h2 => by
              rw [List.length_map, List.length_map, sizeLine_eq]
              omega
            refine ⟨D1, D2, _, _, rfl, rfl, D113, e1, sz _ _ (Nat.le_trans (List.length_filter_le _ _) (by omega)) (Nat.le_trans (List.length_filter_le _ _) kl), fun bl hbl => ?_⟩
            rw [← List.map_append]
            obtain ⟨bad, hbad⟩ : ∃ bad, bad = badS ax ys gs keys := ⟨_, rfl⟩
            have hbad' : ys.filter (badN ax gs) ++ keys.filter (fun x => !decide (x ∈ ys)) = bad := hbad.symm
            rw [hbad']
            have s14 := same_tr s13 (snew (o := .lst (bad.map V.str)) hbl)
            have bl14 : (upd H13 bl (.lst (bad.map V.str))) bl = some (.lst (bad.map V.str)) := upd_same
            generalize upd H13 bl (.lst (bad.map V.str)) = H14 at s14 bl14
            have L14 := L11.grow s14
            have lp14 := lp10.grow s14
            have S14 := S10.mono s14
            have hp14 := s14 _ _ b4
            have sh14 := sh10.mono (.of s14)
            have bso : ∀ z ∈ bad, PyData.strOk z = true := fun z hz => by
              rw [hbad] at hz
              unfold badS at hz
              rcases List.mem_append.mp hz with w | w
              · exact yso z (List.mem_filter.mp w).1
              · exact b6.so z (kperm.mem_iff.mp (List.mem_filter.mp w).1)
            clear c1 c2 e1 e2 s12 pk12 Ts12 D113 s13 L11 lp10 S10 sh10 sh11 hp11 b4 hD1 hD2 hpk hbl s14
            -- kept, due
            refine ⟨_, rfl, p, kvs, gs, rfl, hp14, sh14, ⟨by omega, b6.ok⟩, ?_⟩
            have strs_dps : ∀ {H : Hp} (l : List Str), DpAll K H (l.map V.str) (l.map PyData.str) := fun l => by
              induction l with
              | nil => exact .nil
              | cons a l ih => exact .cons (.str _) ih
            refine ⟨_, rfl, Nat.zero_le _, fun e0 he0 => ⟨.list (bad.map .str), .list [], .lst (Or.inl (Or.inl (snew he0 _ _ bl14))) (strs_dps _), .lst (Or.inl (Or.inl upd_same)) .nil, shaped_list (fun d hd => by
              obtain ⟨z, hz, rfl⟩ := List.mem_map.mp hd
              exact ⟨by simpa [PyData.canLay0] using bso z hz, by simp [PyData.depth]⟩), shaped_list (by intro d h; cases h), _, rfl, ?_⟩⟩
            rw [eqv_nil]
            have s15 := snew (o := .lst []) he0
            generalize upd H14 e0 (.lst []) = H15 at s15
            cases hb : bad with
            | nil =>
              refine iteF ⟨(by show 2 ≤ sizeLine; decide), fun l5 hl5 => ⟨_, _, rfl, ?_⟩⟩
              have s16 := same_tr s15 (snew (o := .lst [.str "none", .non]) hl5)
              have due16 : (upd H15 l5 (.lst [.str "none", .non])) l5 = some (.lst (toldV bad)) := by rw [hb]; exact upd_same
              generalize upd H15 l5 (.lst [.str "none", .non]) = H16 at s16 due16
              have L16 := L14.grow s16
              have lp16 := lp14.grow s16
              have S16 := S14.mono s16
              have hp16 := s16 _ _ hp14
              have sh16 := sh14.mono (.of s16)
              clear s15 hl5 s16
              refine ⟨_, rfl, _, rfl, x, p, ax, 1000003, ts, kvs, gs, keys, rfl, S16, ha1, ha3, by decide, by omega, O.nodup, sh_pre O, hp16, sh16, b6.nd, by omega, kperm, kso, L16.tb, fun l6 H17 X17 T17 hl6 => ?_⟩
              rw [← ey, ← hbad] at hl6
              have due17 := X17 _ _ due16 (fun ps z => by cases z)
              refine ⟨_, rfl, _, _, .lst (Or.inl (Or.inl hl6)) (told_dps bad), .lst (Or.inl (Or.inl due17)) (told_dps bad), told_shp' bad bso, told_shp' bad bso, ?_⟩
              rw [SeqAt.eqv_refl _ (SeqAt.canLay_of_shaped (told_shp' bad bso))]
              refine ⟨_, rfl, _, rfl, p, kvs, gs, rfl, X17 _ _ hp16 (fun ps z => by cases z), sh16.mono (.ext X17), ⟨by omega, b6.ok⟩, _, rfl, rfl, ?_⟩
              rw [decide_eq_true rfl]
              have lp17 := lp16.ext X17
              have L17 := L16.ext X17 T17
              have Osrt : OkT ax (srt ts) := O.perm (srt_perm ts).symm
              refine ⟨_, rfl, _, rfl, _, rfl, _, rfl, fun x2 dx2 nx2 ndx2 nex2 => mk_sys L17.tb OY lp17.dp nx2 ndx2 nex2 fun H18 X18 T18 S18 => ?_⟩
              exact eq_sys ((S16.ext X17).ext X18) S18 Osrt (q _ ((L17.ext X18 T18).mono (by omega)))
            | cons y rest =>
              refine iteT ?_
              refine ⟨_, rfl, bl, _, 0, .str y, rfl, rfl, Or.inl (Or.inl (s15 _ _ bl14)), by
                rw [hb]
                obtain ⟨v, c1, _, c3⟩ := atI_in (xs := (y :: rest).map V.str) (i := 0) (by decide) (by simp)
                cases c3
                exact c1, (by show 2 ≤ sizeLine; decide), fun l5 hl5 => ⟨_, _, rfl, ?_⟩⟩
              have s16 := same_tr s15 (snew (o := .lst [.str "shifts", .str y]) hl5)
              have due16 : (upd H15 l5 (.lst [.str "shifts", .str y])) l5 = some (.lst (toldV bad)) := by rw [hb]; exact upd_same
              generalize upd H15 l5 (.lst [.str "shifts", .str y]) = H16 at s16 due16
              have L16 := L14.grow s16
              have lp16 := lp14.grow s16
              have S16 := S14.mono s16
              have hp16 := s16 _ _ hp14
              have sh16 := sh14.mono (.of s16)
              clear s15 hl5 s16
              refine ⟨_, rfl, _, rfl, x, p, ax, 1000003, ts, kvs, gs, keys, rfl, S16, ha1, ha3, by decide, by omega, O.nodup, sh_pre O, hp16, sh16, b6.nd, by omega, kperm, kso, L16.tb, fun l6 H17 X17 T17 hl6 => ?_⟩
              rw [← ey, ← hbad] at hl6
              have due17 := X17 _ _ due16 (fun ps z => by cases z)
              refine ⟨_, rfl, _, _, .lst (Or.inl (Or.inl hl6)) (told_dps bad), .lst (Or.inl (Or.inl due17)) (told_dps bad), told_shp' bad bso, told_shp' bad bso, ?_⟩
              rw [SeqAt.eqv_refl _ (SeqAt.canLay_of_shaped (told_shp' bad bso))]
              refine ⟨_, rfl, _, rfl, p, kvs, gs, rfl, X17 _ _ hp16 (fun ps z => by cases z), sh16.mono (.ext X17), ⟨by omega, b6.ok⟩, _, rfl, rfl, ?_⟩
              rw [decide_eq_true rfl]
              have lp17 := lp16.ext X17
              have L17 := L16.ext X17 T17
              have Osrt : OkT ax (srt ts) := O.perm (srt_perm ts).symm
              refine ⟨_, rfl, _, rfl, _, rfl, _, rfl, fun x2 dx2 nx2 ndx2 nex2 => mk_sys L17.tb OY lp17.dp nx2 ndx2 nex2 fun H18 X18 T18 S18 => ?_⟩
              exact eq_sys ((S16.ext X17).ext X18) S18 Osrt (q _ ((L17.ext X18 T18).mono (by omega)))
end
end Fr

namespace Fr
open PySem PySem.Spec PyProof.Rows L2
abbrev s_law : Stmt := topS 41
theorem sc_law : FnScope ["_law_script", "_law_at", "_law_pool_here", "_law_turn"] ["_law_script"] (defScope s_law) := ⟨rfl, rfl, rfl, by decide +kernel, rfl, by decide +kernel, by decide +kernel⟩
-- slots: 0 _law_script, 1 _law_at, 2 _law_pool_here, 3 _law_turn
section
variable {P : Program} {w : World} {K : PySem.W.Frag} {mg : Str → Option Value} {base : Heap}
def spLaw32 (K : PySem.W.Frag) (TT : List (Addr × Str)) : Sp := fun vs H Q _ => ∃ (a : Addr) (ns : List Int), vs = [.ref a] ∧ SqL K H a (ns.map V.int) ∧ ns.length ≤ 63 ∧ LamX.Tabs TT H ∧ ∀ H', Q (.bl true) H'
theorem ok_law32 {f C : Addr} {fd : FuncData} {TT : List (Addr × Str)} (F : Fun K "law" "law" s_law f fd) (T : Txt mg) (zm : mg "max" = none) (TC : TxtC K mg C) (c_Lpool : C8.Cal P w K mg base 1 "_law_pool" (spPool K) []) (c_Lright : CalG P w K mg base 11 "_law_right" (spRightX K TT))
    (m_System : C8.Mak P w K mg base 5 "System" C (spInit K C TT) [.int 1000003]) (c_Ltold : C8.Cal P w K mg base 10 "_law_told" (spTold K C TT) []) : FnG P w K mg base 12 f fd ["_law_script"] (spLaw32 K TT) := by
  refine Fun_okG F sc_law (fun vs H Q E h => ?_) (fun cdv A outer sh H vs Q E hr h => ?_)
  · obtain ⟨a, ns, rfl, _⟩ := h
    rfl
  · obtain ⟨a, ns, rfl, ha, hl, hT, q⟩ := h
    have hu := hu_of hr.room
    refine ⟨_, (pss_cons (ps_for PassesOwn.never rfl (pi_range1 (by rfl) T.b_range (pa_cons (pe_callB (call_max2 rfl) (by rfl) zm (by decide +kernel) (pa_cons pe_int (pa_cons (pe_callB (call_min2 rfl) (by rfl) T.b_min (by decide +kernel) (pa_cons pe_int (pa_cons (pe_callB call_len_seq (by rfl) T.b_len PySem.boot_len (pa_cons (pv 0) pa_nil)) pa_nil))) pa_nil))) pa_nil)) (pg_name (i := 1) sc_law.nd rfl (by first | exact Or.inl rfl | exact Or.inr rfl))
    (pss_cons (ps_set (i := 2) sc_law.nd rfl (by first | exact Or.inl rfl | exact Or.inr rfl) (C8.pe_c c_Lpool hr.room (by decide) (by rfl) (pa_cons (pv 0) (pa_cons (pv 1) pa_nil))))
    (pss_one (ps_for PassesOwn.never rfl (pi_range1 (by rfl) T.b_range (pa_cons pe_int pa_nil)) (pg_name (i := 3) sc_law.nd rfl (by first | exact Or.inl rfl | exact Or.inr rfl))
      (pss_one (ps_if (pt_not (pt_val (pe_cG c_Lright hr (by decide) (by rfl) (pa_cons (pv 2) pa_nil))))
        (pss_one (ps_ret pe_bl))
        pss_nil))))))
  (pss_one (ps_ret (pe_cmpR (op_eqD hr.room.units) (C8.pe_c c_Ltold hr.room (by decide) (by rfl) (pa_cons (C8.pe_mk m_System hr.room (by decide) (by rfl) (pa_cons pe_int (pa_cons (pe_lst (pa_cons (pe_tup (pa_cons pe_str (pa_cons pe_int (pa_cons (pe_lst pa_nil) pa_nil)))) pa_nil)) pa_nil))) (pa_cons pe_dnewK pa_nil))) (pe_lst (pa_cons pe_str (pa_cons pe_str pa_nil))) (nomark _))))), ?_⟩
    have hlap : (if (if ((ns.map V.int).length : Int) < 8 then ((ns.map V.int).length : Int) else 8) > 1 then (if ((ns.map V.int).length : Int) < 8 then ((ns.map V.int).length : Int) else 8) else 1) ≤ 8 ∧ 0 ≤ (if (if ((ns.map V.int).length : Int) < 8 then ((ns.map V.int).length : Int) else 8) > 1 then (if ((ns.map V.int).length : Int) < 8 then ((ns.map V.int).length : Int) else 8) else 1) := by
      split <;> split <;> omega
    refine ⟨_, rfl, a, _, rfl, Or.inl ha, 8, _, rfl, 1, _, rfl, _, rfl, by omega, by omega, ?_⟩
    refine for_range (fun i σ H' => ∃ (y1 y2 y3 : Option V), σ = [some (.ref a), y1, y2, y3] ∧ SqL K H' a (ns.map V.int) ∧ LamX.Tabs TT H')
      ⟨none, none, none, rfl, ha, hT⟩ ?_ ?_
    · rintro i σ H2 hi ⟨y1, y2, y3, rfl, ha2, hT2⟩
      have hi8 : i < 8 := by omega
      refine ⟨_, rfl, _, rfl, a, ns, i, (by rw [Int.zero_add]; rfl), ha2, by omega, hl, fun p H3 hp s3 rok => ?_⟩
      have L0 := LS.own rok (hT2.ext s3)
      have ha3 : SqL K (bs H3 p) a (ns.map V.int) := sql_ext (H1 := H2) (fun b o e n => bs_of (s3 b o e) (ne_of_none e hp) n) ha2
      generalize bs H3 p = B at L0 ha3
      refine ⟨6, rfl, by decide, by decide, ?_⟩
      refine for_range (fun j σ H' => ∃ (y3 : Option V), σ = [some (.ref a), some (.int (0 + (i : Int))), some (.ref p), y3] ∧ LS TT p (2000 * j) B H')
        ⟨_, rfl, L0⟩ ?_ ?_
      · rintro j σ H4 hj ⟨y3, rfl, L4⟩
        have hj6 : j < 6 := hj
        refine ⟨_, rfl, p, _, B, rfl, L4, by omega, fun H5 L5 => ?_⟩
        exact ⟨_, rfl, iteF ⟨_, rfl, L5.mono (by omega)⟩⟩
      · rintro σ H4 ⟨y3, rfl, L4⟩
        exact ⟨_, _, _, rfl, sql L4.rs.s ha3, L4.tb⟩
    · rintro σ H0 ⟨y1, y2, y3, rfl, ha2, hT0⟩
      clear ha ha2 hT hlap
      refine ⟨Nat.zero_le _, fun l0 hl0 => ⟨(by show 3 ≤ sizeLine; decide), fun t0 ht0 => ⟨(by show 1 ≤ sizeLine; decide), fun l1 hl1 => ?_⟩⟩⟩
      have s1 : Same H0 (upd (upd (upd H0 l0 (.lst [])) t0 (.tup [.str "a", .int 0, .ref l0])) l1 (.lst [.ref t0])) := same_tr (snew hl0) (same_tr (snew ht0) (snew hl1))
      have D1 : Dp K (upd (upd (upd H0 l0 (.lst [])) t0 (.tup [.str "a", .int 0, .ref l0])) l1 (.lst [.ref t0])) (.ref l1) (.list ([bare].map Tb.d)) := by
        refine .lst (Or.inl (Or.inl upd_same)) (.cons (.tup (Or.inl (Or.inl (snew hl1 _ _ upd_same))) (.cons (.str _) (.cons (.int _) (.cons (.lst (Or.inl (Or.inl (snew hl1 _ _ (snew ht0 _ _ upd_same)))) .nil) .nil)))) .nil)
      generalize upd (upd (upd H0 l0 (.lst [])) t0 (.tup [.str "a", .int 0, .ref l0])) l1 (.lst [.ref t0]) = H1 at s1 D1
      have hT1 := hT0.ext s1
      have BO : OkSys 1 1000003 [bare] := bare_ok (by decide) (by decide) (by decide)
      refine fun x dx nx ndx nex => mk_sys hT1 BO D1 nx ndx nex fun H7 X7 T7 S7 => ?_
      refine fun p hp => ?_
      have s8 := snew (o := .dK []) hp
      refine ⟨x, p, 1, 1000003, [bare], [], [], [], rfl, S7.mono s8, by decide, by decide, by decide, by decide, by decide, sh_pre BO.ok, upd_same, .nil, by decide, by decide, .refl _, rfl, T7.ext s8, fun l H8 X8 T8 hl8 => ?_⟩
      rw [show badS 1 ((srt [bare]).map (·.n)) [] [] = [Str.ofString "a"] by decide +kernel] at hl8
      refine ⟨(by show 2 ≤ sizeLine; decide), fun l9 hl9 => ?_⟩
      refine ⟨_, _, .lst (Or.inl (Or.inl (snew hl9 _ _ hl8))) (told_dps [Str.ofString "a"]), .lst (Or.inl (Or.inl upd_same)) (told_dps [Str.ofString "a"]), by decide +kernel, by decide +kernel, ?_⟩
      rw [SeqAt.eqv_refl _ (SeqAt.canLay_of_shaped (by decide +kernel))]
      exact q _
end
end Fr

namespace Fr
open PySem PySem.Spec PyProof.Rows L2
section
variable {P : Program} {w : World} {K : PySem.W.Frag} {mg mb : Str → Option Value} {a : Addr} {cs : List (Addr × Addr)} {s : Shared} {vs : List Value} {ns : List Int}
/-- what is tracked when the law is called: the tables, and the script unless it is written down -/
structure Begin (K : PySem.W.Frag) (cs : List (Addr × Addr)) (a : Addr) (so : Obj) (ns : List Int) (H : Hp) : Prop where
  tab : ∀ p ∈ cs, H p.2 = some (.tbl #[])
  scr : SqL K H a (ns.map V.int)
  only : ∀ b u, H b = some u → (u = .tbl #[] ∧ ∃ p ∈ cs, p.2 = b) ∨ (b = a ∧ u = .frz so (.lst (ns.map V.int)) ∧ K.lookup a = none)
theorem begin_ex (inK : K.In s.heap) (ha : s.heap.get? a = some { cls := .type "list", data := .seq vs.toArray }) (hi : IntsAre vs ns) (hl : ns.length ≤ sizeLine) (hT : ∀ p ∈ cs, s.heap.get? p.2 = some { cls := .none, data := .fields #[] }) :
    ∃ H, Begin K cs a { cls := .type "list", data := .seq vs.toArray } ns H := by
  have na : ¬ ∃ p ∈ cs, p.2 = a := by
    rintro ⟨p, hp, e⟩
    have z := hT p hp
    rw [e, ha] at z
    have z2 : Data.seq vs.toArray _ = Data.fields #[] := congrArg Obj.data (Option.some.inj z)
    cases z2
  haveI : DecidablePred fun b => ∃ p ∈ cs, p.2 = b := fun b => Classical.propDecidable _
  refine ⟨fun b => if ∃ p ∈ cs, p.2 = b then some (.tbl #[]) else if b = a then (match K.lookup a with | none => some (.frz { cls := .type "list", data := .seq vs.toArray } (.lst (ns.map V.int))) | some _ => none) else none, ⟨fun p hp => if_pos ⟨p, hp, rfl⟩, ?_, ?_⟩⟩
  · cases hk : K.lookup a with
    | none =>
      refine .inl (.inr ⟨{ cls := .type "list", data := .seq vs.toArray }, ?_⟩)
      exact (if_neg na).trans (if_pos rfl)
    | some o =>
      have e := inK a o hk
      rw [ha] at e
      cases e
      exact .inr ⟨_, vs.toArray, _, hk, rfl, rfl, rfl, by rw [List.size_toArray, hi.length]; exact hl, by simpa using vals_ints hi⟩
  · intro b u h
    by_cases h1 : ∃ p ∈ cs, p.2 = b
    · rw [if_pos h1] at h
      cases h
      exact .inl ⟨rfl, h1⟩
    · rw [if_neg h1] at h
      by_cases h2 : b = a
      · rw [if_pos h2] at h
        cases hk : K.lookup a with
        | none =>
          rw [hk] at h
          cases h
          exact .inr ⟨h2, rfl, rfl⟩
        | some o =>
          rw [hk] at h
          cases h
      · rw [if_neg h2] at h
        cases h
theorem law_callG {k : Nat} {fa : Addr} {fd : FuncData} {x : Str} {sp : Sp} (inK : K.In s.heap) (hns : s.heap.Ns mainGlobals mg) (hb : s.heap.Ns builtinsNs mb) (hbb : ∀ x : Str, x ≠ "__name__" → mb x = bootBuiltins x) (hlim : s.heap.NoLimit) (hg : s.gens = #[])
    (hT : ∀ p ∈ cs, s.heap.get? p.2 = some { cls := .none, data := .fields #[] }) (nT : ∀ p ∈ cs, K.lookup p.2 = none) (hC : ∀ p ∈ cs, PySem.W.CodeHd s.heap p.1 p.2)
    (hbm : ∃ (bm : Addr) (ob : Obj), mg "__builtins__" = some (.ref bm) ∧ bm ≠ builtinsNs ∧ s.heap.get? bm = some ob ∧ ob.cls = .type "module" ∧ ob.dict = some builtinsNs ∧ ob.data = .plain)
    (ha : s.heap.get? a = some { cls := .type "list", data := .seq vs.toArray }) (hi : IntsAre vs ns) (hl : ns.length ≤ sizeLine) (hr : Room k callerA)
    (F : ∀ base : Heap, K.In base → base.Ns mainGlobals mg → (∀ p ∈ cs, LamX.TabB base mg p.1 p.2) → FnG P w K mg base k fa fd [x] sp) (bind : ∀ (s : Shared) (u : Value), BindsTo s fd ⟨[u], []⟩ [(x, u)])
    (hsp : ∀ H : Hp, (∀ p ∈ cs, H p.2 = some (.tbl #[])) → SqL K H a (ns.map V.int) → sp [.ref a] H (fun v _ => v = .bl true) fun _ _ _ => False) :
    codeAny (model P w) callerA (.call (.ref fa) ⟨[.ref a], []⟩) (fun r s' => r = .ok (.ret (.bool true)) ∧ OldK s.heap s'.heap ∧ s'.os = s.os ∧ AllBare s'.gens) s := by
  obtain ⟨H, B⟩ := begin_ex inK ha hi hl hT
  have hok : HOk P w H s.heap := by
    intro b u h
    rcases B.only b u h with ⟨rfl, p, hp, rfl⟩ | ⟨rfl, rfl, _⟩
    · exact hT p hp
    · exact ⟨ha, by rw [List.length_map]; exact hl, vs, _, vals_ints hi, ha⟩
  -- what is no list and no empty table is not tracked
  have out : ∀ {b : Addr} {o : Obj}, s.heap.get? b = some o → (∀ ys n, o.data ≠ .seq ys n) → o.data ≠ .fields #[] → H b = none := by
    intro b o h1 h2 h3
    cases hb : H b with
    | none => rfl
    | some u =>
      rcases B.only b u hb with ⟨_, p, hp, rfl⟩ | ⟨rfl, _, _⟩
      · rw [hT p hp] at h1
        cases h1
        exact (h3 rfl).elim
      · rw [ha] at h1
        cases h1
        exact (h2 _ _ rfl).elim
  have low : ∀ {b : Addr} {o : Obj}, s.heap.get? b = some o → (∀ ys n, o.data ≠ .seq ys n) → o.data ≠ .fields #[] → (hidT s.heap H).get? b = some o := fun h1 h2 h3 => hidT_get h1 (out h1 h2 h3)
  have nsB : ∀ {b : Addr} {m : Str → Option Value}, s.heap.Ns b m → (hidT s.heap H).Ns b m := by
    rintro b m ⟨o, es, ep, h1, h2, h3⟩
    exact ⟨o, es, ep, low h1 (fun ys n z => by rw [h2] at z; cases z) (fun z => by rw [h2] at z; cases z), h2, h3⟩
  have inB : K.In (hidT s.heap H) := by
    intro b o h
    refine hidT_get (inK b o h) ?_
    cases hb : H b with
    | none => rfl
    | some u =>
      rcases B.only b u hb with ⟨_, p, hp, rfl⟩ | ⟨rfl, _, z⟩
      · rw [nT p hp] at h
        cases h
      · rw [z] at h
        cases h
  have md : L2.Mod K mg (hidT s.heap H) := by
    obtain ⟨mc, l1, l2⟩ := hlim
    exact ⟨inB, nsB hns, ⟨mb, nsB hb, hbb⟩, ⟨mc, nsB l1, l2⟩⟩
  have tb : ∀ p ∈ cs, LamX.TabB (hidT s.heap H) mg p.1 p.2 := by
    intro p hp
    have hp0 := hT p hp
    constructor
    · obtain ⟨o, us, f1, f2, f3, f4, f5, f6, f7, g, r1, r2, r3, r4, r5, r6, r7, r8, ne⟩ := hC p hp
      refine ⟨o, us, f1, f2, f3, f4, f5, f6, f7, low g (fun ys n z => by rw [r2] at z; cases z) (fun z => ?_), r1, r2, r3, r4, r5, r6, r7, r8, ne⟩
      rw [r2] at z
      cases z
      simp at r3
    · obtain ⟨bm, ob, b1, b2, b3, b4, b5, b6⟩ := hbm
      refine ⟨bm, ob, b1, b2, fun z => ?_, fun z => ?_, low b3 (fun ys n z => by rw [b6] at z; cases z) (fun z => by rw [b6] at z; cases z), b4, b5, b6⟩
      · obtain ⟨o, es, ep, e1, e2, _⟩ := hns
        rw [z, e1] at b3
        cases b3
        rw [e2] at b6
        cases b6
      · rw [z, hp0] at b3
        cases b3
        cases b6
    · intro z
      obtain ⟨o, es, ep, e1, e2, _⟩ := hns
      rw [z, hp0] at e1
      cases e1
      cases e2
  have env : Env0 P w K mg (hidT s.heap H) callerA [] s H :=
    { frames := rfl, mod := md, bs := fun _ _ z => of_hidT z, bsz := Nat.le_of_eq (hidT_size _ _), funs := trivial, frf := fun b z => absurd (show b ∈ ([] : List Addr) from z) (List.not_mem_nil), hok := hok, bare := .of_eq hg }
  refine codeAny_mono ((F _ inB (nsB hns) tb).go callerA [] s H ⟨[.ref a], []⟩ [.ref a] [.ref a] _ _ ⟨hr, rfl⟩ env (bind s (.ref a)) (.cons rfl .nil) (hsp H B.tab B.scr)) ?_
  intro rs s2 z
  match rs, z with
  | .error e, z => exact (show False from z).elim
  | .ok .next, z => exact z.elim
  | .ok .brk, z => exact z.elim
  | .ok .cont, z => exact z.elim
  | .ok (.ret u), z =>
    obtain ⟨v, H2, os, bare, un, hok2, ru, rfl⟩ := z
    obtain rfl : u = Value.bool true := ru
    have grow : ∀ p ∈ cs, ∃ more : Array Value, s2.heap.get? p.2 = some { cls := .none, data := .fields more } := fun p hp => by
      obtain ⟨more, e⟩ := un.tbls p.2 #[] (B.tab p hp)
      exact ⟨_, hok2 _ _ e⟩
    have keep : ∀ b o, (¬ ∃ p ∈ cs, p.2 = b) → s.heap.get? b = some o → s2.heap.get? b = some o := by
      intro b o nb h
      cases hb : H b with
      | none => exact un.keep b o h hb (fun z => absurd (show b ∈ ([] : List Addr) from z) List.not_mem_nil) List.not_mem_nil
      | some u =>
        rcases B.only b u hb with ⟨_, z⟩ | ⟨rfl, rfl, _⟩
        · exact (nb z).elim
        · have h1 := (hok _ _ hb).1
          rw [h] at h1
          cases h1
          exact (hok2 _ _ (un.frzs _ _ _ hb)).1
    refine ⟨rfl, ⟨fun b o h => ?_, fun b o h => ?_⟩, os, bare⟩
    · by_cases hb : ∃ p ∈ cs, p.2 = b
      · obtain ⟨p, hp, rfl⟩ := hb
        obtain ⟨more, e⟩ := grow p hp
        have h0 := hT p hp
        rw [h] at h0
        cases h0
        refine .inr (.inl ⟨((hC p hp).tab (hT p hp)).isCodeTable, rfl, #[], more, rfl, ?_⟩)
        rw [Array.empty_append]
        exact e
      · exact .inl (keep b o hb h)
    · by_cases hb : ∃ p ∈ cs, p.2 = b
      · obtain ⟨p, hp, rfl⟩ := hb
        obtain ⟨more, e⟩ := grow p hp
        exact ⟨_, e⟩
      · exact ⟨o, keep b o hb h⟩
/-- what is to be known of a law's def, at the heap behind its program's top -/
def LawAtG (l : PySem.W.OpenLaw) (w : World) (K : PySem.W.Frag) (k n : Nat) (x : Str) (mg : Str → Option Value) (fa : Addr) (h : Heap) : Prop :=
  ∃ (fd : FuncData) (cs : List (Addr × Addr)) (sp : Sp), ((∀ p ∈ cs, h.get? p.2 = some { cls := .none, data := .fields #[] }) ∧ (∀ p ∈ cs, K.lookup p.2 = none) ∧ ∀ p ∈ cs, PySem.W.CodeHd h p.1 p.2) ∧ (∀ (s : Shared) (u : Value), BindsTo s fd ⟨[u], []⟩ [(x, u)]) ∧
    (∀ (H : Hp) (a : Addr) (ns : List Int), ns.length ≤ n → (∀ p ∈ cs, H p.2 = some (.tbl #[])) → SqL K H a (ns.map V.int) → sp [.ref a] H (fun v _ => v = .bl true) fun _ _ _ => False) ∧
    ∀ base : Heap, K.In base → base.Ns mainGlobals mg → (∀ p ∈ cs, LamX.TabB base mg p.1 p.2) → FnG l.prog w K mg base k fa fd [x] sp
theorem walk_ofG {l : PySem.W.OpenLaw} {n k : Nat} {q : Program} {loose : List Str} {XP : (Str → Option Value) → Heap → Prop} {YP : World → Heap → Prop} {d : DefRec} {K : Params → PySem.W.Frag} {x : Str}
    (hn : l.most = some n) (hz : n ≤ sizeLine) (hdf : d.params.defaults = []) (hr : Room k callerA) (hY : ∀ (w : World) (h : Heap), YP w h → (K w.params).In h)
    (F : ∀ (w : World) (mg : Str → Option Value) (fa : Addr) (h : Heap), YP w h → (K w.params).In h → h.Ns mainGlobals mg → mg d.name = some (.ref fa) → LawAtG l w (K w.params) k n x mg fa h) : PySem.W.WalkO q loose XP YP l.row.toRowW d [] (fun f vs => PySem.call f vs) := by
  refine Att.attach_callB hn hdf ?_
  intro w _ s mg mb fa _ _ _ _ a vs ns G Y _ _ _ hmg hobj hints hlen _ hg
  have inK := hY w _ Y
  obtain ⟨fd, cs, sp, ⟨h1, h2, h3⟩, hb, hsp, hF⟩ := F w mg fa _ Y inK G.T.g hmg
  exact law_callG inK G.T.g G.T.b G.T.builtins G.T.nolimit hg h1 h2 h3 G.T.bmain hobj hints (Nat.le_trans hlen hz) hr hF hb fun H t => hsp H a ns hlen t
end
end Fr

namespace Fr
open PySem PySem.Spec PyProof.Rows L2
theorem kb1 {K : PySem.W.Frag} {fd : FuncData} {a b : Str} (h : ∀ (s : Shared) (u v : Value), BindsTo s fd ⟨[u], [(b, v)]⟩ [(a, u), (b, v)]) : L2.KBinds K fd [a, b] [b] kw1 kw1 :=
  ⟨fun s us ws _ hlen => (match us, ws, hlen with
    | [u], [v], _ => h s u v
    | [], _, h => absurd h (by simp [kw1])
    | [_], [], h => absurd h (by simp [kw1])
    | [_], _ :: _ :: _, h => absurd h (by simp [kw1])
    | _ :: _ :: _, _, h => absurd h (by simp [kw1])), fun hv hz => by
    cases hv with
    | nil => exact .nil
    | cons h1 h2 =>
      cases h2 with
      | nil =>
        cases hz with
        | nil => exact .nil
        | cons h3 h4 =>
          cases h4 with
          | nil => exact .cons h1 (.cons h3 .nil)
          | cons _ _ => exact .nil
      | cons _ _ => exact .nil⟩
def cOf (l : List Addr) (i : Nat) : Addr := l.getD i 0
def ExcRow (K : PySem.W.Frag) (C : Addr) : Prop := ∃ nm q N bs bm sn sub ab col dd k0 k1 k2 k3 k5, K.lookup C = some (excClassObj nm q C N bs bm true sn sub ab col dd k0 k1 k2 k3 k5 "ValueError.__new__") ∧ PySem.HandSPX.refsVE bm = true
theorem excRow_of {K : PySem.W.Frag} {C N : Addr} {nm q : Str} {bs bm sub : List Value} {sn : List Str} {ab : Bool} {col : Option Bool} {dd : Option Addr} {k0 k1 k2 k3 k5 : Option Value} (l : K.lookup C = some (excClassObj nm q C N bs bm true sn sub ab col dd k0 k1 k2 k3 k5 "ValueError.__new__")) (r : PySem.HandSPX.refsVE bm = true) : ExcRow K C := ⟨_, _, _, _, _, _, _, _, _, _, _, _, _, _, _, l, r⟩
theorem all_mk {l : PySem.W.OpenLaw} {w : World} {K : PySem.W.Frag} {h : Heap} {mg : Str → Option Value} {fa : Addr} (X : K.In h) (G : h.Ns mainGlobals mg) (hfa : mg "law" = some (.ref fa))
    {C c0 Pt T0 fI f1 f2 f3 f4 f5 f6 f7 f8 f9 f10 f11 f12 f13 f14 f15 f16 f17 f18 pPdimensions gPdimensions pPmodulus gPmodulus pPnames gPnames fMreads fMconstant fMwith_tables fMwith_table fMeq D0 D1 D2 D3 D4 D5 D6 D7 D8 D9 D10 D11 D12 fE : Addr} {od1 an1 od2 an2 od3 an3 od4 an4 od5 an5 od6 an6 od7 an7 od8 an8 od9 an9 od10 an10 od11 an11 od12 an12 od13 an13 od14 an14 od15 an15 od16 an16 od17 an17 od18 an18 odPdimensions anPdimensions odPmodulus anPmodulus odPnames anPnames odMreads anMreads odMconstant anMconstant odMwith_tables anMwith_tables odMwith_table anMwith_table odMeq anMeq odI anI odT odE anE : Option Addr} {sl1 sl2 sl3 sl4 sl5 sl6 sl7 sl8 sl9 sl10 sl11 sl12 sl13 sl14 sl15 sl16 sl17 sl18 slPdimensions slPmodulus slPnames slMreads slMconstant slMwith_tables slMwith_table slMeq slI slT slE : Array (Option Value)} {oc1 kV1 dc1 pm1 ct1 cd1 oc2 kV2 dc2 pm2 ct2 cd2 oc3 kV3 dc3 pm3 ct3 cd3 oc4 kV4 dc4 pm4 ct4 cd4 oc5 kV5 dc5 pm5 ct5 cd5 oc6 kV6 dc6 pm6 ct6 cd6 oc7 kV7 dc7 pm7 ct7 cd7 oc8 kV8 dc8 pm8 ct8 cd8 oc9 kV9 dc9 pm9 ct9 cd9 oc10 kV10 dc10 pm10 ct10 cd10 oc11 kV11 dc11 pm11 ct11 cd11 oc12 kV12 dc12 pm12 ct12 cd12 oc13 kV13 dc13 pm13 ct13 cd13 oc14 kV14 dc14 pm14 ct14 cd14 oc15 kV15 dc15 pm15 ct15 cd15 oc16 kV16 dc16 pm16 ct16 cd16 oc17 kV17 dc17 pm17 ct17 cd17 oc18 kV18 dc18 pm18 ct18 cd18 ocPdimensions kVPdimensions dcPdimensions pmPdimensions ctPdimensions cdPdimensions ocPmodulus kVPmodulus dcPmodulus pmPmodulus ctPmodulus cdPmodulus ocPnames kVPnames dcPnames pmPnames ctPnames cdPnames ocMreads kVMreads dcMreads pmMreads ctMreads cdMreads ocMconstant kVMconstant dcMconstant pmMconstant ctMconstant cdMconstant ocMwith_tables kVMwith_tables dcMwith_tables pmMwith_tables ctMwith_tables cdMwith_tables ocMwith_table kVMwith_table dcMwith_table pmMwith_table ctMwith_table cdMwith_table ocMeq kVMeq dcMeq pmMeq ctMeq cdMeq ocI kVI dcI pmI ctI ocT ocE kVE dcE pmE ctE cdE : Value} {restPdimensions restPmodulus restPnames : List Value} {tT t_MOST_DIMENSIONS t_MOST_TABLES t_MOST_READS t_MOST_LETTERS : Tok} {nT : Nat}
    (a1 : PySem.W.nsIn K mainGlobals "is_name" = some (some (.ref f1)))
    (l1 : K.lookup f1 = some ⟨oc1, od1, .func (PySem.W.fnOf "is_name" "is_name" (defArgs s_is_name) (defBody s_is_name) (defScope s_is_name) .none kV1 dc1 pm1 an1 cd1 ct1), sl1⟩)
    (e1 : PySem.W.codeIn K cd1 "is_name" = true)
    (k1 : PySem.W.keepIn K (.ref f1) = true)
    (a2 : PySem.W.nsIn K mainGlobals "is_read" = some (some (.ref f2)))
    (l2 : K.lookup f2 = some ⟨oc2, od2, .func (PySem.W.fnOf "is_read" "is_read" (defArgs s_is_read) (defBody s_is_read) (defScope s_is_read) .none kV2 dc2 pm2 an2 cd2 ct2), sl2⟩)
    (e2 : PySem.W.codeIn K cd2 "is_read" = true)
    (k2 : PySem.W.keepIn K (.ref f2) = true)
    (a3 : PySem.W.nsIn K mainGlobals "check_table" = some (some (.ref f3)))
    (l3 : K.lookup f3 = some ⟨oc3, od3, .func (PySem.W.fnOf "check_table" "check_table" (defArgs s_check_table) (defBody s_check_table) (defScope s_check_table) .none kV3 dc3 pm3 an3 cd3 ct3), sl3⟩)
    (e3 : PySem.W.codeIn K cd3 "check_table" = true)
    (k3 : PySem.W.keepIn K (.ref f3) = true)
    (a4 : PySem.W.nsIn K mainGlobals "check_tables" = some (some (.ref f4)))
    (l4 : K.lookup f4 = some ⟨oc4, od4, .func (PySem.W.fnOf "check_tables" "check_tables" (defArgs s_check_tables) (defBody s_check_tables) (defScope s_check_tables) .none kV4 dc4 pm4 an4 cd4 ct4), sl4⟩)
    (e4 : PySem.W.codeIn K cd4 "check_tables" = true)
    (k4 : PySem.W.keepIn K (.ref f4) = true)
    (a5 : PySem.W.nsIn K mainGlobals "check_tables_that_are_read" = some (some (.ref f5)))
    (l5 : K.lookup f5 = some ⟨oc5, od5, .func (PySem.W.fnOf "check_tables_that_are_read" "check_tables_that_are_read" (defArgs s_check_tables_that_are_read) (defBody s_check_tables_that_are_read) (defScope s_check_tables_that_are_read) .none kV5 dc5 pm5 an5 cd5 ct5), sl5⟩)
    (e5 : PySem.W.codeIn K cd5 "check_tables_that_are_read" = true)
    (k5 : PySem.W.keepIn K (.ref f5) = true)
    (a6 : PySem.W.nsIn K mainGlobals "check_system" = some (some (.ref f6)))
    (l6 : K.lookup f6 = some ⟨oc6, od6, .func (PySem.W.fnOf "check_system" "check_system" (defArgs s_check_system) (defBody s_check_system) (defScope s_check_system) .none kV6 dc6 pm6 an6 cd6 ct6), sl6⟩)
    (e6 : PySem.W.codeIn K cd6 "check_system" = true)
    (k6 : PySem.W.keepIn K (.ref f6) = true)
    (a7 : PySem.W.nsIn K mainGlobals "check_shifts" = some (some (.ref f7)))
    (l7 : K.lookup f7 = some ⟨oc7, od7, .func (PySem.W.fnOf "check_shifts" "check_shifts" (defArgs s_check_shifts) (defBody s_check_shifts) (defScope s_check_shifts) .none kV7 dc7 pm7 an7 cd7 ct7), sl7⟩)
    (e7 : PySem.W.codeIn K cd7 "check_shifts" = true)
    (k7 : PySem.W.keepIn K (.ref f7) = true)
    (a8 : PySem.W.nsIn K mainGlobals "moved" = some (some (.ref f8)))
    (l8 : K.lookup f8 = some ⟨oc8, od8, .func (PySem.W.fnOf "moved" "moved" (defArgs s_moved) (defBody s_moved) (defScope s_moved) .none kV8 dc8 pm8 an8 cd8 ct8), sl8⟩)
    (e8 : PySem.W.codeIn K cd8 "moved" = true)
    (k8 : PySem.W.keepIn K (.ref f8) = true)
    (a9 : PySem.W.nsIn K mainGlobals "shifted" = some (some (.ref f9)))
    (l9 : K.lookup f9 = some ⟨oc9, od9, .func (PySem.W.fnOf "shifted" "shifted" (defArgs s_shifted) (defBody s_shifted) (defScope s_shifted) .none kV9 dc9 pm9 an9 cd9 ct9), sl9⟩)
    (e9 : PySem.W.codeIn K cd9 "shifted" = true)
    (k9 : PySem.W.keepIn K (.ref f9) = true)
    (a10 : PySem.W.nsIn K mainGlobals "_law_pool" = some (some (.ref f10)))
    (l10 : K.lookup f10 = some ⟨oc10, od10, .func (PySem.W.fnOf "_law_pool" "_law_pool" (defArgs s_Lpool) (defBody s_Lpool) (defScope s_Lpool) .none kV10 dc10 pm10 an10 cd10 ct10), sl10⟩)
    (e10 : PySem.W.codeIn K cd10 "_law_pool" = true)
    (k10 : PySem.W.keepIn K (.ref f10) = true)
    (a11 : PySem.W.nsIn K mainGlobals "_law_draw" = some (some (.ref f11)))
    (l11 : K.lookup f11 = some ⟨oc11, od11, .func (PySem.W.fnOf "_law_draw" "_law_draw" (defArgs s_Ldraw) (defBody s_Ldraw) (defScope s_Ldraw) .none kV11 dc11 pm11 an11 cd11 ct11), sl11⟩)
    (e11 : PySem.W.codeIn K cd11 "_law_draw" = true)
    (k11 : PySem.W.keepIn K (.ref f11) = true)
    (a12 : PySem.W.nsIn K mainGlobals "_law_vector" = some (some (.ref f12)))
    (l12 : K.lookup f12 = some ⟨oc12, od12, .func (PySem.W.fnOf "_law_vector" "_law_vector" (defArgs s_Lvector) (defBody s_Lvector) (defScope s_Lvector) .none kV12 dc12 pm12 an12 cd12 ct12), sl12⟩)
    (e12 : PySem.W.codeIn K cd12 "_law_vector" = true)
    (k12 : PySem.W.keepIn K (.ref f12) = true)
    (a13 : PySem.W.nsIn K mainGlobals "_law_tables" = some (some (.ref f13)))
    (l13 : K.lookup f13 = some ⟨oc13, od13, .func (PySem.W.fnOf "_law_tables" "_law_tables" (defArgs s_Ltables) (defBody s_Ltables) (defScope s_Ltables) .none kV13 dc13 pm13 an13 cd13 ct13), sl13⟩)
    (e13 : PySem.W.codeIn K cd13 "_law_tables" = true)
    (k13 : PySem.W.keepIn K (.ref f13) = true)
    (a14 : PySem.W.nsIn K mainGlobals "_law_shift" = some (some (.ref f14)))
    (l14 : K.lookup f14 = some ⟨oc14, od14, .func (PySem.W.fnOf "_law_shift" "_law_shift" (defArgs s_Lshift) (defBody s_Lshift) (defScope s_Lshift) .none kV14 dc14 pm14 an14 cd14 ct14), sl14⟩)
    (e14 : PySem.W.codeIn K cd14 "_law_shift" = true)
    (k14 : PySem.W.keepIn K (.ref f14) = true)
    (a15 : PySem.W.nsIn K mainGlobals "_law_kind" = some (some (.ref f15)))
    (l15 : K.lookup f15 = some ⟨oc15, od15, .func (PySem.W.fnOf "_law_kind" "_law_kind" (defArgs s_Lkind) (defBody s_Lkind) (defScope s_Lkind) .none kV15 dc15 pm15 an15 cd15 ct15), sl15⟩)
    (e15 : PySem.W.codeIn K cd15 "_law_kind" = true)
    (k15 : PySem.W.keepIn K (.ref f15) = true)
    (a16 : PySem.W.nsIn K mainGlobals "_law_told" = some (some (.ref f16)))
    (l16 : K.lookup f16 = some ⟨oc16, od16, .func (PySem.W.fnOf "_law_told" "_law_told" (defArgs s_Ltold) (defBody s_Ltold) (defScope s_Ltold) .none kV16 dc16 pm16 an16 cd16 ct16), sl16⟩)
    (e16 : PySem.W.codeIn K cd16 "_law_told" = true)
    (k16 : PySem.W.keepIn K (.ref f16) = true)
    (a17 : PySem.W.nsIn K mainGlobals "_law_right" = some (some (.ref f17)))
    (l17 : K.lookup f17 = some ⟨oc17, od17, .func (PySem.W.fnOf "_law_right" "_law_right" (defArgs s_Lright) (defBody s_Lright) (defScope s_Lright) .none kV17 dc17 pm17 an17 cd17 ct17), sl17⟩)
    (e17 : PySem.W.codeIn K cd17 "_law_right" = true)
    (k17 : PySem.W.keepIn K (.ref f17) = true)
    (a18 : PySem.W.nsIn K mainGlobals "law" = some (some (.ref f18)))
    (l18 : K.lookup f18 = some ⟨oc18, od18, .func (PySem.W.fnOf "law" "law" (defArgs s_law) (defBody s_law) (defScope s_law) .none kV18 dc18 pm18 an18 cd18 ct18), sl18⟩)
    (e18 : PySem.W.codeIn K cd18 "law" = true)
    (k18 : PySem.W.keepIn K (.ref f18) = true)
    (aC : PySem.W.nsIn K mainGlobals "System" = some (some (.ref C)))
    (atPdimensions : PySem.W.findIn K (.ref C) "dimensions" = some (some (.ref pPdimensions)))
    (gePdimensions : PySem.W.specialIn K (.ref pPdimensions) "__get__" = some (some (.builtin "property.__get__")))
    (taPdimensions : PySem.W.takesIn K (.ref pPdimensions) = some true)
    (rePdimensions : PySem.W.recIn K pPdimensions "property" = some (.ref gPdimensions :: restPdimensions))
    (lPdimensions : K.lookup gPdimensions = some ⟨ocPdimensions, odPdimensions, .func (PySem.W.fnOf "dimensions" "System.dimensions" (defArgs s_System_dimensions) (defBody s_System_dimensions) (defScope s_System_dimensions) .none kVPdimensions dcPdimensions pmPdimensions anPdimensions cdPdimensions ctPdimensions), slPdimensions⟩)
    (ePdimensions : PySem.W.codeIn K cdPdimensions "System.dimensions" = true)
    (kPdimensions : PySem.W.keepIn K (.ref gPdimensions) = true)
    (atPmodulus : PySem.W.findIn K (.ref C) "modulus" = some (some (.ref pPmodulus)))
    (gePmodulus : PySem.W.specialIn K (.ref pPmodulus) "__get__" = some (some (.builtin "property.__get__")))
    (taPmodulus : PySem.W.takesIn K (.ref pPmodulus) = some true)
    (rePmodulus : PySem.W.recIn K pPmodulus "property" = some (.ref gPmodulus :: restPmodulus))
    (lPmodulus : K.lookup gPmodulus = some ⟨ocPmodulus, odPmodulus, .func (PySem.W.fnOf "modulus" "System.modulus" (defArgs s_System_modulus) (defBody s_System_modulus) (defScope s_System_modulus) .none kVPmodulus dcPmodulus pmPmodulus anPmodulus cdPmodulus ctPmodulus), slPmodulus⟩)
    (ePmodulus : PySem.W.codeIn K cdPmodulus "System.modulus" = true)
    (kPmodulus : PySem.W.keepIn K (.ref gPmodulus) = true)
    (atPnames : PySem.W.findIn K (.ref C) "names" = some (some (.ref pPnames)))
    (gePnames : PySem.W.specialIn K (.ref pPnames) "__get__" = some (some (.builtin "property.__get__")))
    (taPnames : PySem.W.takesIn K (.ref pPnames) = some true)
    (rePnames : PySem.W.recIn K pPnames "property" = some (.ref gPnames :: restPnames))
    (lPnames : K.lookup gPnames = some ⟨ocPnames, odPnames, .func (PySem.W.fnOf "names" "System.names" (defArgs s_System_names) (defBody s_System_names) (defScope s_System_names) .none kVPnames dcPnames pmPnames anPnames cdPnames ctPnames), slPnames⟩)
    (ePnames : PySem.W.codeIn K cdPnames "System.names" = true)
    (kPnames : PySem.W.keepIn K (.ref gPnames) = true)
    (atMreads : PySem.W.findIn K (.ref C) "reads" = some (some (.ref fMreads)))
    (isMreads : PySem.W.isFn K (.ref fMreads) = true)
    (lMreads : K.lookup fMreads = some ⟨ocMreads, odMreads, .func (PySem.W.fnOf "reads" "System.reads" (defArgs s_System_reads) (defBody s_System_reads) (defScope s_System_reads) .none kVMreads dcMreads pmMreads anMreads cdMreads ctMreads), slMreads⟩)
    (eMreads : PySem.W.codeIn K cdMreads "System.reads" = true)
    (kMreads : PySem.W.keepIn K (.ref fMreads) = true)
    (atMconstant : PySem.W.findIn K (.ref C) "constant" = some (some (.ref fMconstant)))
    (isMconstant : PySem.W.isFn K (.ref fMconstant) = true)
    (lMconstant : K.lookup fMconstant = some ⟨ocMconstant, odMconstant, .func (PySem.W.fnOf "constant" "System.constant" (defArgs s_System_constant) (defBody s_System_constant) (defScope s_System_constant) .none kVMconstant dcMconstant pmMconstant anMconstant cdMconstant ctMconstant), slMconstant⟩)
    (eMconstant : PySem.W.codeIn K cdMconstant "System.constant" = true)
    (kMconstant : PySem.W.keepIn K (.ref fMconstant) = true)
    (atMwith_tables : PySem.W.findIn K (.ref C) "_with_tables" = some (some (.ref fMwith_tables)))
    (isMwith_tables : PySem.W.isFn K (.ref fMwith_tables) = true)
    (lMwith_tables : K.lookup fMwith_tables = some ⟨ocMwith_tables, odMwith_tables, .func (PySem.W.fnOf "_with_tables" "System._with_tables" (defArgs s_Systemwith_tables) (defBody s_Systemwith_tables) (defScope s_Systemwith_tables) .none kVMwith_tables dcMwith_tables pmMwith_tables anMwith_tables cdMwith_tables ctMwith_tables), slMwith_tables⟩)
    (eMwith_tables : PySem.W.codeIn K cdMwith_tables "System._with_tables" = true)
    (kMwith_tables : PySem.W.keepIn K (.ref fMwith_tables) = true)
    (atMwith_table : PySem.W.findIn K (.ref C) "with_table" = some (some (.ref fMwith_table)))
    (isMwith_table : PySem.W.isFn K (.ref fMwith_table) = true)
    (lMwith_table : K.lookup fMwith_table = some ⟨ocMwith_table, odMwith_table, .func (PySem.W.fnOf "with_table" "System.with_table" (defArgs s_System_with_table) (defBody s_System_with_table) (defScope s_System_with_table) .none kVMwith_table dcMwith_table pmMwith_table anMwith_table cdMwith_table ctMwith_table), slMwith_table⟩)
    (eMwith_table : PySem.W.codeIn K cdMwith_table "System.with_table" = true)
    (kMwith_table : PySem.W.keepIn K (.ref fMwith_table) = true)
    (atMeq : PySem.W.findIn K (.ref C) "__eq__" = some (some (.ref fMeq)))
    (isMeq : PySem.W.isFn K (.ref fMeq) = true)
    (lMeq : K.lookup fMeq = some ⟨ocMeq, odMeq, .func (PySem.W.fnOf "__eq__" "System.__eq__" (defArgs s_System_eq) (defBody s_System_eq) (defScope s_System_eq) .none kVMeq dcMeq pmMeq anMeq cdMeq ctMeq), slMeq⟩)
    (eMeq : PySem.W.codeIn K cdMeq "System.__eq__" = true)
    (kMeq : PySem.W.keepIn K (.ref fMeq) = true)
    (atI : PySem.W.findIn K (.ref C) "__init__" = some (some (.ref fI)))
    (isI : PySem.W.isFn K (.ref fI) = true)
    (lI : K.lookup fI = some ⟨ocI, odI, .func (PySem.W.fnOf "__init__" "System.__init__" (defArgs s_System_init) (defBody s_System_init) (defScope s_System_init) (.ref T0) kVI dcI pmI anI (.ref c0) ctI), slI⟩)
    (eI : PySem.W.codeIn K (.ref c0) "System.__init__" = true)
    (kI : PySem.W.keepIn K (.ref fI) = true)
    (lT : K.lookup T0 = some ⟨ocT, odT, .seq [Value.int 1000003 tT].toArray nT, slT⟩)
    (pg : PySem.W.plainGet K C Str.empty = true)
    (hd : PySem.W.hasDictIn K C = true)
    (po : PySem.W.plainOver K C = true)
    (sa : PySem.W.findIn K (.ref C) "__setattr__" = some (some (.builtin "object.__setattr__")))
    (mk : PySem.W.makesIn K C = true)
    (kc : PySem.W.keepIn K (.ref C) = true)
    (haC : PySem.W.findIn K (.ref C) "__class__" = some (some (.builtin "object.__class__")))
    (hnC : PySem.W.specialIn K (.builtin "object.__class__") "__get__" = some (some (.builtin "getset_descriptor.__get__")))
    (htC : PySem.W.takesIn K (.builtin "object.__class__") = some true)
    (hmC : PySem.W.mroIn K C (.type "object") = some true)
    (n_dimensions : PySem.W.findIn K (.ref C) "_dimensions" = some none)
    (n_modulus : PySem.W.findIn K (.ref C) "_modulus" = some none)
    (n_tables : PySem.W.findIn K (.ref C) "_tables" = some none)
    (z_len : PySem.W.nsIn K mainGlobals "len" = some none)
    (z_all : PySem.W.nsIn K mainGlobals "all" = some none)
    (z_min : PySem.W.nsIn K mainGlobals "min" = some none)
    (z_abs : PySem.W.nsIn K mainGlobals "abs" = some none)
    (z_int : PySem.W.nsIn K mainGlobals "int" = some none)
    (z_list : PySem.W.nsIn K mainGlobals "list" = some none)
    (z_tuple : PySem.W.nsIn K mainGlobals "tuple" = some none)
    (z_range : PySem.W.nsIn K mainGlobals "range" = some none)
    (z_zip : PySem.W.nsIn K mainGlobals "zip" = some none)
    (z_enumerate : PySem.W.nsIn K mainGlobals "enumerate" = some none)
    (z_sorted : PySem.W.nsIn K mainGlobals "sorted" = some none)
    (z_max : PySem.W.nsIn K mainGlobals "max" = some none)
    (z_isinstance : PySem.W.nsIn K mainGlobals "isinstance" = some none)
    (z_repr : PySem.W.nsIn K mainGlobals "repr" = some none)
    (v_MOST_DIMENSIONS : PySem.W.nsIn K mainGlobals "MOST_DIMENSIONS" = some (some (.int 3 t_MOST_DIMENSIONS)))
    (v_MOST_TABLES : PySem.W.nsIn K mainGlobals "MOST_TABLES" = some (some (.int 6 t_MOST_TABLES)))
    (v_MOST_READS : PySem.W.nsIn K mainGlobals "MOST_READS" = some (some (.int 12 t_MOST_READS)))
    (v_MOST_LETTERS : PySem.W.nsIn K mainGlobals "MOST_LETTERS" = some (some (.int 8 t_MOST_LETTERS)))
    (cg0 : PySem.W.nsIn K mainGlobals "InvalidSystem" = some (some (.ref D0)))
    (cg1 : PySem.W.nsIn K mainGlobals "InvalidName" = some (some (.ref D1)))
    (cg2 : PySem.W.nsIn K mainGlobals "InvalidAxes" = some (some (.ref D2)))
    (cg3 : PySem.W.nsIn K mainGlobals "UnknownTable" = some (some (.ref D3)))
    (cg4 : PySem.W.nsIn K mainGlobals "InvalidCell" = some (some (.ref D4)))
    (cg5 : PySem.W.nsIn K mainGlobals "InvalidRead" = some (some (.ref D5)))
    (cg6 : PySem.W.nsIn K mainGlobals "InvalidShifts" = some (some (.ref D6)))
    (cg7 : PySem.W.nsIn K mainGlobals "InvalidNumber" = some (some (.ref D7)))
    (cg8 : PySem.W.nsIn K mainGlobals "NotReady" = some (some (.ref D8)))
    (cg9 : PySem.W.nsIn K mainGlobals "NoFar" = some (some (.ref D9)))
    (cg10 : PySem.W.nsIn K mainGlobals "NothingToUndo" = some (some (.ref D10)))
    (cg11 : PySem.W.nsIn K mainGlobals "Unreadable" = some (some (.ref D11)))
    (cg12 : PySem.W.nsIn K mainGlobals "ReadError" = some (some (.ref D12)))
    (x6 : ExcRow K D6)
    (sa6 : PySem.W.findIn K (.ref D6) "__setattr__" = some (some (.builtin "object.__setattr__")))
    (ex6 : PySem.W.subIn K (.ref D6) (.type "BaseException") = some true)
    (ty6 : PySem.W.typeIn K (.ref D6) = some (.type "type"))
    (kp6 : PySem.W.keepIn K (.ref D6) = true)
    (ga6 : PySem.W.findIn K (.ref D6) "__getattribute__" = some (some (.builtin "BaseException.__getattribute__")))
    (gg6 : PySem.W.findIn K (.ref D6) "__getattr__" = some none)
    (hd6 : PySem.W.hasDictIn K D6 = true)
    (kc6 : PySem.W.findIn K (.ref D6) "__class__" = some (some (.builtin "object.__class__")))
    (km6 : PySem.W.mroIn K D6 (.type "object") = some true)
    (in6 : PySem.W.findIn K (.ref D6) "__init__" = some (some (.ref fE)))
    (no6 : PySem.W.findIn K (.ref D6) "value" = some none)
    (sub6 : ((List.range 13).all fun j => PySem.W.kitOne K (.ref D6) (.ref ((cOf [D0, D1, D2, D3, D4, D5, D6, D7, D8, D9, D10, D11, D12]) j)) == some (decide (j = 6) || decide (j = 12))) = true)
    (vv6 : PySem.W.kitOne K (.ref D6) (.type "ValueError") = some true)
    (hx6 : PySem.W.exmOne K (.ref D6) (.ref D12) = some true)
    (lE : K.lookup fE = some ⟨ocE, odE, .func (PySem.W.fnOf "__init__" "ReadError.__init__" (defArgs s_ReadError_init) (defBody s_ReadError_init) (defScope s_ReadError_init) .none kVE dcE pmE anE cdE ctE), slE⟩)
    (eE : PySem.W.codeIn K cdE "ReadError.__init__" = true)
    (kE : PySem.W.keepIn K (.ref fE) = true)
    (tyE : PySem.W.typeIn K (.ref fE) = some (.type "function"))
    (z_ValueError : PySem.W.nsIn K mainGlobals "ValueError" = some none)
    (hPt : h.get? Pt = some { cls := .none, data := .fields #[] })
    (nPt : K.lookup Pt = none)
    (hc0 : PySem.W.codeHdIn K c0 Pt = true)
    : LawAtG l w K 12 63 "_law_script" mg fa h := by
  have e := hfa.symm.trans (PySem.W.mg_of X G a18)
  cases e
  have T : Txt mg := ⟨PySem.W.mg_none_of X G z_len, PySem.W.mg_none_of X G z_all, PySem.W.mg_none_of X G z_min, PySem.W.mg_none_of X G z_abs, PySem.W.mg_none_of X G z_int, PySem.W.mg_none_of X G z_list, PySem.W.mg_none_of X G z_tuple, PySem.W.mg_none_of X G z_range, PySem.W.mg_none_of X G z_zip, PySem.W.mg_none_of X G z_enumerate, PySem.W.mg_none_of X G z_sorted, ⟨_, PySem.W.mg_of X G v_MOST_DIMENSIONS, ⟨_, rfl⟩⟩, ⟨_, PySem.W.mg_of X G v_MOST_TABLES, ⟨_, rfl⟩⟩, ⟨_, PySem.W.mg_of X G v_MOST_READS, ⟨_, rfl⟩⟩, ⟨_, PySem.W.mg_of X G v_MOST_LETTERS, ⟨_, rfl⟩⟩⟩
  have zm := PySem.W.mg_none_of X G z_max
  have zi := PySem.W.mg_none_of X G z_isinstance
  have zr := PySem.W.mg_none_of X G z_repr
  have cl : Cls K C := ⟨pg, hd, po, sa⟩
  have TC : TxtC K mg C := ⟨cl, n_dimensions, n_modulus, n_tables, PySem.W.mg_of X G aC⟩
  have isC : C8.InsC K C := ⟨cl, haC, hnC, htC, hmC, if_pos (beq_self_eq_true _)⟩
  have F1 := fun_mk (st := s_is_name) l1 e1 k1
  have b1 := F1.binds (ps := ["text"]) fun _ _ _ _ _ _ us hl => match us, hl with | [_], _ => rfl
  have F2 := fun_mk (st := s_is_read) l2 e2 k2
  have b2 := F2.binds (ps := ["read", "dimensions"]) fun _ _ _ _ _ _ us hl => match us, hl with | [_, _], _ => rfl
  have F3 := fun_mk (st := s_check_table) l3 e3 k3
  have b3 := F3.binds (ps := ["system", "name"]) fun _ _ _ _ _ _ us hl => match us, hl with | [_, _], _ => rfl
  have F4 := fun_mk (st := s_check_tables) l4 e4 k4
  have b4 := F4.binds (ps := ["dimensions", "tables"]) fun _ _ _ _ _ _ us hl => match us, hl with | [_, _], _ => rfl
  have F5 := fun_mk (st := s_check_tables_that_are_read) l5 e5 k5
  have b5 := F5.binds (ps := ["tables"]) fun _ _ _ _ _ _ us hl => match us, hl with | [_], _ => rfl
  have F6 := fun_mk (st := s_check_system) l6 e6 k6
  have b6 := F6.binds (ps := ["dimensions", "tables", "modulus"]) fun _ _ _ _ _ _ us hl => match us, hl with | [_, _, _], _ => rfl
  have F7 := fun_mk (st := s_check_shifts) l7 e7 k7
  have b7 := F7.binds (ps := ["system", "shifts"]) fun _ _ _ _ _ _ us hl => match us, hl with | [_, _], _ => rfl
  have F8 := fun_mk (st := s_moved) l8 e8 k8
  have b8 := F8.binds (ps := ["vector", "own", "other"]) fun _ _ _ _ _ _ us hl => match us, hl with | [_, _, _], _ => rfl
  have F9 := fun_mk (st := s_shifted) l9 e9 k9
  have b9 := F9.binds (ps := ["system", "shifts"]) fun _ _ _ _ _ _ us hl => match us, hl with | [_, _], _ => rfl
  have F10 := fun_mk (st := s_Lpool) l10 e10 k10
  have b10 := F10.binds (ps := ["_law_script", "_law_at"]) fun _ _ _ _ _ _ us hl => match us, hl with | [_, _], _ => rfl
  have F11 := fun_mk (st := s_Ldraw) l11 e11 k11
  have b11 := F11.binds (ps := ["_law_pool_here", "_law_many"]) fun _ _ _ _ _ _ us hl => match us, hl with | [_, _], _ => rfl
  have F12 := fun_mk (st := s_Lvector) l12 e12 k12
  have b12 := F12.binds (ps := ["_law_pool_here", "_law_axes", "_law_rows"]) fun _ _ _ _ _ _ us hl => match us, hl with | [_, _, _], _ => rfl
  have F13 := fun_mk (st := s_Ltables) l13 e13 k13
  have b13 := F13.binds (ps := ["_law_pool_here", "_law_axes", "_law_most"]) fun _ _ _ _ _ _ us hl => match us, hl with | [_, _, _], _ => rfl
  have F14 := fun_mk (st := s_Lshift) l14 e14 k14
  have b14 := F14.binds (ps := ["_law_pool_here", "_law_titles", "_law_axes"]) fun _ _ _ _ _ _ us hl => match us, hl with | [_, _, _], _ => rfl
  have F15 := fun_mk (st := s_Lkind) l15 e15 k15
  have b15 := F15.binds (ps := ["_law_caught"]) fun _ _ _ _ _ _ us hl => match us, hl with | [_], _ => rfl
  have F16 := fun_mk (st := s_Ltold) l16 e16 k16
  have b16 := F16.binds (ps := ["_law_made", "_law_moved"]) fun _ _ _ _ _ _ us hl => match us, hl with | [_, _], _ => rfl
  have F17 := fun_mk (st := s_Lright) l17 e17 k17
  have b17 := F17.binds (ps := ["_law_pool_here"]) fun _ _ _ _ _ _ us hl => match us, hl with | [_], _ => rfl
  have F18 := fun_mk (st := s_law) l18 e18 k18
  have FPdimensions := fun_mk (st := s_System_dimensions) lPdimensions ePdimensions kPdimensions
  have bPdimensions := FPdimensions.binds (ps := ["self"]) fun _ _ _ _ _ _ us hl => match us, hl with | [_], _ => rfl
  have FPmodulus := fun_mk (st := s_System_modulus) lPmodulus ePmodulus kPmodulus
  have bPmodulus := FPmodulus.binds (ps := ["self"]) fun _ _ _ _ _ _ us hl => match us, hl with | [_], _ => rfl
  have FPnames := fun_mk (st := s_System_names) lPnames ePnames kPnames
  have bPnames := FPnames.binds (ps := ["self"]) fun _ _ _ _ _ _ us hl => match us, hl with | [_], _ => rfl
  have FMreads := fun_mk (st := s_System_reads) lMreads eMreads kMreads
  have bMreads := FMreads.binds (ps := ["self", "name"]) fun _ _ _ _ _ _ us hl => match us, hl with | [_, _], _ => rfl
  have FMconstant := fun_mk (st := s_System_constant) lMconstant eMconstant kMconstant
  have bMconstant := FMconstant.binds (ps := ["self", "name"]) fun _ _ _ _ _ _ us hl => match us, hl with | [_, _], _ => rfl
  have FMwith_tables := fun_mk (st := s_Systemwith_tables) lMwith_tables eMwith_tables kMwith_tables
  have bMwith_tables := FMwith_tables.binds (ps := ["self", "tables"]) fun _ _ _ _ _ _ us hl => match us, hl with | [_, _], _ => rfl
  have FMwith_table := fun_mk (st := s_System_with_table) lMwith_table eMwith_table kMwith_table
  have bMwith_table := FMwith_table.binds (ps := ["self", "name", "constant", "reads"]) fun _ _ _ _ _ _ us hl => match us, hl with | [_, _, _, _], _ => rfl
  have FMeq := fun_mk (st := s_System_eq) lMeq eMeq kMeq
  have bMeq := FMeq.binds (ps := ["self", "other"]) fun _ _ _ _ _ _ us hl => match us, hl with | [_, _], _ => rfl
  have FI : FunC K "__init__" "System.__init__" s_System_init fI _ c0 := ⟨_, _, _, _, _, _, _, _, _, rfl, lI, eI⟩
  have FID : FunD K "__init__" "System.__init__" (defArgs s_System_init) (defBody s_System_init) (defScope s_System_init) [.int 1000003] [] fI _ := ⟨⟨_, _, _, _, _, _, _, _, _, _, rfl, lI, eI, .inr ⟨by simp, T0, _, _, _, rfl, lT, rfl, .cons ⟨_, rfl⟩ .nil⟩, .inl rfl⟩, kI⟩
  obtain ⟨ds, hds, bI⟩ := FID.binds1 (ps := ["self", "dimensions", "tables", "modulus"]) 3 0 (by simp) rfl fun _ _ _ _ _ _ _ us its h1 h2 => match us, its, h1, h2 with | [_, _, _], [_], _, _ => ⟨_, rfl, rfl⟩
  obtain ⟨ds3, hds3, bI3⟩ := FID.binds1 (ps := ["self", "dimensions", "tables", "modulus"]) 4 1 (by simp) rfl fun _ _ _ _ _ _ _ us its h1 h2 => match us, its, h1, h2 with | [_, _, _, _], [_], _, _ => ⟨_, rfl, rfl⟩
  obtain ⟨TT, hTT⟩ : ∃ TT : List (Addr × Str), TT = [(Pt, ("System.__init__.<locals>.<lambda>" : Str))] := ⟨_, rfl⟩
  have hmT : (Pt, ("System.__init__.<locals>.<lambda>" : Str)) ∈ TT := by rw [hTT]; exact List.mem_singleton.mpr rfl
  have huT : ∀ p ∈ TT, p.1 = Pt → p.2 = ("System.__init__.<locals>.<lambda>" : Str) := fun p hp _ => by rw [hTT] at hp; rw [List.mem_singleton.mp hp]
  refine ⟨PySem.W.fnOf "law" "law" (defArgs s_law) (defBody s_law) (defScope s_law) .none kV18 dc18 pm18 an18 cd18 ct18, [(c0, Pt)], spLaw32 K TT, ⟨?_, ?_, ?_⟩, fun s v => .of_eq rfl, ?_, fun base KB GB TB => ?_⟩
  · intro p hp
    rw [List.mem_singleton.mp hp]
    exact hPt
  · intro p hp
    rw [List.mem_singleton.mp hp]
    exact nPt
  · intro p hp
    rw [List.mem_singleton.mp hp]
    exact PySem.W.codeHd_of_K X hc0
  · intro H a ns hl hT hS
    refine ⟨a, ns, rfl, hS, hl, fun p hp => ?_, fun _ => rfl⟩
    rw [hTT] at hp
    rw [List.mem_singleton.mp hp]
    exact LamX.TabS.nil (hT _ (List.mem_singleton.mpr rfl))
  have TBc := TB _ (List.mem_singleton.mpr rfl)
  have TE : TxX mg (cOf [D0, D1, D2, D3, D4, D5, D6, D7, D8, D9, D10, D11, D12]) := ⟨PySem.W.mg_none_of X G z_ValueError, PySem.W.mg_of X G cg0, PySem.W.mg_of X G cg1, PySem.W.mg_of X G cg2, PySem.W.mg_of X G cg3, PySem.W.mg_of X G cg4, PySem.W.mg_of X G cg5, PySem.W.mg_of X G cg6, PySem.W.mg_of X G cg7, PySem.W.mg_of X G cg8, PySem.W.mg_of X G cg9, PySem.W.mg_of X G cg10, PySem.W.mg_of X G cg11, PySem.W.mg_of X G cg12⟩
  have FE := fun_mk (st := s_ReadError_init) lE eE kE
  have bE := FE.binds (ps := ["self", "value"]) fun _ _ _ _ _ _ us hl => match us, hl with | [_, _], _ => rfl
  have EC6 : ErrC K ((cOf [D0, D1, D2, D3, D4, D5, D6, D7, D8, D9, D10, D11, D12]) 6) := ⟨⟨x6, sa6, ex6, ty6, kp6⟩, ga6, gg6, hd6, kc6, hnC, htC, km6⟩
  have KE6 : KitE K (cOf [D0, D1, D2, D3, D4, D5, D6, D7, D8, D9, D10, D11, D12]) 6 := ⟨fun j hj => eq_of_beq (List.all_eq_true.mp sub6 j (List.mem_range.mpr hj)), vv6⟩
  have r_InvalidShifts : MkR l.prog w K mg base 1 "InvalidShifts" ((cOf [D0, D1, D2, D3, D4, D5, D6, D7, D8, D9, D10, D11, D12]) 6) := ⟨EC6, no6, _, _, _, in6, tyE, ok_errI FE, bE, PySem.W.mg_of X G cg6⟩
  have c_is_name : C8.Cal l.prog w K mg base 1 "is_name" spIsName [] := ⟨_, _, _, _, ok_is_name F1 T, PySem.W.mg_of X G a1, k1, b1, .nil⟩
  have c_is_read : C8.Cal l.prog w K mg base 2 "is_read" (spIsRead K) [] := ⟨_, _, _, _, ok_is_read F2 T c_is_name, PySem.W.mg_of X G a2, k2, b2, .nil⟩
  have p_dimensions : Prp l.prog w K mg base 1 C "dimensions" (spDims K C) := ⟨_, _, _, _, cl, ⟨atPdimensions, gePdimensions, taPdimensions, _, rePdimensions⟩, ok_dims FPdimensions TC, bPdimensions⟩
  have p_modulus : Prp l.prog w K mg base 1 C "modulus" (spMod K C) := ⟨_, _, _, _, cl, ⟨atPmodulus, gePmodulus, taPmodulus, _, rePmodulus⟩, ok_mod FPmodulus TC, bPmodulus⟩
  have p_names : Prp l.prog w K mg base 1 C "names" (spNames K C) := ⟨_, _, _, _, cl, ⟨atPnames, gePnames, taPnames, _, rePnames⟩, ok_names FPnames T TC, bPnames⟩
  have c_check_table : C8.Cal l.prog w K mg base 3 "check_table" (spCheckTable K C) [] := ⟨_, _, _, _, ok_check_table F3 T p_names, PySem.W.mg_of X G a3, k3, b3, .nil⟩
  have t_reads : C8.Met l.prog w K mg base 4 C "reads" (spReads K C) [] := ⟨_, _, _, _, cl, ⟨atMreads, isMreads, kMreads⟩, ok_reads FMreads T TC c_check_table, bMreads, .nil⟩
  have t_constant : C8.Met l.prog w K mg base 4 C "constant" (spConst K C) [] := ⟨_, _, _, _, cl, ⟨atMconstant, isMconstant, kMconstant⟩, ok_const FMconstant T TC c_check_table, bMconstant, .nil⟩
  have c_check_tables : C8.Cal l.prog w K mg base 3 "check_tables" (spCheckTables K) [] := ⟨_, _, _, _, ok_check_tables F4 T c_is_name c_is_read, PySem.W.mg_of X G a4, k4, b4, .nil⟩
  have c_check_tables_that_are_read : C8.Cal l.prog w K mg base 3 "check_tables_that_are_read" (spCheckRead K) [] := ⟨_, _, _, _, ok_check_read F5 T, PySem.W.mg_of X G a5, k5, b5, .nil⟩
  have c_check_system : C8.Cal l.prog w K mg base 4 "check_system" (spCheckSystem K) [] := ⟨_, _, _, _, ok_check_system F6 T c_check_tables c_check_tables_that_are_read, PySem.W.mg_of X G a6, k6, b6, .nil⟩
  have m_System3 : C8.Mak l.prog w K mg base 5 "System" C (spInit K C TT) [] := ⟨_, _, _, ds3, ⟨mk, atI, isI, kc⟩, ok_init FI T TC c_check_system TBc hmT huT, PySem.W.mg_of X G aC, bI3, hds3⟩
  have m_System : C8.Mak l.prog w K mg base 5 "System" C (spInit K C TT) [.int 1000003] := ⟨_, _, _, _, ⟨mk, atI, isI, kc⟩, ok_init FI T TC c_check_system TBc hmT huT, PySem.W.mg_of X G aC, bI, hds⟩
  have t__with_tables : C8.Met l.prog w K mg base 7 C "_with_tables" (spWith K C TT) [] := ⟨_, _, _, _, cl, ⟨atMwith_tables, isMwith_tables, kMwith_tables⟩, ok_with FMwith_tables T TC m_System3, bMwith_tables, .nil⟩
  have t_with_table : C8.Met l.prog w K mg base 8 C "with_table" (spWT K C TT) [] := ⟨_, _, _, _, cl, ⟨atMwith_table, isMwith_table, kMwith_table⟩, ok_wt FMwith_table T TC t__with_tables, bMwith_table, .nil⟩
  have eq_System : EqM l.prog w K mg base 1 C (spSysEq K C) := ⟨_, _, _, cl, atMeq, isMeq, ok_eqS FMeq T TC zi isC, bMeq⟩
  have c_check_shifts : C8.Cal l.prog w K mg base 3 "check_shifts" (spCheckSh K C) [] := ⟨_, _, _, _, ok_check_sh F7 T p_names p_dimensions, PySem.W.mg_of X G a7, k7, b7, .nil⟩
  have x_check_shifts : CalX l.prog w K mg base 3 "check_shifts" (spCheckShB K C ((cOf [D0, D1, D2, D3, D4, D5, D6, D7, D8, D9, D10, D11, D12]) 6)) := ⟨_, _, _, fn_or (ok_check_sh F7 T p_names p_dimensions) (ok_check_shX F7 T p_names p_dimensions r_InvalidShifts), PySem.W.mg_of X G a7, k7, b7⟩
  have c_moved : C8.Cal l.prog w K mg base 1 "moved" (spMoved K) [] := ⟨_, _, _, _, ok_moved F8 T, PySem.W.mg_of X G a8, k8, b8, .nil⟩
  have x_shifted : CalX l.prog w K mg base 9 "shifted" (spShiftedB K C ((cOf [D0, D1, D2, D3, D4, D5, D6, D7, D8, D9, D10, D11, D12]) 6) TT) := ⟨_, _, _, fn_or (ok_shifted F9 T TC p_names c_check_shifts t_reads t_constant c_moved t_with_table) (ok_shiftedX F9 T TC p_names x_check_shifts t_reads t_constant c_moved t_with_table), PySem.W.mg_of X G a9, k9, b9⟩
  have c_Lpool : C8.Cal l.prog w K mg base 1 "_law_pool" (spPool K) [] := ⟨_, _, _, _, ok_pool F10 T zm, PySem.W.mg_of X G a10, k10, b10, .nil⟩
  have c_Ldraw : C8.Cal l.prog w K mg base 1 "_law_draw" spDraw [] := ⟨_, _, _, _, ok_draw F11 T, PySem.W.mg_of X G a11, k11, b11, .nil⟩
  have c_Lvector : C8.Cal l.prog w K mg base 2 "_law_vector" (spVec K) [] := ⟨_, _, _, _, ok_vec F12 T zm c_Ldraw, PySem.W.mg_of X G a12, k12, b12, .nil⟩
  have c_Ltables : C8.Cal l.prog w K mg base 3 "_law_tables" (spTabs K) [] := ⟨_, _, _, _, ok_tabs F13 T c_Ldraw c_Lvector, PySem.W.mg_of X G a13, k13, b13, .nil⟩
  have c_Lshift : C8.Cal l.prog w K mg base 2 "_law_shift" (spShift K) [] := ⟨_, _, _, _, ok_shift F14 T c_Ldraw, PySem.W.mg_of X G a14, k14, b14, .nil⟩
  have c_Lkind : C8.Cal l.prog w K mg base 1 "_law_kind" (spKind K (cOf [D0, D1, D2, D3, D4, D5, D6, D7, D8, D9, D10, D11, D12])) [] := ⟨_, _, _, _, ok_kind F15 T TE zi, PySem.W.mg_of X G a15, k15, b15, .nil⟩
  have c_Ltold : C8.Cal l.prog w K mg base 10 "_law_told" (spTold K C TT) [] := ⟨_, _, _, _, ok_told F16 T TE no6 EC6 KE6 hx6 x_shifted c_Lkind, PySem.W.mg_of X G a16, k16, b16, .nil⟩
  have c_Lright : CalG l.prog w K mg base 11 "_law_right" (spRightX K TT) := ⟨_, _, _, ok_rightX F17 T zr TC m_System eq_System c_Ldraw c_Ltables c_Lshift c_Ltold, PySem.W.mg_of X G a17, k17, b17⟩
  exact ok_law32 F18 T zm TC c_Lpool c_Lright m_System c_Ltold
end Fr

open PySem PySem.W PyProof.Rows
set_option maxRecDepth 100000 in
set_option maxHeartbeats 0 in
theorem PySem.Challenge.cw_farreads_k32_errors_of_shifts_holds : PySem.Challenge.rw_farreads_k32_errors_of_shifts.Holds := by
  w_on; o_law; k_head; (case hw => w_witness2)
  k_fill
  refine Fr.walk_ofG (n := 63) (k := 12) (x := "_law_script") (l := PySem.Challenge.rw_farreads_k32_errors_of_shifts) rfl (by decide) rfl ⟨rfl, by decide, by decide⟩ (fun w h Y => PySem.W.km_in_of Y) ?F
  case F =>
    intro w mg fa h Y KX G hmg
    have hPt := PySem.W.km_tabs_of Y _ (List.mem_singleton.mpr rfl)
    refine' Fr.all_mk (Pt := _) KX G hmg ?a1 ?l1 ?e1 ?k1 ?a2 ?l2 ?e2 ?k2 ?a3 ?l3 ?e3 ?k3 ?a4 ?l4 ?e4 ?k4 ?a5 ?l5 ?e5 ?k5 ?a6 ?l6 ?e6 ?k6 ?a7 ?l7 ?e7 ?k7 ?a8 ?l8 ?e8 ?k8 ?a9 ?l9 ?e9 ?k9 ?a10 ?l10 ?e10 ?k10 ?a11 ?l11 ?e11 ?k11 ?a12 ?l12 ?e12 ?k12 ?a13 ?l13 ?e13 ?k13 ?a14 ?l14 ?e14 ?k14 ?a15 ?l15 ?e15 ?k15 ?a16 ?l16 ?e16 ?k16 ?a17 ?l17 ?e17 ?k17 ?a18 ?l18 ?e18 ?k18 ?aC ?atPdimensions ?gePdimensions ?taPdimensions ?rePdimensions ?lPdimensions ?ePdimensions ?kPdimensions ?atPmodulus ?gePmodulus ?taPmodulus ?rePmodulus ?lPmodulus ?ePmodulus ?kPmodulus ?atPnames ?gePnames ?taPnames ?rePnames ?lPnames ?ePnames ?kPnames ?atMreads ?isMreads ?lMreads ?eMreads ?kMreads ?atMconstant ?isMconstant ?lMconstant ?eMconstant ?kMconstant ?atMwith_tables ?isMwith_tables ?lMwith_tables ?eMwith_tables ?kMwith_tables ?atMwith_table ?isMwith_table ?lMwith_table ?eMwith_table ?kMwith_table ?atMeq ?isMeq ?lMeq ?eMeq ?kMeq ?atI ?isI ?lI ?eI ?kI ?lT ?pg ?hd ?po ?sa ?mk ?kc ?haC ?hnC ?htC ?hmC ?n_dimensions ?n_modulus ?n_tables ?z_len ?z_all ?z_min ?z_abs ?z_int ?z_list ?z_tuple ?z_range ?z_zip ?z_enumerate ?z_sorted ?z_max ?z_isinstance ?z_repr ?v_MOST_DIMENSIONS ?v_MOST_TABLES ?v_MOST_READS ?v_MOST_LETTERS ?cg0 ?cg1 ?cg2 ?cg3 ?cg4 ?cg5 ?cg6 ?cg7 ?cg8 ?cg9 ?cg10 ?cg11 ?cg12 ?x6 ?sa6 ?ex6 ?ty6 ?kp6 ?ga6 ?gg6 ?hd6 ?kc6 ?km6 ?in6 ?no6 ?sub6 ?vv6 ?hx6 ?lE ?eE ?kE ?tyE ?z_ValueError hPt ?nPt ?hc0
    (case a1 => k_is)
    (case l1 => k_is)
    (case e1 => k_is)
    (case k1 => k_is)
    (case a2 => k_is)
    (case l2 => k_is)
    (case e2 => k_is)
    (case k2 => k_is)
    (case a3 => k_is)
    (case l3 => k_is)
    (case e3 => k_is)
    (case k3 => k_is)
    (case a4 => k_is)
    (case l4 => k_is)
    (case e4 => k_is)
    (case k4 => k_is)
    (case a5 => k_is)
    (case l5 => k_is)
    (case e5 => k_is)
    (case k5 => k_is)
    (case a6 => k_is)
    (case l6 => k_is)
    (case e6 => k_is)
    (case k6 => k_is)
    (case a7 => k_is)
    (case l7 => k_is)
    (case e7 => k_is)
    (case k7 => k_is)
    (case a8 => k_is)
    (case l8 => k_is)
    (case e8 => k_is)
    (case k8 => k_is)
    (case a9 => k_is)
    (case l9 => k_is)
    (case e9 => k_is)
    (case k9 => k_is)
    (case a10 => k_is)
    (case l10 => k_is)
    (case e10 => k_is)
    (case k10 => k_is)
    (case a11 => k_is)
    (case l11 => k_is)
    (case e11 => k_is)
    (case k11 => k_is)
    (case a12 => k_is)
    (case l12 => k_is)
    (case e12 => k_is)
    (case k12 => k_is)
    (case a13 => k_is)
    (case l13 => k_is)
    (case e13 => k_is)
    (case k13 => k_is)
    (case a14 => k_is)
    (case l14 => k_is)
    (case e14 => k_is)
    (case k14 => k_is)
    (case a15 => k_is)
    (case l15 => k_is)
    (case e15 => k_is)
    (case k15 => k_is)
    (case a16 => k_is)
    (case l16 => k_is)
    (case e16 => k_is)
    (case k16 => k_is)
    (case a17 => k_is)
    (case l17 => k_is)
    (case e17 => k_is)
    (case k17 => k_is)
    (case a18 => k_is)
    (case l18 => k_is)
    (case e18 => k_is)
    (case k18 => k_is)
    (case aC => k_is)
    (case atPdimensions => k_is)
    (case gePdimensions => k_is)
    (case taPdimensions => k_is)
    (case rePdimensions => k_is)
    (case lPdimensions => k_is)
    (case ePdimensions => k_is)
    (case kPdimensions => k_is)
    (case atPmodulus => k_is)
    (case gePmodulus => k_is)
    (case taPmodulus => k_is)
    (case rePmodulus => k_is)
    (case lPmodulus => k_is)
    (case ePmodulus => k_is)
    (case kPmodulus => k_is)
    (case atPnames => k_is)
    (case gePnames => k_is)
    (case taPnames => k_is)
    (case rePnames => k_is)
    (case lPnames => k_is)
    (case ePnames => k_is)
    (case kPnames => k_is)
    (case atMreads => k_is)
    (case isMreads => k_is)
    (case lMreads => k_is)
    (case eMreads => k_is)
    (case kMreads => k_is)
    (case atMconstant => k_is)
    (case isMconstant => k_is)
    (case lMconstant => k_is)
    (case eMconstant => k_is)
    (case kMconstant => k_is)
    (case atMwith_tables => k_is)
    (case isMwith_tables => k_is)
    (case lMwith_tables => k_is)
    (case eMwith_tables => k_is)
    (case kMwith_tables => k_is)
    (case atMwith_table => k_is)
    (case isMwith_table => k_is)
    (case lMwith_table => k_is)
    (case eMwith_table => k_is)
    (case kMwith_table => k_is)
    (case atMeq => k_is)
    (case isMeq => k_is)
    (case lMeq => k_is)
    (case eMeq => k_is)
    (case kMeq => k_is)
    (case atI => k_is)
    (case isI => k_is)
    (case lI => k_is)
    (case eI => k_is)
    (case kI => k_is)
    (case lT => k_is)
    (case pg => k_is)
    (case hd => k_is)
    (case po => k_is)
    (case sa => k_is)
    (case mk => k_is)
    (case kc => k_is)
    (case haC => k_is)
    (case hnC => k_is)
    (case htC => k_is)
    (case hmC => k_is)
    (case n_dimensions => k_is)
    (case n_modulus => k_is)
    (case n_tables => k_is)
    (case z_len => k_is)
    (case z_all => k_is)
    (case z_min => k_is)
    (case z_abs => k_is)
    (case z_int => k_is)
    (case z_list => k_is)
    (case z_tuple => k_is)
    (case z_range => k_is)
    (case z_zip => k_is)
    (case z_enumerate => k_is)
    (case z_sorted => k_is)
    (case z_max => k_is)
    (case z_isinstance => k_is)
    (case z_repr => k_is)
    (case v_MOST_DIMENSIONS => k_is)
    (case v_MOST_TABLES => k_is)
    (case v_MOST_READS => k_is)
    (case v_MOST_LETTERS => k_is)
    (case cg0 => k_is)
    (case cg1 => k_is)
    (case cg2 => k_is)
    (case cg3 => k_is)
    (case cg4 => k_is)
    (case cg5 => k_is)
    (case cg6 => k_is)
    (case cg7 => k_is)
    (case cg8 => k_is)
    (case cg9 => k_is)
    (case cg10 => k_is)
    (case cg11 => k_is)
    (case cg12 => k_is)
    (case x6 => (refine' Fr.excRow_of ?l ?r; (case l => k_is); (case r => decide +kernel)))
    (case sa6 => k_is)
    (case ex6 => k_is)
    (case ty6 => k_is)
    (case kp6 => k_is)
    (case ga6 => k_is)
    (case gg6 => k_is)
    (case hd6 => k_is)
    (case kc6 => k_is)
    (case km6 => k_is)
    (case in6 => k_is)
    (case no6 => k_is)
    (case sub6 => kernel_rfl)
    (case vv6 => kernel_rfl)
    (case hx6 => kernel_rfl)
    (case lE => k_is)
    (case eE => k_is)
    (case kE => k_is)
    (case tyE => k_is)
    (case z_ValueError => k_is)
    (case nPt => kernel_rfl)
    (case hc0 => kernel_rfl)
