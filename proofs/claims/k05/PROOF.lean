import PyProof.Rows.All
import Wide.All
import OpenK.AllK
import Wide.FinOn
import HandS.ForMost
import HandS.Wide
import HandS.ForExc
import HandS.Deep
import HandS.Evl
import HandS.Walk
import HandS.Codes
import HandS.Zip
import HandS.Property
import HandS.Defaults
import HandS.TupAny
import HandS.More
import HandS.Lambda
import HandS.SortKw
import KE.SortKeyHeap
import HandS.DictComp
import PySem.Challenge.RW_farreads_k05_errors_of_systems
import HandS.DeepEq
import HandS.OwnEq
import KE.GoesEnum
import HandS.EndTab
import PyProof.ReprRoads
import HandS.RaiseMore
import PyProof.ReprLen
import HandS.Rev
import HandS.SortInts
import HandS.Conv
import PyProof.Rows.CountFlat
import HandS.ExcInit
import HandS.IsInst
import KE.KExcIs
import HandS.Exc
import HandS.ExcOwn
import HandS.ExcField
import HandS.ExcIs
import HandS.HotCalls
import HandS.ExcInitHot
set_option Elab.async false
set_option linter.all false
set_option maxRecDepth 100000
set_option maxHeartbeats 8000000
namespace Fr
open PySem PySem.Spec PyProof.Rows L2
section
variable {K : PySem.W.Frag} {H H' : Hp}
theorem sqt (e : Same H H') {a : Addr} {xs : List V} (h : SqT K H a xs) : SqT K H' a xs := Evl.ex_t e h
theorem sql (e : Same H H') {a : Addr} {xs : List V} (h : SqL K H a xs) : SqL K H' a xs := Evl.ex_l e h
/-- lists, tuples, locked things -/
def dat : HO → Bool
  | .lst _ => true
  | .tup _ => true
  | .frz _ _ => true
  | _ => false
/-- what data is made of stays -/
def SD (H H' : Hp) : Prop := ∀ b o, H b = some o → dat o = true → H' b = some o
theorem SD.of (e : Same H H') : SD H H' := fun b o h _ => e b o h
theorem SD.tr {H'' : Hp} (a : SD H H') (b : SD H' H'') : SD H H'' := fun c o h d => b c o (a c o h d) d
theorem SD.upd {s : Addr} {u o : HO} (e : SD H H') (h : H' s = some u) (n : dat u = false) : SD H (upd H' s o) := fun b x q d => by
  have z := e b x q d
  have ne : b ≠ s := fun y => by
    rw [y, h] at z
    cases z
    rw [n] at d
    cases d
  rw [upd_ne ne]
  exact z
theorem sqtd (e : SD H H') {a : Addr} {xs : List V} (h : SqT K H a xs) : SqT K H' a xs := by
  rcases h with (h | ⟨o, h⟩) | h
  · exact .inl (.inl (e _ _ h rfl))
  · exact .inl (.inr ⟨o, e _ _ h rfl⟩)
  · exact .inr h
theorem sqld (e : SD H H') {a : Addr} {xs : List V} (h : SqL K H a xs) : SqL K H' a xs := by
  rcases h with (h | ⟨o, h⟩) | h
  · exact .inl (.inl (e _ _ h rfl))
  · exact .inl (.inr ⟨o, e _ _ h rfl⟩)
  · exact .inr h
mutual
theorem dpd (e : SD H H') : ∀ (d : PyData) (v : V), Dp K H v d → Dp K H' v d
  | .none, _, h => by cases h; exact .non
  | .bool b, _, h => by cases h; exact .bl b
  | .int i, _, h => by cases h; exact .int i
  | .str x, _, h => by cases h; exact .str x
  | .list ds, _, h => by
    cases h with
    | lst hs ha => exact .lst (sqld e hs) (dpsd e ds _ ha)
  | .tuple ds, _, h => by
    cases h with
    | tup hs ha => exact .tup (sqtd e hs) (dpsd e ds _ ha)
  | .dict _, _, h => by cases h
theorem dpsd (e : SD H H') : ∀ (ds : List PyData) (vs : List V), DpAll K H vs ds → DpAll K H' vs ds
  | [], _, h => by cases h; exact .nil
  | d :: ds, _, h => by
    cases h with
    | cons h1 h2 => exact .cons (dpd e d _ h1) (dpsd e ds _ h2)
end
theorem dpm (e : Same H H') (d : PyData) (v : V) (h : Dp K H v d) : Dp K H' v d := dpd (.of e) d v h
theorem dpsm (e : Same H H') (ds : List PyData) (vs : List V) (h : DpAll K H vs ds) : DpAll K H' vs ds := dpsd (.of e) ds vs h
theorem dps_len : ∀ {ds : List PyData} {vs : List V}, DpAll K H vs ds → vs.length = ds.length
  | [], _, h => by cases h; rfl
  | d :: ds, _, h => by
    cases h with
    | cons h1 h2 => exact congrArg Nat.succ (dps_len h2)
theorem dps_get : ∀ {ds : List PyData} {vs : List V} {i : Nat} {v : V}, DpAll K H vs ds → vs[i]? = some v → ∃ d, ds[i]? = some d ∧ Dp K H v d
  | [], _, _, _, h, e => by cases h; cases e
  | d :: ds, _, 0, v, h, e => by
    cases h with
    | cons h1 h2 => cases e; exact ⟨d, rfl, h1⟩
  | d :: ds, _, i + 1, v, h, e => by
    cases h with
    | cons h1 h2 => exact dps_get (i := i) h2 (by simpa using e)
theorem dps_get' : ∀ {ds : List PyData} {vs : List V} {i : Nat} {d : PyData}, DpAll K H vs ds → ds[i]? = some d → ∃ v, vs[i]? = some v ∧ Dp K H v d
  | [], _, _, _, h, e => by cases e
  | d :: ds, _, 0, v, h, e => by
    cases h with
    | cons h1 h2 => cases e; exact ⟨_, rfl, h1⟩
  | d :: ds, _, i + 1, v, h, e => by
    cases h with
    | cons h1 h2 => simpa using dps_get' (i := i) h2 (by simpa using e)
theorem dps_app : ∀ {ds es : List PyData} {vs us : List V}, DpAll K H vs ds → DpAll K H us es → DpAll K H (vs ++ us) (ds ++ es)
  | [], _, _, _, h, k => by cases h; exact k
  | d :: ds, _, _, _, h, k => by
    cases h with
    | cons h1 h2 => exact .cons h1 (dps_app h2 k)
theorem dps_one {v : V} {d : PyData} (h : Dp K H v d) : DpAll K H [v] [d] := .cons h .nil
theorem dps_snoc {ds : List PyData} {vs : List V} {v : V} {d : PyData} (h : DpAll K H vs ds) (k : Dp K H v d) : DpAll K H (vs ++ [v]) (ds ++ [d]) := dps_app h (dps_one k)
/-- a new object leaves what stands -/
theorem snew {p : Addr} {o : HO} (h : H p = none) : Same H (upd H p o) := fun b x e => by
  rw [upd_ne (ne_of_none e h)]
  exact e
theorem smut {p : Addr} {o : HO} (e : Same H H') (h : H p = none) : Same H (upd H' p o) := fun b x q => by
  rw [upd_ne (ne_of_none q h)]
  exact e b x q
theorem dint {v : V} {i : Int} (h : Dp K H v (.int i)) : v = .int i := by cases h; rfl
theorem dstr {v : V} {x : Str} (h : Dp K H v (.str x)) : v = .str x := by cases h; rfl
theorem dtup {v : V} {ds : List PyData} (h : Dp K H v (.tuple ds)) : ∃ a xs, v = .ref a ∧ SqT K H a xs ∧ DpAll K H xs ds := by
  cases h with
  | tup hs ha => exact ⟨_, _, rfl, hs, ha⟩
theorem dlst {v : V} {ds : List PyData} (h : Dp K H v (.list ds)) : ∃ a xs, v = .ref a ∧ SqL K H a xs ∧ DpAll K H xs ds := by
  cases h with
  | lst hs ha => exact ⟨_, _, rfl, hs, ha⟩
theorem dps_ints : ∀ {ns : List Int} {vs : List V}, DpAll K H vs (ns.map PyData.int) → vs = ns.map V.int
  | [], _, h => by cases h; rfl
  | n :: ns, _, h => by
    cases h with
    | cons h1 h2 => cases h1; rw [dps_ints h2]; rfl
theorem dps3 {a b c : PyData} {vs : List V} (h : DpAll K H vs [a, b, c]) : ∃ x y z, vs = [x, y, z] ∧ Dp K H x a ∧ Dp K H y b ∧ Dp K H z c := by
  cases h with
  | cons h1 h =>
    cases h with
    | cons h2 h =>
      cases h with
      | cons h3 h =>
        cases h
        exact ⟨_, _, _, rfl, h1, h2, h3⟩
theorem dps2 {a b : PyData} {vs : List V} (h : DpAll K H vs [a, b]) : ∃ x y, vs = [x, y] ∧ Dp K H x a ∧ Dp K H y b := by
  cases h with
  | cons h1 h =>
    cases h with
    | cons h2 h =>
      cases h
      exact ⟨_, _, rfl, h1, h2⟩
theorem ints_dps : ∀ (ns : List Int), DpAll K H (ns.map V.int) (ns.map PyData.int)
  | [] => .nil
  | n :: ns => .cons (.int n) (ints_dps ns)
end
/-- ** with a base of any size within the line -/
def CPowW (i j : Int) : Prop := 0 ≤ j ∧ j ≤ 3 ∧ i.natAbs < 2 ^ 1000000
section
variable {X : Cx}
theorem op_powW : OpR X (binaryOp .Pow) (rI CPowW fun i j => .int (i ^ j.toNat)) := opI fun i j _ _ _ _ _ hc q => by
  obtain ⟨h0, h3, hb⟩ := hc
  refine pow_int h0 ?_ q
  have b : Builtin.Int.intBits i ≤ i.natAbs.log2 + 1 := by
    unfold Builtin.Int.intBits
    split <;> omega
  have l : i.natAbs.log2 < 1000000 := PySem.Flt.log2_lt_of (by decide) hb
  have c : (Builtin.Int.intBits i : Int) ≤ 1000000 := by omega
  have c0 : (0 : Int) ≤ (Builtin.Int.intBits i : Int) := Int.natCast_nonneg _
  calc (Builtin.Int.intBits i : Int) * j ≤ 1000000 * 3 := Int.mul_le_mul c h3 h0 (by decide)
    _ ≤ 2 ^ 27 := by decide
end
end Fr

namespace Fr
open PySem PySem.Spec PyProof.Rows L2
theorem same_refl {H : Hp} : Same H H := fun _ _ h => h
theorem same_tr {A B C : Hp} (a : Same A B) (b : Same B C) : Same A C := fun x o h => b x o (a x o h)
theorem yat_same {xs : List V} {i : Nat} {H : Hp} {x : V} {H' : Hp} (y : YAt xs i H x H') : Same H H' := by
  obtain ⟨rfl, _⟩ := y
  exact same_refl
theorem ypair_same {xs ys : Nat → Option V} {i : Nat} {H : Hp} {x : V} {H' : Hp} (y : YPair xs ys i H x H') : Same H H' := by
  obtain ⟨T, _, _, _, n, rfl, _⟩ := y
  exact snew n
theorem free_of {H H' : Hp} {p : Addr} (e : Same H H') (h : H' p = none) : H p = none := Same.free e h
theorem get_range {n i : Nat} (h : i < n) : (List.range n)[i]? = some i := by simp [h]
/-- a comprehension whose elements are told by the turn -/
theorem lc_flat {J : It} {n : Nat} {G : Hp → Prop} {Y : Nat → Hp → V → Hp → Prop} (w : Walk J n G Y) {g : TG} {te : TE} {vs : List Nat} {σ : L2.St} {H1 : Hp} {D : Addr} {Qd : Hp → Prop} (f : Nat → V) (hn : n ≤ 1000000) (hD : H1 D = none) (hG : ∀ H, Same H1 H → G H)
    (hY : ∀ i H x H', Y i H x H' → Same H H')
    (hs : ∀ i x H H', i < n → Same H1 H → Y i H x H' → ∀ R : V → Hp → Prop, (∀ H4, Same H' H4 → R (f i) H4) → g x (wipe σ vs) H' fun σ2 H2 => wipe σ2 vs = wipe σ vs ∧ te σ2 H2 R)
    (hd : ∀ H, Same H1 H → H D = some (.lst ((List.range n).map f)) → Qd H) :
    ∃ W : Nat → Nat → Hp → Prop, (∃ m, W 0 m (upd H1 D (.lst []))) ∧ ∀ i m H, W i m H →
      (J.stop i H ∧ Qd H) ∨ (J.go i H ∧ ∃ Nx : Hp → Prop, (∀ H', Nx H' → ∃ m', m' < m ∧ W (i + 1) m' H') ∧ ∀ x H', J.yld i H x H' → g x (wipe σ vs) H' fun σ2 H2 => wipe σ2 vs = wipe σ vs ∧ tYes σ2 H2 fun b H3 =>
        if b = true then te σ2 H3 fun y H4 => ∃ acc, H4 D = some (.lst acc) ∧ acc.length < sizeLine ∧ Nx (upd H4 D (.lst (acc ++ [y]))) else Nx H3) := by
  refine lc_it w (fun i H => Same H1 H ∧ H D = some (.lst ((List.range i).map f))) ⟨snew hD, upd_same⟩ (fun i H _ p => hG H p.1) (fun i x H H' hi p y => ?_) fun H p => hd H p.1 p.2
  have sm := hY i H x H' y
  refine hs i x H H' hi p.1 y _ fun H4 s4 => ⟨_, s4 _ _ (sm _ _ p.2), ?_, ?_, ?_⟩
  · rw [List.length_map, List.length_range]
    exact Nat.lt_of_lt_of_le (by omega : i < 1000001) (by rw [sizeLine_eq]; decide)
  · exact smut (same_tr p.1 (same_tr sm s4)) hD
  · rw [upd_same, List.range_succ, List.map_append]
    rfl
/-- a property that may be read by its name -/
structure Prp (P : Program) (w : World) (K : PySem.W.Frag) (mg : Str → Option Value) (base : Heap) (k : Nat) (C : Addr) (f : Str) (sp : Sp) : Prop where
  ex : ∃ (p g : Addr) (fd : FuncData) (ps : List Str), Cls K C ∧ PropOf K C f p g ∧ FnOk P w K mg base CX0 k g fd ps sp ∧ Binds K fd ps []
section
variable {X : Cx}
theorem pe_pr {k j : Nat} {C : Addr} {f : Str} {sp : Sp} {e : Expr} {pos : Pos} {ta : TE} (he : PE X e ta) (c : Prp X.prog X.w X.K X.mg X.base k C f sp) (hr : Room j X.A) (hk : k + 1 ≤ j) (hab : attributeBase e f X.env (eval e X.env) = eval e X.env) :
    PE X (.Attribute e f pos) (tProp C sp [] E0 ta) := by
  obtain ⟨p, g, fd, ps, hc, hp, F, hb⟩ := c.ex
  exact pe_prop he hc hp F (hr.mono hk) hb .nil pass0 hab
theorem _root_.L2.Room.units1 {k : Nat} {A : Around} (r : Room k A) : A.units + 65 < cLine := by
  have := r.un
  omega
end
def rTupS (K : PySem.W.Frag) : List V → Hp → VK → Prop := fun xs H Q => ∃ p ys, xs = [.ref p] ∧ ((SqL K H p ys ∧ ∀ l, H l = none → Q (.ref l) (upd H l (.tup ys))) ∨ (SqT K H p ys ∧ Q (.ref p) H))
end Fr

namespace Fr
open PySem PySem.Spec PyProof.Rows L2
theorem vals_each1 {α : Type} : ∀ {bs : List (V × α)} {us : List Value}, Vals (bs.map Prod.fst) us → PySem.W.EachIs (fun (v : Value) (x : V × α) => RelV x.1 v) us bs
  | [], _, h => by cases h; exact .nil
  | b :: bs, _, h => by
    cases h with
    | cons h t => exact .cons h (vals_each1 t)
theorem each_vals1 {α : Type} : ∀ {bs : List (V × α)} {us : List Value}, PySem.W.EachIs (fun (v : Value) (x : V × α) => RelV x.1 v) us bs → Vals (bs.map Prod.fst) us
  | [], _, h => by cases h; exact .nil
  | b :: bs, _, h => by
    cases h with
    | cons h t => exact .cons h (each_vals1 t)
/-- one parameter, nothing captured -/
structure LamP (a : Str) (scope : Scope) : Prop where
  kind : scope.kind = .function
  co : scope.isCoroutine = false
  gen : scope.isGenerator = false
  loc : scope.names.lookup a = some .local
  noc : ∀ y ∈ scope.names, y.2 ≠ .cell
  nof : ∀ y ∈ scope.names, y.2 ≠ .free
section
variable {prog : Program} {w : World} {A : Around} {E : Value → Shared → Prop} {s : Shared}
theorem lam_key0 {a q : Str} {f c' t : Addr} {pm ctv : Value} {params : Arguments} {scope : Scope} {cl : List (Str × Addr)} {p1 p2 p3 : Pos} {kk : Nat} {x : Str} {u : Tok} {items : List Value} (L : LamP a scope) (ha : (a == ("__debug__" : Str)) = false)
    (ho : s.heap.get? f = some (PySem.W.kla_obj "<lambda>" q params (.Subscript (.Name a p1) (.Constant (.int 0) kk p2) p3) scope cl pm c' ctv)) (hcr : s.heap.CodeRec (.ref c') q) (hroom : A.depth < recursionLimit) (hlim : s.heap.NoLimit)
    (hbind : ∀ v, bindArgs (PySem.W.kla_fn "<lambda>" q params (.Subscript (.Name a p1) (.Constant (.int 0) kk p2) p3) scope cl pm (.ref c') ctv) ⟨[v], []⟩ = pure [(a, v)]) (ht : IsTup s.heap t (Value.str x u :: items).toArray) :
    wpAny (model prog w) A (call (.ref f) [.ref t]) (PySem.W.KeyPure (.str x) s) E s := by
  refine wpAny_call (PySem.W.kla_callFunE hroom ho rfl L.co L.gen rfl hcr ?_)
  rw [hbind]
  refine wpAny_pure (wpAny_newFunctionEnv (fun y hy => L.noc y hy) (fun y hy => ?_) (fun h₁ hns hsb => ⟨hlim.fresh _ hsb, ?_⟩) L.kind)
  · have e : y = (a, Value.ref t) := by simpa using hy
    rw [e]
    exact L.loc
  · have kp : ∀ b o, s.heap.get? b = some o → h₁.get? b = some o := fun b o e => hsb.extBut b o (Nat.ne_of_lt (Heap.lt_size e)) (Heap.get?_push_of_some _ e)
    refine PySem.W.kla_codeExpr (Subscript_ (wpAny_Name (wpAny_loadName_local (v := .ref t) L.kind L.loc hns ?_ ?_) ha))
    · show List.lookup a ([(a, Value.ref t)] : List (Str × Value)) = _
      simp [List.lookup]
    · refine wpAny_Constant_int ?_
      refine item_tupleL (j := 0) (x := .str x u) (l := Value.str x u :: items) ?_ (by decide) (by decide) ?_ rfl ?_
      · obtain ⟨o, h1, h2, n, h3⟩ := ht
        exact ⟨o, kp _ _ h1, h2, n, h3⟩
      · show (if (decide ((0 : Int) ≤ (if (0 : Int) < 0 then 0 + ((Value.str x u :: items).length : Int) else 0)) && decide ((if (0 : Int) < 0 then 0 + ((Value.str x u :: items).length : Int) else 0) < ((Value.str x u :: items).length : Int))) = true then some (if (0 : Int) < 0 then 0 + ((Value.str x u :: items).length : Int) else 0).toNat else none) = some 0
        rw [if_neg (by decide : ¬ (0 : Int) < 0)]
        have h : (0 : Int) < ((Value.str x u :: items).length : Int) := by
          rw [List.length_cons]
          omega
        rw [decide_eq_true (Int.le_refl 0), decide_eq_true h]
        rfl
      · exact ⟨h₁, _, rfl, kp, PySem.Reads.str x u⟩
end
/-- by the first text, from the least on -/
def leK {β : Type} (k : β → Str) : β → β → Bool := fun a b => decide ((k a).cps.toList ≤ (k b).cps.toList)
def oneV (R : VK) : List V → Hp → Prop
  | [v], H => R v H
  | _, _ => False
theorem oneV_of {R : VK} {vs : List V} {H : Hp} (h : oneV R vs H) : ∃ v, vs = [v] ∧ R v H := by
  match vs, h with
  | [v], h => exact ⟨v, rfl, h⟩
def tSortKey {α : Type} (kf : α → Str) (K : PySem.W.Frag) (T : List (Addr × Str)) (te : TE) : TE := fun σ H Q => te σ H fun v H1 => ∃ (a : Addr) (bs : List (V × α)), v = .ref a ∧ SqL K H1 a (bs.map Prod.fst) ∧ LamX.Tabs T H1 ∧
  (∀ y ∈ bs, ∃ t zs, y.1 = .ref t ∧ SqT K H1 t (.str (kf y.2) :: zs)) ∧ ∀ H2, LamX.ExtN H1 H2 → LamX.Tabs T H2 → ∀ p, H2 p = none → Q (.ref p) (upd H2 p (.lst ((bs.mergeSort (leK fun y => kf y.2)).map Prod.fst)))
theorem same_of_ext {B H1 H2 : Hp} (e : Same B H1) (n : ∀ b ps, B b ≠ some (.tbl ps)) (x : LamX.ExtN H1 H2) : Same B H2 := fun b o h => x b o (e b o h) fun ps z => n b ps (by rw [h, z])
theorem sqt_ext {K : PySem.W.Frag} {H1 H2 : Hp} {a : Addr} {xs : List V} (x : LamX.ExtN H1 H2) (h : SqT K H1 a xs) : SqT K H2 a xs := by
  rcases h with (h | ⟨o, h⟩) | h
  · exact .inl (.inl (x _ _ h fun ps z => by cases z))
  · exact .inl (.inr ⟨o, x _ _ h fun ps z => by cases z⟩)
  · exact .inr h
theorem sql_ext {K : PySem.W.Frag} {H1 H2 : Hp} {a : Addr} {xs : List V} (x : LamX.ExtN H1 H2) (h : SqL K H1 a xs) : SqL K H2 a xs := by
  rcases h with (h | ⟨o, h⟩) | h
  · exact .inl (.inl (x _ _ h fun ps z => by cases z))
  · exact .inl (.inr ⟨o, x _ _ h fun ps z => by cases z⟩)
  · exact .inr h
section
variable {X : Cx}
theorem pe_sortKey {α : Type} (kf : α → Str) {T : List (Addr × Str)} {c P : Addr} {k : Nat} {a : Str} {e : Expr} {params : Arguments} {scope : Scope} {p p1 p2 p3 lpos kpos pos : Pos} {kk : Nat} {te : TE} (hg : Gl X "sorted") (hm : X.mg "sorted" = none) (ha : PE X e te) (hr : Room (k + 1) X.A)
    (TB : LamX.TabB X.base X.mg c P) (hcode : X.env.code = .ref c) (hmT : (P, X.env.qual ++ "<lambda>") ∈ T) (hu : ∀ p ∈ T, p.1 = P → p.2 = X.env.qual ++ "<lambda>") (hdef : defaultsOf params X.env = ([], [])) (L : LamP a scope) (hda : (a == ("__debug__" : Str)) = false)
    (hbind : ∀ (q : Str) (cl : List (Str × Addr)) (pm cv ctv v : Value), bindArgs (PySem.W.kla_fn "<lambda>" q params (.Subscript (.Name a p1) (.Constant (.int 0) kk p2) p3) scope cl pm cv ctv) ⟨[v], []⟩ = pure [(a, v)])
    (he : backTo pos (starEach [e] X.env) = (false, eval e X.env) :: backTo pos (starEach [] X.env) := by rfl) (hpl : (backTo pos (starEach [e] X.env)).any Prod.fst = false := by rfl) (hes : starEach (e :: []) X.env = (false, eval e X.env) :: starEach [] X.env := by rfl) :
    PE X (.Call (.Name "sorted" p) [e] [⟨some "key", .Lambda params (.Subscript (.Name a p1) (.Constant (.int 0) kk p2) p3) scope lpos, kpos⟩] pos) (tSortKey kf X.K T te) := by
  refine ⟨fun pins s σ H Q I h => ?_⟩
  refine wpAny_Call_Name_kw (ld_blt I hg hm PyProof.Rows.boot_sorted ?_)
  refine PyProof.Rows.callWith_kw (thn ((pa_cons ha pa_nil hes).run pos pins s σ H (oneV fun v H1 => ∃ (a : Addr) (bs : List (V × α)), v = .ref a ∧ SqL X.K H1 a (bs.map Prod.fst) ∧ LamX.Tabs T H1 ∧
    (∀ y ∈ bs, ∃ t zs, y.1 = .ref t ∧ SqT X.K H1 t (.str (kf y.2) :: zs)) ∧ ∀ H2, LamX.ExtN H1 H2 → LamX.Tabs T H2 → ∀ p, H2 p = none → Q (.ref p) (upd H2 p (.lst ((bs.mergeSort (leK fun y => kf y.2)).map Prod.fst)))) I h) fun us s1 hh => ?_) he hpl (by rfl) (by rfl)
  · obtain ⟨vs, H1, I1, r1, hh⟩ := hh
    obtain ⟨v, rfl, hh⟩ := oneV_of hh
    obtain ⟨b, bs, rfl, hS, hT, hK, q⟩ := hh
    obtain ⟨u, rfl, hu1⟩ := r1.one
    obtain rfl : u = Value.ref b := hu1
    show wpAny _ _ (evalAll ((do let v ← eval (.Lambda params (.Subscript (.Name a p1) (.Constant (.int 0) kk p2) p3) scope lpos) X.env; standAt pos; pure v) :: [])) _ _ s1
    refine wpAny_evalAll_cons (wpAny_bind (LamX.lam_make2 I1 TB hcode hmT hu hT hdef (fun y hy e => absurd e (L.nof y hy)) fun f c' pm ctv H2 s2 I2 xN hT2 hf hfn hfr hco => wpAny_bind (wpAny_standAt (wpAny_pure (wpAny_evalAll_nil ?_)))))
    show wpAny _ _ (call (.builtin "sorted") [.ref b] [(Str.ofString "key", .ref f)]) _ _ s2
    have hS2 := sql_ext xN hS
    obtain ⟨its, rv, hl, hz⟩ := I2.list hS2
    obtain ⟨⟨oc, vsc, tc, hoc, hdc, hvc⟩, _, _⟩ := I2.hok c' _ hco
    have hcr : s2.heap.CodeRec (.ref c') (X.env.qual ++ "<lambda>") := ⟨c', oc, vsc, tc, rfl, hoc, hdc, hvc⟩
    refine PySem.W.sorted_key_data (β := V × α) (vs := its) (bs := bs) (R := fun v x => RelV x.1 v) (b := false) (fun y => PyData.str (kf y.2)) hl.isList (vals_each1 rv) ?_ ?_ ?_ ?_ (PyProof.Rows.ksk_s1 _ _) (fun _ => PyProof.Rows.ksk_l1 _ _) (fun x => PyProof.Rows.ksk_t1 f x) ?_ ?_
    · intro d hd d' hd'
      obtain ⟨y, _, rfl⟩ := List.mem_map.mp hd
      obtain ⟨y', _, rfl⟩ := List.mem_map.mp hd'
      rfl
    · refine Or.inr fun d hd => ?_
      obtain ⟨y, _, rfl⟩ := List.mem_map.mp hd
      constructor
      · intro z
        cases z
      · intro xs z
        cases z
    · rw [List.length_map] at hz
      exact hz
    · intro y hy
      have := hr.un
      show X.A.units + 2 + PyData.depth (.str (kf y.2)) < cLine
      have e : PyData.depth (.str (kf y.2)) ≤ 1 := by simp [PyData.depth]
      omega
    · intro v y hv hy h tk kp
      obtain ⟨t, zs, ey, ht⟩ := hK y hy
      rw [ey] at hv
      obtain rfl : v = Value.ref t := hv
      obtain ⟨jts, rj, hjt, _⟩ := I2.tuple (sqt_ext xN ht)
      cases rj with
      | @cons _ u0 _ js r0 rr =>
        obtain ⟨t0, rfl⟩ := r0
        obtain ⟨o, h1, h2, n, h3⟩ := hjt
        refine lam_key0 (s := { s2 with heap := h, toks := tk }) (A := X.A.in1.in1) (u := t0) (items := js) L hda (kp _ _ hf) ⟨c', oc, vsc, tc, rfl, kp _ _ hoc, hdc, hvc⟩ ?_ (I2.nolimit.keeps kp) (fun v => hbind _ _ _ _ _ v) ⟨o, kp _ _ h1, h2, n, h3⟩
        have := hr.dp
        show X.A.depth < recursionLimit
        omega
    · intro out cc h' tk kp fresh hD hlen' hE
      have hv := each_vals1 hE
      have hle : PySem.W.dataLe false (fun y : V × α => PyData.str (kf y.2)) = leK fun y => kf y.2 := PySem.W.dataLe_str _
      rw [hle] at hv
      have hl2 : ((bs.mergeSort (leK fun y => kf y.2)).map Prod.fst).length ≤ sizeLine := by
        rw [List.length_map, List.length_mergeSort]
        rw [List.length_map] at hz
        exact hz
      exact ⟨.ref _, upd H2 (s2.heap.objs.size + 1) (.lst ((bs.mergeSort (leK fun y => kf y.2)).map Prod.fst)), I2.laid (t' := tk) kp (Nat.le_succ _) ⟨hl2, out, cc, hv, hD⟩, rfl, q H2 xN hT2 _ (I2.hok.fresh (Nat.le_succ _))⟩
end
/-- a dict comprehension over a walk -/
theorem dc_it {J : It} {n : Nat} {G : Hp → Prop} {Y : Nat → Hp → V → Hp → Prop} (w : Walk J n G Y) {g : TG} {tt : TT} {tk tv : TE} {vs : List Nat} {σ : L2.St} {H1 : Hp} {D : Addr} {Qd : Hp → Prop} (Pv : Nat → Hp → Prop) (h0 : Pv 0 (upd H1 D (.dK []))) (hG : ∀ i H, i ≤ n → Pv i H → G H)
    (hs : ∀ i x H H', i < n → Pv i H → Y i H x H' → g x (wipe σ vs) H' fun σ2 H2 => wipe σ2 vs = wipe σ vs ∧ tt σ2 H2 fun b H3 =>
      if b = true then tk σ2 H3 fun y H4 => tv σ2 H4 fun z H5 => ∃ kvs k, y = kV k ∧ H5 D = some (.dK kvs) ∧ kvs.length < sizeLine ∧ Pv (i + 1) (upd H5 D (.dK (putK kvs k z))) else Pv (i + 1) H3) (hd : ∀ H, Pv n H → Qd H) :
    ∃ W : Nat → Nat → Hp → Prop, (∃ m, W 0 m (upd H1 D (.dK []))) ∧ ∀ i m H, W i m H →
      (J.stop i H ∧ Qd H) ∨ (J.go i H ∧ ∃ Nx : Hp → Prop, (∀ H', Nx H' → ∃ m', m' < m ∧ W (i + 1) m' H') ∧ ∀ x H', J.yld i H x H' → g x (wipe σ vs) H' fun σ2 H2 => wipe σ2 vs = wipe σ vs ∧ tt σ2 H2 fun b H3 =>
        if b = true then tk σ2 H3 fun y H4 => tv σ2 H4 fun z H5 => ∃ kvs k, y = kV k ∧ H5 D = some (.dK kvs) ∧ kvs.length < sizeLine ∧ Nx (upd H5 D (.dK (putK kvs k z))) else Nx H3) := by
  refine ⟨fun i m H => m = n - i ∧ i ≤ n ∧ Pv i H, ⟨n, by simp, Nat.zero_le _, h0⟩, ?_⟩
  rintro i m H ⟨rfl, hi, p⟩
  have q := hG i H hi p
  by_cases hlt : i < n
  · exact .inr ⟨w.goes i H hlt q, Pv (i + 1), fun H' p' => ⟨n - (i + 1), by omega, rfl, hlt, p'⟩, fun x H' y => hs i x H H' hlt p (w.yields i H x H' hlt q y)⟩
  · have e : i = n := by omega
    subst e
    exact .inl ⟨w.stops H q, hd H p⟩
theorem SD.ext {H H' : Hp} (x : LamX.ExtN H H') : SD H H' := fun b o h d => x b o h fun ps z => by
  rw [z] at d
  cases d
theorem tabs_upd {T : List (Addr × Str)} {H : Hp} {s : Addr} {u o : HO} (hT : LamX.Tabs T H) (h : H s = some u) (n1 : ∀ ps, u ≠ .tbl ps) (n2 : ∀ c q, u ≠ LamX.CodeO c q) : LamX.Tabs T (upd H s o) := by
  intro p hp
  obtain ⟨ps, h1, h2, h3⟩ := hT p hp
  refine ⟨ps, ?_, h2, fun pos cv hc => ?_⟩
  · rw [upd_ne fun z => by
      rw [z, h] at h1
      exact n1 _ (Option.some.inj h1)]
    exact h1
  · obtain ⟨c, e1, e2⟩ := h3 pos cv hc
    refine ⟨c, e1, ?_⟩
    rw [upd_ne fun z => by
      rw [z, h] at e2
      exact n2 _ _ (Option.some.inj e2)]
    exact e2
theorem tabs_ins {T : List (Addr × Str)} {H : Hp} {s C dx : Addr} {fs : List (Str × V)} {o : HO} (hT : LamX.Tabs T H) (h : H s = some (.ins C dx fs)) : LamX.Tabs T (upd H s o) := tabs_upd hT h (fun ps z => by cases z) (fun c q z => by unfold LamX.CodeO at z; cases z)
theorem tabs_lst {T : List (Addr × Str)} {H : Hp} {s : Addr} {xs : List V} {o : HO} (hT : LamX.Tabs T H) (h : H s = some (.lst xs)) : LamX.Tabs T (upd H s o) := tabs_upd hT h (fun ps z => by cases z) (fun c q z => by unfold LamX.CodeO at z; cases z)
end Fr

namespace Fr
open PySem PySem.Spec PyProof.Rows L2
section
variable {prog : Program} {w : World} {A : Around} {E : Value → Shared → Prop} {s : Shared}
theorem min_intTup {l : Addr} {xs : Array (Int × Tok)} {Q : Value → Shared → Prop} (hh : A.handled = none) (hl : s.heap.IsTuple l (intItems xs)) (hne : 0 < xs.size)
    (h : ∀ v h' tk, (intItems xs)[argBest (fun i j => decide (numAt xs i < numAt xs j)) (xs.size - 1)]? = some v → (∀ b o, s.heap.get? b = some o → h'.get? b = some o) → Q v { s with heap := h', toks := tk }) :
    wpAny (model prog w) A (call (.builtin "min") [.ref l]) Q E s := by
  refine call_min_walk (wpAny_pyIter_tuple hl ?_)
  obtain ⟨o, ho, hc, n, hd⟩ := hl
  have hlt : l < s.heap.objs.size := Heap.lt_size ho
  refine ⟨_, [_, l], [_], _, _, _, _, rfl, Walks.tuple (A := A.in1) hh _ l (Nat.ne_of_lt hlt) (intItems xs), ⟨⟨_, Heap.get?_push_size _ rfl, rfl, rfl⟩, ⟨o, Heap.get?_push_of_some _ ho, hc, n, hd⟩⟩, fun d hdm => ?_, by simpa [intItems] using hne, CmpOf.ints_lt (numAt xs) (fun _ _ => intItems_at), fun v h' tk hP hk => ?_⟩
  · show d < (s.heap.push _).objs.size
    rw [Heap.size_push]
    rcases List.mem_cons.mp hdm with rfl | hdm
    · exact Nat.lt_succ_self _
    · rcases List.mem_cons.mp hdm with rfl | hdm
      · exact Nat.lt_succ_of_lt hlt
      · cases hdm
  · refine h v h' tk (by simpa [intItems] using hP) fun d o e => hk d o (fun hm => ?_) (Heap.get?_push_of_some _ e)
    rcases List.mem_cons.mp hm with e1 | hm
    · have := Heap.lt_size e
      rw [e1] at this
      exact Nat.lt_irrefl _ this
    · cases hm
end
def rMinT (K : PySem.W.Frag) : List V → Hp → VK → Prop := fun vs H Q => ∃ (a : Addr) (ns : List Int), vs = [V.ref a] ∧ SqT K H a (ns.map V.int) ∧ 0 < ns.length ∧ ∀ m, m ∈ ns → (∀ y, y ∈ ns → m ≤ y) → Q (.int m) H
theorem cr_minT {X : Cx} (hc : X.calm = true) : CallR X (.builtin "min") (rMinT X.K) := by
  intro pins s σ H vs us Q I r h
  obtain ⟨a, ns, rfl, hs, hne, q⟩ := h
  obtain ⟨its, rv, hl, _⟩ := I.tuple hs
  rw [Vals.ref1 r]
  obtain ⟨xs, e⟩ := rv.ints.allInts.items
  have hn : numsOf (intItems xs).toList = ns := by rw [← e]; exact rv.ints.numsOf
  rw [nums_intItems] at hn
  subst hn
  rw [e] at hl
  have hsz : 0 < xs.size := by simpa using hne
  refine min_intTup (I.ok.hd hc) hl hsz fun v h' tk hv hk => ?_
  obtain ⟨t, rfl⟩ := intItems_at hv
  obtain ⟨h1, h2⟩ := argBest_lt (numAt xs) (xs.size - 1)
  refine ⟨.int _, H, I.kept hk, ⟨_, rfl⟩, q _ ?_ fun a ha => ?_⟩
  · rw [numAt_eq]; exact PySem.getD_mem (by rw [List.length_map, Array.length_toList]; omega)
  · obtain ⟨j, hj, rfl⟩ := mem_getD ha
    rw [List.length_map, Array.length_toList] at hj
    rw [← numAt_eq]; exact h2 j (by omega)
theorem sgrow {B H : Hp} {p : Addr} {o : HO} (e : Same B H) : Same (upd B p o) (upd H p o) := fun c u h => by
  by_cases hc : c = p
  · rw [hc, upd_same] at h ⊢
    exact h
  · rw [upd_ne hc] at h ⊢
    exact e c u h
/-- an object that the base does not know may change -/
theorem swrite {B H : Hp} {p : Addr} {o : HO} (e : Same B H) (n : B p = none) : Same B (upd H p o) := fun c u h => by
  rw [upd_ne (ne_of_none h n)]
  exact e c u h
theorem walk_zipT {K : PySem.W.Frag} {a b : Addr} {xs ys : List V} {n : Nat} (hn : n = min xs.length ys.length) : Walk (RZ.ItzT K a b) n (fun H => SqT K H a xs ∧ SqT K H b ys) (YPair (fun i => xs[i]?) (fun i => ys[i]?)) := by
  subst hn
  refine ⟨fun i _ hi q => ?_, fun _ q => ⟨xs, ys, q.1, q.2, by omega⟩, fun i H v H' _ q y => ?_⟩
  · have h1 : i < xs.length := by omega
    have h2 : i < ys.length := by omega
    exact ⟨xs, ys, xs[i], ys[i], q.1, q.2, by simp [h1], by simp [h2]⟩
  · obtain ⟨T, x, z, h1, h2, h3, h4, h5⟩ := y
    exact ⟨T, x, z, h1, h2, h3, h4 xs q.1, h5 ys q.2⟩
theorem range_map_get' {α : Type} (xs : List α) (f : Nat → α) (h : ∀ i x, xs[i]? = some x → f i = x) : (List.range xs.length).map f = xs := by
  refine List.ext_getElem? fun i => ?_
  by_cases hi : i < xs.length
  · rw [List.getElem?_map, get_range hi, List.getElem?_eq_getElem hi]
    exact congrArg some (h i _ (List.getElem?_eq_getElem hi))
  · rw [List.getElem?_eq_none (by simp; omega), List.getElem?_eq_none (by omega)]
/-- p - v -/
def minus (p v : List Int) : List Int := List.zipWith (fun a b => a - b) p v
theorem minus_at {p v : List Int} {i : Nat} {a b : Int} (h1 : p[i]? = some a) (h2 : v[i]? = some b) : (minus p v).getD i 0 = a - b := by
  unfold minus
  rw [List.getD_eq_getElem?_getD, List.getElem?_zipWith, h1, h2]
  rfl
theorem minus_range (p v : List Int) : (List.range (min p.length v.length)).map (fun i => V.int ((minus p v).getD i 0)) = (minus p v).map V.int := by
  have := range_map_get' ((minus p v).map V.int) (fun i => V.int ((minus p v).getD i 0)) (fun i b hb => by
    rw [List.getElem?_map] at hb
    obtain ⟨c, h1, h2⟩ := Option.map_eq_some_iff.mp hb
    rw [List.getD_eq_getElem?_getD, h1]
    exact h2)
  rw [List.length_map] at this
  unfold minus at this ⊢
  rw [List.length_zipWith] at this
  exact this
end Fr

namespace Fr
open PySem PySem.Spec PyProof.Rows L2
def topS (i : Nat) : Stmt := PySem.Challenge.pw_farreads_k05_errors_of_systems.main.body.getD i (.Pass ⟨0, 0, 0, 0⟩)
abbrev s_is_name : Stmt := topS 20
theorem sc_is_name : FnScope ["text", "letter"] ["text"] (defScope s_is_name) := ⟨rfl, rfl, rfl, by decide +kernel, rfl, by decide +kernel, by decide +kernel⟩
-- slots: 0 text, 1 letter
abbrev s_is_read : Stmt := topS 21
theorem sc_is_read : FnScope ["read", "dimensions", "table", "vector", "factor"] ["read", "dimensions"] (defScope s_is_read) := ⟨rfl, rfl, rfl, by decide +kernel, rfl, by decide +kernel, by decide +kernel⟩
-- slots: 0 read, 1 dimensions, 2 table, 3 vector, 4 factor
abbrev s_System_dimensions : Stmt := inClass (topS 28) 3
theorem sc_System_dimensions : FnScope ["self"] ["self"] (defScope s_System_dimensions) := ⟨rfl, rfl, rfl, by decide +kernel, rfl, by decide +kernel, by decide +kernel⟩
-- slots: 0 self
abbrev s_System_modulus : Stmt := inClass (topS 28) 4
theorem sc_System_modulus : FnScope ["self"] ["self"] (defScope s_System_modulus) := ⟨rfl, rfl, rfl, by decide +kernel, rfl, by decide +kernel, by decide +kernel⟩
-- slots: 0 self
abbrev s_System_names : Stmt := inClass (topS 28) 5
theorem sc_System_names : FnScope ["self"] ["self"] (defScope s_System_names) := ⟨rfl, rfl, rfl, by decide +kernel, rfl, by decide +kernel, by decide +kernel⟩
-- slots: 0 self
abbrev s_check_table : Stmt := topS 25
theorem sc_check_table : FnScope ["system", "name"] ["system", "name"] (defScope s_check_table) := ⟨rfl, rfl, rfl, by decide +kernel, rfl, by decide +kernel, by decide +kernel⟩
-- slots: 0 system, 1 name
abbrev s_System_reads : Stmt := inClass (topS 28) 7
theorem sc_System_reads : FnScope ["self", "name"] ["self", "name"] (defScope s_System_reads) := ⟨rfl, rfl, rfl, by decide +kernel, rfl, by decide +kernel, by decide +kernel⟩
-- slots: 0 self, 1 name
abbrev s_check_tables : Stmt := topS 23
theorem sc_check_tables : FnScope ["dimensions", "tables", "names", "table", "many", "row", "name", "_", "reads", "read"] ["dimensions", "tables"] (defScope s_check_tables) := ⟨rfl, rfl, rfl, by decide +kernel, rfl, by decide +kernel, by decide +kernel⟩
-- slots: 0 dimensions, 1 tables, 2 names, 3 table, 4 many, 5 row, 6 name, 7 _, 8 reads, 9 read
abbrev s_check_tables_that_are_read : Stmt := topS 24
theorem sc_check_tables_that_are_read : FnScope ["tables", "names", "table", "row", "read"] ["tables"] (defScope s_check_tables_that_are_read) := ⟨rfl, rfl, rfl, by decide +kernel, rfl, by decide +kernel, by decide +kernel⟩
-- slots: 0 tables, 1 names, 2 table, 3 row, 4 read
abbrev s_check_system : Stmt := topS 22
theorem sc_check_system : FnScope ["dimensions", "tables", "modulus"] ["dimensions", "tables", "modulus"] (defScope s_check_system) := ⟨rfl, rfl, rfl, by decide +kernel, rfl, by decide +kernel, by decide +kernel⟩
-- slots: 0 dimensions, 1 tables, 2 modulus
abbrev s_System_init : Stmt := inClass (topS 28) 0
theorem sc_System_init : FnScope ["self", "dimensions", "tables", "modulus", "rows", "name", "constant", "reads"] ["self", "dimensions", "tables", "modulus"] (defScope s_System_init) := ⟨rfl, rfl, rfl, by decide +kernel, rfl, by decide +kernel, by decide +kernel⟩
-- slots: 0 self, 1 dimensions, 2 tables, 3 modulus, 4 rows, 5 name, 6 constant, 7 reads
structure Rd1 where
  t : Str
  v : List Int
  f : Int
structure Tb where
  n : Str
  c : Int
  rs : List Rd1
def Rd1.d (r : Rd1) : PyData := .tuple [.str r.t, .tuple (r.v.map .int), .int r.f]
/-- as a caller hands it in: the reads in a list -/
def Tb.d (t : Tb) : PyData := .tuple [.str t.n, .int t.c, .list (t.rs.map Rd1.d)]
/-- as a system keeps it -/
def Tb.k (t : Tb) : PyData := .tuple [.int t.c, .tuple (t.rs.map Rd1.d)]
def flds (d m : Int) (t : Addr) : List (Str × V) := putF "_tables" (.ref t) (putF "_modulus" (.int m) (putF "_dimensions" (.int d) []))
theorem nDM : ¬ (("_dimensions" : Str) = "_modulus") := by decide +kernel
theorem nDT : ¬ (("_dimensions" : Str) = "_tables") := by decide +kernel
theorem nMT : ¬ (("_modulus" : Str) = "_tables") := by decide +kernel
theorem flds_d (d m : Int) (t : Addr) : (flds d m t).lookup ("_dimensions" : Str) = some (.int d) := by
  unfold flds
  rw [lookup_putF, if_neg nDT, lookup_putF, if_neg nDM, lookup_putF, if_pos rfl]
theorem flds_m (d m : Int) (t : Addr) : (flds d m t).lookup ("_modulus" : Str) = some (.int m) := by
  unfold flds
  rw [lookup_putF, if_neg nMT, lookup_putF, if_pos rfl]
theorem flds_t (d m : Int) (t : Addr) : (flds d m t).lookup ("_tables" : Str) = some (.ref t) := by
  unfold flds
  rw [lookup_putF, if_pos rfl]
theorem flds_no (d m : Int) (t : Addr) {x : Str} (h1 : ¬ x = "_dimensions") (h2 : ¬ x = "_modulus") (h3 : ¬ x = "_tables") : (flds d m t).lookup x = none := by
  unfold flds
  rw [lookup_putF, if_neg h3, lookup_putF, if_neg h2, lookup_putF, if_neg h1]
  rfl
def KvAt (K : PySem.W.Frag) (H : Hp) (kvs : List (Key × V)) (ts : List Tb) : Prop := Paired (fun (kv : Key × V) (t : Tb) => kv.1 = Sum.inr t.n ∧ Dp K H kv.2 t.k) kvs ts
theorem KvAt.mono {K : PySem.W.Frag} {H H' : Hp} (e : Same H H') : ∀ {kvs : List (Key × V)} {ts : List Tb}, KvAt K H kvs ts → KvAt K H' kvs ts
  | [], _, h => by cases h; exact .nil
  | kv :: kvs, _, h => by
    cases h with
    | cons h1 h2 => exact .cons ⟨h1.1, dpm e _ _ h1.2⟩ (KvAt.mono e h2)
theorem KvAt.monoD {K : PySem.W.Frag} {H H' : Hp} (e : SD H H') : ∀ {kvs : List (Key × V)} {ts : List Tb}, KvAt K H kvs ts → KvAt K H' kvs ts
  | [], _, h => by cases h; exact .nil
  | kv :: kvs, _, h => by
    cases h with
    | cons h1 h2 => exact .cons ⟨h1.1, dpd e _ _ h1.2⟩ (KvAt.monoD e h2)
theorem KvAt.app {K : PySem.W.Frag} {H : Hp} : ∀ {kvs ls : List (Key × V)} {ts us : List Tb}, KvAt K H kvs ts → KvAt K H ls us → KvAt K H (kvs ++ ls) (ts ++ us)
  | [], _, _, _, h, k => by cases h; exact k
  | kv :: kvs, _, _, _, h, k => by
    cases h with
    | cons h1 h2 => exact .cons h1 (KvAt.app h2 k)
theorem KvAt.noVal {K : PySem.W.Frag} {H : Hp} {x : Str} : ∀ {kvs : List (Key × V)} {ts : List Tb}, KvAt K H kvs ts → x ∉ ts.map (·.n) → valV kvs (Sum.inr x) = none
  | [], _, h, e => by cases h; rfl
  | (k, v) :: kvs, _, h, e => by
    cases h with
    | @cons _ t' _ ts' h1 h2 =>
      have h1' : k = Sum.inr t'.n := h1.1
      have hx : ¬ t'.n = x := fun z => e (by rw [← z]; exact List.mem_cons_self)
      have e2 := KvAt.noVal (x := x) h2 fun z => e (List.mem_cons_of_mem _ z)
      unfold valV at e2 ⊢
      rw [List.find?_cons_of_neg (by simp [h1', hx])]
      exact e2
theorem KvAt.len {K : PySem.W.Frag} {H : Hp} {kvs : List (Key × V)} {ts : List Tb} (h : KvAt K H kvs ts) : kvs.length = ts.length := Paired.length h
theorem KvAt.keys {K : PySem.W.Frag} {H : Hp} : ∀ {kvs : List (Key × V)} {ts : List Tb}, KvAt K H kvs ts → kvs.map (fun kv => kV kv.1) = ts.map fun t => V.str t.n
  | [], _, h => by cases h; rfl
  | kv :: kvs, _, h => by
    cases h with
    | cons h1 h2 =>
      rw [List.map_cons, List.map_cons, KvAt.keys h2, h1.1]
      rfl
theorem KvAt.get {K : PySem.W.Frag} {H : Hp} {x : Str} : ∀ {kvs : List (Key × V)} {ts : List Tb}, KvAt K H kvs ts → ∀ {t : Tb}, ts.find? (fun t => decide (t.n = x)) = some t → ∃ v, valV kvs (Sum.inr x) = some v ∧ Dp K H v t.k
  | [], _, h, t, e => by cases h; cases e
  | (k, v) :: kvs, _, h, t, e => by
    cases h with
    | @cons _ t' _ ts' h1 h2 =>
      obtain ⟨h1, h3⟩ := h1
      have h1 : k = Sum.inr t'.n := h1
      by_cases hx : t'.n = x
      · rw [List.find?_cons_of_pos (by simpa using hx)] at e
        cases e
        refine ⟨v, ?_, h3⟩
        unfold valV
        rw [List.find?_cons_of_pos (by simp [h1, hx])]
        rfl
      · rw [List.find?_cons_of_neg (by simpa using hx)] at e
        obtain ⟨v', e1, e2⟩ := KvAt.get h2 e
        refine ⟨v', ?_, e2⟩
        unfold valV at e1 ⊢
        rw [List.find?_cons_of_neg (by simp [h1, hx])]
        exact e1
structure SysAt (K : PySem.W.Frag) (C : Addr) (H : Hp) (s : Addr) (d m : Int) (ts : List Tb) : Prop where
  ob : ∃ (dx t : Addr) (kvs : List (Key × V)), H s = some (.ins C dx (flds d m t)) ∧ H t = some (.dK kvs) ∧ KvAt K H kvs ts
theorem SysAt.mono {K : PySem.W.Frag} {C : Addr} {H H' : Hp} {s : Addr} {d m : Int} {ts : List Tb} (e : Same H H') (h : SysAt K C H s d m ts) : SysAt K C H' s d m ts := by
  obtain ⟨dx, t, kvs, h1, h2, h3⟩ := h.ob
  exact ⟨dx, t, kvs, e _ _ h1, e _ _ h2, h3.mono e⟩
structure TxtC (K : PySem.W.Frag) (mg : Str → Option Value) (C : Addr) : Prop where
  cl : Cls K C
  nD : NoAttr K C "_dimensions"
  nM : NoAttr K C "_modulus"
  nT : NoAttr K C "_tables"
  g_System : mg "System" = some (.ref C)
def okSign (c : Nat) : Bool := !decide ([c] < [97]) && !decide ([122] < [c])
def isName (x : Str) : Bool := decide (1 ≤ (x.length : Int)) && decide ((x.length : Int) ≤ 8) && x.cps.toList.all okSign
structure Txt (mg : Str → Option Value) : Prop where
  b_len : mg "len" = none
  b_all : mg "all" = none
  b_min : mg "min" = none
  b_abs : mg "abs" = none
  b_int : mg "int" = none
  b_list : mg "list" = none
  b_tuple : mg "tuple" = none
  b_range : mg "range" = none
  b_zip : mg "zip" = none
  b_enumerate : mg "enumerate" = none
  b_sorted : mg "sorted" = none
  g_MOST_DIMENSIONS : ∃ u, mg "MOST_DIMENSIONS" = some u ∧ RelV (.int 3) u
  g_MOST_TABLES : ∃ u, mg "MOST_TABLES" = some u ∧ RelV (.int 6) u
  g_MOST_READS : ∃ u, mg "MOST_READS" = some u ∧ RelV (.int 12) u
  g_MOST_LETTERS : ∃ u, mg "MOST_LETTERS" = some u ∧ RelV (.int 8) u
theorem range_map_get {α : Type} (xs : List α) (f : Nat → α) (h : ∀ i x, xs[i]? = some x → f i = x) : (List.range xs.length).map f = xs := by
  refine List.ext_getElem? fun i => ?_
  by_cases hi : i < xs.length
  · rw [List.getElem?_map, get_range hi, List.getElem?_eq_getElem hi]
    exact congrArg some (h i _ (List.getElem?_eq_getElem hi))
  · rw [List.getElem?_eq_none (by simp; omega), List.getElem?_eq_none (by omega)]
section
variable {P : Program} {w : World} {K : PySem.W.Frag} {mg : Str → Option Value} {base : Heap}
def spIsName : Sp := fun vs H Q _ => ∃ x : Str, vs = [.str x] ∧ x.length ≤ 100000 ∧ ∀ H', Same H H' → Q (.bl (isName x)) H'
theorem ok_is_name {f : Addr} {fd : FuncData} (F : Fun K "is_name" "is_name" s_is_name f fd) (T : Txt mg) : FnOk P w K mg base CX0 1 f fd ["text"] spIsName := by
  refine F.ok sc_is_name (fun vs H Q E h => ?_) (fun cdv A outer s H vs Q E hr h => ?_)
  · obtain ⟨x, rfl, _⟩ := h
    rfl
  · obtain ⟨x, rfl, hx, q⟩ := h
    refine ⟨_, (pss_one (ps_ret (pe_and (pe_chain op_le op_le pe_int (pe_callB call_len_str (by rfl) T.b_len PySem.boot_len (pa_cons (pv 0) pa_nil)) (C8.pe_gc (by rfl) T.g_MOST_LETTERS)) (pe_one (pe_callB (cr_all rfl) (by rfl) T.b_all (by decide +kernel) (pa_cons (pe_lc (own := [("letter", 1)]) (g := gName 1) (tt := tYes) (by rfl) sc_is_name.nd (pi_str (pv 0)) (blkOk_by (N := ["text", "letter"]) (sc := defScope s_is_name) (by decide +kernel)) (fun _ _ _ _ _ => (pg_name (i := 1) sc_is_name.nd rfl (by first | exact Or.inl rfl | exact Or.inr rfl))) (fun _ _ _ _ _ => pts_nil) (fun _ _ _ _ _ => (pe_chain op_le_str op_le_str pe_str (pv 1) pe_str))) pa_nil)))))), ?_⟩
    have hs : x.length ≤ sizeLine := Nat.le_trans hx (by rw [sizeLine_eq]; decide)
    refine ⟨.str x, rfl, x, rfl, hs, 1, x.length, rfl, rfl, decide (1 ≤ (x.length : Int)), rfl, ?_⟩
    unfold isName at q
    refine ite2 (fun h1 => ?_) (fun h1 => ?_)
    · refine ⟨x.length, 8, rfl, rfl, decide ((x.length : Int) ≤ 8), rfl, ?_⟩
      rw [h1] at q
      refine ite2 (fun h2 => ?_) (fun h2 => ?_)
      · rw [h2] at q
        refine ⟨.str x, rfl, x, rfl, fun D hD => lc_flat walk_str (fun i => .bl (okSign (x.cps.toList.getD i 0))) ?_ hD (fun _ _ => True.intro) (fun i H x H' y => by obtain ⟨rfl, _⟩ := y; exact same_refl) ?_ ?_⟩
        · show x.length ≤ _
          omega
        · rintro i v H1 H2 hi sm ⟨rfl, c, hc, rfl⟩ R hR
          have ec : x.cps.toList.getD i 0 = c := by
            rw [List.getD_eq_getElem?_getD, Array.getElem?_toList, hc]
            rfl
          refine ⟨rfl, .str ⟨#[c]⟩, rfl, ⟨#[97]⟩, ⟨#[c]⟩, rfl, rfl, _, rfl, ?_⟩
          have e2 : okSign (x.cps.toList.getD i 0) = (!decide ([c] < [97]) && !decide ([122] < [c])) := by rw [ec]; rfl
          refine ite2 (fun h3 => ?_) (fun h3 => ?_)
          · refine ⟨⟨#[c]⟩, ⟨#[122]⟩, rfl, rfl, ?_⟩
            have r := hR H2 same_refl
            rw [e2] at r
            have h3' : (!decide ([c] < [97])) = true := h3
            rw [h3'] at r
            exact r
          · have r := hR H2 same_refl
            rw [e2] at r
            have h3' : (!decide ([c] < [97])) = false := by simpa using h3
            rw [h3'] at r
            exact r
        · intro H1 sm hD1
          refine ⟨D, (List.range x.cps.size).map fun i => okSign (x.cps.toList.getD i 0), rfl, Or.inl (Or.inl ?_), ?_⟩
          · rw [hD1, List.map_map]
            rfl
          · have e : (List.range x.cps.size).map (fun i => okSign (x.cps.toList.getD i 0)) = x.cps.toList.map okSign := by
              have := range_map_get (x.cps.toList.map okSign) (fun i => okSign (x.cps.toList.getD i 0)) (fun i b hb => by
                rw [List.getElem?_map] at hb
                obtain ⟨c, h1, h2⟩ := Option.map_eq_some_iff.mp hb
                rw [List.getD_eq_getElem?_getD, h1]
                exact h2)
              rw [List.length_map] at this
              exact this
            rw [e, List.all_map]
            exact q H1 sm
      · have h2' : decide ((x.length : Int) ≤ 8) = false := by simpa using h2
        rw [h2'] at q
        exact q H same_refl
    · have h1' : decide (1 ≤ (x.length : Int)) = false := by simpa using h1
      rw [h1'] at q
      refine ⟨false, rfl, ?_⟩
      exact q H same_refl
def isRead (d : Int) (r : Rd1) : Bool := isName r.t && (decide ((r.v.length : Int) = d) && !decide (r.f = 0))
def spIsRead (K : PySem.W.Frag) : Sp := fun vs H Q _ => ∃ (v : V) (r : Rd1) (d : Int), vs = [v, .int d] ∧ Dp K H v r.d ∧ r.t.length ≤ 100000 ∧ ∀ H', Same H H' → Q (.bl (isRead d r)) H'
theorem ok_is_read {f : Addr} {fd : FuncData} (F : Fun K "is_read" "is_read" s_is_read f fd) (T : Txt mg) (c_is_name : C8.Cal P w K mg base 1 "is_name" spIsName []) : FnOk P w K mg base CX0 2 f fd ["read", "dimensions"] (spIsRead K) := by
  refine F.ok sc_is_read (fun vs H Q E h => ?_) (fun cdv A outer s H vs Q E hr h => ?_)
  · obtain ⟨v, r, d, rfl, _⟩ := h
    rfl
  · obtain ⟨v, r, d, rfl, hv, hz, q⟩ := h
    refine ⟨_, (pss_cons (ps_asg (pv 0) (pg_tup rfl (pgs_cons (pg_name (i := 2) sc_is_read.nd rfl (by first | exact Or.inl rfl | exact Or.inr rfl)) (pgs_cons (pg_name (i := 3) sc_is_read.nd rfl (by first | exact Or.inl rfl | exact Or.inr rfl)) (pgs_cons (pg_name (i := 4) sc_is_read.nd rfl (by first | exact Or.inl rfl | exact Or.inr rfl)) pgs_nil)))))
  (pss_one (ps_ret (pe_and (C8.pe_c c_is_name hr (by decide) (by rfl) (pa_cons (pv 2) pa_nil)) (pe_and (pe_cmpR op_eq (pe_callB call_len_seq (by rfl) T.b_len PySem.boot_len (pa_cons (pv 3) pa_nil)) (pv 1) (nomark _)) (pe_one (pe_cmpR op_ne (pv 4) pe_int (nomark _)))))))), ?_⟩
    obtain ⟨a, xs, rfl, ht, hd⟩ := dtup hv
    obtain ⟨x1, x2, x3, rfl, h1, h2, h3⟩ := dps3 hd
    obtain rfl := dstr h1
    obtain rfl := dint h3
    obtain ⟨b, ys, rfl, ht2, hd2⟩ := dtup h2
    have hl2 := dps_len hd2
    refine ⟨_, rfl, a, _, rfl, ht, rfl, _, _, rfl, _, _, rfl, _, _, rfl, rfl, ?_⟩
    unfold isRead at q
    refine ⟨.str r.t, rfl, r.t, rfl, hz, fun H1 sm => ⟨_, rfl, ?_⟩⟩
    cases hn : isName r.t with
    | false =>
      refine iteF ?_
      have z := q H1 sm
      rw [hn] at z
      exact z
    | true =>
      refine iteT ?_
      refine ⟨_, rfl, b, ys, rfl, Or.inr (sqt sm ht2), _, rfl, rfl, _, rfl, ?_⟩
      have z := q H1 sm
      rw [hn] at z
      have e : decide (V.int (ys.length : Int) = V.int d) = decide ((r.v.length : Int) = d) := by
        rw [hl2, List.length_map]
        exact decide_eq_decide.mpr ⟨fun h => V.int.inj h, fun h => congrArg V.int h⟩
      rw [e]
      cases hq : decide ((r.v.length : Int) = d) with
      | false =>
        refine iteF ?_
        rw [hq] at z
        exact z
      | true =>
        refine iteT ?_
        rw [hq] at z
        refine ⟨_, rfl, rfl, ?_⟩
        have e3 : decide (V.int r.f = V.int 0) = decide (r.f = 0) := decide_eq_decide.mpr ⟨fun h => V.int.inj h, fun h => congrArg V.int h⟩
        rw [e3]
        exact z
def spDims (K : PySem.W.Frag) (C : Addr) : Sp := fun vs H Q _ => ∃ (s : Addr) (d m : Int) (ts : List Tb), vs = [.ref s] ∧ SysAt K C H s d m ts ∧ Q (.int d) H
theorem ok_dims {f C : Addr} {fd : FuncData} (F : Fun K "dimensions" "System.dimensions" s_System_dimensions f fd) (TC : TxtC K mg C) : FnOk P w K mg base CX0 1 f fd ["self"] (spDims K C) := by
  refine F.ok sc_System_dimensions (fun vs H Q E h => ?_) (fun cdv A outer s H vs Q E hr h => ?_)
  · obtain ⟨s, d, m, ts, rfl, _⟩ := h
    rfl
  · obtain ⟨s, d, m, ts, rfl, S, q⟩ := h
    refine ⟨_, (pss_one (ps_ret (pe_fld (pv 0) rfl))), ?_⟩
    obtain ⟨dx, t, kvs, h1, h2, h3⟩ := S.ob
    exact ⟨_, rfl, s, C, dx, _, _, rfl, h1, TC.cl, TC.nD, flds_d _ _ _, q⟩
def spMod (K : PySem.W.Frag) (C : Addr) : Sp := fun vs H Q _ => ∃ (s : Addr) (d m : Int) (ts : List Tb), vs = [.ref s] ∧ SysAt K C H s d m ts ∧ Q (.int m) H
theorem ok_mod {f C : Addr} {fd : FuncData} (F : Fun K "modulus" "System.modulus" s_System_modulus f fd) (TC : TxtC K mg C) : FnOk P w K mg base CX0 1 f fd ["self"] (spMod K C) := by
  refine F.ok sc_System_modulus (fun vs H Q E h => ?_) (fun cdv A outer s H vs Q E hr h => ?_)
  · obtain ⟨s, d, m, ts, rfl, _⟩ := h
    rfl
  · obtain ⟨s, d, m, ts, rfl, S, q⟩ := h
    refine ⟨_, (pss_one (ps_ret (pe_fld (pv 0) rfl))), ?_⟩
    obtain ⟨dx, t, kvs, h1, h2, h3⟩ := S.ob
    exact ⟨_, rfl, s, C, dx, _, _, rfl, h1, TC.cl, TC.nM, flds_m _ _ _, q⟩
def spNames (K : PySem.W.Frag) (C : Addr) : Sp := fun vs H Q _ => ∃ (s : Addr) (d m : Int) (ts : List Tb), vs = [.ref s] ∧ SysAt K C H s d m ts ∧ ∀ p H', H p = none → Same H H' → H' p = some (.lst (ts.map fun t => V.str t.n)) → Q (.ref p) H'
theorem ok_names {f C : Addr} {fd : FuncData} (F : Fun K "names" "System.names" s_System_names f fd) (T : Txt mg) (TC : TxtC K mg C) : FnOk P w K mg base CX0 1 f fd ["self"] (spNames K C) := by
  refine F.ok sc_System_names (fun vs H Q E h => ?_) (fun cdv A outer s H vs Q E hr h => ?_)
  · obtain ⟨s, d, m, ts, rfl, _⟩ := h
    rfl
  · obtain ⟨s, d, m, ts, rfl, S, q⟩ := h
    refine ⟨_, (pss_one (ps_ret (pe_callTy (call_listD rfl) (by rfl) T.b_list (by decide +kernel) (pa_cons (pe_fld (pv 0) rfl) pa_nil)))), ?_⟩
    obtain ⟨dx, t, kvs, h1, h2, h3⟩ := S.ob
    refine ⟨_, rfl, s, C, dx, _, _, rfl, h1, TC.cl, TC.nT, flds_t _ _ _, t, kvs, rfl, Or.inl h2, fun p hp => ?_⟩
    refine q p _ hp (snew hp) ?_
    rw [upd_same, h3.keys]
def okPoint (d : Int) (p : List Int) : Bool := decide ((p.length : Int) = d) && p.all fun i => decide (0 ≤ i)
def spCheckTable (K : PySem.W.Frag) (C : Addr) : Sp := fun vs H Q _ => ∃ (s : Addr) (d m : Int) (ts : List Tb) (x : Str), vs = [.ref s, .str x] ∧ SysAt K C H s d m ts ∧ x ∈ ts.map (·.n) ∧ ∀ H', Same H H' → Q .non H'
theorem inV_str {x : Str} : ∀ {l : List Str}, x ∈ l → inV (.str x) (l.map V.str) = true := by
  intro l h
  unfold inV
  rw [List.any_map, List.any_eq_true]
  refine ⟨x, h, ?_⟩
  first
    | rfl
    | simp [eqV]
theorem flat_strs (l : List Str) : (l.map V.str).all flatV = true := by
  rw [List.all_map, List.all_eq_true]
  intro x _
  rfl
theorem ok_check_table {f C : Addr} {fd : FuncData} (F : Fun K "check_table" "check_table" s_check_table f fd) (T : Txt mg) (p_names : Prp P w K mg base 1 C "names" (spNames K C)) : FnOk P w K mg base CX0 3 f fd ["system", "name"] (spCheckTable K C) := by
  refine F.ok sc_check_table (fun vs H Q E h => ?_) (fun cdv A outer s H vs Q E hr h => ?_)
  · obtain ⟨s, d, m, ts, x, rfl, _⟩ := h
    rfl
  · obtain ⟨s, d, m, ts, x, rfl, S, hx, q⟩ := h
    refine ⟨_, (pss_one (ps_if (pt_cmpR op_notIn_seq (pv 1) (pe_pr (pv 0) p_names hr (by decide) rfl) (by rfl))
    (pss_one ps_never)
    pss_nil)), ?_⟩
    obtain ⟨dx, t, kvs, h1, h2, h3⟩ := S.ob
    refine ⟨_, rfl, _, rfl, s, dx, _, rfl, h1, s, d, m, ts, rfl, S, fun p H' hp sm hl => ?_⟩
    have e : (ts.map fun t => V.str t.n) = (ts.map (·.n)).map V.str := by
      rw [List.map_map]
      rfl
    refine ⟨p, _, rfl, Or.inl (Or.inl (Or.inl hl)), rfl, ?_, ?_⟩
    · rw [e]
      exact flat_strs _
    · rw [e, inV_str hx]
      exact ⟨_, rfl, iteF (q H' sm)⟩
def spReads (K : PySem.W.Frag) (C : Addr) : Sp := fun vs H Q _ => ∃ (B : Hp) (s : Addr) (d m : Int) (ts : List Tb) (x : Str) (tb : Tb), vs = [.ref s, .str x] ∧ Same B H ∧ SysAt K C B s d m ts ∧ x ∈ ts.map (·.n) ∧ ts.find? (fun t => decide (t.n = x)) = some tb ∧
  ∀ p H' xs, H p = none → Same H H' → H' p = some (.lst xs) → DpAll K B xs (tb.rs.map Rd1.d) → Q (.ref p) H'
theorem ok_reads {f C : Addr} {fd : FuncData} (F : Fun K "reads" "System.reads" s_System_reads f fd) (T : Txt mg) (TC : TxtC K mg C) (c_check_table : C8.Cal P w K mg base 3 "check_table" (spCheckTable K C) []) : FnOk P w K mg base CX0 4 f fd ["self", "name"] (spReads K C) := by
  refine F.ok sc_System_reads (fun vs H Q E h => ?_) (fun cdv A outer s H vs Q E hr h => ?_)
  · obtain ⟨B, s, d, m, ts, x, tb, rfl, _⟩ := h
    rfl
  · obtain ⟨B, s, d, m, ts, x, tb, rfl, sB, S, hx, hf, q⟩ := h
    have hu := hu_of hr
    refine ⟨_, (pss_cons (ps_expr (C8.pe_c c_check_table hr (by decide) (by rfl) (pa_cons (pv 0) (pa_cons (pv 1) pa_nil))))
  (pss_one (ps_ret (pe_callTy call_list_of (by rfl) T.b_list (by decide +kernel) (pa_cons (pe_ix ix_tup (pe_dget hu (pe_fld (pv 0) rfl) (pv 1) (fun _ _ => rfl)) pe_int (fun _ _ => rfl)) pa_nil))))), ?_⟩
    refine ⟨_, rfl, _, rfl, s, d, m, ts, x, rfl, S.mono sB, hx, fun H1 sm => ?_⟩
    obtain ⟨dx, t, kvs, h1, h2, h3⟩ := S.ob
    have sB1 := same_tr sB sm
    have h1 := sB1 _ _ h1
    have h2 := sB1 _ _ h2
    obtain ⟨v, e1, e2⟩ := h3.get hf
    obtain ⟨a, ys, rfl, ht, hd⟩ := dtup e2
    obtain ⟨y1, y2, rfl, g1, g2⟩ := dps2 hd
    obtain ⟨b, zs, rfl, ht2, hd2⟩ := dtup g2
    refine ⟨_, rfl, s, C, dx, _, _, rfl, h1, TC.cl, TC.nT, flds_t _ _ _, _, rfl, t, _, rfl, ?_, a, _, 1, _, rfl, rfl, sqt sB1 ht, rfl, b, zs, rfl, Or.inr (sqt sB1 ht2), fun p hp => ?_⟩
    · have g := DGet.k (k := Sum.inr x) h2
      rw [e1] at g
      exact g
    · exact q p _ _ (free_of sm hp) (same_tr sm (snew hp)) upd_same hd2
structure OkT (d : Int) (ts : List Tb) : Prop where
  names : ∀ t ∈ ts, isName t.n = true
  nodup : (ts.map (·.n)).Nodup
  few : (ts.map fun t => t.rs.length).sum ≤ 12
  reads : ∀ t ∈ ts, ∀ r ∈ t.rs, isRead d r = true
  here : ∀ t ∈ ts, ∀ r ∈ t.rs, r.t ∈ ts.map (·.n)
theorem name_len {x : Str} (h : isName x = true) : x.length ≤ 100000 := by
  unfold isName at h
  rw [Bool.and_eq_true, Bool.and_eq_true] at h
  have := of_decide_eq_true h.1.2
  omega
theorem read_len {d : Int} {r : Rd1} (h : isRead d r = true) : r.t.length ≤ 100000 := by
  unfold isRead at h
  rw [Bool.and_eq_true] at h
  exact name_len h.1
def nth (l : List Str) (i : Nat) : Str := l.getD i Str.empty
theorem nth_of {l : List Str} {i : Nat} {x : Str} (h : l[i]? = some x) : nth l i = x := by
  unfold nth
  rw [List.getD_eq_getElem?_getD, h]
  rfl
theorem nths (l : List Str) : (List.range l.length).map (fun i => V.str (nth l i)) = l.map V.str := by
  have := range_map_get (l.map V.str) (fun i => V.str (nth l i)) (fun i b hb => by
    rw [List.getElem?_map] at hb
    obtain ⟨c, h1, h2⟩ := Option.map_eq_some_iff.mp hb
    rw [nth_of h1]
    exact h2)
  rw [List.length_map] at this
  exact this
theorem cut_to (xs : List V) (i : Nat) (h : i ≤ xs.length) : cutV xs none (some (i : Int)) = xs.take i := by
  unfold cutV
  rw [show HT.sIx xs.length xs.length (some (i : Int)) = min i xs.length from HT.sIx_nat xs.length xs.length i, HT.sIx_none, List.drop_zero, Nat.sub_zero, Nat.min_eq_left h]
theorem notin_take {l : List Str} {i : Nat} {x : Str} (hn : l.Nodup) (h : l[i]? = some x) : x ∉ l.take i := by
  intro hm
  obtain ⟨j, hj, e⟩ := List.mem_iff_getElem.mp hm
  rw [List.length_take] at hj
  have e2 : l[j]? = some x := by
    rw [List.getElem_take] at e
    rw [List.getElem?_eq_getElem (by omega), e]
  have := nd_ix hn e2 h
  omega
theorem inV_no {x : Str} : ∀ {l : List Str}, x ∉ l → inV (.str x) (l.map V.str) = false := by
  intro l h
  unfold inV
  rw [List.any_map, List.any_eq_false]
  intro y hy e
  have e' : y = x := by
    first
      | exact of_decide_eq_true e
      | simpa [eqV] using e
  exact h (e' ▸ hy)
/-- what stands at the i-th place of a list of tables -/
theorem tb_at {H : Hp} {xs : List V} {ts : List Tb} {i : Nat} {x : V} (h : DpAll K H xs (ts.map Tb.d)) (e : xs[i]? = some x) : ∃ t a l ys, ts[i]? = some t ∧ x = .ref a ∧ SqT K H a [.str t.n, .int t.c, .ref l] ∧ SqL K H l ys ∧ DpAll K H ys (t.rs.map Rd1.d) := by
  obtain ⟨d, e1, e2⟩ := dps_get h e
  rw [List.getElem?_map] at e1
  obtain ⟨t, e3, rfl⟩ := Option.map_eq_some_iff.mp e1
  obtain ⟨a, zs, rfl, ht, hd⟩ := dtup e2
  obtain ⟨z1, z2, z3, rfl, h1, h2, h3⟩ := dps3 hd
  obtain rfl := dstr h1
  obtain rfl := dint h2
  obtain ⟨l, ys, rfl, hl, hy⟩ := dlst h3
  exact ⟨t, a, l, ys, e3, rfl, ht, hl, hy⟩
theorem rd_at {H : Hp} {xs : List V} {rs : List Rd1} {i : Nat} {x : V} (h : DpAll K H xs (rs.map Rd1.d)) (e : xs[i]? = some x) : ∃ r a b, rs[i]? = some r ∧ x = .ref a ∧ Dp K H x r.d ∧ SqT K H a [.str r.t, .ref b, .int r.f] ∧ SqT K H b (r.v.map V.int) := by
  obtain ⟨d, e1, e2⟩ := dps_get h e
  rw [List.getElem?_map] at e1
  obtain ⟨r, e3, rfl⟩ := Option.map_eq_some_iff.mp e1
  obtain ⟨a, zs, rfl, ht, hd⟩ := dtup e2
  obtain ⟨z1, z2, z3, rfl, h1, h2, h3⟩ := dps3 hd
  obtain rfl := dstr h1
  obtain rfl := dint h3
  obtain ⟨b, ys, rfl, hb, hy⟩ := dtup h2
  obtain rfl := dps_ints hy
  exact ⟨r, a, b, e3, rfl, e2, ht, hb⟩
def cnt (ts : List Tb) : Nat := (ts.map fun t => t.rs.length).sum
theorem cnt_take {ts : List Tb} {i : Nat} {t : Tb} (h : ts[i]? = some t) : cnt (ts.take (i + 1)) = cnt (ts.take i) + t.rs.length := by
  unfold cnt
  rw [List.take_add_one, h, List.map_append, List.sum_append]
  rfl
theorem cnt_le (ts : List Tb) (i : Nat) : cnt (ts.take i) ≤ cnt ts := by
  unfold cnt
  have e := congrArg (fun l : List Tb => (l.map fun t => t.rs.length).sum) (List.take_append_drop i ts)
  simp only [List.map_append, List.sum_append] at e
  omega
def spCheckTables (K : PySem.W.Frag) : Sp := fun vs H Q _ => ∃ (d : Int) (v : V) (ts : List Tb), vs = [.int d, v] ∧ Dp K H v (.list (ts.map Tb.d)) ∧ ts.length ≤ 6 ∧ OkT d ts ∧ ∀ H', Same H H' → Q .non H'
theorem ok_check_tables {f : Addr} {fd : FuncData} (F : Fun K "check_tables" "check_tables" s_check_tables f fd) (T : Txt mg) (c_is_name : C8.Cal P w K mg base 1 "is_name" spIsName []) (c_is_read : C8.Cal P w K mg base 2 "is_read" (spIsRead K) []) : FnOk P w K mg base CX0 3 f fd ["dimensions", "tables"] (spCheckTables K) := by
  refine F.ok sc_check_tables (fun vs H Q E h => ?_) (fun cdv A outer s H vs Q E hr h => ?_)
  · obtain ⟨d, v, ts, rfl, _⟩ := h
    rfl
  · obtain ⟨d, v, ts, rfl, hv, hl6, O, q⟩ := h
    refine ⟨_, (pss_cons (ps_setLc (i := 2) (own := [("table", 3)]) (g := gName 3) (tt := tYes) (by rfl) sc_check_tables.nd rfl rfl (sw_true rfl rfl rfl (by decide +kernel)) (pi_list (pv 1)) (blkOk_by (N := ["dimensions", "tables", "names", "table", "many", "row", "name", "_", "reads", "read"]) (sc := defScope s_check_tables) (by decide +kernel)) (fun _ _ _ _ _ => (pg_name (i := 3) sc_check_tables.nd rfl (by first | exact Or.inl rfl | exact Or.inr rfl))) (fun _ _ _ _ _ => pts_nil) (fun _ _ _ _ _ => (pe_ix (r := rIxT K) ix_tup (pv 3) pe_int (fun _ _ => rfl))))
  (pss_cons (ps_set (i := 4) sc_check_tables.nd rfl (by first | exact Or.inl rfl | exact Or.inr rfl) pe_int)
  (pss_one (ps_for PassesOwn.never rfl (pi_enum (by rfl) T.b_enumerate (pa_cons (pv 1) pa_nil)) (pg_tup rfl (pgs_cons (pg_name (i := 5) sc_check_tables.nd rfl (by first | exact Or.inl rfl | exact Or.inr rfl)) (pgs_cons (pg_tup rfl (pgs_cons (pg_name (i := 6) sc_check_tables.nd rfl (by first | exact Or.inl rfl | exact Or.inr rfl)) (pgs_cons (pg_name (i := 7) sc_check_tables.nd rfl (by first | exact Or.inl rfl | exact Or.inr rfl)) (pgs_cons (pg_name (i := 8) sc_check_tables.nd rfl (by first | exact Or.inl rfl | exact Or.inr rfl)) pgs_nil)))) pgs_nil)))
    (pss_cons (ps_aug (i := 4) sc_check_tables.nd rfl (by first | exact Or.inl rfl | exact Or.inr rfl) (pe_callB call_len_seq (by rfl) T.b_len PySem.boot_len (pa_cons (pv 8) pa_nil)) ip_add)
    (pss_cons (ps_if (PW.pt (pw_or (pt_not (pt_val (C8.pe_c c_is_name hr (by decide) (by rfl) (pa_cons (pv 6) pa_nil)))) (pw_or (pt_cmpR op_in_seq (pv 6) (pe_slice sl_list (pv 2) po_none (po_some (pv 5))) (by rfl)) (pw_or1 (pt_cmpR op_gt (pv 4) (C8.pe_gc (by rfl) T.g_MOST_READS) (nomark _))))))
      (pss_one ps_never)
      pss_nil)
    (pss_one (ps_if (pt_not (pt_val (pe_callB (cr_all rfl) (by rfl) T.b_all (by decide +kernel) (pa_cons (pe_lc (own := [("read", 9)]) (g := gName 9) (tt := tYes) (by rfl) sc_check_tables.nd (pi_list (pv 8)) (blkOk_by (N := ["dimensions", "tables", "names", "table", "many", "row", "name", "_", "reads", "read"]) (sc := defScope s_check_tables) (by decide +kernel)) (fun _ _ _ _ _ => (pg_name (i := 9) sc_check_tables.nd rfl (by first | exact Or.inl rfl | exact Or.inr rfl))) (fun _ _ _ _ _ => pts_nil) (fun _ _ _ _ _ => (C8.pe_c c_is_read hr (by decide) (by rfl) (pa_cons (pv 9) (pa_cons (pv 0) pa_nil))))) pa_nil))))
      (pss_one ps_never)
      pss_nil)))))))), ?_⟩
    obtain ⟨a, xs, rfl, ha, hd⟩ := dlst hv
    have hxl : xs.length = ts.length := by rw [dps_len hd, List.length_map]
    -- names = [table[0] ..]
    refine ⟨_, rfl, a, rfl, ⟨_, ha⟩, fun D hD => lc_flat (walk_list (K := K) (a := a) (xs := xs)) (fun i => .str (nth (ts.map (·.n)) i)) (by omega) hD (fun H' sm => sql sm ha) (fun i H x H' y => yat_same y) ?_ ?_⟩
    · rintro i x H1 H2 hi sm ⟨rfl, hx⟩ R hR
      obtain ⟨t, b, l, ys, e1, rfl, g1, _, _⟩ := tb_at (dpsm sm _ _ hd) hx
      have en : nth (ts.map (·.n)) i = t.n := nth_of (by rw [List.getElem?_map, e1]; rfl)
      refine ⟨rfl, _, rfl, b, _, 0, _, rfl, rfl, g1, rfl, ?_⟩
      have r := hR H2 same_refl
      rw [en] at r
      exact r
    · intro H1 sm hD1
      have hD1 : H1 D = some (.lst ((ts.map (·.n)).map V.str)) := by
        rw [hD1, hxl, ← nths, List.length_map]
      -- many = 0; the loop
      refine ⟨_, rfl, a, xs, rfl, sql sm ha, for_it (walk_enum (K := K) (a := a) (xs := xs)) (fun i σ H2 => ∃ y5 y6 y7 y8, σ = [some (.int d), some (.ref a), some (.ref D), none, some (.int (cnt (ts.take i))), y5, y6, y7, y8, none] ∧ Same H1 H2)
        ⟨none, none, none, none, rfl, same_refl⟩ (fun i σ H2 _ ⟨_, _, _, _, _, s2⟩ => sql (same_tr sm s2) ha) ?_ ?_⟩
      · rintro i x σ H2 H3 hi ⟨y5, y6, y7, y8, rfl, s2⟩ ⟨Tp, z1, z2, rfl, hT, rfl, e1, e2⟩
        cases e1
        have s3 : Same H1 (upd H2 Tp (.tup [.int (i : Nat), z2])) := same_tr s2 (snew hT)
        obtain ⟨t, b, l, ys, f1, rfl, g1, g2, g3⟩ := tb_at (dpsm (same_tr sm s3) _ _ hd) e2
        have htm : t ∈ ts := List.mem_of_getElem? f1
        have hyl : ys.length = t.rs.length := by rw [dps_len g3, List.length_map]
        refine ⟨Tp, _, rfl, Or.inl (Or.inl upd_same), rfl, _, _, rfl, _, _, rfl, b, _, rfl, g1, rfl, _, _, rfl, _, _, rfl, _, _, rfl, rfl, rfl, ?_⟩
        -- many += len(reads)
        refine ⟨_, rfl, _, rfl, l, ys, rfl, Or.inl g2, _, _, rfl, rfl, ?_⟩
        have hc := cnt_take f1
        have hc2 := cnt_le ts (i + 1)
        have h12 : cnt ts ≤ 12 := O.few
        -- the first test
        refine ⟨.str t.n, rfl, t.n, rfl, name_len (O.names t htm), fun H4 s4 => ⟨_, rfl, ?_⟩⟩
        rw [O.names t htm]
        refine iteF ?_
        have hD4 : H4 D = some (.lst ((ts.map (·.n)).map V.str)) := s4 _ _ (s3 _ _ hD1)
        refine ⟨_, rfl, _, rfl, _, rfl, (i : Int), rfl, D, _, rfl, Or.inl (Or.inl hD4), fun p hp => ?_⟩
        have s5 : Same H4 (upd H4 p (.lst (cutV ((ts.map (·.n)).map V.str) none (some (i : Int))))) := snew hp
        rw [cut_to _ _ (by rw [List.length_map, List.length_map]; omega), ← List.map_take]
        refine ⟨p, _, rfl, Or.inl (Or.inl (Or.inl upd_same)), rfl, flat_strs _, false, ?_, iteF ?_⟩
        · rw [inV_no (notin_take O.nodup (by rw [List.getElem?_map, f1]; rfl))]
          rfl
        · refine ⟨_, rfl, _, 12, rfl, rfl, decide (12 < (cnt (ts.take i) : Int) + (ys.length : Int)), rfl, ?_⟩
          rw [decide_eq_false (by omega)]
          refine iteF ?_
          -- the second test
          have s6 : Same H1 (upd H4 p (.lst (((ts.map (·.n)).take i).map V.str))) := same_tr s3 (same_tr s4 (snew hp))
          refine ⟨_, rfl, l, rfl, ⟨ys, sql (same_tr s4 (snew hp)) g2⟩, fun D2 hD2 => lc_flat (walk_list (K := K) (a := l) (xs := ys)) (fun j => .bl true) (by omega) hD2 (fun H' sm' => sql sm' (sql (same_tr s4 (snew hp)) g2)) (fun i H x H' y => yat_same y) ?_ ?_⟩
          · rintro j x H5 H6 hj sm5 ⟨rfl, hx⟩ R hR
            obtain ⟨r, ra, rb, e3, rfl, e4, _, _⟩ := rd_at (dpsm sm5 _ _ (dpsm (same_tr s4 (snew hp)) _ _ g3)) hx
            have hro := O.reads t htm r (List.mem_of_getElem? e3)
            refine ⟨rfl, _, rfl, _, rfl, .ref ra, r, d, rfl, e4, read_len hro, fun H7 s7 => ?_⟩
            rw [hro]
            exact hR H7 s7
          · intro H5 sm5 hD5
            refine ⟨D2, (List.range ys.length).map fun _ => true, rfl, Or.inl (Or.inl ?_), ⟨_, rfl, ?_⟩⟩
            · rw [hD5, List.map_map]
              rfl
            · have e : ((List.range ys.length).map fun _ => true).all id = true := by
                rw [List.all_map, List.all_eq_true]
                intro _ _
                rfl
              rw [e]
              refine iteF ?_
              refine ⟨some (.int (i : Int)), some (.str t.n), some (.int t.c), some (.ref l), ?_, same_tr s6 sm5⟩
              rw [hc]
              have ec : (cnt (ts.take i) : Int) + (ys.length : Int) = ((cnt (ts.take i) + t.rs.length : Nat) : Int) := by omega
              rw [← ec]
              rfl
      · rintro σ H2 ⟨_, _, _, _, rfl, s2⟩
        exact q H2 (same_tr sm s2)
theorem dict_flat_any : True := True.intro
def spCheckRead (K : PySem.W.Frag) : Sp := fun vs H Q _ => ∃ (d : Int) (v : V) (ts : List Tb), vs = [v] ∧ Dp K H v (.list (ts.map Tb.d)) ∧ ts.length ≤ 6 ∧ OkT d ts ∧ ∀ H', Same H H' → Q .non H'
theorem few_reads {d : Int} {ts : List Tb} (O : OkT d ts) {t : Tb} (h : t ∈ ts) : t.rs.length ≤ 12 := by
  obtain ⟨i, hi⟩ := List.mem_iff_getElem?.mp h
  have h1 := cnt_take hi
  have h2 := cnt_le ts (i + 1)
  have h3 : cnt ts ≤ 12 := O.few
  omega
theorem ok_check_read {f : Addr} {fd : FuncData} (F : Fun K "check_tables_that_are_read" "check_tables_that_are_read" s_check_tables_that_are_read f fd) (T : Txt mg) : FnOk P w K mg base CX0 3 f fd ["tables"] (spCheckRead K) := by
  refine F.ok sc_check_tables_that_are_read (fun vs H Q E h => ?_) (fun cdv A outer s H vs Q E hr h => ?_)
  · obtain ⟨d, v, ts, rfl, _⟩ := h
    rfl
  · obtain ⟨d, v, ts, rfl, hv, hl6, O, q⟩ := h
    refine ⟨_, (pss_cons (ps_set (i := 1) sc_check_tables_that_are_read.nd rfl (by first | exact Or.inl rfl | exact Or.inr rfl) (pe_lc (own := [("table", 2)]) (g := gName 2) (tt := tYes) (by rfl) sc_check_tables_that_are_read.nd (pi_list (pv 0)) (blkOk_by (N := ["tables", "names", "table", "row", "read"]) (sc := defScope s_check_tables_that_are_read) (by decide +kernel)) (fun _ _ _ _ _ => (pg_name (i := 2) sc_check_tables_that_are_read.nd rfl (by first | exact Or.inl rfl | exact Or.inr rfl))) (fun _ _ _ _ _ => pts_nil) (fun _ _ _ _ _ => (pe_ix (r := rIxT K) ix_tup (pv 2) pe_int (fun _ _ => rfl)))))
  (pss_one (ps_for PassesOwn.never rfl (pi_enum (by rfl) T.b_enumerate (pa_cons (pv 0) pa_nil)) (pg_tup rfl (pgs_cons (pg_name (i := 3) sc_check_tables_that_are_read.nd rfl (by first | exact Or.inl rfl | exact Or.inr rfl)) (pgs_cons (pg_name (i := 2) sc_check_tables_that_are_read.nd rfl (by first | exact Or.inl rfl | exact Or.inr rfl)) pgs_nil)))
    (pss_one (ps_if (pt_not (pt_val (pe_callB (cr_all rfl) (by rfl) T.b_all (by decide +kernel) (pa_cons (pe_lc (own := [("read", 4)]) (g := gName 4) (tt := tYes) (by rfl) sc_check_tables_that_are_read.nd (pi_list (pe_ix ix_tup (pv 2) pe_int (fun _ _ => rfl))) (blkOk_by (N := ["tables", "names", "table", "row", "read"]) (sc := defScope s_check_tables_that_are_read) (by decide +kernel)) (fun _ _ _ _ _ => (pg_name (i := 4) sc_check_tables_that_are_read.nd rfl (by first | exact Or.inl rfl | exact Or.inr rfl))) (fun _ _ _ _ _ => pts_nil) (fun _ _ _ _ _ => (pe_cmpR (r := rIn K false) op_in_seq (pe_ix (r := rIxT K) ix_tup (pv 4) pe_int (fun _ _ => rfl)) (pv 1) (by rfl)))) pa_nil))))
      (pss_one ps_never)
      pss_nil))))), ?_⟩
    obtain ⟨a, xs, rfl, ha, hd⟩ := dlst hv
    have hxl : xs.length = ts.length := by rw [dps_len hd, List.length_map]
    refine ⟨_, rfl, a, rfl, ⟨_, ha⟩, fun D hD => lc_flat (walk_list (K := K) (a := a) (xs := xs)) (fun i => .str (nth (ts.map (·.n)) i)) (by omega) hD (fun H' sm => sql sm ha) (fun i H x H' y => yat_same y) ?_ ?_⟩
    · rintro i x H1 H2 hi sm ⟨rfl, hx⟩ R hR
      obtain ⟨t, b, l, ys, e1, rfl, g1, _, _⟩ := tb_at (dpsm sm _ _ hd) hx
      have en : nth (ts.map (·.n)) i = t.n := nth_of (by rw [List.getElem?_map, e1]; rfl)
      refine ⟨rfl, _, rfl, b, _, 0, _, rfl, rfl, g1, rfl, ?_⟩
      have r := hR H2 same_refl
      rw [en] at r
      exact r
    · intro H1 sm hD1
      have hD1 : H1 D = some (.lst ((ts.map (·.n)).map V.str)) := by
        rw [hD1, hxl, ← nths, List.length_map]
      refine ⟨_, rfl, a, xs, rfl, sql sm ha, for_it (walk_enum (K := K) (a := a) (xs := xs)) (fun i σ H2 => ∃ y2 y3, σ = [some (.ref a), some (.ref D), y2, y3, none] ∧ Same H1 H2)
        ⟨none, none, rfl, same_refl⟩ (fun i σ H2 _ ⟨_, _, _, s2⟩ => sql (same_tr sm s2) ha) ?_ ?_⟩
      · rintro i x σ H2 H3 hi ⟨y2, y3, rfl, s2⟩ ⟨Tp, z1, z2, rfl, hT, rfl, e1, e2⟩
        cases e1
        have s3 : Same H1 (upd H2 Tp (.tup [.int (i : Nat), z2])) := same_tr s2 (snew hT)
        obtain ⟨t, b, l, ys, f1, rfl, g1, g2, g3⟩ := tb_at (dpsm (same_tr sm s3) _ _ hd) e2
        have htm : t ∈ ts := List.mem_of_getElem? f1
        have hyl : ys.length = t.rs.length := by rw [dps_len g3, List.length_map]
        have h12 := few_reads O htm
        refine ⟨Tp, _, rfl, Or.inl (Or.inl upd_same), rfl, _, _, rfl, _, _, rfl, rfl, ?_⟩
        refine ⟨_, rfl, b, _, 2, _, rfl, rfl, g1, rfl, l, rfl, ⟨ys, g2⟩, fun D2 hD2 => lc_flat (walk_list (K := K) (a := l) (xs := ys)) (fun j => .bl true) (by omega) hD2 (fun H' sm' => sql sm' g2) (fun i H x H' y => yat_same y) ?_ ?_⟩
        · rintro j x H5 H6 hj sm5 ⟨rfl, hx⟩ R hR
          obtain ⟨r, ra, rb, e3, rfl, e4, g5, _⟩ := rd_at (dpsm sm5 _ _ g3) hx
          have hm := O.here t htm r (List.mem_of_getElem? e3)
          refine ⟨rfl, _, rfl, ra, _, 0, _, rfl, rfl, g5, rfl, _, rfl, D, _, rfl, Or.inl (Or.inl (Or.inl (sm5 _ _ (s3 _ _ hD1)))), rfl, flat_strs _, ?_⟩
          rw [inV_str hm]
          exact hR H6 same_refl
        · intro H5 sm5 hD5
          refine ⟨D2, (List.range ys.length).map fun _ => true, rfl, Or.inl (Or.inl ?_), ⟨_, rfl, ?_⟩⟩
          · rw [hD5, List.map_map]
            rfl
          · have e : ((List.range ys.length).map fun _ => true).all id = true := by
              rw [List.all_map, List.all_eq_true]
              intro _ _
              rfl
            rw [e]
            refine iteF ?_
            exact ⟨some (.ref b), some (.int (i : Int)), rfl, same_tr s3 sm5⟩
      · rintro σ H2 ⟨_, _, rfl, s2⟩
        exact q H2 (same_tr sm s2)
def spCheckSystem (K : PySem.W.Frag) : Sp := fun vs H Q _ => ∃ (d m : Int) (v : V) (ts : List Tb), vs = [.int d, v, .int m] ∧ 1 ≤ d ∧ d ≤ 3 ∧ 2 ≤ m ∧ Dp K H v (.list (ts.map Tb.d)) ∧ 1 ≤ ts.length ∧ ts.length ≤ 6 ∧ OkT d ts ∧ ∀ H', Same H H' → Q .non H'
theorem ok_check_system {f : Addr} {fd : FuncData} (F : Fun K "check_system" "check_system" s_check_system f fd) (T : Txt mg) (c_check_tables : C8.Cal P w K mg base 3 "check_tables" (spCheckTables K) []) (c_check_tables_that_are_read : C8.Cal P w K mg base 3 "check_tables_that_are_read" (spCheckRead K) []) :
    FnOk P w K mg base CX0 4 f fd ["dimensions", "tables", "modulus"] (spCheckSystem K) := by
  refine F.ok sc_check_system (fun vs H Q E h => ?_) (fun cdv A outer s H vs Q E hr h => ?_)
  · obtain ⟨d, m, v, ts, rfl, _⟩ := h
    rfl
  · obtain ⟨d, m, v, ts, rfl, hd1, hd3, hm, hv, hl1, hl6, O, q⟩ := h
    refine ⟨_, (pss_cons (ps_if (pt_not (pt_chain op_le op_le pe_int (pv 0) (C8.pe_gc (by rfl) T.g_MOST_DIMENSIONS)))
    (pss_one ps_never)
    pss_nil)
  (pss_cons (ps_if (pt_not (pt_chain op_le op_le pe_int (pe_callB call_len_seq (by rfl) T.b_len PySem.boot_len (pa_cons (pv 1) pa_nil)) (C8.pe_gc (by rfl) T.g_MOST_TABLES)))
    (pss_one ps_never)
    pss_nil)
  (pss_cons (ps_expr (C8.pe_c c_check_tables hr (by decide) (by rfl) (pa_cons (pv 0) (pa_cons (pv 1) pa_nil))))
  (pss_cons (ps_expr (C8.pe_c c_check_tables_that_are_read hr (by decide) (by rfl) (pa_cons (pv 1) pa_nil)))
  (pss_one (ps_if (pt_cmpR op_lt (pv 2) pe_int (nomark _))
    (pss_one ps_never)
    pss_nil)))))), ?_⟩
    obtain ⟨a, xs, rfl, ha, hd⟩ := dlst hv
    have hxl : xs.length = ts.length := by rw [dps_len hd, List.length_map]
    refine ⟨_, rfl, 1, d, rfl, rfl, decide (1 ≤ d), rfl, ?_⟩
    rw [decide_eq_true hd1]
    refine iteT ⟨d, 3, rfl, rfl, decide (d ≤ 3), rfl, ?_⟩
    rw [decide_eq_true hd3]
    refine iteF ?_
    refine ⟨_, rfl, a, xs, rfl, Or.inl ha, 1, _, rfl, rfl, decide (1 ≤ (xs.length : Int)), rfl, ?_⟩
    rw [decide_eq_true (by omega)]
    refine iteT ⟨_, 6, rfl, rfl, decide ((xs.length : Int) ≤ 6), rfl, ?_⟩
    rw [decide_eq_true (by omega)]
    refine iteF ?_
    refine ⟨_, rfl, _, rfl, d, .ref a, ts, rfl, hv, hl6, O, fun H1 s1 => ?_⟩
    refine ⟨_, rfl, d, .ref a, ts, rfl, dpm s1 _ _ hv, hl6, O, fun H2 s2 => ?_⟩
    refine ⟨_, rfl, m, 2, rfl, rfl, decide (m < 2), rfl, ?_⟩
    rw [decide_eq_false (by omega)]
    exact iteF (q H2 (same_tr s1 s2))
/-- a def with a code object that is known -/
structure FunC (K : PySem.W.Frag) (x qual : Str) (st : Stmt) (f : Addr) (fd : FuncData) (c : Addr) : Prop where
  ex : ∃ (oc : Value) (od : Option Addr) (dV kV doc pm : Value) (an : Option Addr) (ct : Value) (osl : Array (Option Value)),
    fd = PySem.W.fnOf x qual (defArgs st) (defBody st) (defScope st) dV kV doc pm an (.ref c) ct ∧ K.lookup f = some ⟨oc, od, .func fd, osl⟩ ∧ PySem.W.codeIn K (.ref c) qual = true
theorem FunC.ok {x qual : Str} {st : Stmt} {f c : Addr} {fd : FuncData} {N ps : List Str} {k : Nat} {sp : Sp} (F : FunC K x qual st f fd c) (S : FnScope N ps (defScope st)) (len : ∀ vs H Q E, sp vs H Q E → vs.length = ps.length)
    (hbody : ∀ (A : Around) (outer : List Env) (s : Shared) (H : Hp) (vs : List V) (Q : VK) (E : XK), Room k (A.deeper (envOfC qual (defScope st) s.heap.objs.size f (.ref c))) → sp vs H Q E →
      ∃ t, PSs (cxOf CX0 P w K mg base N qual (defScope st) f (.ref c) A outer s H E).nox (defBody st) t ∧ t { nx := fun _ H' => Q .non H', rt := Q } (start N vs) H) : FnOk P w K mg base CX0 (k + 1) f fd ps sp := by
  obtain ⟨oc, od, dV, kV, doc, pm, an, ct, osl, rfl, lk, hcd⟩ := F.ex
  refine fn_of lk hcd S len fun A outer s H vs Q E hr hsp => ?_
  obtain ⟨t, h, q⟩ := hbody A outer s H vs Q E hr hsp
  exact ⟨t, h.nox, q⟩
def srt (ts : List Tb) : List Tb := ts.mergeSort (leK Tb.n)
/-- what a system may be made of -/
structure OkSys (d m : Int) (ts : List Tb) : Prop where
  d1 : 1 ≤ d
  d3 : d ≤ 3
  m2 : 2 ≤ m
  l1 : 1 ≤ ts.length
  l6 : ts.length ≤ 6
  ok : OkT d ts
/-- all but the tables of code objects and one object stay -/
def ExtB (s : Addr) (H H' : Hp) : Prop := ∀ b o, H b = some o → b ≠ s → (∀ ps, o ≠ .tbl ps) → H' b = some o
def spInit (K : PySem.W.Frag) (C : Addr) (TT : List (Addr × Str)) : Sp := fun vs H Q _ => ∃ (s dx : Addr) (d m : Int) (v : V) (ts : List Tb), vs = [.ref s, .int d, v, .int m] ∧ H s = some (.ins C dx []) ∧ LamX.Tabs TT H ∧ OkSys d m ts ∧ Dp K H v (.list (ts.map Tb.d)) ∧
  ∀ H', ExtB s H H' → LamX.Tabs TT H' → SysAt K C H' s d m (srt ts) → Q .non H'
theorem ok_init {f C c Pt : Addr} {fd : FuncData} {TT : List (Addr × Str)} (F : FunC K "__init__" "System.__init__" s_System_init f fd c) (T : Txt mg) (TC : TxtC K mg C) (c_check_system : C8.Cal P w K mg base 4 "check_system" (spCheckSystem K) [])
    (TBc : LamX.TabB base mg c Pt) (hmT : (Pt, ("System.__init__.<locals>.<lambda>" : Str)) ∈ TT) (huT : ∀ p ∈ TT, p.1 = Pt → p.2 = ("System.__init__.<locals>.<lambda>" : Str)) : FnOk P w K mg base CX0 5 f fd ["self", "dimensions", "tables", "modulus"] (spInit K C TT) := by
  refine F.ok sc_System_init (fun vs H Q E h => ?_) (fun A outer sh H vs Q E hr h => ?_)
  · obtain ⟨s, dx, d, m, v, ts, rfl, _⟩ := h
    rfl
  · obtain ⟨s, dx, d, m, v, ts, rfl, hs, hT, O, hv, q⟩ := h
    have hu := hu_of hr
    have hcode : (cxOf CX0 P w K mg base ["self", "dimensions", "tables", "modulus", "rows", "name", "constant", "reads"] "System.__init__" (defScope s_System_init) f (.ref c) A outer sh H E).nox.env.code = .ref c := rfl
    refine ⟨_, (pss_cons (ps_expr (C8.pe_c c_check_system hr (by decide) (by rfl) (pa_cons (pv 1) (pa_cons (pv 2) (pa_cons (pv 3) pa_nil)))))
  (pss_cons (ps_fld (pv 0) (pv 1) rfl)
  (pss_cons (ps_fld (pv 0) (pv 3) rfl)
  (pss_cons (ps_set (i := 4) sc_System_init.nd rfl (by first | exact Or.inl rfl | exact Or.inr rfl) (pe_sortKey Tb.n (a := "table") (by rfl) T.b_sorted (pv 2) hr TBc hcode hmT huT rfl ⟨rfl, rfl, rfl, rfl, by decide +kernel, by decide +kernel⟩ (by decide) (fun _ _ _ _ _ _ => rfl)))
  (pss_one (ps_fld (pv 0) (pe_dc (own := [("name", 5), ("constant", 6), ("reads", 7)]) (g := gTup K 3 (gCons (gName 5) (gCons (gName 6) (gCons (gName 7) gNil)))) (tt := tYes) (by rfl) sc_System_init.nd (pi_list (pv 4)) (blkOk_by (N := ["self", "dimensions", "tables", "modulus", "rows", "name", "constant", "reads"]) (sc := defScope s_System_init) (by decide +kernel)) (fun _ _ _ _ _ => (pg_tup rfl (pgs_cons (pg_name (i := 5) sc_System_init.nd rfl (by first | exact Or.inl rfl | exact Or.inr rfl)) (pgs_cons (pg_name (i := 6) sc_System_init.nd rfl (by first | exact Or.inl rfl | exact Or.inr rfl)) (pgs_cons (pg_name (i := 7) sc_System_init.nd rfl (by first | exact Or.inl rfl | exact Or.inr rfl)) pgs_nil))))) (fun _ _ _ _ _ => pts_nil) (fun _ _ _ _ _ => (pv 5)) (fun _ _ _ _ _ => (pe_tup (pa_cons (pv 6) (pa_cons (pe_callTy (r := rTupS K) call_tuple_of (by rfl) T.b_tuple (by decide +kernel) (pa_cons (pv 7) pa_nil)) pa_nil))))) rfl)))))), ?_⟩
    -- check_system(..)
    refine ⟨_, rfl, _, rfl, _, rfl, d, m, v, ts, rfl, O.d1, O.d3, O.m2, hv, O.l1, O.l6, O.ok, fun H1 s1 => ?_⟩
    have hs1 := s1 _ _ hs
    have hT1 := hT.ext s1
    -- self._dimensions, self._modulus
    refine ⟨_, rfl, _, rfl, s, C, dx, _, rfl, hs1, TC.cl, TC.nD, (by show 0 < 1000; decide), ?_⟩
    have hT2 := tabs_ins (o := .ins C dx (putF "_dimensions" (.int d) [])) hT1 hs1
    have d2 : SD H (upd H1 s (.ins C dx (putF "_dimensions" (.int d) []))) := SD.upd (.of s1) hs1 rfl
    have e2 : ExtB s H (upd H1 s (.ins C dx (putF "_dimensions" (.int d) []))) := fun b o h nb _ => by
      rw [upd_ne nb]
      exact s1 b o h
    have hs2 : (upd H1 s (.ins C dx (putF "_dimensions" (.int d) []))) s = some (.ins C dx (putF "_dimensions" (.int d) [])) := upd_same
    generalize upd H1 s (.ins C dx (putF "_dimensions" (.int d) [])) = H2 at hT2 d2 e2 hs2 ⊢
    refine ⟨_, rfl, _, rfl, s, C, dx, _, rfl, hs2, TC.cl, TC.nM, (by show 1 < 1000; decide), ?_⟩
    have hT3 := tabs_ins (o := .ins C dx (putF "_modulus" (.int m) (putF "_dimensions" (.int d) []))) hT2 hs2
    have d3 : SD H (upd H2 s (.ins C dx (putF "_modulus" (.int m) (putF "_dimensions" (.int d) [])))) := SD.upd d2 hs2 rfl
    have e3 : ExtB s H (upd H2 s (.ins C dx (putF "_modulus" (.int m) (putF "_dimensions" (.int d) [])))) := fun b o h nb nt => by
      rw [upd_ne nb]
      exact e2 b o h nb nt
    have hs3 : (upd H2 s (.ins C dx (putF "_modulus" (.int m) (putF "_dimensions" (.int d) [])))) s = some (.ins C dx (putF "_modulus" (.int m) (putF "_dimensions" (.int d) []))) := upd_same
    generalize upd H2 s (.ins C dx (putF "_modulus" (.int m) (putF "_dimensions" (.int d) []))) = H3 at hT3 d3 e3 hs3 ⊢
    -- rows = sorted(..)
    obtain ⟨a, xs, rfl, ha, hd⟩ := dlst hv
    have hxl : xs.length = ts.length := by rw [dps_len hd, List.length_map]
    have hfst : (xs.zip ts).map Prod.fst = xs := by rw [List.map_fst_zip]; omega
    have hsnd : (xs.zip ts).map Prod.snd = ts := by rw [List.map_snd_zip]; omega
    have hbs : ∀ y ∈ xs.zip ts, Dp K H3 y.1 y.2.d := fun y hy => by
      obtain ⟨i, hi⟩ := List.mem_iff_getElem?.mp hy
      obtain ⟨h1, h2⟩ := List.getElem?_zip_eq_some.mp hi
      obtain ⟨t, _, _, _, e1, _⟩ := tb_at hd h1
      obtain ⟨dd, f1, f2⟩ := dps_get hd h1
      rw [List.getElem?_map, h2] at f1
      cases f1
      exact dpd d3 _ _ f2
    refine ⟨_, rfl, a, xs.zip ts, rfl, (by rw [hfst]; exact sqld d3 ha), hT3, fun y hy => ?_, fun H4 x4 hT4 p hp => ?_⟩
    · obtain ⟨b, zs, e1, ht, hz⟩ := dtup (hbs y hy)
      obtain ⟨z1, z2, z3, rfl, g1, g2, g3⟩ := dps3 hz
      obtain rfl := dstr g1
      exact ⟨b, [z2, z3], e1, ht⟩
    · have hsrt : ((xs.zip ts).mergeSort (leK fun y => y.2.n)).map Prod.snd = srt ts := by
        rw [show (leK fun y : V × Tb => y.2.n) = fun a b => leK Tb.n a.2 b.2 from rfl]
        rw [List.map_mergeSort (r := fun a b : V × Tb => leK Tb.n a.2 b.2) (s := leK Tb.n) (f := Prod.snd) (fun _ _ _ _ => rfl), hsnd]
        rfl
      have hmem : ∀ y ∈ (xs.zip ts).mergeSort (leK fun y => y.2.n), Dp K H4 y.1 y.2.d := fun y hy => dpd (.ext x4) _ _ (hbs y (List.mem_mergeSort.mp hy))
      generalize hL : (xs.zip ts).mergeSort (leK fun y => y.2.n) = bs at hsrt hmem ⊢
      have hbl : bs.length = ts.length := by rw [← hL, List.length_mergeSort, List.length_zip]; omega
      have hs4 : H4 s = some (.ins C dx (putF "_modulus" (.int m) (putF "_dimensions" (.int d) []))) := x4 _ _ hs3 fun ps z => by cases z
      have s5 : Same H4 (upd H4 p (.lst (bs.map Prod.fst))) := snew hp
      have hnd : (bs.map fun y => y.2.n).Nodup := by
        have e : (bs.map fun y => y.2.n) = (srt ts).map (·.n) := by
          rw [← hsrt, List.map_map]
          rfl
        rw [e]
        exact ((List.mergeSort_perm ts (leK Tb.n)).map (·.n)).nodup_iff.mpr O.ok.nodup
      -- self._tables = {..}
      refine ⟨_, rfl, p, rfl, ⟨_, Or.inl (Or.inl upd_same)⟩, fun D hD => dc_it (walk_list (K := K) (a := p) (xs := bs.map Prod.fst)) (fun i H' => ∃ (B : Hp) (kvs : List (Key × V)), Same (upd H4 p (.lst (bs.map Prod.fst))) B ∧ B D = none ∧ Same B H' ∧ H' D = some (.dK kvs) ∧ KvAt K B kvs ((srt ts).take i))
        ⟨_, [], same_refl, hD, snew hD, upd_same, .nil⟩ (fun i H' _ ⟨B, kvs, b1, b2, b3, _⟩ => sql b3 (sql b1 (Or.inl (Or.inl upd_same)))) ?_ ?_⟩
      · rintro i x _ Hi hi ⟨B, kvs, b1, b2, b3, b4, b5⟩ ⟨rfl, hx⟩
        rw [List.getElem?_map] at hx
        obtain ⟨y, hy, rfl⟩ := Option.map_eq_some_iff.mp hx
        have hyd := dpm b1 _ _ (dpm s5 _ _ (hmem y (List.mem_of_getElem? hy)))
        obtain ⟨b, zs, e1, ht, hz⟩ := dtup hyd
        obtain ⟨z1, z2, z3, rfl, g1, g2, g3⟩ := dps3 hz
        obtain rfl := dstr g1
        obtain rfl := dint g2
        obtain ⟨l, ys, rfl, hl, hys⟩ := dlst g3
        have hsi : (srt ts)[i]? = some y.2 := by
          rw [← hsrt, List.getElem?_map, hy]
          rfl
        refine ⟨b, _, e1, sqt b3 ht, rfl, _, _, rfl, _, _, rfl, _, _, rfl, rfl, rfl, ?_⟩
        refine ⟨_, rfl, _, rfl, _, rfl, l, ys, rfl, Or.inl ⟨sql b3 hl, fun q1 hq1 => ?_⟩⟩
        refine ⟨(by show 2 ≤ sizeLine; decide), fun q2 hq2 => ?_⟩
        have nq1 : q1 ≠ D := fun z => by
          rw [z, b4] at hq1
          cases hq1
        have nq2 : q2 ≠ D := fun z => by
          rw [z, upd_ne nq1.symm, b4] at hq2
          cases hq2
        have bq1 : B q1 = none := free_of b3 hq1
        have c1 : Same (upd B q1 (.tup ys)) (upd Hi q1 (.tup ys)) := fun c o h => by
          by_cases hc : c = q1
          · rw [hc, upd_same] at h ⊢
            exact h
          · rw [upd_ne hc] at h ⊢
            exact b3 c o h
        have bq2 : (upd B q1 (.tup ys)) q2 = none := free_of c1 hq2
        have c2 : Same (upd (upd B q1 (.tup ys)) q2 (.tup [.int y.2.c, .ref q1])) (upd (upd Hi q1 (.tup ys)) q2 (.tup [.int y.2.c, .ref q1])) := fun c o h => by
          by_cases hc : c = q2
          · rw [hc, upd_same] at h ⊢
            exact h
          · rw [upd_ne hc] at h ⊢
            exact c1 c o h
        have bb : Same B (upd (upd B q1 (.tup ys)) q2 (.tup [.int y.2.c, .ref q1])) := same_tr (snew bq1) (snew bq2)
        have bD : (upd (upd B q1 (.tup ys)) q2 (.tup [.int y.2.c, .ref q1])) D = none := by
          rw [upd_ne nq2.symm, upd_ne nq1.symm]
          exact b2
        have hDv : (upd (upd Hi q1 (.tup ys)) q2 (.tup [.int y.2.c, .ref q1])) D = some (.dK kvs) := by
          rw [upd_ne nq2.symm, upd_ne nq1.symm]
          exact b4
        have hkl : kvs.length ≤ 6 := by
          rw [b5.len, List.length_take]
          have := O.l6
          have : (srt ts).length = ts.length := List.length_mergeSort _
          omega
        refine ⟨kvs, Sum.inr y.2.n, rfl, hDv, small1000 (by omega), ?_⟩
        have hno : valV kvs (Sum.inr y.2.n) = none := b5.noVal (by
          have e : ((srt ts).take i).map (·.n) = (bs.map fun y => y.2.n).take i := by
            rw [← hsrt, List.map_take, List.map_map]
            rfl
          rw [e]
          exact notin_take hnd (by rw [List.getElem?_map, hy]; rfl))
        refine ⟨_, kvs ++ [(Sum.inr y.2.n, .ref q2)], same_tr b1 bb, bD, ?_, ?_, ?_⟩
        · intro c o h
          have hc : c ≠ D := fun z => by
            rw [z, bD] at h
            cases h
          rw [upd_ne hc]
          exact c2 c o h
        · rw [upd_same, putK_new _ hno]
        · rw [List.take_add_one, hsi]
          refine KvAt.app (b5.mono bb) (.cons ⟨rfl, ?_⟩ .nil)
          refine .tup (Or.inl (Or.inl upd_same)) (.cons (.int _) (.cons (.tup (Or.inl (Or.inl ?_)) (dpsm bb _ _ hys)) .nil))
          rw [upd_ne (ne_of_none upd_same bq2)]
          exact upd_same
      · rintro Hf ⟨B, kvs, b1, b2, b3, b4, b5⟩
        have hlen : (bs.map Prod.fst).length = (srt ts).length := by rw [← hsrt, List.length_map, List.length_map]
        rw [hlen, List.take_length] at b5
        have sf : Same H4 Hf := same_tr s5 (same_tr b1 b3)
        have hsf := sf _ _ hs4
        refine ⟨_, rfl, s, C, dx, _, rfl, hsf, TC.cl, TC.nT, (by show 2 < 1000; decide), ?_⟩
        refine q _ (fun b o h nb nt => ?_) (tabs_ins (hT4.ext sf) hsf) ⟨dx, D, kvs, upd_same, ?_, ?_⟩
        · rw [upd_ne nb]
          exact sf _ _ (x4 _ _ (e3 b o h nb nt) nt)
        · rw [upd_ne fun z => by
            rw [z, hsf] at b4
            cases b4]
          exact b4
        · exact b5.monoD (SD.upd (.of b3) hsf rfl)
end
end Fr

namespace Fr
open PySem PySem.Spec PyProof.Rows L2
abbrev s_Lrng : Stmt := topS 30
theorem sc_Lrng : FnScope ["_law_script", "_law_digits", "_law_seed", "_law_number", "_law_far"] ["_law_script"] (defScope s_Lrng) := ⟨rfl, rfl, rfl, by decide +kernel, rfl, by decide +kernel, by decide +kernel⟩
-- slots: 0 _law_script, 1 _law_digits, 2 _law_seed, 3 _law_number, 4 _law_far
abbrev s_Lmixed : Stmt := topS 32
theorem sc_Lmixed : FnScope ["_law_rng_here", "_law_some", "_law_left", "_law_turned"] ["_law_rng_here", "_law_some"] (defScope s_Lmixed) := ⟨rfl, rfl, rfl, by decide +kernel, rfl, by decide +kernel, by decide +kernel⟩
-- slots: 0 _law_rng_here, 1 _law_some, 2 _law_left, 3 _law_turned
abbrev s_Lvector : Stmt := topS 33
theorem sc_Lvector : FnScope ["_law_rng_here", "_law_dims", "_law_wide", "_law_some", "_law_axis"] ["_law_rng_here", "_law_dims", "_law_wide"] (defScope s_Lvector) := ⟨rfl, rfl, rfl, by decide +kernel, rfl, by decide +kernel, by decide +kernel⟩
-- slots: 0 _law_rng_here, 1 _law_dims, 2 _law_wide, 3 _law_some, 4 _law_axis
abbrev s_Ldraw : Stmt := topS 31
theorem sc_Ldraw : FnScope ["_law_rng_here", "_law_limit", "_law_digit", "_law_blend"] ["_law_rng_here", "_law_limit"] (defScope s_Ldraw) := ⟨rfl, rfl, rfl, by decide +kernel, rfl, by decide +kernel, by decide +kernel⟩
-- slots: 0 _law_rng_here, 1 _law_limit, 2 _law_digit, 3 _law_blend
/-- the state of the draws: digits, seed, counter -/
structure RngN (a b c : Int) (m : Nat) : Prop where
  a0 : 0 ≤ a
  a1 : a.natAbs < 2 ^ 20000
  b0 : 0 ≤ b
  b1 : b < 2 ^ 62
  c0 : 0 ≤ c
  c1 : c ≤ m
def RngOk (H : Hp) (r : Addr) (m : Nat) : Prop := ∃ a b c : Int, H r = some (.lst [.int a, .int b, .int c]) ∧ RngN a b c m
theorem RngN.mono {a b c : Int} {m m' : Nat} (h : RngN a b c m) (e : m ≤ m') : RngN a b c m' := ⟨h.a0, h.a1, h.b0, h.b1, h.c0, by have := h.c1; omega⟩
theorem RngOk.mono {H : Hp} {r : Addr} {m m' : Nat} (h : RngOk H r m) (e : m ≤ m') : RngOk H r m' := by
  obtain ⟨a, b, c, h1, h2⟩ := h
  exact ⟨a, b, c, h1, h2.mono e⟩
theorem atI_in {α : Type} {xs : List α} {i : Int} (h0 : 0 ≤ i) (h1 : i < xs.length) : ∃ v, atI xs i = some v ∧ v ∈ xs ∧ xs[i.toNat]? = some v := by
  have h2 : i.toNat < xs.length := by omega
  have e := List.getElem?_eq_getElem h2
  refine ⟨xs[i.toNat], ?_, List.getElem_mem h2, e⟩
  have := atI_nat e
  rw [Int.toNat_of_nonneg h0] at this
  exact this
theorem cut_take (xs : List V) (i : Nat) : cutV xs none (some (i : Int)) = xs.take i := by
  unfold cutV
  rw [show HT.sIx xs.length xs.length (some (i : Int)) = min i xs.length from HT.sIx_nat xs.length xs.length i, HT.sIx_none, List.drop_zero, Nat.sub_zero]
  exact (List.take_eq_take_min).symm
theorem cut_all (xs : List V) (i : Nat) (h : xs.length ≤ i) : cutV xs none (some (i : Int)) = xs := by
  unfold cutV
  rw [show HT.sIx xs.length xs.length (some (i : Int)) = min i xs.length from HT.sIx_nat xs.length xs.length i, HT.sIx_none, List.drop_zero, Nat.sub_zero, Nat.min_eq_right h, List.take_length]
theorem p1060 : ((10 : Int) ^ ((60 : Int).toNat)).natAbs < 2 ^ 200 := by decide +kernel
theorem p1060' : ((10 : Int) ^ ((60 : Int).toNat)) < 2 ^ 200 := by decide +kernel
theorem pos1 : (0 : Int) < 2305843009213693921 := by decide
theorem pos2 : (0 : Int) < 2305843009213693951 := by decide
theorem p1060p : 0 < ((10 : Int) ^ ((60 : Int).toNat)) := by decide +kernel
section
variable {P : Program} {w : World} {K : PySem.W.Frag} {mg : Str → Option Value} {base : Heap}
def spRng (K : PySem.W.Frag) : Sp := fun vs H Q _ => ∃ (a : Addr) (ns : List Int), vs = [.ref a] ∧ SqL K H a (ns.map V.int) ∧ ns.length ≤ 63 ∧ ∀ p H', H p = none → Same H H' → RngOk H' p 0 → Q (.ref p) H'
theorem dig_step {dg f t : Int} {i : Nat} (h0 : 0 ≤ dg) (h1 : dg < 2 ^ (200 * i)) (hp : 0 < t) (ht : t < 2 ^ 200) : 0 ≤ dg * t + f % t ∧ dg * t + f % t < 2 ^ (200 * (i + 1)) := by
  have e0 := Int.emod_nonneg f (Int.ne_of_gt hp)
  have e1 := Int.emod_lt_of_pos f hp
  have e2 : 0 ≤ dg * t := Int.mul_nonneg h0 (Int.le_of_lt hp)
  refine ⟨by omega, ?_⟩
  have e3 : dg * t + f % t < (dg + 1) * t := by
    rw [Int.add_mul, Int.one_mul]
    omega
  have e4 : (dg + 1) * t ≤ 2 ^ (200 * i) * 2 ^ 200 := Int.mul_le_mul h1 (Int.le_of_lt ht) (Int.le_of_lt hp) (Int.pow_nonneg (by decide))
  have e5 : (2 : Int) ^ (200 * (i + 1)) = 2 ^ (200 * i) * 2 ^ 200 := by
    rw [← Int.pow_add]
    congr 1
  rw [e5]
  exact Int.lt_of_lt_of_le e3 e4
theorem nat_lt_of {x : Int} {n : Nat} (h0 : 0 ≤ x) (h : x < 2 ^ n) : x.natAbs < 2 ^ n := by
  have e : (x.natAbs : Int) = x := Int.natAbs_of_nonneg h0
  have h' : (x.natAbs : Int) < ((2 ^ n : Nat) : Int) := by
    rw [e]
    push_cast
    exact h
  exact Int.ofNat_lt.mp h'
theorem dig_mono {x : Int} {i j : Nat} (h : x < 2 ^ (200 * i)) (e : i ≤ j) : x < 2 ^ (200 * j) := by
  refine Int.lt_of_lt_of_le h ?_
  have z : (2 : Nat) ^ (200 * i) ≤ 2 ^ (200 * j) := Nat.pow_le_pow_right (by decide) (by omega)
  have z' : ((2 ^ (200 * i) : Nat) : Int) ≤ ((2 ^ (200 * j) : Nat) : Int) := Int.ofNat_le.mpr z
  push_cast at z'
  exact z'
theorem ok_rng {f : Addr} {fd : FuncData} (F : Fun K "_law_rng" "_law_rng" s_Lrng f fd) (T : Txt mg) : FnOk P w K mg base CX0 1 f fd ["_law_script"] (spRng K) := by
  refine F.ok sc_Lrng (fun vs H Q E h => ?_) (fun cdv A outer sh H vs Q E hr h => ?_)
  · obtain ⟨a, ns, rfl, _⟩ := h
    rfl
  · obtain ⟨a, ns, rfl, ha, hl, q⟩ := h
    refine ⟨_, (pss_cons (ps_asg (pe_tup (pa_cons pe_int (pa_cons pe_int pa_nil))) (pg_tup rfl (pgs_cons (pg_name (i := 1) sc_Lrng.nd rfl (by first | exact Or.inl rfl | exact Or.inr rfl)) (pgs_cons (pg_name (i := 2) sc_Lrng.nd rfl (by first | exact Or.inl rfl | exact Or.inr rfl)) pgs_nil))))
  (pss_cons (ps_for PassesOwn.never rfl (pi_list (pe_slice sl_list (pv 0) po_none (po_some pe_int))) (pg_name (i := 3) sc_Lrng.nd rfl (by first | exact Or.inl rfl | exact Or.inr rfl))
    (pss_cons (ps_set (i := 4) sc_Lrng.nd rfl (by first | exact Or.inl rfl | exact Or.inr rfl) (pe_callB call_abs (by rfl) T.b_abs (by decide +kernel) (pa_cons (pv 3) pa_nil)))
    (pss_cons (ps_if (pt_cmpR op_ge (pv 4) (pe_op op_pow pe_int pe_int) (nomark _))
      (pss_one (ps_set (i := 1) sc_Lrng.nd rfl (by first | exact Or.inl rfl | exact Or.inr rfl) (pe_op op_add (pe_op op_mulW (pv 1) (pe_op op_pow pe_int pe_int)) (pe_op op_mod (pe_callTy call_int1 (by rfl) T.b_int (by decide +kernel) (pa_cons (pv 4) pa_nil)) (pe_op op_pow pe_int pe_int)))))
      pss_nil)
    (pss_one (ps_set (i := 2) sc_Lrng.nd rfl (by first | exact Or.inl rfl | exact Or.inr rfl) (pe_op op_mod (pe_callTy call_int1 (by rfl) T.b_int (by decide +kernel) (pa_cons (pe_op op_add (pe_op op_add (pe_op op_mulW (pv 2) pe_int) (pe_op op_mod (pe_callTy call_int1 (by rfl) T.b_int (by decide +kernel) (pa_cons (pv 3) pa_nil)) pe_int)) pe_int) pa_nil)) pe_int))))))
  (pss_one (ps_ret (pe_lst (pa_cons (pv 1) (pa_cons (pv 2) (pa_cons pe_int pa_nil)))))))), ?_⟩
    refine ⟨(by show 2 ≤ sizeLine; decide), fun p0 hp0 => ⟨p0, _, rfl, Or.inl (Or.inl upd_same), rfl, _, _, rfl, _, _, rfl, rfl, ?_⟩⟩
    have s0 : Same H (upd H p0 (.tup [.int 0, .int 88675123])) := snew hp0
    have ha := sql s0 ha
    generalize upd H p0 (.tup [.int 0, .int 88675123]) = H0 at s0 ha ⊢
    refine ⟨_, rfl, 63, rfl, a, _, rfl, ha, fun p hp => ?_⟩
    have hc : cutV (ns.map V.int) none (some 63) = ns.map V.int := cut_all _ 63 (by rw [List.length_map]; exact hl)
    rw [hc]
    have s1 : Same H (upd H0 p (.lst (ns.map V.int))) := same_tr s0 (snew hp)
    have hp1 : (upd H0 p (.lst (ns.map V.int))) p = some (.lst (ns.map V.int)) := upd_same
    generalize upd H0 p (.lst (ns.map V.int)) = H1 at s1 hp1 ⊢
    refine ⟨p, rfl, ⟨_, Or.inl (Or.inl hp1)⟩, for_it (walk_list (K := K) (a := p) (xs := ns.map V.int)) (fun i σ H' => ∃ dg sd y3 y4, σ = [some (.ref a), some (.int dg), some (.int sd), y3, y4] ∧ 0 ≤ dg ∧ dg < 2 ^ (200 * i) ∧ 0 ≤ sd ∧ sd < 2 ^ 62 ∧ H' = H1)
      ⟨0, 88675123, none, none, rfl, by decide, by decide, by decide, by decide, rfl⟩ (fun i σ H' _ ⟨_, _, _, _, _, _, _, _, _, e⟩ => by rw [e]; exact Or.inl (Or.inl hp1)) ?_ ?_⟩
    · rintro i y σ _ H2 hi ⟨dg, sd, y3, y4, rfl, d0, d1, sd0, sd1, rfl⟩ ⟨rfl, hy⟩
      rw [List.getElem?_map] at hy
      obtain ⟨n, hn, rfl⟩ := Option.map_eq_some_iff.mp hy
      rw [List.length_map] at hi
      refine ⟨_, rfl, n, rfl, ?_⟩
      refine ⟨_, rfl, 10, 18, rfl, rfl, ⟨by decide, by decide, by decide⟩, _, _, rfl, rfl, _, rfl, ?_⟩
      have wsd : (sd : Int).natAbs < 2 ^ 100000 := nat_lt_of (n := 100000) sd0 (Int.lt_trans sd1 (by decide +kernel))
      refine ite2 (fun hq => ?_) (fun hq => ?_)
      · have wdg : dg.natAbs < 2 ^ 20000 := nat_lt_of (n := 20000) d0 (dig_mono d1 (show i ≤ 100 by omega))
        refine ⟨_, rfl, 10, 60, rfl, rfl, ⟨by decide, by decide, by decide⟩, dg, _, rfl, rfl, wide_mul (a := 20000) (b := 200) wdg p1060 (by decide) (by decide) (by decide), _, rfl, Or.inl ⟨_, rfl, 10, 60, rfl, rfl, ⟨by decide, by decide, by decide⟩, _, _, rfl, rfl, p1060p, _, _, rfl, rfl, ?_⟩⟩
        obtain ⟨e1, e2⟩ := dig_step (f := if n < 0 then -n else n) d0 d1 p1060p p1060'
        refine ⟨_, rfl, sd, 1000003, rfl, rfl, wide_mul (a := 100000) (b := 100) wsd (by decide) (by decide) (by decide) (by decide), _, rfl, Or.inl ⟨n, rfl, n, _, rfl, rfl, pos1, _, _, rfl, rfl, _, _, rfl, rfl, Or.inl ⟨_, rfl, _, _, rfl, rfl, pos2, ?_⟩⟩⟩
        exact ⟨_, _, _, _, rfl, e1, e2, Int.emod_nonneg _ (by decide), Int.lt_trans (Int.emod_lt_of_pos _ (by decide)) (by decide), rfl⟩
      · refine ⟨_, rfl, sd, 1000003, rfl, rfl, wide_mul (a := 100000) (b := 100) wsd (by decide) (by decide) (by decide) (by decide), _, rfl, Or.inl ⟨n, rfl, n, _, rfl, rfl, pos1, _, _, rfl, rfl, _, _, rfl, rfl, Or.inl ⟨_, rfl, _, _, rfl, rfl, pos2, ?_⟩⟩⟩
        exact ⟨_, _, _, _, rfl, d0, dig_mono d1 (by omega), Int.emod_nonneg _ (by decide), Int.lt_trans (Int.emod_lt_of_pos _ (by decide)) (by decide), rfl⟩
    · rintro σ H2 ⟨dg, sd, y3, y4, rfl, d0, d1, sd0, sd1, rfl⟩
      rw [List.length_map] at d1
      refine ⟨_, rfl, _, rfl, (by show 3 ≤ sizeLine; decide), fun r hr' => ?_⟩
      refine q r _ (free_of s1 hr') (same_tr s1 (snew hr')) ⟨dg, sd, 0, upd_same, d0, ?_, sd0, sd1, by decide, by decide⟩
      have := dig_mono d1 (show ns.length ≤ 100 by omega)
      exact nat_lt_of (n := 20000) d0 this
/-- only the state of the draws changed -/
structure Dr (r : Addr) (m : Nat) (H H' : Hp) : Prop where
  ne : ∀ b, b ≠ r → H' b = H b
  ok : RngOk H' r m
structure RS (r : Addr) (m : Nat) (B H : Hp) : Prop where
  s : Same B H
  n : B r = none
  ok : RngOk H r m
theorem RS.dr {r : Addr} {m m' : Nat} {B H H' : Hp} (h : RS r m B H) (d : Dr r m' H H') : RS r m' B H' := ⟨fun b o e => by
  rw [d.ne b (ne_of_none e h.n)]
  exact h.s b o e, h.n, d.ok⟩
theorem RngOk.at {r : Addr} {m : Nat} {H H' : Hp} (h : RngOk H r m) (e : H' r = H r) : RngOk H' r m := by
  obtain ⟨a, b, c, h1, h2⟩ := h
  exact ⟨a, b, c, by rw [e, h1], h2⟩
theorem RngOk.some {r : Addr} {m : Nat} {H : Hp} (h : RngOk H r m) : ∃ o, H r = some o := by
  obtain ⟨a, b, c, h1, h2⟩ := h
  exact ⟨_, h1⟩
theorem RngOk.new {r p : Addr} {m : Nat} {H : Hp} {o : HO} (h : RngOk H r m) (e : H p = none) : RngOk (upd H p o) r m := by
  obtain ⟨o', ho⟩ := h.some
  exact h.at (upd_ne (ne_of_none ho e))
theorem RS.new {r p : Addr} {m : Nat} {B H : Hp} {o : HO} (h : RS r m B H) (e : H p = none) : RS r m B (upd H p o) := ⟨same_tr h.s (snew e), h.n, h.ok.new e⟩
theorem RS.put {r p : Addr} {m : Nat} {B H : Hp} {o : HO} (h : RS r m B H) (e : B p = none) (n : r ≠ p) : RS r m B (upd H p o) := ⟨swrite h.s e, h.n, h.ok.at (upd_ne n)⟩
/-- a new thing that stays -/
theorem RS.keep {r p : Addr} {m : Nat} {B H : Hp} {o : HO} (h : RS r m B H) (e : H p = some o) (k : B p = none) (n : r ≠ p) : RS r m (upd B p o) H := ⟨fun b x q => by
  by_cases hb : b = p
  · rw [hb, upd_same] at q
    rw [hb, e, q]
  · rw [upd_ne hb] at q
    exact h.s b x q, by rw [upd_ne n]; exact h.n, h.ok⟩
theorem RS.ne {r p : Addr} {m : Nat} {B H : Hp} (h : RS r m B H) (e : H p = none) : r ≠ p := by
  obtain ⟨o', ho⟩ := h.ok.some
  exact ne_of_none ho e
theorem RS.mono {r : Addr} {m m' : Nat} {B H : Hp} (h : RS r m B H) (e : m ≤ m') : RS r m' B H := ⟨h.s, h.n, h.ok.mono e⟩
def spDraw : Sp := fun vs H Q _ => ∃ (r : Addr) (lim : Int) (m : Nat), vs = [.ref r, .int lim] ∧ RngOk H r m ∧ m ≤ 2 ^ 60 ∧ 0 < lim ∧ lim.natAbs < 2 ^ 200 ∧ ∀ d H', 0 ≤ d → d < lim → Dr r (m + 1) H H' → Q (.int d) H'
theorem pos3 : (0 : Int) < 162259276829213363391578010288127 := by decide
theorem pos4 : (0 : Int) < 170141183460469231731687303715884105727 := by decide
theorem pos5 : (0 : Int) < 1048576 := by decide
theorem ok_draw {f : Addr} {fd : FuncData} (F : Fun K "_law_draw" "_law_draw" s_Ldraw f fd) (T : Txt mg) : FnOk P w K mg base CX0 1 f fd ["_law_rng_here", "_law_limit"] spDraw := by
  refine F.ok sc_Ldraw (fun vs H Q E h => ?_) (fun cdv A outer sh H vs Q E hr h => ?_)
  · obtain ⟨r, lim, m, rfl, _⟩ := h
    rfl
  · obtain ⟨r, lim, m, rfl, ⟨a, b, c, hR, N⟩, hm, l0, l1, q⟩ := h
    refine ⟨_, (pss_cons (ps_if (pt_cmpR op_gt (pe_ix ix_list (pv 0) pe_int (fun _ _ => rfl)) pe_int (nomark _))
    (pss_cons (ps_set (i := 2) sc_Ldraw.nd rfl (by first | exact Or.inl rfl | exact Or.inr rfl) (pe_op op_mod (pe_callTy call_int1 (by rfl) T.b_int (by decide +kernel) (pa_cons (pe_ix ix_list (pv 0) pe_int (fun _ _ => rfl)) pa_nil)) (pv 1)))
    (pss_cons (ps_asg (pe_op op_fdivW (pe_ix ix_list (pv 0) pe_int (fun _ _ => rfl)) (pv 1)) (pg_sub (pv 0) pe_int set_list))
    (pss_one (ps_ret (pv 2)))))
    pss_nil)
  (pss_cons (ps_asg (pe_op op_add (pe_ix ix_list (pv 0) pe_int (fun _ _ => rfl)) pe_int) (pg_sub (pv 0) pe_int set_list))
  (pss_cons (ps_set (i := 3) sc_Ldraw.nd rfl (by first | exact Or.inl rfl | exact Or.inr rfl) (pe_op op_mod (pe_callTy call_int1 (by rfl) T.b_int (by decide +kernel) (pa_cons (pe_op op_powW (pe_op op_add (pe_ix ix_list (pv 0) pe_int (fun _ _ => rfl)) (pe_op op_mulW pe_int (pe_ix ix_list (pv 0) pe_int (fun _ _ => rfl)))) pe_int) pa_nil)) pe_int))
  (pss_cons (ps_set (i := 3) sc_Ldraw.nd rfl (by first | exact Or.inl rfl | exact Or.inr rfl) (pe_op op_mod (pe_callTy call_int1 (by rfl) T.b_int (by decide +kernel) (pa_cons (pe_op op_powW (pe_op op_add (pv 3) (pe_op op_mulW pe_int (pe_ix ix_list (pv 0) pe_int (fun _ _ => rfl)))) pe_int) pa_nil)) pe_int))
  (pss_one (ps_ret (pe_op op_mod (pe_callTy call_int1 (by rfl) T.b_int (by decide +kernel) (pa_cons (pe_op op_fdivW (pv 3) pe_int) pa_nil)) (pv 1)))))))), ?_⟩
    have sq : SqL K H r [.int a, .int b, .int c] := Or.inl (Or.inl hR)
    refine ⟨_, rfl, r, _, 0, _, rfl, rfl, sq, rfl, a, 0, rfl, rfl, decide (0 < a), rfl, ?_⟩
    refine ite2 (fun h0 => ?_) (fun h0 => ?_)
    · have h0 : 0 < a := of_decide_eq_true h0
      refine ⟨_, rfl, r, _, 0, _, rfl, rfl, sq, rfl, Or.inl ⟨a, rfl, _, rfl, a, lim, rfl, rfl, l0, ?_⟩⟩
      refine ⟨_, rfl, r, _, 0, _, rfl, rfl, sq, rfl, _, rfl, a, lim, rfl, rfl, wide_div l0 l1 (by decide) (by decide), ?_⟩
      · refine ⟨_, rfl, r, _, 0, 0, rfl, rfl, hR, rfl, ?_⟩
        refine ⟨_, rfl, q _ _ (Int.emod_nonneg _ (Int.ne_of_gt l0)) (Int.emod_lt_of_pos _ l0) ⟨fun x hx => upd_ne hx, _, b, c, upd_same, ?_⟩⟩
        refine ⟨Int.ediv_nonneg N.a0 (Int.le_of_lt l0), ?_, N.b0, N.b1, N.c0, by have := N.c1; omega⟩
        refine Nat.lt_of_le_of_lt ?_ N.a1
        have e1 := Int.ediv_le_self lim (a := a) N.a0
        have e0 := Int.ediv_nonneg N.a0 (Int.le_of_lt l0)
        omega
    · have hc : (c + 1).natAbs < 2 ^ 100 := by
        have h1 := N.c0
        have h2 := N.c1
        omega
      have hcc : c + 1 ≤ ((m + 1 : Nat) : Int) := by
        have h2 := N.c1
        omega
      refine ⟨_, rfl, r, _, 2, _, rfl, rfl, sq, rfl, c, 1, rfl, rfl, _, rfl, r, _, 2, 2, rfl, rfl, hR, rfl, ?_⟩
      have dr : Dr r (m + 1) H (upd H r (.lst [.int a, .int b, .int (c + 1)])) := ⟨fun x hx => upd_ne hx, a, b, c + 1, upd_same, ⟨N.a0, N.a1, N.b0, N.b1, by have := N.c0; omega, hcc⟩⟩
      have hR' : (upd H r (.lst [.int a, .int b, .int (c + 1)])) r = some (.lst [.int a, .int b, .int (c + 1)]) := upd_same
      have sq2 : SqL K (upd H r (.lst [.int a, .int b, .int (c + 1)])) r [.int a, .int b, .int (c + 1)] := Or.inl (Or.inl hR')
      have c0 := N.c0
      have b0 := N.b0
      have b1 := N.b1
      have hc9 : c + 1 < 2 ^ 100 := by omega
      have w1 : (b + 998244353 * (c + 1)).natAbs < 2 ^ 1000000 := Nat.lt_of_lt_of_le (m := 2 ^ 200) (by omega) (Nat.pow_le_pow_right (by decide) (by decide))
      refine ⟨_, rfl, r, _, 1, _, rfl, rfl, sq2, rfl, _, rfl, r, _, 2, _, rfl, rfl, sq2, rfl, _, _, rfl, rfl, wide_mul (a := 100) (b := 100) (by decide) hc (by decide) (by decide) (by decide), _, _, rfl, rfl, _, 3, rfl, rfl, ⟨by decide, by decide, w1⟩, Or.inl ⟨_, rfl, _, _, rfl, rfl, pos3, ?_⟩⟩
      have x0 := Int.emod_nonneg ((b + 998244353 * (c + 1)) ^ 3) (Int.ne_of_gt pos3)
      have x1 := Int.emod_lt_of_pos ((b + 998244353 * (c + 1)) ^ 3) pos3
      have w2 : ((b + 998244353 * (c + 1)) ^ 3 % 162259276829213363391578010288127 + 32452843 * (c + 1)).natAbs < 2 ^ 1000000 := Nat.lt_of_lt_of_le (m := 2 ^ 200) (by omega) (Nat.pow_le_pow_right (by decide) (by decide))
      refine ⟨_, rfl, _, rfl, r, _, 2, _, rfl, rfl, sq2, rfl, _, _, rfl, rfl, wide_mul (a := 100) (b := 100) (by decide) hc (by decide) (by decide) (by decide), _, _, rfl, rfl, _, 3, rfl, rfl, ⟨by decide, by decide, w2⟩, Or.inl ⟨_, rfl, _, _, rfl, rfl, pos4, ?_⟩⟩
      refine ⟨_, rfl, _, _, rfl, rfl, wide_div pos5 (b := 100) (by decide) (by decide) (by decide), Or.inl ⟨_, rfl, _, rfl, _, lim, rfl, rfl, l0, ?_⟩⟩
      exact q _ _ (Int.emod_nonneg _ (Int.ne_of_gt l0)) (Int.emod_lt_of_pos _ l0) dr
end
end Fr

namespace Fr
open PySem PySem.Spec PyProof.Rows L2
/-- all but one place -/
def cutr (H : Hp) (r : Addr) : Hp := fun b => if b = r then none else H b
theorem cutr_ne {H : Hp} {r b : Addr} (h : b ≠ r) : cutr H r b = H b := if_neg h
theorem RS.cut {r : Addr} {m : Nat} {H : Hp} (h : RngOk H r m) : RS r m (cutr H r) H := ⟨fun b o e => by
  unfold cutr at e
  split at e
  · cases e
  · exact e, if_pos rfl, h⟩
section
variable {P : Program} {w : World} {K : PySem.W.Frag} {mg : Str → Option Value} {base : Heap}
def Good (d : PyData) : Prop := d.canLay0 = true ∧ d.depth ≤ 30
theorem goods : ∀ {ds : List PyData}, (∀ d ∈ ds, Good d) → PyData.canLayAll0 ds = true ∧ PyData.depthAll ds ≤ 30
  | [], _ => ⟨by simp [PyData.canLayAll0], by simp [PyData.depthAll]⟩
  | d :: ds, h => by
    obtain ⟨h1, h2⟩ := h d List.mem_cons_self
    obtain ⟨h3, h4⟩ := goods fun e he => h e (List.mem_cons_of_mem _ he)
    exact ⟨by simp [PyData.canLayAll0, h1, h3], by simp [PyData.depthAll]; omega⟩
theorem shaped_list {ds : List PyData} (h : ∀ d ∈ ds, Good d) : SeqAt.shaped (.list ds) = true := by
  obtain ⟨h1, h2⟩ := goods h
  unfold SeqAt.shaped
  rw [Bool.and_eq_true]
  refine ⟨by simpa [PyData.canLay0] using h1, decide_eq_true ?_⟩
  simp [PyData.depth]
  omega
theorem eqv_nil (ds : List PyData) : PyData.eqv (.list ds) (.list []) = ds.isEmpty := by
  cases ds <;> simp [PyData.eqv, PyData.eqvAll]
theorem dps_erase : ∀ {H : Hp} {ds : List PyData} {vs : List V} {k : Nat}, DpAll K H vs ds → DpAll K H (vs.eraseIdx k) (ds.eraseIdx k)
  | _, [], _, _, h => by cases h; exact .nil
  | _, d :: ds, _, 0, h => by
    cases h with
    | cons h1 h2 => exact h2
  | _, d :: ds, _, k + 1, h => by
    cases h with
    | cons h1 h2 => exact .cons h1 (dps_erase h2)
theorem perm_erase {α : Type} : ∀ {xs : List α} {k : Nat} {x : α}, xs[k]? = some x → List.Perm xs (x :: xs.eraseIdx k)
  | [], _, _, h => by cases h
  | y :: xs, 0, x, h => by cases h; exact .refl _
  | y :: xs, k + 1, x, h => by
    have := perm_erase (xs := xs) (k := k) (x := x) (by simpa using h)
    exact (this.cons y).trans (.swap _ _ _)
def spMixed (K : PySem.W.Frag) : Sp := fun vs H Q _ => ∃ (r l : Addr) (m : Nat) (B : Hp) (xs : List V) (ds : List PyData), vs = [.ref r, .ref l] ∧ RS r m B H ∧ SqL K B l xs ∧ DpAll K B xs ds ∧ (∀ d ∈ ds, Good d) ∧ ds.length ≤ 1000 ∧ m ≤ 2 ^ 59 ∧
  ∀ p H' ys es, B p = none → r ≠ p → List.Perm ds es → DpAll K B ys es → RS r (m + ds.length) (upd B p (.lst ys)) H' → Q (.ref p) H'
theorem ok_mixed {f : Addr} {fd : FuncData} (F : Fun K "_law_mixed" "_law_mixed" s_Lmixed f fd) (T : Txt mg) (c_Ldraw : C8.Cal P w K mg base 1 "_law_draw" spDraw []) : FnOk P w K mg base CX0 2 f fd ["_law_rng_here", "_law_some"] (spMixed K) := by
  refine F.ok sc_Lmixed (fun vs H Q E h => ?_) (fun cdv A outer sh H vs Q E hr h => ?_)
  · obtain ⟨r, l, m, B, xs, ds, rfl, _⟩ := h
    rfl
  · obtain ⟨r, l, m, B, xs, ds, rfl, R, hl, hd, hg, hlen, hm, q⟩ := h
    have hxl := dps_len hd
    refine ⟨_, (pss_cons (ps_par (i := 2) (j := 3) (by rfl) sc_Lmixed.nd rfl rfl (by decide) rfl rfl (pa_cons (pe_callTy call_list_of (by rfl) T.b_list (by decide +kernel) (pa_cons (pv 1) pa_nil)) (pa_cons (pe_lst pa_nil) pa_nil)) (by rfl))
  (pss_cons (ps_while PassesOwn.never (pt_cmpR (op_neD hr.units) (pv 2) (pe_lst pa_nil) (nomark _))
    (pss_one (ps_expr (pe_bm PySem.F.plainAttrs_list PySem.F.slot_list_append PySem.F.type_list_append mt_append (pv 3) (pa_cons (pe_bm PySem.F.plainAttrs_list PySem.F.slot_list_pop PySem.F.type_list_pop mt_popAt (pv 2) (pa_cons (C8.pe_c c_Ldraw hr (by decide) (by rfl) (pa_cons (pv 0) (pa_cons (pe_callB call_len_seq (by rfl) T.b_len PySem.boot_len (pa_cons (pv 2) pa_nil)) pa_nil))) pa_nil)) pa_nil)))))
  (pss_one (ps_ret (pv 3))))), ?_⟩
    refine ⟨_, rfl, l, xs, rfl, Or.inl (sql R.s hl), fun L hL => ?_⟩
    have R1 : RS r m B (upd H L (.lst xs)) := R.new hL
    have L1 : (upd H L (.lst xs)) L = some (.lst xs) := upd_same
    have bL : B L = none := free_of R.s hL
    have rL := R.ne hL
    generalize upd H L (.lst xs) = H1 at R1 L1 ⊢
    refine ⟨Nat.zero_le _, fun U hU => ⟨_, _, rfl, ?_⟩⟩
    have R2 : RS r m B (upd H1 U (.lst [])) := R1.new hU
    have U2 : (upd H1 U (.lst [])) U = some (.lst []) := upd_same
    have bU : B U = none := free_of R1.s hU
    have rU := R1.ne hU
    have LU : L ≠ U := ne_of_none L1 hU
    have L2 : (upd H1 U (.lst [])) L = some (.lst xs) := by rw [upd_ne LU]; exact L1
    generalize upd H1 U (.lst []) = H2 at R2 L2 U2 ⊢
    refine ⟨fun n σ H' => ∃ lv ld tv td, σ = [some (.ref r), some (.ref l), some (.ref L), some (.ref U)] ∧ H' L = some (.lst lv) ∧ H' U = some (.lst tv) ∧ DpAll K B lv ld ∧ DpAll K B tv td ∧ List.Perm ds (td ++ ld) ∧ n = ld.length ∧ RS r (m + td.length) B H',
      ⟨_, xs, ds, [], [], rfl, L2, U2, hd, .nil, .refl _, rfl, R2⟩, ?_⟩
    rintro n σ H3 ⟨lv, ld, tv, td, rfl, L3, U3, dl, dt, pm, rfl, R3⟩
    have hpl := pm.length_eq
    rw [List.length_append] at hpl
    have lvl := dps_len dl
    have tvl := dps_len dt
    have gl : ∀ d ∈ ld, Good d := fun d h => hg d (pm.mem_iff.mpr (List.mem_append.mpr (.inr h)))
    refine ⟨_, rfl, Nat.zero_le _, fun p hp => ⟨.list ld, .list [], .lst (Or.inl (Or.inl ?_)) (dpsm (same_tr R3.s (snew hp)) _ _ dl), .lst (Or.inl (Or.inl upd_same)) .nil, shaped_list gl, shaped_list (by intro d h; cases h), _, rfl, ?_⟩⟩
    · rw [upd_ne (ne_of_none L3 hp)]
      exact L3
    rw [eqv_nil]
    have L4 : (upd H3 p (.lst [])) L = some (.lst lv) := by rw [upd_ne (ne_of_none L3 hp)]; exact L3
    have U4 : (upd H3 p (.lst [])) U = some (.lst tv) := by rw [upd_ne (ne_of_none U3 hp)]; exact U3
    have R4 : RS r (m + td.length) B (upd H3 p (.lst [])) := R3.new hp
    generalize upd H3 p (.lst []) = H4 at L4 U4 R4 ⊢
    cases hld : ld with
    | nil =>
      subst hld
      refine iteF ?_
      refine ⟨_, rfl, ?_⟩
      rw [List.append_nil] at pm
      refine q U H4 tv td bU rU pm dt ?_
      have e : ds.length = td.length := pm.length_eq
      rw [e]
      exact R4.keep U4 bU rU
    | cons d0 ld0 =>
      rw [← hld]
      have hpos : 0 < ld.length := by rw [hld]; exact Nat.succ_pos _
      have hne : ld.isEmpty = false := by rw [hld]; rfl
      rw [hne]
      refine iteT ⟨fun σ' H' => ∃ m', m' < ld.length ∧ ∃ lv ld tv td, σ' = [some (.ref r), some (.ref l), some (.ref L), some (.ref U)] ∧ H' L = some (.lst lv) ∧ H' U = some (.lst tv) ∧ DpAll K B lv ld ∧ DpAll K B tv td ∧ List.Perm ds (td ++ ld) ∧ m' = ld.length ∧ RS r (m + td.length) B H', fun _ _ h => h, ?_⟩
      refine ⟨_, rfl, Or.inl ⟨rfl, _, Or.inl (Or.inl U4)⟩, _, rfl, Or.inl ⟨rfl, _, Or.inl (Or.inl L4)⟩, _, rfl, _, rfl, L, lv, rfl, Or.inl (Or.inl (Or.inl L4)), r, _, _, rfl, R4.ok, by omega, by omega, by omega, fun d H5 d1 d2 D => ?_⟩
      have L5 : H5 L = some (.lst lv) := by rw [D.ne _ rL.symm]; exact L4
      have U5 : H5 U = some (.lst tv) := by rw [D.ne _ rU.symm]; exact U4
      have R5 := R4.dr D
      have d3 : d < (lv.length : Int) := d2
      obtain ⟨y, a1, a2, a3⟩ := atI_in d1 d3
      obtain ⟨j, b1, b2, b3, b4, b5⟩ := atI_get a1
      obtain ⟨e, e1, e2⟩ := dps_get dl b2
      have lj : (lv.eraseIdx j).length + 1 = lv.length := by
        rw [List.length_eraseIdx_of_lt b3]
        omega
      refine ⟨L, lv, d, j, y, rfl, rfl, L5, by omega, by omega, b1, b2, U, tv, y, rfl, rfl, ?_, small1000 (by omega), ?_⟩
      · rw [upd_ne LU.symm]
        exact U5
      · have dl' := dps_erase (k := j) dl
        have ll' := dps_len dl'
        refine ⟨(ld.eraseIdx j).length, by omega, lv.eraseIdx j, ld.eraseIdx j, tv ++ [y], td ++ [e], rfl, ?_, upd_same, dl', dps_snoc dt e2, ?_, rfl, ?_⟩
        · rw [upd_ne LU]
          exact upd_same
        · refine pm.trans ?_
          rw [List.append_assoc]
          exact .append_left _ (perm_erase e1)
        · have := (R5.put (o := .lst (lv.eraseIdx j)) bL rL).put (o := .lst (tv ++ [y])) bU rU
          rw [List.length_append]
          exact this
def spVector (K : PySem.W.Frag) : Sp := fun vs H Q _ => ∃ (r : Addr) (dims wide : Int) (m : Nat) (B : Hp), vs = [.ref r, .int dims, .int wide] ∧ RS r m B H ∧ 0 ≤ dims ∧ dims ≤ 3 ∧ 0 ≤ wide ∧ wide ≤ 1000 ∧ m ≤ 2 ^ 59 ∧
  ∀ p H' (v : List Int), B p = none → r ≠ p → (v.length : Int) = dims → (∀ x ∈ v, -1000 ≤ x ∧ x ≤ 1000) → RS r (m + 9) (upd B p (.tup (v.map V.int))) H' → Q (.ref p) H'
theorem ok_vector {f : Addr} {fd : FuncData} (F : Fun K "_law_vector" "_law_vector" s_Lvector f fd) (T : Txt mg) (c_Ldraw : C8.Cal P w K mg base 1 "_law_draw" spDraw []) : FnOk P w K mg base CX0 2 f fd ["_law_rng_here", "_law_dims", "_law_wide"] (spVector K) := by
  refine F.ok sc_Lvector (fun vs H Q E h => ?_) (fun cdv A outer sh H vs Q E hr h => ?_)
  · obtain ⟨r, dims, wide, m, B, rfl, _⟩ := h
    rfl
  · obtain ⟨r, dims, wide, m, B, rfl, R, hd0, hd3, hw0, hw1, hm, q⟩ := h
    refine ⟨_, (pss_cons (ps_set (i := 3) sc_Lvector.nd rfl (by first | exact Or.inl rfl | exact Or.inr rfl) (pe_lst pa_nil))
  (pss_cons (ps_for PassesOwn.never rfl (pi_range1 (by rfl) T.b_range (pa_cons (pv 1) pa_nil)) (pg_name (i := 4) sc_Lvector.nd rfl (by first | exact Or.inl rfl | exact Or.inr rfl))
    (pss_one (ps_expr (pe_bm PySem.F.plainAttrs_list PySem.F.slot_list_append PySem.F.type_list_append mt_append (pv 3) (pa_cons (pe_ix ix_list (pe_lst (pa_cons pe_int (pa_cons pe_int (pa_cons (C8.pe_c c_Ldraw hr (by decide) (by rfl) (pa_cons (pv 0) (pa_cons (pe_op op_add (pv 2) pe_int) pa_nil))) (pa_cons (pe_op op_sub pe_int (C8.pe_c c_Ldraw hr (by decide) (by rfl) (pa_cons (pv 0) (pa_cons (pe_op op_add (pv 2) pe_int) pa_nil)))) pa_nil))))) (C8.pe_c c_Ldraw hr (by decide) (by rfl) (pa_cons (pv 0) (pa_cons pe_int pa_nil))) (fun _ _ => rfl)) pa_nil)))))
  (pss_one (ps_ret (pe_callTy call_tuple_of (by rfl) T.b_tuple (by decide +kernel) (pa_cons (pv 3) pa_nil)))))), ?_⟩
    refine ⟨Nat.zero_le _, fun L hL => ?_⟩
    have R1 : RS r m B (upd H L (.lst [])) := R.new hL
    have L1 : (upd H L (.lst [])) L = some (.lst []) := upd_same
    have bL : B L = none := free_of R.s hL
    have rL := R.ne hL
    generalize upd H L (.lst []) = H1 at R1 L1 ⊢
    refine ⟨_, rfl, dims, rfl, by omega, by omega, for_range (fun i σ H' => ∃ (y4 : Option V) (xs : List Int), σ = [some (.ref r), some (.int dims), some (.int wide), some (.ref L), y4] ∧ xs.length = i ∧ (∀ x ∈ xs, -1000 ≤ x ∧ x ≤ 1000) ∧ H' L = some (.lst (xs.map V.int)) ∧ RS r (m + 3 * i) B H')
      ⟨none, [], rfl, rfl, (by intro x hx; cases hx), L1, R1⟩ ?_ ?_⟩
    · rintro i σ H2 hi ⟨y4, xs, rfl, hx, hb, L2, R2⟩
      have hi3 : i < 3 := by omega
      refine ⟨_, rfl, Or.inl ⟨rfl, _, Or.inl (Or.inl L2)⟩, _, rfl, _, rfl, _, _, rfl, rfl, r, _, _, rfl, R2.ok, by omega, by omega, by omega, fun d1 H3 a0 a1 D1 => ?_⟩
      have R3 := R2.dr D1
      have L3 : H3 L = some (.lst (xs.map V.int)) := by rw [D1.ne _ rL.symm]; exact L2
      refine ⟨_, rfl, _, rfl, _, _, rfl, rfl, r, _, _, rfl, R3.ok, by omega, by omega, by omega, fun d2 H4 b0 b1 D2 => ⟨_, _, rfl, rfl, ?_⟩⟩
      have R4 := R3.dr D2
      have L4 : H4 L = some (.lst (xs.map V.int)) := by rw [D2.ne _ rL.symm]; exact L3
      refine ⟨(by show 4 ≤ sizeLine; decide), fun p hp => ?_⟩
      have R5 : RS r (m + 3 * i + 1 + 1) B (upd H4 p (.lst [.int 0, .int 1, .int d1, .int (0 - d2)])) := R4.new hp
      have L5 : (upd H4 p (.lst [.int 0, .int 1, .int d1, .int (0 - d2)])) L = some (.lst (xs.map V.int)) := by rw [upd_ne (ne_of_none L4 hp)]; exact L4
      have p5 : (upd H4 p (.lst [.int 0, .int 1, .int d1, .int (0 - d2)])) p = some (.lst ([0, 1, d1, 0 - d2].map V.int)) := upd_same
      refine ⟨_, rfl, r, 4, m + 3 * i + 1 + 1, rfl, R5.ok, by omega, by omega, by decide, fun d3 H6 c0 c1 D3 => ?_⟩
      have R6 := R5.dr D3
      have L6 : H6 L = some (.lst (xs.map V.int)) := by rw [D3.ne _ rL.symm]; exact L5
      have p6 : H6 p = some (.lst ([0, 1, d1, 0 - d2].map V.int)) := by rw [D3.ne _ (R4.ne hp).symm]; exact p5
      obtain ⟨y, e1, e2, _⟩ := atI_in (xs := [0, 1, d1, 0 - d2].map V.int) c0 c1
      obtain ⟨n, hn, rfl⟩ := List.mem_map.mp e2
      have hnb : -1000 ≤ n ∧ n ≤ 1000 := by
        simp only [List.mem_cons, List.not_mem_nil, or_false] at hn
        omega
      refine ⟨p, _, d3, .int n, rfl, rfl, Or.inl (Or.inl p6), e1, L, _, .int n, rfl, rfl, L6, small1000 (by rw [List.length_map]; omega), ?_⟩
      refine ⟨_, xs ++ [n], rfl, by rw [List.length_append, hx]; rfl, ?_, ?_, (R6.put bL rL).mono (by omega)⟩
      · intro x h
        rcases List.mem_append.mp h with h | h
        · exact hb x h
        · rw [List.mem_singleton.mp h]
          exact hnb
      · rw [upd_same, List.map_append]
        rfl
    · rintro σ H2 ⟨y4, xs, rfl, hx, hb, L2, R2⟩
      refine ⟨_, rfl, L, _, rfl, Or.inl ⟨Or.inl (Or.inl L2), fun l hl => ?_⟩⟩
      have R3 : RS r (m + 9) B (upd H2 l (.tup (xs.map V.int))) := (R2.new hl).mono (by omega)
      exact q l _ xs (free_of R2.s hl) (R2.ne hl) (by omega) hb (R3.keep upd_same (free_of R2.s hl) (R2.ne hl))
end
end Fr

namespace Fr
open PySem PySem.Spec PyProof.Rows L2
/-- a statement, up to what holds behind it -/
def tCsq (t : TS) : TS := fun D σ H => ∃ N : L2.St → Hp → Prop, (∀ σ H, N σ H → D.nx σ H) ∧ t { D with nx := N } σ H
theorem ps_csq {X : Cx} {st : Stmt} {t : TS} (h : PS X st t) : PS X st (tCsq t) := ⟨fun pins s σ H D I ⟨N, hN, q⟩ => thn (h.run pins s σ H _ I q) fun f s2 q2 => by
  cases f with
  | next =>
    obtain ⟨σ3, H3, I3, n3⟩ := q2
    exact ⟨σ3, H3, I3, hN _ _ n3⟩
  | cont => exact q2
  | brk => exact q2
  | ret v => exact q2⟩
abbrev s_Lmade_rows : Stmt := topS 34
theorem sc_Lmade_rows : FnScope ["_law_rng_here", "_law_dims", "_law_many", "_law_most", "_law_wide", "_law_words", "_law_word", "_law_rows", "_law_turn", "_law_number", "_law_some", "_law_factor"] ["_law_rng_here", "_law_dims", "_law_many", "_law_most", "_law_wide"] (defScope s_Lmade_rows) := ⟨rfl, rfl, rfl, by decide +kernel, rfl, by decide +kernel, by decide +kernel⟩
-- slots: 0 _law_rng_here, 1 _law_dims, 2 _law_many, 3 _law_most, 4 _law_wide, 5 _law_words, 6 _law_word, 7 _law_rows, 8 _law_turn, 9 _law_number, 10 _law_some, 11 _law_factor
def W0 : List Str := ["a", "b", "c", "ab", "zz", "readhere"]
def row5 (x : Str) : Str := "row" ++ cutS x none (some 5)
theorem W0_names : ∀ x ∈ W0, isName x = true ∧ isName (row5 x) = true ∧ x.length ≤ 8 ∧ PyData.strOk x = true ∧ PyData.strOk (row5 x) = true ∧ (cutS x none (some 5)).length ≤ 5 := by decide +kernel
theorem W0_nodup : W0.Nodup := by decide +kernel
theorem W0_nodup5 : (W0.map row5).Nodup := by decide +kernel
/-- what words may be -/
structure Words (ws : List Str) (n : Nat) : Prop where
  len : ws.length = n
  nodup : ws.Nodup
  names : ∀ x ∈ ws, isName x = true
  oks : ∀ x ∈ ws, PyData.strOk x = true
  src : (∀ x ∈ ws, x ∈ W0) ∨ ∀ x ∈ ws, x ∈ W0.map row5
def unstr : PyData → Str
  | .str x => x
  | _ => Str.empty
theorem perm_words {es : List PyData} (h : List.Perm (W0.map PyData.str) es) : ∃ ws, es = ws.map PyData.str ∧ List.Perm W0 ws := by
  refine ⟨es.map unstr, ?_, ?_⟩
  · rw [List.map_map]
    refine (List.map_id es).symm.trans (List.map_congr_left fun e he => ?_)
    obtain ⟨x, _, rfl⟩ := List.mem_map.mp (h.mem_iff.mpr he)
    rfl
  · have := h.map unstr
    rw [List.map_map] at this
    have e : W0.map (unstr ∘ PyData.str) = W0 := by
      refine (List.map_congr_left fun e he => ?_).trans (List.map_id W0)
      rfl
    rw [e] at this
    exact this
theorem nthsf (l : List Str) (g : Str → Str) : (List.range l.length).map (fun i => V.str (g (nth l i))) = (l.map g).map V.str := by
  have := range_map_get ((l.map g).map V.str) (fun i => V.str (g (nth l i))) (fun i b hb => by
    rw [List.getElem?_map, List.getElem?_map] at hb
    obtain ⟨c, h1, h2⟩ := Option.map_eq_some_iff.mp hb
    obtain ⟨c', h3, h4⟩ := Option.map_eq_some_iff.mp h1
    rw [nth_of h3, h4]
    exact h2)
  rw [List.length_map, List.length_map] at this
  exact this
theorem RS.grow {r : Addr} {m : Nat} {B H H' : Hp} (h : RS r m B H) (e : Same H H') : RS r m B H' := ⟨same_tr h.s e, h.n, by
  obtain ⟨o, ho⟩ := h.ok.some
  exact h.ok.at (by rw [ho, e _ _ ho])⟩
section
variable {P : Program} {w : World} {K : PySem.W.Frag} {mg : Str → Option Value} {base : Heap}
theorem strs_dps {H : Hp} : ∀ (xs : List Str), DpAll K H (xs.map V.str) (xs.map PyData.str)
  | [] => .nil
  | x :: xs => .cons (.str x) (strs_dps xs)
theorem dps_strs {H : Hp} : ∀ {xs : List Str} {vs : List V}, DpAll K H vs (xs.map PyData.str) → vs = xs.map V.str
  | [], _, h => by cases h; rfl
  | n :: ns, _, h => by
    cases h with
    | cons h1 h2 => cases h1; rw [dps_strs h2]; rfl
structure Row1 where
  t : Addr
  w : Str
  c : Int
  l : Addr
  rs : List Rd1
def Row1.tb (y : Row1) : Tb := ⟨y.w, y.c, y.rs⟩
structure RowsAt (K : PySem.W.Frag) (B H : Hp) (r : Addr) (rows : List Row1) : Prop where
  at_ : ∀ (i : Nat) (y : Row1), rows[i]? = some y → SqT K B y.t [.str y.w, .int y.c, .ref y.l] ∧ B y.l = none ∧ r ≠ y.l ∧ ∃ xs, H y.l = some (.lst xs) ∧ DpAll K B xs (y.rs.map Rd1.d)
  inj : ∀ (i j : Nat) (y z : Row1), rows[i]? = some y → rows[j]? = some z → y.l = z.l → i = j
theorem RowsAt.step {B B' H H' : Hp} {r : Addr} {rows : List Row1} (h : RowsAt K B H r rows) (e : Same B B') (f : ∀ (i : Nat) (y : Row1), rows[i]? = some y → B' y.l = none ∧ H' y.l = H y.l) : RowsAt K B' H' r rows :=
  ⟨fun i y hy => by
    obtain ⟨a1, a2, a3, xs, a4, a5⟩ := h.at_ i y hy
    obtain ⟨b1, b2⟩ := f i y hy
    exact ⟨sqt e a1, b1, a3, xs, by rw [b2, a4], dpsm e _ _ a5⟩, h.inj⟩
theorem get_snoc {α : Type} {xs : List α} {x y : α} {i : Nat} (h : (xs ++ [x])[i]? = some y) : (xs[i]? = some y ∧ i < xs.length) ∨ (i = xs.length ∧ y = x) := by
  by_cases hi : i < xs.length
  · rw [List.getElem?_append_left hi] at h
    exact .inl ⟨h, hi⟩
  · rw [List.getElem?_append_right (by omega)] at h
    have : i - xs.length = 0 := by
      by_cases h0 : i - xs.length = 0
      · exact h0
      · rw [List.getElem?_eq_none (by simp; omega)] at h
        cases h
    rw [this] at h
    cases h
    exact .inr ⟨by omega, rfl⟩
theorem RowsAt.snoc {B H : Hp} {r : Addr} {rows : List Row1} {y : Row1} (h : RowsAt K B H r rows) (a : SqT K B y.t [.str y.w, .int y.c, .ref y.l]) (b : B y.l = none) (c : r ≠ y.l) (d : H y.l = some (.lst [])) (e : y.rs = []) (n : ∀ (i : Nat) (z : Row1), rows[i]? = some z → z.l ≠ y.l) : RowsAt K B H r (rows ++ [y]) :=
  ⟨fun i z hz => by
    rcases get_snoc hz with ⟨h1, _⟩ | ⟨_, rfl⟩
    · exact h.at_ i z h1
    · exact ⟨a, b, c, [], d, by rw [e]; exact .nil⟩, fun i j y' z hy hz hl => by
    rcases get_snoc hy with ⟨h1, k1⟩ | ⟨k1, rfl⟩ <;> rcases get_snoc hz with ⟨h2, k2⟩ | ⟨k2, rfl⟩
    · exact h.inj i j _ _ h1 h2 hl
    · exact absurd hl (n _ _ h1)
    · exact absurd hl.symm (n _ _ h2)
    · omega⟩
theorem get_set {α : Type} {xs : List α} {x y : α} {i j : Nat} (h : (xs.set j x)[i]? = some y) : (i = j ∧ y = x) ∨ (i ≠ j ∧ xs[i]? = some y) := by
  by_cases hi : j = i
  · subst hi
    rw [List.getElem?_set_self'] at h
    cases hx : xs[j]? with
    | none =>
      rw [hx] at h
      cases h
    | some z =>
      rw [hx] at h
      cases h
      exact .inl ⟨rfl, rfl⟩
  · rw [List.getElem?_set_ne hi] at h
    exact .inr ⟨fun e => hi e.symm, h⟩
theorem map_set_same {α β : Type} {xs : List α} {x y : α} {j : Nat} {f : α → β} (h : xs[j]? = some y) (e : f x = f y) : (xs.set j x).map f = xs.map f := by
  rw [List.map_set, e]
  refine List.ext_getElem? fun i => ?_
  by_cases hi : j = i
  · subst hi
    rw [List.getElem?_set_self', List.getElem?_map, h]
    rfl
  · rw [List.getElem?_set_ne hi]
theorem sum_set {α : Type} {f : α → Nat} : ∀ {xs : List α} {x y : α} {j : Nat}, xs[j]? = some y → f x = f y + 1 → ((xs.set j x).map f).sum = (xs.map f).sum + 1
  | [], _, _, _, h, _ => by cases h
  | z :: xs, x, y, 0, h, e => by
    cases h
    simp [e]
    omega
  | z :: xs, x, y, j + 1, h, e => by
    have := sum_set (xs := xs) (x := x) (y := y) (j := j) (by simpa using h) e
    rw [List.set_cons_succ, List.map_cons, List.map_cons, List.sum_cons, List.sum_cons, this]
    omega
/-- a read more at the j-th row -/
theorem RowsAt.put {B H : Hp} {r : Addr} {rows : List Row1} {y : Row1} {j : Nat} {rd : Rd1} {v : V} {xs : List V} (h : RowsAt K B H r rows) (e : rows[j]? = some y) (hx : H y.l = some (.lst xs)) (hv : Dp K B v rd.d) :
    RowsAt K B (upd H y.l (.lst (xs ++ [v]))) r (rows.set j { y with rs := y.rs ++ [rd] }) :=
  ⟨fun i z hz => by
    rcases get_set hz with ⟨rfl, rfl⟩ | ⟨ne, hz⟩
    · obtain ⟨a1, a2, a3, xs', a4, a5⟩ := h.at_ _ y e
      rw [hx] at a4
      cases a4
      refine ⟨a1, a2, a3, xs ++ [v], upd_same, ?_⟩
      show DpAll K B (xs ++ [v]) ((y.rs ++ [rd]).map Rd1.d)
      rw [List.map_append]
      exact dps_snoc a5 hv
    · obtain ⟨a1, a2, a3, xs', a4, a5⟩ := h.at_ _ z hz
      refine ⟨a1, a2, a3, xs', ?_, a5⟩
      rw [upd_ne fun hl => ne (h.inj i j z y hz e hl)]
      exact a4, fun i i' z z' hz hz' hl => by
    rcases get_set hz with ⟨rfl, rfl⟩ | ⟨ne, hz1⟩ <;> rcases get_set hz' with ⟨rfl, rfl⟩ | ⟨ne', hz2⟩
    · rfl
    · exact h.inj _ _ y z' e hz2 hl
    · exact h.inj _ _ z y hz1 e hl
    · exact h.inj _ _ z z' hz1 hz2 hl⟩
theorem RowsAt.dr {B H H' : Hp} {r : Addr} {m : Nat} {rows : List Row1} (h : RowsAt K B H r rows) (d : Dr r m H H') : RowsAt K B H' r rows := h.step same_refl fun j y hy => ⟨(h.at_ j y hy).2.1, d.ne _ (h.at_ j y hy).2.2.1.symm⟩
theorem RowsAt.new {B H : Hp} {r p : Addr} {o : HO} {rows : List Row1} (h : RowsAt K B H r rows) (e : H p = none) : RowsAt K B (upd H p o) r rows := h.step same_refl fun j y hy => by
  obtain ⟨a1, a2, a3, xs, a4, a5⟩ := h.at_ j y hy
  exact ⟨a2, upd_ne (ne_of_none a4 e)⟩
theorem dps_of {α : Type} {H : Hp} {f : α → V} {g : α → PyData} : ∀ {xs : List α}, (∀ x ∈ xs, Dp K H (f x) (g x)) → DpAll K H (xs.map f) (xs.map g)
  | [], _ => .nil
  | x :: xs, h => .cons (h x List.mem_cons_self) (dps_of fun y hy => h y (List.mem_cons_of_mem _ hy))
theorem yes_if {σ : L2.St} {H : Hp} {A B : Hp → Prop} (h : A H) : tYes σ H (fun b H3 => if b = true then A H3 else B H3) := by
  show (if true = true then A H else B H)
  rw [if_pos rfl]
  exact h
theorem mem_le_sum {α : Type} {f : α → Nat} : ∀ {xs : List α} {x : α}, x ∈ xs → f x ≤ (xs.map f).sum
  | [], _, h => by cases h
  | y :: xs, x, h => by
    rw [List.map_cons, List.sum_cons]
    rcases List.mem_cons.mp h with rfl | h
    · omega
    · have := mem_le_sum (f := f) h
      omega
theorem sum_zero {α : Type} {f : α → Nat} : ∀ {xs : List α}, (∀ x ∈ xs, f x = 0) → (xs.map f).sum = 0
  | [], _ => rfl
  | x :: xs, h => by
    rw [List.map_cons, List.sum_cons, h x List.mem_cons_self, sum_zero fun y hy => h y (List.mem_cons_of_mem _ hy)]
theorem RS.vec {r q : Addr} {m m' : Nat} {B H H' : Hp} {o : HO} (h : RS r m B H) (e : RS r m' (upd (cutr H r) q o) H') (n : cutr H r q = none) (k : r ≠ q) : RS r m' (upd B q o) H' ∧ B q = none ∧ H q = none ∧ ∀ b, b ≠ r → H b ≠ none → H' b = H b := by
  have hq : H q = none := by
    rw [cutr_ne k.symm] at n
    exact n
  have keep : ∀ b, b ≠ r → H b ≠ none → H' b = H b := fun b nb hb => by
    cases ho : H b with
    | none => exact absurd ho hb
    | some o' =>
      refine e.s b o' ?_
      rw [upd_ne (ne_of_none ho hq), cutr_ne nb]
      exact ho
  refine ⟨⟨fun b x hx => ?_, by rw [upd_ne k]; exact h.n, e.ok⟩, free_of h.s hq, hq, keep⟩
  by_cases hb : b = q
  · rw [hb, upd_same] at hx
    rw [hb]
    exact e.s q x (by rw [upd_same]; exact hx)
  · rw [upd_ne hb] at hx
    have hH := h.s b x hx
    rw [keep b (ne_of_none hx h.n) (by rw [hH]; exact fun z => by cases z)]
    exact hH
/-- a list of data that may still be changed -/
def LD (K : PySem.W.Frag) (H : Hp) (l : Addr) (ds : List PyData) : Prop := ∃ xs, H l = some (.lst xs) ∧ DpAll K H xs ds
theorem LD.dp {H : Hp} {l : Addr} {ds : List PyData} (h : LD K H l ds) : Dp K H (.ref l) (.list ds) := by
  obtain ⟨xs, h1, h2⟩ := h
  exact .lst (Or.inl (Or.inl h1)) h2
theorem LD.grow {H H' : Hp} {l : Addr} {ds : List PyData} (h : LD K H l ds) (e : Same H H') : LD K H' l ds := by
  obtain ⟨xs, h1, h2⟩ := h
  exact ⟨xs, e _ _ h1, dpsm e _ _ h2⟩
/-- numbers within bounds -/
structure SmT (t : Tb) : Prop where
  c : -99 ≤ t.c ∧ t.c ≤ 99
  f : ∀ rd ∈ t.rs, -10 ≤ rd.f ∧ rd.f ≤ 10
  v : ∀ rd ∈ t.rs, ∀ x ∈ rd.v, -1000 ≤ x ∧ x ≤ 1000
def spRows (K : PySem.W.Frag) : Sp := fun vs H Q _ => ∃ (r : Addr) (dims many most wide : Int) (m : Nat) (B : Hp), vs = [.ref r, .int dims, .int many, .int most, .int wide] ∧ RS r m B H ∧ 1 ≤ dims ∧ dims ≤ 3 ∧ 1 ≤ many ∧ many ≤ 6 ∧ 0 ≤ most ∧ most ≤ 12 ∧ 0 ≤ wide ∧ wide ≤ 1000 ∧ m ≤ 2 ^ 58 ∧
  ∀ p B' H' (ts : List Tb), Same B B' → RS r (m + 1000) B' H' → LD K B' p (ts.map Tb.d) → (ts.length : Int) = many → OkT dims ts → (∀ t ∈ ts, PyData.strOk t.n = true) → (∀ t ∈ ts, SmT t) → ((∀ t ∈ ts, t.n ∈ W0) ∨ ∀ t ∈ ts, t.n ∈ W0.map row5) → (((ts.map fun t => t.rs.length).sum : Nat) : Int) ≤ most → Q (.ref p) H'
theorem ok_made_rows {f : Addr} {fd : FuncData} (F : Fun K "_law_made_rows" "_law_made_rows" s_Lmade_rows f fd) (T : Txt mg) (c_Ldraw : C8.Cal P w K mg base 1 "_law_draw" spDraw []) (c_Lmixed : C8.Cal P w K mg base 2 "_law_mixed" (spMixed K) []) (c_Lvector : C8.Cal P w K mg base 2 "_law_vector" (spVector K) []) : FnOk P w K mg base CX0 3 f fd ["_law_rng_here", "_law_dims", "_law_many", "_law_most", "_law_wide"] (spRows K) := by
  refine F.ok sc_Lmade_rows (fun vs H Q E h => ?_) (fun cdv A outer sh H vs Q E hr h => ?_)
  · obtain ⟨r, dims, many, most, wide, m, B, rfl, _⟩ := h
    rfl
  · obtain ⟨r, dims, many, most, wide, m, B, rfl, R, hd1, hd3, hn1, hn6, hm0, hm12, hw0, hw1, hm, q⟩ := h
    refine ⟨_, (pss_cons (ps_set (i := 5) sc_Lmade_rows.nd rfl (by first | exact Or.inl rfl | exact Or.inr rfl) (pe_slice sl_list (C8.pe_c c_Lmixed hr (by decide) (by rfl) (pa_cons (pv 0) (pa_cons (pe_lst (pa_cons pe_str (pa_cons pe_str (pa_cons pe_str (pa_cons pe_str (pa_cons pe_str (pa_cons pe_str pa_nil))))))) pa_nil))) po_none (po_some (pv 2))))
  (pss_cons (ps_csq (ps_if (pt_cmpR op_eq (C8.pe_c c_Ldraw hr (by decide) (by rfl) (pa_cons (pv 0) (pa_cons pe_int pa_nil))) pe_int (nomark _))
    (pss_one (ps_setLc (i := 5) (own := [("_law_word", 6)]) (g := gName 6) (tt := tYes) (by rfl) sc_Lmade_rows.nd rfl rfl (sw_true rfl rfl rfl (by decide +kernel)) (pi_list (pv 5)) (blkOk_by (N := ["_law_rng_here", "_law_dims", "_law_many", "_law_most", "_law_wide", "_law_words", "_law_word", "_law_rows", "_law_turn", "_law_number", "_law_some", "_law_factor"]) (sc := defScope s_Lmade_rows) (by decide +kernel)) (fun _ _ _ _ _ => (pg_name (i := 6) sc_Lmade_rows.nd rfl (by first | exact Or.inl rfl | exact Or.inr rfl))) (fun _ _ _ _ _ => pts_nil) (fun _ _ _ _ _ => (pe_op op_add_str pe_str (pe_slice sl_str (pv 6) po_none (po_some pe_int))))))
    pss_nil))
  (pss_cons (ps_setLc (i := 7) (own := [("_law_word", 6)]) (g := gName 6) (tt := tYes) (by rfl) sc_Lmade_rows.nd rfl rfl (sw_true rfl rfl rfl (by decide +kernel)) (pi_list (pv 5)) (blkOk_by (N := ["_law_rng_here", "_law_dims", "_law_many", "_law_most", "_law_wide", "_law_words", "_law_word", "_law_rows", "_law_turn", "_law_number", "_law_some", "_law_factor"]) (sc := defScope s_Lmade_rows) (by decide +kernel)) (fun _ _ _ _ _ => (pg_name (i := 6) sc_Lmade_rows.nd rfl (by first | exact Or.inl rfl | exact Or.inr rfl))) (fun _ _ _ _ _ => pts_nil) (fun _ _ _ _ _ => (pe_tup (pa_cons (pv 6) (pa_cons (pe_op op_sub (C8.pe_c c_Ldraw hr (by decide) (by rfl) (pa_cons (pv 0) (pa_cons pe_int pa_nil))) pe_int) (pa_cons (pe_lst pa_nil) pa_nil))))))
  (pss_cons (ps_for PassesOwn.never rfl (pi_range1 (by rfl) T.b_range (pa_cons (C8.pe_c c_Ldraw hr (by decide) (by rfl) (pa_cons (pv 0) (pa_cons (pe_op op_add (pv 3) pe_int) pa_nil))) pa_nil)) (pg_name (i := 8) sc_Lmade_rows.nd rfl (by first | exact Or.inl rfl | exact Or.inr rfl))
    (pss_cons (ps_asg (pe_ix ix_list (pv 7) (C8.pe_c c_Ldraw hr (by decide) (by rfl) (pa_cons (pv 0) (pa_cons (pv 2) pa_nil))) (fun _ _ => rfl)) (pg_tup rfl (pgs_cons (pg_name (i := 6) sc_Lmade_rows.nd rfl (by first | exact Or.inl rfl | exact Or.inr rfl)) (pgs_cons (pg_name (i := 9) sc_Lmade_rows.nd rfl (by first | exact Or.inl rfl | exact Or.inr rfl)) (pgs_cons (pg_name (i := 10) sc_Lmade_rows.nd rfl (by first | exact Or.inl rfl | exact Or.inr rfl)) pgs_nil)))))
    (pss_cons (ps_set (i := 11) sc_Lmade_rows.nd rfl (by first | exact Or.inl rfl | exact Or.inr rfl) (pe_ix ix_list (pe_lst (pa_cons pe_int (pa_cons (pe_un un_neg pe_int) (pa_cons (pe_op op_add pe_int (C8.pe_c c_Ldraw hr (by decide) (by rfl) (pa_cons (pv 0) (pa_cons pe_int pa_nil)))) (pa_cons (pe_op op_sub (pe_op op_sub pe_int pe_int) (C8.pe_c c_Ldraw hr (by decide) (by rfl) (pa_cons (pv 0) (pa_cons pe_int pa_nil)))) pa_nil))))) (C8.pe_c c_Ldraw hr (by decide) (by rfl) (pa_cons (pv 0) (pa_cons pe_int pa_nil))) (fun _ _ => rfl)))
    (pss_one (ps_expr (pe_bm PySem.F.plainAttrs_list PySem.F.slot_list_append PySem.F.type_list_append mt_append (pv 10) (pa_cons (pe_tup (pa_cons (pe_ix ix_list (pv 5) (C8.pe_c c_Ldraw hr (by decide) (by rfl) (pa_cons (pv 0) (pa_cons (pv 2) pa_nil))) (fun _ _ => rfl)) (pa_cons (C8.pe_c c_Lvector hr (by decide) (by rfl) (pa_cons (pv 0) (pa_cons (pv 1) (pa_cons (pv 4) pa_nil)))) (pa_cons (pv 11) pa_nil)))) pa_nil)))))))
  (pss_one (ps_ret (pv 7))))))), ?_⟩
    -- the words
    refine ⟨_, rfl, (by show 6 ≤ sizeLine; decide), fun p0 hp0 => ?_⟩
    have bp0 := free_of R.s hp0
    have rp0 := R.ne hp0
    have R0 : RS r m (upd B p0 (.lst (W0.map V.str))) (upd H p0 (.lst (W0.map V.str))) := (R.new hp0).keep upd_same bp0 rp0
    refine ⟨r, p0, m, _, W0.map V.str, W0.map PyData.str, rfl, R0, Or.inl (Or.inl upd_same), strs_dps _, ?_, by decide, by omega, fun p1 H1 ys es b1 r1 pm dys R1 => ?_⟩
    · intro d hd
      obtain ⟨x, _, rfl⟩ := List.mem_map.mp hd
      exact ⟨by simp only [PyData.canLay0]; exact (W0_names x (by assumption)).2.2.2.1, by simp [PyData.depth]⟩
    have s01 : Same B (upd (upd B p0 (.lst (W0.map V.str))) p1 (.lst ys)) := same_tr (snew bp0) (snew b1)
    have b1at : (upd (upd B p0 (.lst (W0.map V.str))) p1 (.lst ys)) p1 = some (.lst ys) := upd_same
    obtain ⟨ws0, rfl, pw⟩ := perm_words pm
    obtain rfl := dps_strs dys
    generalize upd (upd B p0 (.lst (W0.map V.str))) p1 (.lst (ws0.map V.str)) = B1 at R1 s01 b1at
    have hwl : ws0.length = 6 := pw.length_eq.symm
    refine ⟨_, rfl, many, rfl, p1, _, rfl, Or.inl (Or.inl (R1.s _ _ b1at)), fun p2 hp2 => ?_⟩
    have ecut : cutV (ws0.map V.str) none (some many) = (ws0.take many.toNat).map V.str := by
      have h := cut_to (ws0.map V.str) many.toNat (by rw [List.length_map]; omega)
      rw [Int.toNat_of_nonneg (by omega)] at h
      rw [h, List.map_take]
    rw [ecut]
    have R2 := (R1.new (o := .lst ((ws0.take many.toNat).map V.str)) hp2).keep upd_same (free_of R1.s hp2) (R1.ne hp2)
    have s02 : Same B (upd B1 p2 (.lst ((ws0.take many.toNat).map V.str))) := same_tr s01 (snew (free_of R1.s hp2))
    have b2at : (upd B1 p2 (.lst ((ws0.take many.toNat).map V.str))) p2 = some (.lst ((ws0.take many.toNat).map V.str)) := upd_same
    generalize upd B1 p2 (.lst ((ws0.take many.toNat).map V.str)) = B2 at R2 s02 b2at
    generalize upd H1 p2 (.lst ((ws0.take many.toNat).map V.str)) = H2 at R2
    -- the if
    refine ⟨fun σ H' => ∃ (wl : Addr) (B' : Hp) (ws : List Str), σ = [some (.ref r), some (.int dims), some (.int many), some (.int most), some (.int wide), some (.ref wl), none, none, none, none, none, none] ∧ RS r (m + 7) B' H' ∧ Same B B' ∧ B' wl = some (.lst (ws.map V.str)) ∧ Words ws many.toNat, ?_, ?_⟩
    · rintro σ H3 ⟨wl, B', ws, rfl, R3, s3, hws, W⟩
      have wlen : ws.length ≤ 6 := by
        have := W.len
        omega
      refine ⟨_, rfl, wl, rfl, ⟨_, Or.inl (Or.inl (R3.s _ _ hws))⟩, fun D hD => lc_it (walk_list (K := K) (a := wl) (xs := ws.map V.str)) (fun i H' => ∃ (B2 : Hp) (rows : List Row1), Same B' B2 ∧ RS r (m + 7 + i) B2 H' ∧ RowsAt K B2 H' r rows ∧ rows.map (·.w) = ws.take i ∧ (∀ y ∈ rows, y.rs = [] ∧ -99 ≤ y.c ∧ y.c ≤ 99) ∧ H' D = some (.lst (rows.map fun y => V.ref y.t)) ∧ B2 D = none ∧ (∀ y ∈ rows, y.l ≠ D))
        ⟨B', [], same_refl, R3.new hD, ⟨fun i y h => (by cases h), fun i j y z h => (by cases h)⟩, rfl, (by intro y h; cases h), upd_same, free_of R3.s hD, (by intro y h; cases h)⟩ (fun i H' _ ⟨B2, rows, b1, b2, _⟩ => Or.inl (Or.inl (b2.s _ _ (b1 _ _ hws)))) ?_ ?_⟩
      · rintro i x _ H4 hi ⟨B2, rows, b1, b2, b3, b4, b5, b6, b7, b8⟩ ⟨rfl, hx⟩
        rw [List.length_map] at hi
        rw [List.getElem?_map] at hx
        obtain ⟨wd, hwd, rfl⟩ := Option.map_eq_some_iff.mp hx
        have hrl : rows.length = i := by
          have := congrArg List.length b4
          rw [List.length_map, List.length_take] at this
          omega
        have rD := R3.ne hD
        refine ⟨rfl, yes_if ?_⟩
        refine ⟨_, rfl, _, rfl, r, _, _, rfl, b2.ok, by omega, by decide, by decide, fun d H6 d0 d1 D6 => ⟨_, _, rfl, rfl, Nat.zero_le _, fun l hl => ⟨(by show 3 ≤ sizeLine; decide), fun t ht => ?_⟩⟩⟩
        have R6 := b2.dr D6
        have R7 := R6.new (o := .lst []) hl
        have D7 : (upd H6 l (.lst [])) D = some (.lst (rows.map fun y => V.ref y.t)) := by
          have h6 : H6 D = some (.lst (rows.map fun y => V.ref y.t)) := by rw [D6.ne _ rD.symm]; exact b6
          rw [upd_ne (ne_of_none h6 hl)]
          exact h6
        have lD : l ≠ D := fun z => by
          rw [z, D6.ne _ rD.symm, b6] at hl
          cases hl
        have tD : t ≠ D := fun z => by
          rw [z, D7] at ht
          cases ht
        have tl : t ≠ l := fun z => by
          rw [z, upd_same] at ht
          cases ht
        have bt : B2 t = none := free_of R7.s ht
        have bl : B2 l = none := free_of R6.s hl
        have R8 := (R7.new (o := .tup [.str wd, .int (d - 99), .ref l]) ht).keep upd_same bt (R7.ne ht)
        have b8D : (upd B2 t (.tup [.str wd, .int (d - 99), .ref l])) D = none := by rw [upd_ne tD.symm]; exact b7
        refine ⟨_, by rw [upd_ne tD.symm]; exact D7, small1000 (by rw [List.length_map]; omega), ?_⟩
        have hold : ∀ (j : Nat) (y : Row1), rows[j]? = some y → y.l ≠ D ∧ y.l ≠ l ∧ y.l ≠ t ∧ H6 y.l = H4 y.l := fun j y hy => by
          obtain ⟨a1, a2, a3, xs, a4, a5⟩ := b3.at_ j y hy
          have e6 : H6 y.l = H4 y.l := D6.ne _ a3.symm
          have h6 : H6 y.l = some (.lst xs) := by rw [e6]; exact a4
          have n1 := ne_of_none h6 hl
          refine ⟨b8 y (List.mem_of_getElem? hy), n1, ?_, e6⟩
          exact ne_of_none (by rw [upd_ne n1]; exact h6) ht
        refine ⟨upd B2 t (.tup [.str wd, .int (d - 99), .ref l]), rows ++ [⟨t, wd, d - 99, l, []⟩], same_tr b1 (snew bt), (R8.put b8D rD), ?_, ?_, ?_, ?_, b8D, ?_⟩
        · refine RowsAt.snoc (b3.step (snew bt) fun j y hy => ?_) (Or.inl (Or.inl upd_same)) ?_ (R6.ne hl) ?_ rfl fun j z hz => (hold j z hz).2.1
          · obtain ⟨n1, n2, n3, n4⟩ := hold j y hy
            refine ⟨?_, ?_⟩
            · rw [upd_ne n3]
              exact (b3.at_ j y hy).2.1
            · rw [upd_ne n1, upd_ne n3, upd_ne n2]
              exact n4
          · show (upd B2 t _) l = none
            rw [upd_ne tl.symm]
            exact bl
          · show (upd (upd (upd H6 l (.lst [])) t _) D _) l = _
            rw [upd_ne lD, upd_ne tl.symm, upd_same]
        · rw [List.map_append, b4, List.take_add_one, hwd]
          rfl
        · intro y hy
          rcases List.mem_append.mp hy with h | h
          · exact b5 y h
          · rw [List.mem_singleton.mp h]
            exact ⟨rfl, (by show -99 ≤ d - 99; omega), (by show d - 99 ≤ 99; omega)⟩
        · rw [upd_same, List.map_append]
          rfl
        · intro y hy
          rcases List.mem_append.mp hy with h | h
          · exact b8 y h
          · rw [List.mem_singleton.mp h]
            exact lD
      · rintro H4 ⟨B2, rows, b1, b2, b3, b4, b5, b6, b7, b8⟩
        rw [List.length_map, List.take_length] at b4
        rw [List.length_map] at b2
        have rD := R3.ne hD
        have R4 := b2.keep b6 b7 rD
        have M4 := b3.step (B' := upd B2 D (.lst (rows.map fun y => V.ref y.t))) (H' := H4) (snew b7) fun j y hy => ⟨by rw [upd_ne (b8 y (List.mem_of_getElem? hy))]; exact (b3.at_ j y hy).2.1, rfl⟩
        have B4D : (upd B2 D (.lst (rows.map fun y => V.ref y.t))) D = some (.lst (rows.map fun y => V.ref y.t)) := upd_same
        have s4 : Same B' (upd B2 D (.lst (rows.map fun y => V.ref y.t))) := same_tr b1 (snew b7)
        generalize upd B2 D (.lst (rows.map fun y => V.ref y.t)) = B4 at R4 M4 B4D s4
        have hrl : rows.length = ws.length := by
          have := congrArg List.length b4
          rw [List.length_map] at this
          exact this
        have s0 : (rows.map fun y => y.rs.length).sum = 0 := sum_zero fun y hy => by rw [(b5 y hy).1]; rfl
        have wmany : (ws.length : Int) = many := by
          have := W.len
          omega
        refine ⟨_, rfl, _, rfl, _, _, rfl, rfl, r, _, _, rfl, R4.ok, by omega, by omega, by omega, fun d H5 d0 d1 D5 => ⟨d, rfl, by omega, by omega, ?_⟩⟩
        refine for_range (fun i σ H' => ∃ (B5 : Hp) (rows' : List Row1) (y6 y8 y9 y10 y11 : Option V), σ = [some (.ref r), some (.int dims), some (.int many), some (.int most), some (.int wide), some (.ref wl), y6, some (.ref D), y8, y9, y10, y11] ∧ RS r (m + 20 + 20 * i) B5 H' ∧ RowsAt K B5 H' r rows' ∧ Same B4 B5 ∧ rows'.map (·.w) = ws ∧ rows'.map (fun y => V.ref y.t) = rows.map (fun y => V.ref y.t) ∧ (rows'.map fun y => y.rs.length).sum = i ∧ ∀ y ∈ rows', (-99 ≤ y.c ∧ y.c ≤ 99) ∧ ∀ rd ∈ y.rs, isRead dims rd = true ∧ rd.t ∈ ws ∧ (-10 ≤ rd.f ∧ rd.f ≤ 10) ∧ ∀ x ∈ rd.v, -1000 ≤ x ∧ x ≤ 1000)
          ⟨B4, rows, none, none, none, none, none, rfl, (R4.dr D5).mono (by omega), M4.step same_refl fun j y hy => ⟨(M4.at_ j y hy).2.1, D5.ne _ (M4.at_ j y hy).2.2.1.symm⟩, same_refl, b4, rfl, s0, fun y hy => ⟨(b5 y hy).2, fun rd hrd => by
            rw [(b5 y hy).1] at hrd
            cases hrd⟩⟩ ?_ ?_
        · rintro i σ H6 hi ⟨B5, rows', y6, y8, y9, y10, y11, rfl, R5, M5, s5, e1, e2, e3, e4⟩
          have hi12 : i < 12 := by omega
          have hrl' : rows'.length = ws.length := by
            have := congrArg List.length e1
            rw [List.length_map] at this
            exact this
          -- the row
          refine ⟨_, rfl, _, rfl, _, rfl, r, many, _, rfl, R5.ok, by omega, by omega, by omega, fun k1 H7 k10 k11 D7 => ?_⟩
          have R7 := R5.dr D7
          have M7 := M5.step (H' := H7) same_refl fun j y hy => ⟨(M5.at_ j y hy).2.1, D7.ne _ (M5.at_ j y hy).2.2.1.symm⟩
          obtain ⟨v, a1, _, a3⟩ := atI_in (xs := rows'.map fun y => V.ref y.t) k10 (by rw [List.length_map]; omega)
          rw [List.getElem?_map] at a3
          obtain ⟨y, hy, rfl⟩ := Option.map_eq_some_iff.mp a3
          obtain ⟨c1, c2, c3, xs, c4, c5⟩ := M7.at_ _ y hy
          refine ⟨D, _, k1, _, rfl, rfl, Or.inl (Or.inl (R7.s _ _ (s5 _ _ B4D))), by rw [← e2]; exact a1, y.t, _, rfl, sqt R7.s c1, rfl, _, _, rfl, _, _, rfl, _, _, rfl, rfl, ?_⟩
          -- the factor
          refine ⟨1, rfl, _, rfl, r, 9, _, rfl, R7.ok, by omega, by decide, by decide, fun k2 H8 k20 k21 D8 => ⟨_, _, rfl, rfl, _, _, rfl, rfl, ?_⟩⟩
          have R8 := R7.dr D8
          have M8 := M7.dr D8
          refine ⟨_, rfl, r, 9, _, rfl, R8.ok, by omega, by decide, by decide, fun k3 H9 k30 k31 D9 => ⟨_, _, rfl, rfl, (by show 4 ≤ sizeLine; decide), fun p hp => ?_⟩⟩
          have R9 := R8.dr D9
          have M9 := M8.dr D9
          have p10 : (upd H9 p (.lst [.int 1, .int (-1), .int (1 + k2), .int (0 - 1 - k3)])) p = some (.lst ([1, -1, 1 + k2, 0 - 1 - k3].map V.int)) := upd_same
          have R10 := R9.new (o := .lst [.int 1, .int (-1), .int (1 + k2), .int (0 - 1 - k3)]) hp
          have M10 := M9.new (o := .lst [.int 1, .int (-1), .int (1 + k2), .int (0 - 1 - k3)]) hp
          have rp := R9.ne hp
          refine ⟨_, rfl, r, 4, _, rfl, R10.ok, by omega, by decide, by decide, fun k4 H11 k40 k41 D11 => ?_⟩
          have R11 := R10.dr D11
          have M11 := M10.dr D11
          have p11 : H11 p = some (.lst ([1, -1, 1 + k2, 0 - 1 - k3].map V.int)) := by rw [D11.ne _ rp.symm]; exact p10
          obtain ⟨fv, f1, f2, _⟩ := atI_in (xs := [1, -1, 1 + k2, 0 - 1 - k3].map V.int) k40 k41
          obtain ⟨fc, f3, rfl⟩ := List.mem_map.mp f2
          have hfc : fc ≠ 0 ∧ -10 ≤ fc ∧ fc ≤ 10 := by
            simp only [List.mem_cons, List.not_mem_nil, or_false] at f3
            omega
          refine ⟨p, _, k4, _, rfl, rfl, Or.inl (Or.inl p11), f1, ?_⟩
          -- the append
          obtain ⟨g1, g2, g3, xs2, g4, g5⟩ := M11.at_ _ y hy
          refine ⟨_, rfl, Or.inl ⟨rfl, _, Or.inl (Or.inl g4)⟩, _, rfl, _, rfl, _, rfl, r, many, _, rfl, R11.ok, by omega, by omega, by omega, fun k5 H12 k50 k51 D12 => ?_⟩
          have R12 := R11.dr D12
          have M12 := M11.dr D12
          obtain ⟨tv, t1, _, t3⟩ := atI_in (xs := ws.map V.str) k50 (by rw [List.length_map]; omega)
          rw [List.getElem?_map] at t3
          obtain ⟨tw, htw, rfl⟩ := Option.map_eq_some_iff.mp t3
          refine ⟨wl, _, k5, _, rfl, rfl, Or.inl (Or.inl (R12.s _ _ (s5 _ _ (s4 _ _ hws)))), t1, ?_⟩
          refine ⟨_, rfl, _, rfl, _, rfl, r, dims, wide, _, cutr H12 r, rfl, RS.cut R12.ok, by omega, by omega, by omega, by omega, by omega, fun q1 H13 vec hq1 rq1 hvl hvb R13 => ?_⟩
          obtain ⟨R13', bq, hq12, keep⟩ := R12.vec R13 hq1 rq1
          have M13 := M12.step (B' := upd B5 q1 (.tup (vec.map V.int))) (H' := H13) (snew bq) fun j z hz => by
            obtain ⟨a1, a2, a3, xs, a4, a5⟩ := M12.at_ j z hz
            refine ⟨?_, keep _ a3.symm (by rw [a4]; exact fun z => by cases z)⟩
            rw [upd_ne (ne_of_none a4 hq12)]
            exact a2
          refine ⟨_, rfl, (by show 3 ≤ sizeLine; decide), fun u hu => ?_⟩
          have bu := free_of R13'.s hu
          have R14 := (R13'.new (o := .tup [.str tw, .ref q1, .int fc]) hu).keep upd_same bu (R13'.ne hu)
          have M14 := M13.step (B' := upd (upd B5 q1 (.tup (vec.map V.int))) u (.tup [.str tw, .ref q1, .int fc])) (H' := upd H13 u (.tup [.str tw, .ref q1, .int fc])) (snew bu) fun j z hz => by
            obtain ⟨a1, a2, a3, xs, a4, a5⟩ := M13.at_ j z hz
            have n := ne_of_none a4 hu
            exact ⟨by rw [upd_ne n]; exact a2, upd_ne n⟩
          obtain ⟨m1, m2, m3, xs4, m4, m5⟩ := M14.at_ _ y hy
          have lsm : xs4.length ≤ 12 := by
            have h1 := dps_len m5
            rw [List.length_map] at h1
            have h2 : y.rs.length ≤ (rows'.map fun y => y.rs.length).sum := mem_le_sum (f := fun y : Row1 => y.rs.length) (List.mem_of_getElem? hy)
            omega
          have nqu : q1 ≠ u := fun z => by
            rw [z, upd_same] at bu
            cases bu
          refine ⟨y.l, xs4, _, rfl, rfl, m4, small1000 (by omega), ?_⟩
          have hdp : Dp K (upd (upd B5 q1 (.tup (vec.map V.int))) u (.tup [.str tw, .ref q1, .int fc])) (.ref u) (Rd1.d ⟨tw, vec, fc⟩) := .tup (Or.inl (Or.inl upd_same)) (.cons (.str _) (.cons (.tup (Or.inl (Or.inl (by rw [upd_ne nqu]; exact upd_same))) (ints_dps _)) (.cons (.int _) .nil)))
          refine ⟨_, rows'.set k1.toNat { y with rs := y.rs ++ [⟨tw, vec, fc⟩] }, _, _, _, _, _, rfl, (R14.put m2 m3).mono (by omega), M14.put hy m4 hdp, same_tr s5 (same_tr (snew bq) (snew bu)), ?_, ?_, ?_, ?_⟩
          · exact (map_set_same hy (by rfl)).trans e1
          · exact (map_set_same hy (by rfl)).trans e2
          · exact (sum_set hy (by show (y.rs ++ [_]).length = _; rw [List.length_append]; rfl)).trans (by rw [e3])
          · intro z hz
            rcases List.mem_or_eq_of_mem_set hz with h | rfl
            · exact e4 z h
            · refine ⟨(e4 y (List.mem_of_getElem? hy)).1, fun rd hrd => ?_⟩
              rcases List.mem_append.mp hrd with h | h
              · exact (e4 y (List.mem_of_getElem? hy)).2 rd h
              · rw [List.mem_singleton.mp h]
                have hm := List.mem_of_getElem? htw
                refine ⟨?_, hm, hfc.2, hvb⟩
                unfold isRead
                rw [Bool.and_eq_true, Bool.and_eq_true]
                exact ⟨W.names _ hm, decide_eq_true hvl, by rw [decide_eq_false hfc.1]; rfl⟩
        · rintro σ H6 ⟨B5, rows', y6, y8, y9, y10, y11, rfl, R5, M5, s5, e1, e2, e3, e4⟩
          have hrl' : rows'.length = ws.length := by
            have := congrArg List.length e1
            rw [List.length_map] at this
            exact this
          have sc : ∀ {X : Hp}, Same X H6 → X r = none → Same X (cutr H6 r) := fun {X} e n b o h => by
            rw [cutr_ne (ne_of_none h n)]
            exact e b o h
          have s6 := sc R5.s R5.n
          refine ⟨_, rfl, q D (cutr H6 r) H6 (rows'.map Row1.tb) (same_tr s3 (same_tr s4 (same_tr s5 s6))) ((RS.cut R5.ok).mono (by omega)) ⟨_, s6 _ _ (s5 _ _ B4D), ?_⟩ (by rw [List.length_map]; omega) ?_ ?_ ?_ ?_ ?_⟩
          · rw [← e2, List.map_map]
            refine dps_of fun y hy => ?_
            obtain ⟨j, hj⟩ := List.mem_iff_getElem?.mp hy
            obtain ⟨a1, a2, a3, xs, a4, a5⟩ := M5.at_ j y hj
            exact .tup (sqt s6 a1) (.cons (.str _) (.cons (.int _) (.cons (.lst (Or.inl (Or.inl (by rw [cutr_ne a3.symm]; exact a4))) (dpsm s6 _ _ a5)) .nil)))
          · have en : (rows'.map Row1.tb).map (·.n) = ws := by
              rw [List.map_map]
              exact e1
            refine ⟨?_, by rw [en]; exact W.nodup, ?_, ?_, ?_⟩
            · intro t ht
              exact W.names _ (by rw [← en]; exact List.mem_map.mpr ⟨t, ht, rfl⟩)
            · rw [List.map_map]
              have : (rows'.map fun y => y.rs.length).sum ≤ 12 := by omega
              exact this
            · intro t ht rd hrd
              obtain ⟨y, hy, rfl⟩ := List.mem_map.mp ht
              exact ((e4 y hy).2 rd hrd).1
            · intro t ht rd hrd
              obtain ⟨y, hy, rfl⟩ := List.mem_map.mp ht
              rw [en]
              exact ((e4 y hy).2 rd hrd).2.1
          · intro t ht
            obtain ⟨y, hy, rfl⟩ := List.mem_map.mp ht
            exact W.oks _ (by rw [← e1]; exact List.mem_map.mpr ⟨y, hy, rfl⟩)
          · intro t ht
            obtain ⟨y, hy, rfl⟩ := List.mem_map.mp ht
            exact ⟨(e4 y hy).1, fun rd hrd => ((e4 y hy).2 rd hrd).2.2.1, fun rd hrd => ((e4 y hy).2 rd hrd).2.2.2⟩
          · have hm : ∀ t ∈ rows'.map Row1.tb, t.n ∈ ws := fun t ht => by
              obtain ⟨y, hy, rfl⟩ := List.mem_map.mp ht
              rw [← e1]
              exact List.mem_map.mpr ⟨y, hy, rfl⟩
            exact W.src.imp (fun h t ht => h _ (hm t ht)) fun h t ht => h _ (hm t ht)
          · rw [List.map_map]
            have : (((rows'.map fun y => y.rs.length).sum : Nat) : Int) ≤ most := by omega
            exact this
    · refine ⟨_, rfl, r, 3, _, rfl, R2.ok, by rw [List.length_map]; show m + 6 ≤ _; omega, by decide, by decide, fun d H3 d0 d1 D => ⟨rfl, _, rfl, ?_⟩⟩
      have R3 : RS r (m + 7) B2 H3 := (R2.dr D).mono (by rw [List.length_map]; show m + 6 + 1 ≤ _; omega)
      have hmem : ∀ x ∈ ws0.take many.toNat, x ∈ W0 := fun x hx => pw.mem_iff.mpr (List.mem_of_mem_take hx)
      have htl : (ws0.take many.toNat).length = many.toNat := by
        rw [List.length_take]
        omega
      refine ite2 (fun _ => ?_) (fun _ => ?_)
      · refine ⟨_, rfl, p2, rfl, ⟨_, Or.inl (Or.inl (R3.s _ _ b2at))⟩, fun D hD => lc_flat (walk_list (K := K) (a := p2) (xs := (ws0.take many.toNat).map V.str)) (fun i => .str (row5 (nth (ws0.take many.toNat) i))) (by rw [List.length_map, htl]; omega) hD (fun H' sm => Or.inl (Or.inl (sm _ _ (R3.s _ _ b2at)))) (fun i H x H' y => yat_same y) ?_ ?_⟩
        · rintro i x H4 H5 hi sm ⟨rfl, hx⟩ R hR
          rw [List.getElem?_map] at hx
          obtain ⟨z, hz, rfl⟩ := Option.map_eq_some_iff.mp hx
          have zz := W0_names z (hmem z (List.mem_of_getElem? hz))
          refine ⟨rfl, _, rfl, 5, rfl, z, rfl, Nat.le_trans zz.2.2.1 (by rw [sizeLine_eq]; decide), _, _, rfl, rfl, Nat.le_trans (Nat.add_le_add_left zz.2.2.2.2.2 _) (by rw [sizeLine_eq]; decide +kernel), ?_⟩
          have r := hR H5 same_refl
          rw [nth_of hz] at r
          exact r
        · intro H4 sm hD4
          rw [List.length_map, nthsf] at hD4
          have R4 := (R3.grow sm).keep hD4 (free_of R3.s hD) (R3.ne hD)
          refine ⟨D, _, (ws0.take many.toNat).map row5, rfl, R4, same_tr s02 (snew (free_of R3.s hD)), upd_same, ⟨by rw [List.length_map, htl], ?_, ?_, ?_, Or.inr fun x hx => ?_⟩⟩
          · rw [List.map_take]
            exact ((pw.map row5).nodup_iff.mp W0_nodup5).sublist (List.take_sublist _ _)
          · intro x hx
            obtain ⟨z, hz, rfl⟩ := List.mem_map.mp hx
            exact (W0_names z (hmem z hz)).2.1
          · intro x hx
            obtain ⟨z, hz, rfl⟩ := List.mem_map.mp hx
            exact (W0_names z (hmem z hz)).2.2.2.2.1
          · obtain ⟨z, hz, rfl⟩ := List.mem_map.mp hx
            exact List.mem_map.mpr ⟨z, hmem z hz, rfl⟩
      · exact ⟨p2, B2, _, rfl, R3, s02, b2at, htl, (pw.nodup_iff.mp W0_nodup).sublist (List.take_sublist _ _), fun x hx => (W0_names x (hmem x hx)).1, fun x hx => (W0_names x (hmem x hx)).2.2.2.1, Or.inl hmem⟩
end
end Fr

namespace Fr
open PySem PySem.Spec PyProof.Rows L2
def kw2 {α : Type} : List α → List α → List α
  | [], [c, s] => [s, c]
  | _, _ => []
structure CalK (P : Program) (w : World) (K : PySem.W.Frag) (mg : Str → Option Value) (base : Heap) (k : Nat) (x : Str) (sp : Sp) (ks : List Str) (gV : List V → List V → List V) : Prop where
  ex : ∃ (f : Addr) (fd : FuncData) (ps : List Str) (g : List Value → List Value → List Value), FnOk P w K mg base CX0 k f fd ps sp ∧ mg x = some (.ref f) ∧ PySem.W.keepIn K (.ref f) = true ∧ KBinds K fd ps ks g gV
theorem pe_ck {X : Cx} {k j : Nat} {x : Str} {sp : Sp} {ks : List Str} {gV : List V → List V → List V} {kws : List Keyword} {tk : TA} {p pos : Pos} (c : CalK X.prog X.w X.K X.mg X.base k x sp ks gV) (hr : Room j X.A) (hk : k ≤ j) (hg : Gl X x) (hkw : PK X kws tk)
    (hall : (backToKw pos (keywordEach kws X.env)).all (·.1.isSome) = true := by rfl) (hks : (backToKw pos (keywordEach kws X.env)).filterMap (·.1) = ks := by rfl) (hdb : (x == ("__debug__" : Str)) = false := by decide)
    (hpl : ((backTo pos (starEach [] X.env)).any (·.1) || (backToKw pos (keywordEach kws X.env)).any (·.1.isNone)) = false := by rfl) :
    PE X (.Call (.Name x p) [] kws pos) (tCallK sp gV C8.E0 tNil tk) := by
  obtain ⟨f, fd, ps, g, F, hm, kp, hb⟩ := c.ex
  refine ⟨fun pins s σ H Q I h => ?_⟩
  refine wpAny_Call_Name_kw (ld_glob I hg hm ?_ hdb)
  refine PySem.W.callWith_KW0 (h₀ := X.base) I.ok.mod.kin kp hall (thn (hkw.run pos pins s σ H _ I h) fun ws s2 ⟨zs, H2, I2, rz, q2⟩ => ⟨I2.kIn, ?_⟩) hpl
  rw [hks]
  exact run_fnk (us := []) (vs := []) F (hr.mono hk) hb pass0 I2 .nil rz q2
def bs (H : Hp) (r : Addr) : Hp := fun b => if b = r then none else match H b with
  | some (.tbl _) => none
  | o => o
theorem bs_of {H : Hp} {r b : Addr} {o : HO} (h : H b = some o) (n : b ≠ r) (t : ∀ ps, o ≠ .tbl ps) : bs H r b = some o := by
  unfold bs
  rw [if_neg n, h]
  cases o <;> first | rfl | exact absurd rfl (t _)
theorem of_bs {H : Hp} {r b : Addr} {o : HO} (h : bs H r b = some o) : H b = some o ∧ b ≠ r ∧ ∀ ps, o ≠ .tbl ps := by
  unfold bs at h
  by_cases n : b = r
  · rw [if_pos n] at h
    cases h
  · rw [if_neg n] at h
    cases e : H b with
    | none =>
      rw [e] at h
      cases h
    | some u =>
      rw [e] at h
      cases u <;> first | (cases h; exact ⟨rfl, n, fun ps z => by cases z⟩) | cases h
structure LS (TT : List (Addr × Str)) (r : Addr) (m : Nat) (B H : Hp) : Prop where
  rs : RS r m B H
  tb : LamX.Tabs TT H
  nt : ∀ b ps, B b ≠ some (.tbl ps)
theorem tabs_dr {TT : List (Addr × Str)} {r : Addr} {m m' : Nat} {H H' : Hp} (hT : LamX.Tabs TT H) (h : RngOk H r m) (d : Dr r m' H H') : LamX.Tabs TT H' := by
  obtain ⟨a, b, c, h1, _⟩ := h
  obtain ⟨a', b', c', h2, _⟩ := d.ok
  have e : H' = upd H r (.lst [.int a', .int b', .int c']) := funext fun x => by
    by_cases hx : x = r
    · rw [hx, h2, upd_same]
    · rw [upd_ne hx, d.ne x hx]
  rw [e]
  exact tabs_lst hT h1
theorem LS.dr {TT : List (Addr × Str)} {r : Addr} {m m' : Nat} {B H H' : Hp} (h : LS TT r m B H) (d : Dr r m' H H') : LS TT r m' B H' := ⟨h.rs.dr d, tabs_dr h.tb h.rs.ok d, h.nt⟩
theorem LS.new {TT : List (Addr × Str)} {r p : Addr} {m : Nat} {B H : Hp} {o : HO} (h : LS TT r m B H) (e : H p = none) : LS TT r m B (upd H p o) := ⟨h.rs.new e, h.tb.ext (snew e), h.nt⟩
theorem LS.grow {TT : List (Addr × Str)} {r : Addr} {m : Nat} {B H H' : Hp} (h : LS TT r m B H) (e : Same H H') : LS TT r m B H' := ⟨h.rs.grow e, h.tb.ext e, h.nt⟩
theorem LS.put {TT : List (Addr × Str)} {r p : Addr} {m : Nat} {B H : Hp} {o : HO} {xs : List V} (h : LS TT r m B H) (e : B p = none) (n : r ≠ p) (l : H p = some (.lst xs)) : LS TT r m B (upd H p o) := ⟨h.rs.put e n, tabs_lst h.tb l, h.nt⟩
theorem LS.mono {TT : List (Addr × Str)} {r : Addr} {m m' : Nat} {B H : Hp} (h : LS TT r m B H) (e : m ≤ m') : LS TT r m' B H := ⟨h.rs.mono e, h.tb, h.nt⟩
/-- a base of its own -/
theorem LS.own {TT : List (Addr × Str)} {r : Addr} {m : Nat} {H : Hp} (h : RngOk H r m) (t : LamX.Tabs TT H) : LS TT r m (bs H r) H := ⟨⟨fun b o e => (of_bs e).1, by
  cases e : bs H r r with
  | none => rfl
  | some o => exact absurd rfl (of_bs e).2.1, h⟩, t, fun b ps e => (of_bs e).2.2 ps rfl⟩
theorem tabs_cut {TT : List (Addr × Str)} {r : Addr} {m : Nat} {H H' : Hp} (hT : LamX.Tabs TT H) (h : RngOk H r m) (s : Same (cutr H r) H') : LamX.Tabs TT H' := by
  obtain ⟨a, b, c, h1, _⟩ := h
  intro p hp
  obtain ⟨ps, e1, e2, e3⟩ := hT p hp
  refine ⟨ps, s _ _ ?_, e2, fun pos cv hc => ?_⟩
  · rw [cutr_ne fun z => by rw [z, h1] at e1; cases e1]
    exact e1
  · obtain ⟨c', f1, f2⟩ := e3 pos cv hc
    refine ⟨c', f1, s _ _ ?_⟩
    rw [cutr_ne fun z => by rw [z, h1] at f2; unfold LamX.CodeO at f2; cases f2]
    exact f2
def tupo : HO → Bool
  | .tup _ => true
  | .frz _ (.tup _) => true
  | _ => false
def ST (H H' : Hp) : Prop := ∀ b o, H b = some o → tupo o = true → H' b = some o
theorem ST.of {H H' : Hp} (e : Same H H') : ST H H' := fun b o h _ => e b o h
theorem ST.tr {A B C : Hp} (a : ST A B) (b : ST B C) : ST A C := fun x o h d => b x o (a x o h d) d
theorem ST.put {H : Hp} {l : Addr} {xs : List V} {o : HO} (h : H l = some (.lst xs)) : ST H (upd H l o) := fun b u e d => by
  rw [upd_ne fun z => by rw [z, h] at e; cases e; cases d]
  exact e
theorem ST.dr {H H' : Hp} {r : Addr} {m m' : Nat} (h : RngOk H r m) (d : Dr r m' H H') : ST H H' := fun b u e t => by
  obtain ⟨x, y, z, h1, _⟩ := h
  rw [d.ne b fun q => by rw [q, h1] at e; cases e; cases t]
  exact e
theorem ST.bs {H : Hp} {r : Addr} {m : Nat} (h : RngOk H r m) : ST H (Fr.bs H r) := fun b u e t => by
  obtain ⟨x, y, z, h1, _⟩ := h
  refine bs_of e (fun q => ?_) fun ps q => ?_
  · rw [q, h1] at e
    cases e
    cases t
  · rw [q] at t
    cases t
mutual
def noL : PyData → Bool
  | .list _ => false
  | .tuple ds => noLs ds
  | .dict _ => false
  | .none => true
  | .bool _ => true
  | .int _ => true
  | .str _ => true
def noLs : List PyData → Bool
  | [] => true
  | d :: ds => noL d && noLs ds
end
theorem noLs_map {α : Type} {g : α → PyData} (h : ∀ x, noL (g x) = true) : ∀ xs : List α, noLs (xs.map g) = true
  | [] => rfl
  | x :: xs => by
    show (noL (g x) && noLs (xs.map g)) = true
    rw [h x, noLs_map h xs]
    rfl
theorem noL_ints (ns : List Int) : noLs (ns.map PyData.int) = true := noLs_map (fun _ => rfl) ns
theorem noL_rd (r : Rd1) : noL r.d = true := by
  show (true && (noLs (r.v.map PyData.int) && (true && true))) = true
  rw [noL_ints]
  rfl
theorem noL_k (t : Tb) : noL t.k = true := by
  show (true && (noLs (t.rs.map Rd1.d) && true)) = true
  rw [noLs_map noL_rd]
  rfl
section
variable {K : PySem.W.Frag}
theorem sqtt {H H' : Hp} (e : ST H H') {a : Addr} {xs : List V} (h : SqT K H a xs) : SqT K H' a xs := by
  rcases h with (h | ⟨o, h⟩) | h
  · exact .inl (.inl (e _ _ h rfl))
  · exact .inl (.inr ⟨o, e _ _ h rfl⟩)
  · exact .inr h
mutual
theorem dpt {H H' : Hp} (e : ST H H') : ∀ (d : PyData) (v : V), noL d = true → Dp K H v d → Dp K H' v d
  | .none, _, _, h => by cases h; exact .non
  | .bool b, _, _, h => by cases h; exact .bl b
  | .int i, _, _, h => by cases h; exact .int i
  | .str x, _, _, h => by cases h; exact .str x
  | .list ds, _, n, h => by cases n
  | .tuple ds, _, n, h => by
    cases h with
    | tup hs ha => exact .tup (sqtt e hs) (dpst e ds _ n ha)
  | .dict _, _, _, h => by cases h
theorem dpst {H H' : Hp} (e : ST H H') : ∀ (ds : List PyData) (vs : List V), noLs ds = true → DpAll K H vs ds → DpAll K H' vs ds
  | [], _, _, h => by cases h; exact .nil
  | d :: ds, _, n, h => by
    have n' : (noL d && noLs ds) = true := n
    rw [Bool.and_eq_true] at n'
    cases h with
    | cons h1 h2 => exact .cons (dpt e d _ n'.1 h1) (dpst e ds _ n'.2 h2)
end
theorem kvt {H H' : Hp} (e : ST H H') : ∀ {kvs : List (Key × V)} {ts : List Tb}, KvAt K H kvs ts → KvAt K H' kvs ts
  | [], _, h => by cases h; exact .nil
  | kv :: kvs, _, h => by
    cases h with
    | cons h1 h2 => exact .cons ⟨h1.1, dpt e _ _ (noL_k _) h1.2⟩ (kvt e h2)
end
section
variable {P : Program} {w : World} {K : PySem.W.Frag} {mg : Str → Option Value} {base : Heap}
theorem sd_bs {B H : Hp} {r : Addr} (s : Same B H) (n : B r = none) : SD B (bs H r) := fun b o h d => bs_of (s b o h) (ne_of_none h n) fun ps z => by
  rw [z] at d
  cases d
theorem SysAt.bs {C : Addr} {H : Hp} {r s : Addr} {m : Nat} {d md : Int} {ts : List Tb} (h : SysAt K C H s d md ts) (hr : RngOk H r m) (e : ∀ kvs, KvAt K H kvs ts → KvAt K (Fr.bs H r) kvs ts) : SysAt K C (Fr.bs H r) s d md ts := by
  obtain ⟨dx, t, kvs, h1, h2, h3⟩ := h.ob
  obtain ⟨a, b, c, h4, _⟩ := hr
  refine ⟨dx, t, kvs, bs_of h1 (fun z => ?_) (fun ps z => by cases z), bs_of h2 (fun z => ?_) (fun ps z => by cases z), e _ h3⟩
  · rw [z, h4] at h1
    cases h1
  · rw [z, h4] at h2
    cases h2
theorem find_nodup {x : Str} : ∀ {ts : List Tb} {tb : Tb}, (ts.map (·.n)).Nodup → tb ∈ ts → tb.n = x → ts.find? (fun t => decide (t.n = x)) = some tb
  | [], _, _, h, _ => by cases h
  | t :: ts, tb, n, h, e => by
    rw [List.map_cons, List.nodup_cons] at n
    rcases List.mem_cons.mp h with rfl | h
    · exact List.find?_cons_of_pos (by simpa using e)
    · rw [List.find?_cons_of_neg fun z => n.1 (by
        have : t.n = x := of_decide_eq_true z
        rw [this, ← e]
        exact List.mem_map.mpr ⟨tb, h, rfl⟩)]
      exact find_nodup n.2 h e
end
end Fr

namespace Fr
open PySem PySem.Spec PyProof.Rows L2
inductive KvEq (K : PySem.W.Frag) (H : Hp) (ls : List (Key × V)) : List (Key × V) → Bool → Prop
  | nil : KvEq K H ls [] true
  | miss {k : Key} {v : V} {r : List (Key × V)} : valV ls k = none → KvEq K H ls ((k, v) :: r) false
  | hit {k : Key} {v u : V} {r : List (Key × V)} {d e : PyData} {b : Bool} : valV ls k = some u → Dp K H v d → Dp K H u e → SeqAt.shaped d = true → SeqAt.shaped e = true → KvEq K H ls r b → KvEq K H ls ((k, v) :: r) (PyData.eqv d e && b)
def rEqKv (K : PySem.W.Frag) : R2 := fun x y H Q => ∃ (a b : Addr) (ks ls : List (Key × V)) (r : Bool), x = .ref a ∧ y = .ref b ∧ H a = some (.dK ks) ∧ H b = some (.dK ls) ∧ (ks.length = ls.length → KvEq K H ls ks r) ∧ Q (.bl (ks.length == ls.length && r)) H
section
variable {X : Cx} {pins : List (Addr × Obj)} {σ : L2.St} {H : Hp} {s : Shared}
theorem kvHits (I : Inv X pins σ H s) {A : Around} (hu : A.units + 64 < cLine) {ls : List (Key × V)} {vb : List (Key × Value)} (rb : KV ls vb) {ks : List (Key × V)} {r : Bool} (h : KvEq X.K H ls ks r) :
    ∀ {va : List (Key × Value)}, KV ks va → PySem.W.KeqHitsP X.prog X.w A s vb va r := by
  induction h with
  | nil =>
    intro va ra
    cases ra
    exact .nil
  | @miss k v t hv =>
    intro va ra
    cases ra with
    | @cons _ q _ qs h1 h2 =>
      obtain ⟨key, u⟩ := q
      obtain ⟨h1, h3⟩ := h1
      have h1' : k = key := h1
      subst h1'
      exact .miss (RelO.none_of (by rw [← hv]; exact rb.val k))
  | @hit k v u t d e b hv hd he sd se _ ih =>
    intro va ra
    cases ra with
    | @cons _ q _ qs h1 h2 =>
      obtain ⟨key, w⟩ := q
      obtain ⟨h1, h3⟩ := h1
      have h1' : k = key := h1
      subst h1'
      have rr : RelO (some u) (valueAt vb k) := by rw [← hv]; exact rb.val k
      obtain ⟨y, hy, ry⟩ := rr.some_of
      obtain ⟨as, q1⟩ := Dp.reads I d _ _ hd h3
      obtain ⟨bs, q2⟩ := Dp.reads I e _ _ he ry
      exact .hit hy (SeqAt.eqAt_reads d e A s _ _ as bs q1 q2 (SeqAt.canLay_of_shaped sd) (SeqAt.canLay_of_shaped se) (SeqAt.room_of_shaped sd hu)).eqP (ih h2)
theorem op_eqKv (hu : X.A.units + 65 < cLine) : OpR X (compareOp .Eq) (rEqKv X.K) := by
  intro pins s σ H x y v u Q I rx ry h
  obtain ⟨a, b, ks, ls, r, rfl, rfl, ha, hb, hr, q⟩ := h
  cases (show v = Value.ref a from rx)
  cases (show u = Value.ref b from ry)
  obtain ⟨_, ya, va, ra, da⟩ := (show ObjOk X.prog X.w H s.heap a (.dK ks) from I.hok a _ ha)
  obtain ⟨_, yb, vb, rb, db⟩ := (show ObjOk X.prog X.w H s.heap b (.dK ls) from I.hok b _ hb)
  have e1 : va.length = ks.length := ra.length.symm
  have e2 : vb.length = ls.length := rb.length.symm
  refine PySem.W.rcP_dicts (knd := mixKind X.prog X.w) (r := r) ya yb da db (by omega) (fun e => kvHits I (by show X.A.units + 1 + 64 < cLine; omega) rb (hr (by omega)) ra) _ _ ?_
  rw [e1, e2]
  exact ⟨.bl _, H, I, rfl, q⟩
end
structure EqM (P : Program) (w : World) (K : PySem.W.Frag) (mg : Str → Option Value) (base : Heap) (k : Nat) (C : Addr) (sp : Sp) : Prop where
  ex : ∃ (f : Addr) (fd : FuncData) (ps : List Str), Cls K C ∧ PySem.W.findIn K (.ref C) "__eq__" = some (some (.ref f)) ∧ PySem.W.isFn K (.ref f) = true ∧ FnOk P w K mg base CX0 k f fd ps sp ∧ Binds K fd ps []
def rEqOwn (C : Addr) (sp : Sp) : R2 := fun x y H Q => ∃ (a b dx dy : Addr) (fs gs : List (Str × V)), x = .ref a ∧ y = .ref b ∧ H a = some (.ins C dx fs) ∧ H b = some (.ins C dy gs) ∧ sp [.ref a, .ref b] H (fun v H' => ∃ r, v = .bl r ∧ Q (.bl r) H') C8.E0
theorem op_eqOwn {X : Cx} {k j : Nat} {C : Addr} {sp : Sp} (c : EqM X.prog X.w X.K X.mg X.base k C sp) (hr : Room j X.A) (hk : k ≤ j) : OpR X (compareOp .Eq) (rEqOwn C sp) := by
  intro pins s σ H x y v u Q I rx ry h
  obtain ⟨a, b, dx, dy, fs, gs, rfl, rfl, ha, hb, h⟩ := h
  cases (show v = Value.ref a from rx)
  cases (show u = Value.ref b from ry)
  obtain ⟨f, fd, ps, hc, hs, hf, F, hbd⟩ := c.ex
  obtain ⟨mA, J, _⟩ := ins_get I.hok ha
  obtain ⟨mB, J', _⟩ := ins_get I.hok hb
  obtain ⟨od, J, _⟩ := J.look
  obtain ⟨od', J', _⟩ := J'.look
  obtain ⟨m, hF⟩ := I.fr
  have hu : X.A.units < cLine := (hr.mono hk).units0
  refine PySem.W.cmp_K (op := .Eq) (tb := .ref C) hu hF I.ok.mod.kin J J'.type (by simp [PySem.W.notFirst]) hs hf ?_
  refine wpAny_mono (run_fn (us := [.ref a, .ref b]) (vs := [.ref a, .ref b]) F (hr.mono hk) hbd .nil pass0 I (.cons rfl (.cons rfl .nil)) h) (fun r s' q => ?_) fun _ _ x => x
  obtain ⟨z, H', I', rz, t, rfl, q⟩ := q
  obtain rfl : r = Value.bool t := rz
  exact ⟨.bl t, H', I', rfl, q⟩
structure MetK (P : Program) (w : World) (K : PySem.W.Frag) (mg : Str → Option Value) (base : Heap) (k : Nat) (C : Addr) (m : Str) (sp : Sp) (ks : List Str) (gV : List V → List V → List V) : Prop where
  ex : ∃ (f : Addr) (fd : FuncData) (ps : List Str) (g : List Value → List Value → List Value), Cls K C ∧ Meth K C m f ∧ FnOk P w K mg base CX0 k f fd ps sp ∧ KBinds K fd ps ks g gV
def tMethK (C : Addr) (m : Str) (sp : Sp) (gV : List V → List V → List V) (E : XK) (ta : TE) (tk : TA) : TE := fun σ H Q => ta σ H fun x H1 => ∃ a dx fs, x = .ref a ∧ H1 a = some (.ins C dx fs) ∧ fs.lookup m = none ∧
  tk σ H1 fun zs H2 => sp (gV [x] zs) H2 Q E
theorem pe_mtk {X : Cx} {k j : Nat} {C : Addr} {m : Str} {sp : Sp} {ks : List Str} {gV : List V → List V → List V} {o : Expr} {kws : List Keyword} {ta : TE} {tk : TA} {apos pos : Pos} {pl : Sem Bool} (c : MetK X.prog X.w X.K X.mg X.base k C m sp ks gV) (hr : Room j X.A) (hk : k ≤ j) (he : PE X o ta) (hkw : PK X kws tk)
    (hall : (backToKw pos (keywordEach kws X.env)).all (·.1.isSome) = true := by rfl) (hks : (backToKw pos (keywordEach kws X.env)).filterMap (·.1) = ks := by rfl)
    (hpl : ((backTo pos (starEach [] X.env)).any (·.1) || (backToKw pos (keywordEach kws X.env)).any (·.1.isNone)) = false := by rfl)
    (ht : eval (.Call (.Attribute o m apos) [] kws pos) X.env = (do
      let ov ← eval o X.env
      standAt apos.atName
      let (f, first) ← holding [ov] (getMethod ov m pl)
      callWith pos f first (backTo pos (starEach [] X.env)) (backToKw pos (keywordEach kws X.env))) := by rfl) :
    PE X (.Call (.Attribute o m apos) [] kws pos) (tMethK C m sp gV C8.E0 ta tk) := by
  obtain ⟨f, fd, ps, g, hc, hm, F, hb⟩ := c.ex
  refine ⟨fun pins s σ H Q I h => ?_⟩
  refine PySem.W.methodCall_KW (pl := pl) (thn (he.run pins s σ H _ I h) fun u s1 ⟨x, H1, I1, rx, a, dx, fs, ex, ea, l, q⟩ => ?_) ht
  subst ex
  obtain rfl : u = Value.ref a := rx
  refine getmeth_ok I1 ea hc hm l ?_
  refine PySem.W.callWith_KW0 (first := [.ref a]) (h₀ := X.base) I.ok.mod.kin hm.kp hall (thn (hkw.run pos pins s1 σ H1 _ I1 q) fun ws s2 ⟨zs, H2, I2, rz, q2⟩ => ⟨I2.kIn, ?_⟩) hpl
  rw [hks]
  exact run_fnk (us := [.ref a]) (vs := [.ref a]) F (hr.mono hk) hb pass0 I2 (.cons rfl .nil) rz q2
def kw1 {α : Type} : List α → List α → List α
  | [s], [c] => [s, c]
  | _, _ => []
end Fr

namespace Fr
open PySem PySem.Spec PyProof.Rows L2
theorem iter_dict : typeLookup (.type "dict") "__iter__" = pure (some (.builtin "dict.__iter__")) := by rw [typeLookup_type, builtinLookup_eq_fast]; kernel_rfl
section
variable {prog : Program} {w : World} {A : Around} {E : Value → Shared → Prop} {s : Shared}
theorem wp_putNew {d : Addr} {kvs : List (Key × Value)} {k : Key} {x v : Value} {Q : Unit → Shared → Prop} (hx : (mixKind prog w).is k x = true) (hm : s.heap.DictOf (mixKind prog w) d kvs) (hno : k ∉ kvs.map (·.1))
    (hQ : ∀ h', h'.DictOf (mixKind prog w) d (kvs ++ [(k, v)]) → Heap.SameBut d s.heap h' → Q () { s with heap := h' }) (hsz : kvs.length ≤ sizeLine) :
    wpAny (model prog w) A (dictPut d ((mixKind prog w).hash k) x v) Q E s := by
  obtain ⟨o, es, ep, ho, hc, hd, hk, hp, hn⟩ := hm
  have hes : es.size ≤ sizeLine := by
    have e1 := hp.length
    rw [Array.length_toList] at e1
    omega
  unfold dictPut
  refine wpAny_bind (wpAny_dictFind_of hx ho hd hk ?_)
  have hidx : (es.findIdx? fun e => (mixKind prog w).is k e.key) = none := by
    have z : (es.findIdx? fun e => (mixKind prog w).is k e.key) = kvs.findIdx? fun kv => decide (kv.1 = k) := by
      rw [← hp.findIdx k]
      obtain ⟨l⟩ := es
      simp
    rw [z, List.findIdx?_eq_none_iff]
    intro kv hkv
    exact decide_eq_false fun e => hno (List.mem_map.mpr ⟨kv, hkv, e⟩)
  rw [hidx]
  refine wpAny_updateDictKeys (hz := hes) ho hd (hQ _ ⟨_, _, ep + 1, Heap.get?_update_self _ ho (Obj.isFreed_of_dict (Obj.data_mapDictKeys hd _)), hc.mapDictKeys _, Obj.data_mapDictKeys hd _, hk.push hx _, ?_, ?_⟩ (Heap.SameBut.update ..))
  · have z := hp.append hx ((mixKind prog w).hash k) v
    obtain ⟨l⟩ := es
    simpa using z
  · rw [List.map_append, List.nodup_append]
    refine ⟨hn, by simp, ?_⟩
    intro a ha b hb
    rw [List.mem_singleton.mp hb]
    exact fun e => hno (by rw [e] at ha; exact ha)
theorem wp_mergeMap {d o : Addr} {kvs more : List (Key × Value)} {Q : Unit → Shared → Prop} (hdo : d ≠ o) (hoS : (o == sysModules) = false) (hd : s.heap.DictOf (mixKind prog w) d kvs) (ho : s.heap.DictOf (mixKind prog w) o more)
    (hnd : ((kvs ++ more).map (·.1)).Nodup) (hsz : kvs.length + more.length ≤ sizeLine) (hQ : ∀ h', h'.DictOf (mixKind prog w) d (kvs ++ more) → Heap.SameBut d s.heap h' → Q () { s with heap := h' }) :
    wpAny (model prog w) A (mergeMapping d (.ref o) false) Q E s := by
  obtain ⟨od, esd, epd, hod, hcd, hdd, hkd, hpd, hnd'⟩ := id hd
  obtain ⟨oo, eso, epo, hoo, hco, hdo', hko, hpo, hno⟩ := id ho
  have hlen : more.length = eso.size := by
    rw [← hpo.length]
    simp
  unfold mergeMapping
  refine wpAny_bind (wpAny_isInstance (T := "dict") ho.typeIs PySem.F.sub_dict_dict ?_)
  rw [if_pos rfl]
  refine wpAny_bind (wpAny_specialOf ho.typeIs iter_dict ?_)
  refine wpAny_bind (wpAny_pure ?_)
  have hb : ((some (Value.builtin "dict.__iter__") : Option Value) == some (Value.builtin "dict.__iter__")) = true := by rfl
  rw [hb]
  dsimp only
  rw [if_neg (by rw [hoS]; exact Bool.false_ne_true)]
  have tail : ∀ {T : Sem Unit}, T = (do
      let l ← dictEntries o
      let epoch ← dictEpoch o
      forIn (List.range l.size) PUnit.unit fun i (_ : PUnit) => (do
        let l' ← dictEntries o
        match l'[i]? with
          | some e => do
            holding [e.key, e.val] (dictPut d e.hash e.key e.val)
            let ep' ← dictEpoch o
            if (ep' != epoch) = true then do
                (unsupported "dict.changed-during-merge" : Sem PUnit)
                pure (ForInStep.yield PUnit.unit)
              else pure (ForInStep.yield PUnit.unit)
          | _ => do
            (unsupported "dict.changed-during-merge" : Sem PUnit)
            pure (ForInStep.yield PUnit.unit) : Sem (ForInStep PUnit))
      pure ()) → wpAny (model prog w) A T Q E s := by
    intro T hT
    rw [hT]
    refine wpAny_bind (wpAny_dictEntries hoo hdo' ?_)
    refine wpAny_bind (wpAny_dictEpoch hoo hdo' ?_)
    refine wpAny_bind ?_
    refine wpAny_forIn_list _ (fun rest _ s' => ∃ h' i, s' = { s with heap := h' } ∧ rest = (List.range eso.size).drop i ∧ i ≤ eso.size ∧ h'.DictOf (mixKind prog w) d (kvs ++ more.take i) ∧ h'.get? o = some oo ∧ Heap.SameBut d s.heap h') _ ?_ ?_ _ _
      ⟨s.heap, 0, rfl, rfl, Nat.zero_le _, by rw [List.take_zero, List.append_nil]; exact hd, hoo, Heap.SameBut.refl _ _⟩
    · rintro x rest b s' ⟨h', i, rfl, hr, hi, hd', hoo', hs'⟩
      have hlt : i < eso.size := by
        rcases Nat.lt_or_ge i eso.size with h | h
        · exact h
        · rw [List.drop_of_length_le (by simpa using h)] at hr
          cases hr
      rw [List.drop_eq_getElem_cons (by simpa using hlt)] at hr
      injection hr with h1 h2
      rw [List.getElem_range] at h1
      subst h1
      refine wpAny_bind (wpAny_dictEntries hoo' hdo' ?_)
      rw [Array.getElem?_eq_getElem hlt]
      obtain ⟨⟨k, v⟩, hkv⟩ : ∃ kv, more[x]? = some kv := ⟨more[x]'(by omega), List.getElem?_eq_getElem _⟩
      obtain ⟨hkey, hval⟩ := hpo.get? (e := eso[x]) (by simp [hlt]) hkv
      obtain ⟨k', hkey', hhash⟩ := hko eso[x] (Array.getElem_mem hlt)
      obtain rfl : k' = k := (mixKind prog w).inj _ _ _ hkey' hkey
      have hlm : x < more.length := by omega
      have hno' : k' ∉ (kvs ++ more.take x).map (·.1) := fun hm => by
        have z : ((kvs ++ more).map (·.1)).Nodup := hnd
        have e2 : kvs ++ more = (kvs ++ more.take x) ++ ((k', v) :: more.drop (x + 1)) := by
          rw [List.append_assoc]
          congr 1
          have g : more[x] = (k', v) := by
            rw [List.getElem?_eq_getElem hlm] at hkv
            exact Option.some.inj hkv
          rw [← g, ← List.drop_eq_getElem_cons hlm, List.take_append_drop]
        rw [e2, List.map_append, List.nodup_append] at z
        exact z.2.2 k' hm k' (by rw [List.map_cons]; exact List.mem_cons_self) rfl
      show wpAny _ _ (holding [eso[x].key, eso[x].val] (dictPut d eso[x].hash eso[x].key eso[x].val) >>= _) _ _ _
      rw [hhash, hval]
      refine wpAny_bind (wpAny_holding (wp_putNew hkey hd' hno' (fun h'' hd'' hs'' => ?_) (by rw [List.length_append, List.length_take]; omega)))
      have hoo'' : h''.get? o = some oo := (hs''.2 o (Ne.symm hdo)).trans hoo'
      refine wpAny_bind (wpAny_dictEpoch hoo'' hdo' ?_)
      rw [if_neg (by simp)]
      exact wpAny_pure ⟨h'', x + 1, rfl, h2, hlt, by rw [List.take_add_one, hkv, ← List.append_assoc]; exact hd'', hoo'', hs'.trans hs''⟩
    · rintro b s' ⟨h', i, rfl, hr, hi, hd', hoo', hs'⟩
      have hin : i = eso.size := by
        rcases Nat.lt_or_ge i eso.size with h | h
        · rw [List.drop_eq_getElem_cons (by simpa using h)] at hr
          cases hr
        · exact Nat.le_antisymm hi h
      refine wpAny_pure (hQ h' ?_ hs')
      rw [hin, ← hlen, List.take_length] at hd'
      exact hd'
  refine wpAny_bind (wpAny_dictEntries hod hdd ?_)
  split
  · refine wpAny_bind (wpAny_dictEntries hoo hdo' ?_)
    refine wpAny_bind ?_
    rw [← Array.forIn_toList]
    refine wpAny_forIn_list _ (fun rest _ s' => s' = s ∧ ∀ e ∈ rest, e ∈ eso.toList) _ ?_ ?_ _ _ ⟨rfl, fun e he => he⟩
    · rintro x rest b s' ⟨rfl, hm⟩
      obtain ⟨k, hk, _⟩ := hko x (by simpa using hm x List.mem_cons_self)
      have hk : keyIs k x.key = true := hk
      rcases keyIs_shape hk with ⟨i, t, _, e⟩ | ⟨z, t, _, e⟩
      · rw [e]
        exact wpAny_pure ⟨rfl, fun y hy => hm y (List.mem_cons_of_mem _ hy)⟩
      · rw [e]
        exact wpAny_pure ⟨rfl, fun y hy => hm y (List.mem_cons_of_mem _ hy)⟩
    · rintro b s' ⟨rfl, _⟩
      exact tail rfl
  · exact tail rfl
end
end Fr

namespace Fr
open PySem PySem.Spec PyProof.Rows L2
theorem kv_keys : ∀ {kvs : List (Key × V)} {vs : List (Key × Value)}, KV kvs vs → vs.map (·.1) = kvs.map (·.1)
  | [], _, h => by cases h; rfl
  | p :: kvs, _, h => by
    cases h with
    | cons h1 h2 =>
      rw [List.map_cons, List.map_cons, kv_keys h2, h1.1]
theorem kv_app : ∀ {kvs ls : List (Key × V)} {vs us : List (Key × Value)}, KV kvs vs → KV ls us → KV (kvs ++ ls) (vs ++ us)
  | [], _, _, _, h, k => by cases h; exact k
  | p :: kvs, _, _, _, h, k => by
    cases h with
    | cons h1 h2 => exact .cons h1 (kv_app h2 k)
def tMrg (t1 t2 : TE) : TE := fun σ H Q => ∀ p, H p = none → t1 σ (upd H p (.dK [])) fun x H1 => ∃ (a : Addr) (ks : List (Key × V)), x = .ref a ∧ H1 a = some (.dK ks) ∧ a ≠ p ∧ H1 p = some (.dK []) ∧ (ks.map (·.1)).Nodup ∧
  t2 σ (upd H1 p (.dK ks)) fun y H2 => ∃ (b : Addr) (ls : List (Key × V)), y = .ref b ∧ H2 b = some (.dK ls) ∧ b ≠ p ∧ H2 p = some (.dK ks) ∧ ((ks ++ ls).map (·.1)).Nodup ∧ ks.length + ls.length ≤ sizeLine ∧ Q (.ref p) (upd H2 p (.dK (ks ++ ls)))
theorem pe_mrg {X : Cx} {e1 e2 : Expr} {t1 t2 : TE} {pos : Pos} (he1 : PE X e1 t1) (he2 : PE X e2 t2) : PE X (.Dict [none, none] [e1, e2] pos) (tMrg t1 t2) := by
  refine ⟨fun pins s σ H Q I q => ?_⟩
  rw [arm_eval_Dict]
  refine wpAny_bind (wpAny_standAt ?_)
  show wpAny _ _ (dictDisplay [(none, do let x ← eval e1 X.env; standAt pos; pure x), (none, do let x ← eval e2 X.env; standAt pos; pure x)]) _ _ s
  unfold dictDisplay
  dsimp only
  simp only [List.forIn_cons, List.forIn_nil]
  have hn := I.hok.fresh (Nat.le_refl s.heap.objs.size)
  have I1 := I.laid (a := s.heap.objs.size) (o := .dK []) (h' := s.heap.push { cls := .type "dict", data := .dict #[] }) (t' := s.toks) (fun _ _ q => Heap.get?_push_of_some _ q) (Nat.le_refl _) (dk_empty s.heap I.big)
  refine wpAny_bind (wpAny_bind (wpAny_bind ?_))
  show wpAny _ _ (pure none) _ _ _
  refine wpAny_pure ?_
  dsimp only
  refine wpAny_bind (wpAny_alloc ?_)
  refine wpAny_bind (wpAny_holding (wpAny_bind (thn (he1.run pins _ σ _ _ I1 (q s.heap.objs.size hn)) fun u s1 ⟨x, H1, I2, rx, a, ks, ex, ha, nap, hp, nd, q2⟩ => wpAny_bind (wpAny_standAt (wpAny_pure ?_)))))
  subst ex
  obtain rfl : u = Value.ref a := rx
  obtain ⟨zp, hdp, vs0, r0, ddp⟩ := dk_of I2.hok hp
  cases r0
  obtain ⟨za, hda, va, ra, dda⟩ := dk_of I2.hok ha
  have nva : (va.map (·.1)).Nodup := by
    have e : va.map (·.1) = ks.map (·.1) := kv_keys ra
    rw [e]
    exact nd
  refine wpAny_bind (wpAny_onRaise (wpAny_tryCatch (wpAny_onRaise (wpAny_holding (wp_mergeMap (Ne.symm nap) hda ddp dda (by simpa using nva) (by simpa using (by rw [← ra.length]; exact za)) fun h2 dd2 sb2 => ?_)))))
  have I3 : Inv X pins σ (upd H1 s.heap.objs.size (.dK ks)) { s1 with heap := h2, toks := s1.toks } := d_write I2 (by rw [hp]; exact True.intro) sb2 (let ⟨q, _, _, hq, _⟩ := dd2; ⟨q, hq⟩) (dk_new za hdp ra (by simpa using dd2))
  refine wpAny_pure ?_
  dsimp only
  refine wpAny_bind (wpAny_bind ?_)
  show wpAny _ _ (pure (some s.heap.objs.size)) _ _ _
  refine wpAny_pure ?_
  dsimp only
  refine wpAny_bind (wpAny_pure ?_)
  refine wpAny_bind (wpAny_holding (wpAny_bind (thn (he2.run pins _ σ _ _ I3 q2) fun u2 s3 ⟨y, H2, I4, ry, b, ls, ey, hb, nbp, hp2, nd2, hz2, q3⟩ => wpAny_bind (wpAny_standAt (wpAny_pure ?_)))))
  subst ey
  obtain rfl : u2 = Value.ref b := ry
  obtain ⟨zp2, hdp2, vs2, r2, ddp2⟩ := dk_of I4.hok hp2
  obtain ⟨zb, hdb, vb, rb, ddb⟩ := dk_of I4.hok hb
  have nvb : ((vs2 ++ vb).map (·.1)).Nodup := by
    have e : (vs2 ++ vb).map (·.1) = (ks ++ ls).map (·.1) := by
      rw [List.map_append, List.map_append, kv_keys r2, kv_keys rb]
    rw [e]
    exact nd2
  refine wpAny_bind (wpAny_onRaise (wpAny_tryCatch (wpAny_onRaise (wpAny_holding (wp_mergeMap (Ne.symm nbp) hdb ddp2 ddb nvb (by rw [← r2.length, ← rb.length]; exact hz2) fun h3 dd3 sb3 => ?_)))))
  have I5 : Inv X pins σ (upd H2 s.heap.objs.size (.dK (ks ++ ls))) { s3 with heap := h3, toks := s3.toks } := d_write I4 (by rw [hp2]; exact True.intro) sb3 (let ⟨q, _, _, hq, _⟩ := dd3; ⟨q, hq⟩) (dk_new (by rw [List.length_append]; exact hz2) hdp2 (kv_app r2 rb) dd3)
  refine wpAny_pure ?_
  dsimp only
  refine wpAny_pure ?_
  refine wpAny_bind ?_
  show wpAny _ _ (pure (some s.heap.objs.size)) _ _ _
  refine wpAny_pure ?_
  exact wpAny_pure ⟨.ref _, _, I5, rfl, q3⟩
end Fr

namespace Fr
open PySem PySem.Spec PyProof.Rows L2
theorem enum_newT {v : Value} {o : Obj} {G : Heap → Prop} (B : Begins v o G) :
    Meets (Builtin.«enumerate.__new__» ⟨[.type "enumerate", v], []⟩) (fun _ R s => G s.heap ∧
      R (.ok (.ret (.ref (s.heap.push o).objs.size))) { s with heap := (s.heap.push o).push { cls := .type "enumerate", data := .fields #[.none, .bool false, .ref s.heap.objs.size, rawInt 0, .none, .none] } }) :=
  .of_wp fun prog w A R s h => by
    obtain ⟨hp, g, d, tk, os⟩ := s
    obtain ⟨h1, h⟩ := h
    have hsub := sub_enumerate
    have it : ∀ {A' : Around} {E : Value → Shared → Prop} {Q : Value → Shared → Prop}, Q (.ref hp.objs.size) ⟨hp.push o, g, d, tk, os⟩ → wpAny (model prog w) A' (pyIter v) Q E ⟨hp, g, d, tk, os⟩ := fun q => B.iter prog w _ _ ⟨hp, g, d, tk, os⟩ _ h1 q
    wp_walk using it
    refine wpAny_stack_any fun st => wpAny_pure ?_
    split
    · rename_i c _ _ _ _ _
      cases (c == Value.type "enumerate") <;> (wp_walk using it; exact ⟨_, rfl, h⟩)
    · wp_walk using it
      exact ⟨_, rfl, h⟩
section
variable {prog : Program} {w : World} {A : Around} {E : Value → Shared → Prop} {s : Shared}
theorem call_enumT {v : Value} {o : Obj} {G : Heap → Prop} {Q : Value → Shared → Prop} (B : Begins v o G) (h1 : G s.heap)
    (h : ∀ h', IsEnum h' (s.heap.objs.size + 1) s.heap.objs.size 0 .none → h'.get? s.heap.objs.size = some o → (∀ b u, s.heap.get? b = some u → h'.get? b = some u) → Q (.ref (s.heap.objs.size + 1)) { s with heap := h' }) :
    wpAny (model prog w) A (call (.type "enumerate") [v]) Q E s := by
  refine callType_new PySem.F.called_enumerate (by decide) (PySem.F.typeCall_enumerate_1 _) (PySem.F.newCall_enumerate_1 _) (fun obj => PySem.F.args_object_init_2 obj _) PySem.F.entry_enumerate_new (enum_newT B) ⟨h1, ?_⟩
  have hz : (s.heap.push o).objs.size = s.heap.objs.size + 1 := Heap.size_push ..
  show _ ∧ _
  rw [hz]
  have he : IsEnum ((s.heap.push o).push { cls := .type "enumerate", data := .fields #[.none, .bool false, .ref s.heap.objs.size, rawInt 0, .none, .none] }) (s.heap.objs.size + 1) s.heap.objs.size 0 .none := by
    have z := Heap.get?_push_size (s.heap.push o) (o := { cls := .type "enumerate", data := .fields #[.none, .bool false, .ref s.heap.objs.size, rawInt 0, .none, .none] }) rfl
    rw [hz] at z
    exact z
  exact ⟨⟨_, he, rfl⟩, h _ he (Heap.get?_push_of_some _ (Heap.get?_push_size _ B.free)) fun b u e => Heap.get?_push_of_some _ (Heap.get?_push_of_some _ e)⟩
end
section
variable {prog : Program} {w : World} {A : Around} {E : Value → Shared → Prop} {s : Shared}
theorem enumT_end {e it a : Addr} {i : Nat} {items : Array Value} {old : Value} {Q : Option Value → Shared → Prop} (hh : A.in1.handled = none) (he : IsEnum s.heap e it i old) (hit : s.heap.IsTupleIter it a i) (ht : s.heap.IsTuple a items) (hne : a ≠ it) (hx : items[i]? = none)
    (hQ : ∀ h', Heap.ExtBut it s.heap h' → Q none { s with heap := h' }) : wpAny (model prog w) A (pyNext (.ref e)) Q E s := by
  have hT : s.TypeIs (.ref e) "enumerate" := ⟨_, he, rfl⟩
  unfold pyNext
  refine wpAny_bind (wpAny_attempt (wpAny_callSpecial?_slot (name := Str.ofString "__next__") hT PySem.F.slot_enumerate_next (wpAny_call_entry PySem.F.slot_enumerate_next hT PySem.F.entry_enumerate_next ?_ (PySem.F.args_enumerate_next_1 _))))
  show wpAny _ _ (field (.ref e) 2 >>= _) _ _ _
  refine wpAny_bind (wpAny_field he rfl (x := .ref it) rfl ?_)
  refine wpAny_bind (wpAny_nextOf_tuple_end hh hit ht hx fun h' x he' hx' => ?_)
  obtain ⟨o, ho, hc⟩ := hx'
  exact wpAny_bind (wpAny_isInstance (T := "StopIteration") (b := true) ⟨o, ho, hc⟩ isSubtype_stop (wpAny_pure (hQ _ he')))
end
/-- the tuple at a as it stands, each item in a new pair -/
def IteT (K : PySem.W.Frag) (a : Addr) : It :=
  ⟨fun i H => ∃ (xs : List V) (x : V), SqT K H a xs ∧ xs[i]? = some x, fun i H v H' => ∃ T x, v = .ref T ∧ H T = none ∧ H' = upd H T (.tup [.int (i : Nat), x]) ∧ ∀ xs, SqT K H a xs → xs[i]? = some x, fun i H => ∃ xs : List V, SqT K H a xs ∧ xs.length ≤ i⟩
theorem turn_enumT {P : Program} {w : World} {K : PySem.W.Frag} {elts : List Expr} {kk : Nat} {tpos : Pos} (a e it : Addr) :
    Turn P w K (.Tuple elts kk tpos) (IteT K a) [e, it] e (fun i h => (∃ old, IsEnum h e it ((i : Nat) : Int) old) ∧ h.IsTupleIter it a i ∧ e ≠ it ∧ a ≠ e ∧ a ≠ it) where
  mem := by simp
  obj := fun i h st b hb => by
    obtain ⟨⟨old, he⟩, ⟨o, ho, hc, hd⟩, _⟩ := st
    rcases (show b = e ∨ b = it by simpa using hb) with z | z <;> rw [z]
    · exact ⟨_, he, fun v q => nomatch q⟩
    · exact ⟨o, ho, fun v q => by rw [hd] at q; cases q⟩
  keep := fun i h h' st k => let ⟨⟨old, he⟩, hi, ne⟩ := st; ⟨⟨old, k e (by simp) _ he⟩, hi.at fun o q => k it (by simp) o q, ne⟩
  item := by
    intro X hP hw hK hc i pins s σ H E I hf st hg
    subst hP hw hK
    obtain ⟨⟨old, he⟩, hit, hne, hae, hai⟩ := st
    obtain ⟨xs, x, hq, hx⟩ := hg
    obtain ⟨its, rv, p, hz⟩ := I.tuple hq
    obtain ⟨u, hu, ru⟩ := rv.get hx
    have hel : e < s.heap.objs.size := Heap.lt_size he
    have hil : it < s.heap.objs.size := by
      obtain ⟨_, q, _⟩ := hit
      exact Heap.lt_size q
    have hlt : i < its.toArray.size := by
      rw [List.size_toArray]
      exact (List.getElem?_eq_some_iff.mp hu).1
    refine wpAny_pyNext_enum_itemD (Draws.tuple (show X.A.in1.handled = none from I.ok.hd hc) it a hai its.toArray) he ⟨hit, p⟩ hlt hne (by simp [hne, Ne.symm hae]) fun u' h' tk hP ho hst hT hsz hk => ?_
    obtain rfl : u' = u := by
      have z : its.toArray[i]? = some u' := hP
      rw [List.getElem?_toArray, hu] at z
      exact (Option.some.inj z).symm
    refine ⟨_, rfl, wpAny_letOwnedTupleGo_enum (s := { s with heap := h', toks := tk + 1 }) ho fun h'' he' sb => ?_⟩
    have hT2 : h''.get? s.heap.objs.size = some { cls := .type "tuple", data := .seq #[.int i tk, u'] } := (sb.2 _ (Nat.ne_of_gt hel)).trans hT
    have nw : ObjOk X.prog X.w (upd H s.heap.objs.size (.tup [.int (i : Nat), x])) h'' s.heap.objs.size (.tup [.int (i : Nat), x]) :=
      ⟨by show 2 ≤ sizeLine; decide, [.int i tk, u'], .cons ⟨_, rfl⟩ (.cons ru .nil), ⟨_, hT2, rfl, _, rfl⟩⟩
    have I1 : Inv X pins σ (upd H s.heap.objs.size (.tup [.int (i : Nat), x])) { s with heap := h'', toks := tk + 1 } :=
      I.turnedNew (ch := [e, it]) (fun b ob nb q => (sb.2 b (fun z => nb (by simp [z]))).trans (hk b ob (fun z => nb (by simp [z])) (fun z => nb (by simp [z])) q)) hf (Nat.le_refl _) nw
    refine ⟨.ref s.heap.objs.size, _, I1, rfl, ⟨_, x, rfl, I.hok.fresh (Nat.le_refl _), rfl, fun ys hy => by rw [I.tuple_inj hy hq]; exact hx⟩, ⟨⟨u', ?_⟩, hst.1.at fun o q => (sb.2 it (Ne.symm hne)).trans q, hne, hae, hai⟩, fun b hb => ?_⟩
    · rw [show ((i + 1 : Nat) : Int) = (i : Int) + 1 by omega]
      exact he'
    · have hb' : b < s.heap.objs.size := by
        rcases (show b = e ∨ b = it by simpa using hb) with z | z <;> rw [z]
        · exact hel
        · exact hil
      rw [upd_ne (Nat.ne_of_lt hb')]
      exact (hf b hb).1
  done := by
    intro X hP hw hK hc i pins s σ H E I hf st hg
    subst hP hw hK
    obtain ⟨⟨old, he⟩, hit, hne, hae, hai⟩ := st
    obtain ⟨xs, hq, hx⟩ := hg
    obtain ⟨its, rv, p, hz⟩ := I.tuple hq
    obtain ⟨f0, f1, f2, f3, f4, f5⟩ := hf it (by simp)
    have hl := rv.length
    exact enumT_end (show X.A.in1.handled = none from I.ok.hd hc) he hit p hai (by simp; omega) fun h' eb => ⟨rfl, I.turned (t' := s.toks) (fun b o hb q => eb b o hb q) f0 f1 f3 f4 f5⟩
  self := fun A i s Q E st h => let ⟨⟨_, he⟩, _⟩ := st; wpAny_pyIter_enum he h
def iEnumT (K : PySem.W.Frag) (ta : TA) : TI := fun σ H R => ta σ H fun vs H1 => ∃ a xs, vs = [.ref a] ∧ SqT K H1 a xs ∧ R (IteT K a) H1
theorem pi_enumT {X : Cx} {e : Expr} {ta : TA} {p pos tpos : Pos} {elts : List Expr} {kk : Nat} (hg : Gl X "enumerate") (hm : X.mg "enumerate" = none) (ha : PA X [e] ta) (hs : starEach [e] X.env = [(false, eval e X.env)] := by rfl) :
    PI X (.Tuple elts kk tpos) (.Call (.Name "enumerate" p) [e] [] pos) (iEnumT X.K ta) := by
  refine ⟨fun pins s σ H R I h => ?_⟩
  refine Call_ (ld_blt I hg hm boot_enumerate (PyProof.Rows.callWith_type1 (thn (ha.run pos pins s σ H _ I h) fun us s1 ⟨vs, H1, I1, r1, a, xs, ex, hq, q⟩ => ?_) hs rfl))
  subst ex
  obtain rfl := Vals.ref1 r1
  obtain ⟨its, rv, p', hz⟩ := I1.tuple hq
  have hal : a < s1.heap.objs.size := by
    obtain ⟨o, ho, _⟩ := id p'
    exact Heap.lt_size ho
  refine call_enumT (begins_tuple a its.toArray) p' fun h' he hit hk => wpAny_pyIter_enum he ?_
  have I2 : Inv X pins σ H1 { s1 with heap := h' } := I1.kept (t' := s1.toks) hk
  refine ⟨s1.heap.objs.size + 1, [s1.heap.objs.size + 1, s1.heap.objs.size], _, _, H1, rfl, I2, turn_enumT a (s1.heap.objs.size + 1) s1.heap.objs.size,
    ⟨⟨.none, he⟩, ⟨_, hit, rfl, rfl⟩, Nat.succ_ne_self _, Nat.ne_of_lt (Nat.lt_succ_of_lt hal), Nat.ne_of_lt hal⟩, fun b hb => ?_, q⟩
  have hle : s1.heap.objs.size ≤ b := by
    rcases (show b = s1.heap.objs.size + 1 ∨ b = s1.heap.objs.size by simpa using hb) with z | z <;> rw [z]
    · exact Nat.le_add_right _ _
    · exact Nat.le_refl _
  exact I1.fpOk hle (I1.hok.fresh hle)
theorem walk_enumT {K : PySem.W.Frag} {a : Addr} {xs : List V} : Walk (IteT K a) xs.length (fun H => SqT K H a xs) (YPair (fun i => some (.int (i : Nat))) (fun i => xs[i]?)) := by
  refine ⟨fun i _ hi q => ⟨xs, xs[i], q, by simp [hi]⟩, fun _ q => ⟨xs, q, Nat.le_refl _⟩, fun i H v H' _ q y => ?_⟩
  obtain ⟨T, x, y1, y2, y3, y4⟩ := y
  exact ⟨T, .int (i : Nat), x, y1, y2, y3, rfl, y4 xs q⟩
end Fr

namespace Fr
open PySem PySem.Spec PyProof.Rows L2
/-- o.f in a comprehension's block -/
theorem pe_fldK {X : Cx} {K' : PySem.W.Frag} {e : Expr} {f : Str} {pos : Pos} {ta : TE} (he : PE X e ta) (hb : attributeBase e f X.env (eval e X.env) = eval e X.env := by rfl) (hK : X.K = K' := by rfl) : PE X (.Attribute e f pos) (tFld K' ta f) := by
  subst hK
  exact pe_fld he hb
structure LenM (P : Program) (w : World) (K : PySem.W.Frag) (mg : Str → Option Value) (base : Heap) (k : Nat) (C : Addr) (sp : Sp) : Prop where
  ex : ∃ (f : Addr) (fd : FuncData) (ps : List Str), Cls K C ∧ PySem.W.findIn K (.ref C) "__len__" = some (some (.ref f)) ∧ PySem.W.isFn K (.ref f) = true ∧ FnOk P w K mg base CX0 k f fd ps sp ∧ Binds K fd ps []
def rLenOwn (C : Addr) (sp : Sp) : List V → Hp → VK → Prop := fun xs H Q => ∃ (a dx : Addr) (fs : List (Str × V)), xs = [.ref a] ∧ H a = some (.ins C dx fs) ∧ sp [.ref a] H (fun v H' => ∃ n : Nat, v = .int n ∧ n < 1000000 ∧ Q (.int n) H') C8.E0
theorem call_lenOwn {X : Cx} {k j : Nat} {C : Addr} {sp : Sp} (c : LenM X.prog X.w X.K X.mg X.base k C sp) (hr : Room j X.A) (hk : k + 1 ≤ j) : CallR X (.builtin "len") (rLenOwn C sp) := by
  intro pins s σ H xs us Q I r h
  obtain ⟨a, dx, fs, rfl, ha, h⟩ := h
  obtain ⟨u, rfl, ru⟩ := vals1 r
  obtain rfl : u = Value.ref a := ru
  obtain ⟨f, fd, ps, hc, hs, hf, F, hb⟩ := c.ex
  obtain ⟨mA, J, _⟩ := ins_get I.hok ha
  obtain ⟨od, J, _⟩ := J.look
  have sp1 : PySem.W.Looks (model X.prog X.w) s.heap (specialOf (.ref a) "__len__") (some (.ref f)) := J.type.andThen (PySem.W.looks_findIn I.kIn hs)
  refine Calls.call_function_entry kind_len plain_len entry_len (args_len1 _) ?_
  unfold Builtin.«len»
  refine wpAny_bind (m := oneArg "len" _) (wpAny_pure ?_)
  refine wpAny_bind (m := callSpecial? (.ref a) (Str.ofString "__len__")) ?_
  unfold callSpecial?
  refine wpAny_bind (sp1.here ?_)
  refine wpAny_holding (wpAny_bind ((PySem.W.bind_fn I.kIn _ (beq_iff_eq.mp hf)).here ?_))
  have hrk : Room (k + 1) X.A := hr.mono hk
  have r2 : Vals [V.ref a] [Value.ref a] := .cons rfl .nil
  have hl := F.len _ _ _ _ h
  have bt := hb s [.ref a] I.kIn (by simpa using hl)
  refine wpAny_bind (wpAny_call (codeAny_mono (F.run X.A.in1 X.stack s H ⟨[.ref a], []⟩ [.ref a] [.ref a] _ C8.E0 hrk.in1 I.env0.in1 (by simpa using bt) r2 h) fun rs s2 z => ?_))
  match rs, z with
  | .error er, z => exact pass0 (X := X) pins σ H s er s2 I z
  | .ok (.ret v), z =>
    obtain ⟨y, H', I', ry, n, rfl, hn, q⟩ := I.after z
    obtain ⟨t, rfl⟩ : ∃ t, v = Value.int n t := ry
    refine wpAny_pure ?_
    refine wpAny_bind (wpAny_holding (wpAny_pure ?_))
    refine wpAny_bind (wpAny_letGo ?_)
    show wpAny _ _ (if ((n : Nat) : Int) < 0 then _ else _) _ _ _
    rw [if_neg (by omega)]
    show wpAny _ _ (if ((n : Nat) : Int) ≥ 2 ^ 63 then _ else _) _ _ _
    rw [if_neg (by omega)]
    exact wpAny_bind (wpAny_mkInt (wpAny_pure ⟨_, rfl, .int n, H', I'.tok _, ⟨_, rfl⟩, q⟩))
  | .ok .next, z => exact z.elim
  | .ok .brk, z => exact z.elim
  | .ok .cont, z => exact z.elim
end Fr

namespace Fr
open PySem PySem.Spec PyProof.Rows L2
/-- room, and nothing under repr -/
structure RoomG (k : Nat) (A : Around) : Prop where
  room : Room k A
  free : A.guards = some []
structure FnG (P : Program) (w : World) (K : PySem.W.Frag) (mg : Str → Option Value) (base : Heap) (k : Nat) (f : Addr) (fd : FuncData) (ps : List Str) (sp : Sp) : Prop where
  len : ∀ vs H Q E, sp vs H Q E → vs.length = ps.length
  go : ∀ (A : Around) (outer : List Env) (s : Shared) (H : Hp) (args : Args) (us : List Value) (vs : List V) (Q : VK) (E : XK), RoomG k A → Env0 P w K mg base A outer s H → BindsTo s fd args (ps.zip us) → Vals vs us → sp vs H Q E → codeAny (model P w) A (.call (.ref f) args) (CR CX0 outer P w H s Q E) s
section
variable {P : Program} {w : World} {K : PySem.W.Frag} {mg : Str → Option Value} {base : Heap}
/-- a def by its body -/
theorem fnG_of {k : Nat} {f : Addr} {x qual : Str} {pa : Arguments} {body : List Stmt} {sc : Scope} {dV kV doc pm cd ct oc : Value} {an od : Option Addr} {osl : Array (Option Value)} {N ps : List Str} {sp : Sp}
    (lk : K.lookup f = some ⟨oc, od, .func (PySem.W.fnOf x qual pa body sc dV kV doc pm an cd ct), osl⟩) (hcd : PySem.W.codeIn K cd qual = true) (S : FnScope N ps sc) (len : ∀ vs H Q E, sp vs H Q E → vs.length = ps.length)
    (hb : ∀ (A : Around) (outer : List Env) (s : Shared) (H : Hp) (vs : List V) (Q : VK) (E : XK), RoomG k (A.deeper (envOfC qual sc s.heap.objs.size f cd)) → sp vs H Q E → ∃ t, PSs (cxOf CX0 P w K mg base N qual sc f cd A outer s H E) body t ∧ t { nx := fun _ H' => Q .non H', rt := Q } (start N vs) H) :
    FnG P w K mg base (k + 1) f (PySem.W.fnOf x qual pa body sc dV kV doc pm an cd ct) ps sp where
  len := len
  go A outer s H args us vs Q E hr e0 bt rv hq := by
    have h1 : vs.length = ps.length := len _ _ _ _ hq
    have inK : K.In s.heap := e0.mod.kin.keeps fun b o z => (e0.bs b o z).1
    have noL : s.heap.NoLimit := e0.mod.nolimit.keeps fun b o z => (e0.bs b o z).1
    have kinds : ∀ y ∈ ps.zip us, sc.names.lookup y.1 = some .local ∨ (sc.names.lookup y.1 = some .cell ∧ ((cellsFrom (s.heap.objs.size + 1) sc.names []).lookup y.1).isSome = true) := by
      intro y hy
      obtain ⟨n, v⟩ := y
      cases S.par n (List.of_mem_zip hy).1 with
      | inl z => exact Or.inl z
      | inr z => exact Or.inr ⟨z, PySem.W.cellsFrom_some _ _ _ (Or.inl z)⟩
    refine codeAny_call_function hr.room.depth (inK _ _ lk) rfl S.co S.gen rfl (PySem.W.codeRec_of inK hcd) (bt _ _ _ _ (wpAny_newFunctionEnv_cells S.kind kinds ?_))
    rintro _ rfl s1 ic
    refine ⟨noL.keeps ic.toInCall.keep, codeAny_func ?_⟩
    obtain ⟨t, pt, ht⟩ := hb A outer s H vs Q E ⟨hr.room.deeper _, hr.free⟩ hq
    have I0 := inv_start (CX := CX0) (E := E) S hr.room.hd e0 h1 rv ic
    refine wpAny_mono (pt.run [] s1 (start N vs) H _ I0 ht) (fun fl s2 z => ?_) fun _ _ z => z
    cases fl with
    | next =>
      obtain ⟨_, H2, J, q⟩ := z
      exact ⟨V.non, H2, J.os, J.bare, J.base, J.hok, rfl, q⟩
    | ret u =>
      obtain ⟨v, _, H2, J, ru, q⟩ := z
      exact ⟨v, H2, J.os, J.bare, J.base, J.hok, ru, q⟩
    | brk => exact z.elim fun _ z => z.elim fun _ z => z.2.elim
    | cont => exact z.elim fun _ z => z.elim fun _ z => z.2.elim
theorem Fun_okG {x qual : Str} {st : Stmt} {f : Addr} {fd : FuncData} {N ps : List Str} {k : Nat} {sp : Sp} (F : Fun K x qual st f fd) (S : FnScope N ps (defScope st)) (len : ∀ vs H Q E, sp vs H Q E → vs.length = ps.length)
    (hb : ∀ (cd : Value) (A : Around) (outer : List Env) (s : Shared) (H : Hp) (vs : List V) (Q : VK) (E : XK), RoomG k (A.deeper (envOfC qual (defScope st) s.heap.objs.size f cd)) → sp vs H Q E →
      ∃ t, PSs (cxOf CX0 P w K mg base N qual (defScope st) f cd A outer s H E).nox (defBody st) t ∧ t { nx := fun _ H' => Q .non H', rt := Q } (start N vs) H) : FnG P w K mg base (k + 1) f fd ps sp := by
  obtain ⟨oc, od, kV, doc, pm, an, cd, ct, osl, rfl, lk, hcd⟩ := F.ex
  refine fnG_of lk hcd S len fun A outer s H vs Q E hr hq => ?_
  obtain ⟨t, pt, ht⟩ := hb cd A outer s H vs Q E hr hq
  exact ⟨t, pt.nox, ht⟩
/-- a def of this kind that may be called by its name -/
structure CalG (P : Program) (w : World) (K : PySem.W.Frag) (mg : Str → Option Value) (base : Heap) (k : Nat) (x : Str) (sp : Sp) : Prop where
  ex : ∃ (f : Addr) (fd : FuncData) (ps : List Str), FnG P w K mg base k f fd ps sp ∧ mg x = some (.ref f) ∧ PySem.W.keepIn K (.ref f) = true ∧ Binds K fd ps []
end
section
variable {X : Cx} {k j : Nat} {x : Str} {sp : Sp} {p pos : Pos} {e : Expr} {es : List Expr} {t : TA}
theorem pe_cG (c : CalG X.prog X.w X.K X.mg X.base k x sp) (hr : RoomG j X.A) (hk : k ≤ j) (hg : Gl X x) (ha : PA X (e :: es) t) (hdb : (x == ("__debug__" : Str)) = false := by decide)
    (he : starEach (e :: es) X.env = (false, eval e X.env) :: starEach es X.env := by rfl) (hpl : (backTo pos (starEach es X.env)).any (·.1) = false := by rfl) : PE X (.Call (.Name x p) (e :: es) [] pos) (tCall sp [] C8.E0 t) := by
  obtain ⟨f, fd, ps, F, hm, kp, hb⟩ := c.ex
  constructor
  intro pins s σ H Q I h
  refine wpAny_Call_Name_kw (ld_glob I hg hm (PySem.W.callWith_K (h₀ := X.base) I.ok.mod.kin kp (thn (ha.run pos pins s σ H _ I h) ?_) he hpl) hdb)
  rintro us s1 ⟨vs, H1, I1, r, q⟩
  refine ⟨I1.kIn, wpAny_call ?_⟩
  have r2 : Vals (vs ++ []) (us ++ []) := r.append .nil
  have hl : (us ++ ([] : List Value)).length = ps.length := r2.length.symm.trans (F.len _ _ _ _ q)
  refine codeAny_mono (F.go X.A X.stack s1 H1 ⟨us, []⟩ (us ++ []) (vs ++ []) Q C8.E0 ⟨hr.room.mono hk, hr.free⟩ I1.env0 (hb s1 us I1.kIn hl) r2 q) fun rs s2 z => ?_
  match rs, z with
  | .error er, z => exact pass0 (X := X) pins σ H1 s1 er s2 I1 z
  | .ok (.ret u), z => exact I1.after z
  | .ok .next, z => exact z.elim
  | .ok .brk, z => exact z.elim
  | .ok .cont, z => exact z.elim
/-- repr(e), e plain data -/
def rReprD (K : PySem.W.Frag) : List V → Hp → VK → Prop := fun xs H Q => ∃ (v : V) (d : PyData), xs = [v] ∧ Dp K H v d ∧ d.canLay0 = true ∧ d.showable = true ∧ d.depth ≤ 60 ∧ ((∃ i, d = .int i) ∨ d.shown.length ≤ sizeLine) ∧ Q (.str d.shown) H
theorem call_reprD (hg : X.A.guards = some []) (hu : X.A.units + 65 < cLine) : CallR X (.builtin "repr") (rReprD X.K) := by
  intro pins s σ H xs us Q I r h
  obtain ⟨v, d, rfl, hd, hc, hs, h6, hz, q⟩ := h
  obtain ⟨u, rfl, ru⟩ := vals1 r
  obtain ⟨as, rd⟩ := Dp.reads I d v u hd ru
  cases hd with
  | non =>
    cases (show u = Value.none from ru)
    simp only [PyData.shown] at q hz
    exact P.repr_of_none ⟨.str _, H, I.tok _, ⟨_, rfl⟩, q⟩
  | bl b =>
    cases (show u = Value.bool b from ru)
    simp only [PyData.shown] at q hz
    refine P.repr_of_bool ⟨.str _, H, I.tok _, ⟨_, rfl⟩, ?_⟩
    cases b <;> exact q
  | int i =>
    obtain ⟨t, rfl⟩ := (show ∃ t, u = Value.int i t from ru)
    simp only [PyData.shown] at q hz
    simp only [PyData.showable] at hs
    exact P.repr_of_int (of_decide_eq_true hs) ⟨.str _, H, I.tok _, ⟨_, rfl⟩, q⟩
  | str y =>
    obtain ⟨t, rfl⟩ := (show ∃ t, u = Value.str y t from ru)
    simp only [PyData.shown] at q hz
    exact P.repr_of_str ⟨.str _, H, I.tok _, ⟨_, rfl⟩, q⟩ (hz.resolve_left fun ⟨_, z⟩ => by cases z)
  | lst hq ha =>
    cases (show u = Value.ref _ from ru)
    exact repr_of_reads' rd hs (PyData.noDict_hsm (PyData.hasDict_of_canLay _ hc)) hg (by omega) (fun _ _ z => z) (fun h' t tk k => ⟨.str _, H, I.kept k, ⟨_, rfl⟩, q⟩) (hz.resolve_left fun ⟨_, z⟩ => by cases z)
  | tup hq ha =>
    cases (show u = Value.ref _ from ru)
    exact repr_of_reads' rd hs (PyData.noDict_hsm (PyData.hasDict_of_canLay _ hc)) hg (by omega) (fun _ _ z => z) (fun h' t tk k => ⟨.str _, H, I.kept k, ⟨_, rfl⟩, q⟩) (hz.resolve_left fun ⟨_, z⟩ => by cases z)
end
end Fr

namespace Fr
open PySem PySem.Spec PyProof.Rows L2
structure Shw (d : PyData) (k w : Nat) : Prop where
  lay : d.canLay0 = true
  sho : d.showable = true
  dep : d.depth ≤ k
  int : d.intsShort 13 = true
  wt : d.weight ≤ w
structure ShwA (ds : List PyData) (k w : Nat) : Prop where
  lay : PyData.canLayAll0 ds = true
  sho : PyData.showableAll ds = true
  dep : PyData.depthAll ds ≤ k
  int : PyData.intsShortAll 13 ds = true
  wt : PyData.weightAll ds ≤ w
theorem ShwA.nil {k : Nat} : ShwA [] k 0 := ⟨by simp [PyData.canLayAll0], by simp [PyData.showableAll], by simp [PyData.depthAll], by simp [PyData.intsShortAll], by simp [PyData.weightAll]⟩
theorem ShwA.cons {d : PyData} {ds : List PyData} {k w v u : Nat} (h : Shw d k w) (t : ShwA ds k v) (e : w + 1 + v ≤ u) : ShwA (d :: ds) k u :=
  ⟨by simp [PyData.canLayAll0, h.lay, t.lay], by simp [PyData.showableAll, h.sho, t.sho], by simp only [PyData.depthAll]; have := h.dep; have := t.dep; omega, by simp [PyData.intsShortAll, h.int, t.int],
    by simp only [PyData.weightAll]; have := h.wt; have := t.wt; omega⟩
theorem ShwA.c {d : PyData} {ds : List PyData} {k w v : Nat} (h : Shw d k w) (t : ShwA ds k v) : ShwA (d :: ds) k (w + 1 + v) := .cons h t (Nat.le_refl _)
theorem Shw.list {ds : List PyData} {k w : Nat} (h : ShwA ds k w) : Shw (.list ds) (k + 1) w :=
  ⟨by simp [PyData.canLay0, h.lay], by simp [PyData.showable, h.sho], by simp only [PyData.depth]; have := h.dep; omega, by simp [PyData.intsShort, h.int], by simp only [PyData.weight]; exact h.wt⟩
theorem Shw.tup {ds : List PyData} {k w : Nat} (h : ShwA ds k w) : Shw (.tuple ds) (k + 1) w :=
  ⟨by simp [PyData.canLay0, h.lay], by simp [PyData.showable, h.sho], by simp only [PyData.depth]; have := h.dep; omega, by simp [PyData.intsShort, h.int], by simp only [PyData.weight]; exact h.wt⟩
theorem Shw.one {i : Int} {k : Nat} (h : i.natAbs < 10 ^ 12) : Shw (.int i) k 40 := by
  have z := PyData.intsShortAll_ints [i] (by intro n hn; rw [List.mem_singleton.mp hn]; exact h)
  have hl : i.natAbs.log2 < 40 := by
    by_cases h0 : i.natAbs = 0
    · rw [h0]; decide
    · exact (Nat.log2_lt h0).mpr (Nat.lt_trans h (by decide))
  refine ⟨by simp [PyData.canLay0], by simp only [PyData.showable]; exact decide_eq_true (by omega), by simp [PyData.depth], ?_, ?_⟩
  · simp only [List.map_cons, List.map_nil, PyData.intsShortAll, Bool.and_eq_true] at z
    exact z.1
  · simp only [PyData.weight]
    split <;> omega
theorem Shw.str {x : Str} {k w : Nat} (h : PyData.strOk x = true) (e : x.length ≤ w) : Shw (.str x) k w :=
  ⟨by simpa [PyData.canLay0] using h, by simp [PyData.showable], by simp [PyData.depth], by simp [PyData.intsShort], by simp only [PyData.weight]; exact e⟩
theorem ShwA.map {α : Type} {f : α → PyData} {k w : Nat} : ∀ {xs : List α}, (∀ x ∈ xs, Shw (f x) k w) → ShwA (xs.map f) k (xs.length * (w + 1))
  | [], _ => by simpa using ShwA.nil
  | x :: xs, h => .cons (h x List.mem_cons_self) (ShwA.map fun y hy => h y (List.mem_cons_of_mem _ hy)) (by rw [List.length_cons, Nat.succ_mul]; omega)
theorem Shw.mono {d : PyData} {k w j v : Nat} (h : Shw d k w) (e : k ≤ j) (f : w ≤ v) : Shw d j v := ⟨h.lay, h.sho, Nat.le_trans h.dep e, h.int, Nat.le_trans h.wt f⟩
theorem ShwA.mono {d : List PyData} {k w j v : Nat} (h : ShwA d k w) (e : k ≤ j) (f : w ≤ v) : ShwA d j v := ⟨h.lay, h.sho, Nat.le_trans h.dep e, h.int, Nat.le_trans h.wt f⟩
/-- what repr asks -/
theorem Shw.asks {d : PyData} {k w : Nat} (h : Shw d k w) (e : k ≤ 60) (f : w ≤ 1000000) : d.canLay0 = true ∧ d.showable = true ∧ d.depth ≤ 60 ∧ ((∃ i, d = .int i) ∨ d.shown.length ≤ sizeLine) :=
  ⟨h.lay, h.sho, Nat.le_trans h.dep e, .inr (PyData.shown_fits (by decide) (by decide) (PyData.leavesShort_of_canLay0 13 d h.lay h.int) (Nat.le_trans h.wt (Nat.le_trans f (by decide))))⟩
theorem Shw.shaped {d : PyData} {k w : Nat} (h : Shw d k w) (e : k ≤ 60) : SeqAt.shaped d = true := by
  unfold SeqAt.shaped
  rw [h.lay, decide_eq_true (Nat.le_trans h.dep (Nat.le_trans e (by decide)))]
  rfl
end Fr

namespace Fr
open PySem PySem.Spec PyProof.Rows L2
def In2 (J1 : It) (g1 : TG) (tt1 : TT) (te : TE) (vs1 : List Nat) (D : Addr) (σ2 : L2.St) (H4 : Hp) (Nx : Hp → Prop) : Prop := ∃ W1 : Nat → Nat → Hp → Prop, (∃ m, W1 0 m H4) ∧ ∀ j k H, W1 j k H →
  (J1.stop j H ∧ Nx H) ∨ (J1.go j H ∧ ∃ Nx1 : Hp → Prop, (∀ H', Nx1 H' → ∃ k', k' < k ∧ W1 (j + 1) k' H') ∧ ∀ x H', J1.yld j H x H' → g1 x (wipe σ2 vs1) H' fun σ3 H5 => wipe σ3 vs1 = wipe σ2 vs1 ∧ tt1 σ3 H5 fun b H6 =>
    if b = true then te σ3 H6 fun y H7 => ∃ acc, H7 D = some (.lst acc) ∧ acc.length < sizeLine ∧ Nx1 (upd H7 D (.lst (acc ++ [y]))) else Nx1 H6)
theorem in2_mono {J1 : It} {g1 : TG} {tt1 : TT} {te : TE} {vs1 : List Nat} {D : Addr} {σ2 : L2.St} {H4 : Hp} {Nx Nx' : Hp → Prop} (h : In2 J1 g1 tt1 te vs1 D σ2 H4 Nx) (e : ∀ H, Nx H → Nx' H) : In2 J1 g1 tt1 te vs1 D σ2 H4 Nx' := by
  obtain ⟨W1, w0, st⟩ := h
  refine ⟨W1, w0, fun j k H w => ?_⟩
  rcases st j k H w with ⟨a, b⟩ | ⟨a, Nx1, b, c⟩
  · exact .inl ⟨a, e H b⟩
  · exact .inr ⟨a, Nx1, b, c⟩
theorem lc2_it {J : It} {n : Nat} {G : Hp → Prop} {Y : Nat → Hp → V → Hp → Prop} (w : Walk J n G Y) {g g1 : TG} {tt tt1 : TT} {wi1 : TI} {te : TE} {vs vs1 : List Nat} {σ : L2.St} {H1 : Hp} {D : Addr} {Qd : Hp → Prop} (Pv : Nat → Hp → Prop) (h0 : Pv 0 (upd H1 D (.lst []))) (hG : ∀ i H, i ≤ n → Pv i H → G H)
    (hs : ∀ i x H H', i < n → Pv i H → Y i H x H' → ∀ Nx : Hp → Prop, (∀ H, Pv (i + 1) H → Nx H) → g x (wipe σ vs) H' fun σ2 H2 => wipe σ2 vs = wipe σ vs ∧ tt σ2 H2 fun b H3 =>
      if b = true then wi1 σ2 H3 fun J1 H4 => In2 J1 g1 tt1 te vs1 D σ2 H4 Nx else Nx H3) (hd : ∀ H, Pv n H → Qd H) :
    ∃ W : Nat → Nat → Hp → Prop, (∃ m, W 0 m (upd H1 D (.lst []))) ∧ ∀ i m H, W i m H →
      (J.stop i H ∧ Qd H) ∨ (J.go i H ∧ ∃ Nx : Hp → Prop, (∀ H', Nx H' → ∃ m', m' < m ∧ W (i + 1) m' H') ∧ ∀ x H', J.yld i H x H' → g x (wipe σ vs) H' fun σ2 H2 => wipe σ2 vs = wipe σ vs ∧ tt σ2 H2 fun b H3 =>
        if b = true then wi1 σ2 H3 fun J1 H4 => In2 J1 g1 tt1 te vs1 D σ2 H4 Nx else Nx H3) := by
  refine ⟨fun i m H => m = n - i ∧ i ≤ n ∧ Pv i H, ⟨n, by simp, Nat.zero_le _, h0⟩, ?_⟩
  rintro i m H ⟨rfl, hi, p⟩
  have q := hG i H hi p
  by_cases hlt : i < n
  · exact .inr ⟨w.goes i H hlt q, Pv (i + 1), fun H' p' => ⟨n - (i + 1), by omega, rfl, hlt, p'⟩, fun x H' y => hs i x H H' hlt p (w.yields i H x H' hlt q y) _ fun _ h => h⟩
  · have e : i = n := by omega
    subst e
    exact .inl ⟨w.stops H q, hd H p⟩
theorem in2_it {J1 : It} {n : Nat} {G : Hp → Prop} {Y : Nat → Hp → V → Hp → Prop} (w : Walk J1 n G Y) {g1 : TG} {tt1 : TT} {te : TE} {vs1 : List Nat} {D : Addr} {σ2 : L2.St} {H4 : Hp} {Nx : Hp → Prop} (Pv : Nat → Hp → Prop) (h0 : Pv 0 H4) (hG : ∀ i H, i ≤ n → Pv i H → G H)
    (hs : ∀ i x H H', i < n → Pv i H → Y i H x H' → g1 x (wipe σ2 vs1) H' fun σ3 H5 => wipe σ3 vs1 = wipe σ2 vs1 ∧ tt1 σ3 H5 fun b H6 =>
      if b = true then te σ3 H6 fun y H7 => ∃ acc, H7 D = some (.lst acc) ∧ acc.length < sizeLine ∧ Pv (i + 1) (upd H7 D (.lst (acc ++ [y]))) else Pv (i + 1) H6) (hd : ∀ H, Pv n H → Nx H) : In2 J1 g1 tt1 te vs1 D σ2 H4 Nx := by
  refine ⟨fun i m H => m = n - i ∧ i ≤ n ∧ Pv i H, ⟨n, by simp, Nat.zero_le _, h0⟩, ?_⟩
  rintro i m H ⟨rfl, hi, p⟩
  have q := hG i H hi p
  by_cases hlt : i < n
  · exact .inr ⟨w.goes i H hlt q, Pv (i + 1), fun H' p' => ⟨n - (i + 1), by omega, rfl, hlt, p'⟩, fun x H' y => hs i x H H' hlt p (w.yields i H x H' hlt q y)⟩
  · have e : i = n := by omega
    subst e
    exact .inl ⟨w.stops H q, hd H p⟩
theorem unlock {H H' : Hp} {t : Addr} {od : PySem.Obj} {u : HO} (h : H t = some u) (s : Same (upd H t (.frz od u)) H') : Same H (upd H' t u) := fun b o e => by
  by_cases hb : b = t
  · rw [hb, upd_same]
    rw [hb, h] at e
    exact e
  · rw [upd_ne hb]
    exact s b o (by rw [upd_ne hb]; exact e)
theorem st_unlock {B H' : Hp} {t : Addr} {u v : HO} (s : Same B H') (h : B t = some u) (n : tupo u = false) : ST B (upd H' t v) := fun b o e d => by
  have hb : b ≠ t := fun z => by
    rw [z, h] at e
    cases e
    rw [n] at d
    cases d
  rw [upd_ne hb]
  exact s b o e
def nrD (x : Str × Nat) : PyData := .tuple [.str x.1, .int (x.2 : Nat)]
def nam1 (t : Tb) : List (Str × Nat) := (List.range t.rs.length).map fun i => (t.n, i)
def named (ts : List Tb) : List (Str × Nat) := ts.flatMap nam1
theorem named_take {ts : List Tb} {i : Nat} {t : Tb} (h : ts[i]? = some t) : named (ts.take (i + 1)) = named (ts.take i) ++ nam1 t := by
  unfold named
  rw [List.take_add_one, h, List.flatMap_append]
  simp
theorem named_len (ts : List Tb) : (named ts).length = (ts.map fun t => t.rs.length).sum := by
  unfold named
  rw [List.length_flatMap]
  congr 1
  refine List.map_congr_left fun t _ => ?_
  unfold nam1
  rw [List.length_map, List.length_range]
theorem mem_named {ts : List Tb} {x : Str} {i : Nat} : (x, i) ∈ named ts ↔ ∃ t ∈ ts, t.n = x ∧ i < t.rs.length := by
  unfold named nam1
  rw [List.mem_flatMap]
  constructor
  · rintro ⟨t, ht, h⟩
    obtain ⟨j, hj, e⟩ := List.mem_map.mp h
    cases e
    exact ⟨t, ht, rfl, List.mem_range.mp hj⟩
  · rintro ⟨t, ht, rfl, h⟩
    exact ⟨t, ht, List.mem_map.mpr ⟨i, List.mem_range.mpr h, rfl⟩⟩
theorem noL_nr (x : Str × Nat) : noL (nrD x) = true := rfl
theorem noL_tb_k (t : Tb) : noL t.k = true := noL_k t
theorem LD.ext {K : PySem.W.Frag} {H H' : Hp} {l : Addr} {ds : List PyData} (h : LD K H l ds) (e : LamX.ExtN H H') : LD K H' l ds := by
  obtain ⟨xs, h1, h2⟩ := h
  exact ⟨xs, e _ _ h1 (fun ps z => by cases z), dpsd (SD.ext e) _ _ h2⟩
theorem LD.st {K : PySem.W.Frag} {H H' : Hp} {l : Addr} {ds : List PyData} (h : LD K H l ds) (e : ST H H') (n : noLs ds = true) (f : H' l = H l) : LD K H' l ds := by
  obtain ⟨xs, h1, h2⟩ := h
  exact ⟨xs, by rw [f, h1], dpst e _ _ n h2⟩
theorem name_ok {x : Str} (h : isName x = true) : PyData.strOk x = true ∧ x.length ≤ 8 := by
  unfold isName at h
  rw [Bool.and_eq_true, Bool.and_eq_true] at h
  refine ⟨?_, by have := of_decide_eq_true h.1.2; omega⟩
  unfold PyData.strOk
  rw [Array.all_eq_true_iff_forall_mem]
  intro c hc
  have z := List.all_eq_true.mp h.2 c (Array.mem_toList_iff.mpr hc)
  unfold okSign at z
  rw [Bool.and_eq_true] at z
  have z2 : ¬ ([122] < [c]) := by simpa using z.2
  have : ¬ (122 < c) := fun q => z2 (by rw [List.cons_lt_cons_iff]; exact Or.inl q)
  exact decide_eq_true (by omega)
structure Lay (d : PyData) (k : Nat) : Prop where
  lay : d.canLay0 = true
  dep : d.depth ≤ k
structure LayA (ds : List PyData) (k : Nat) : Prop where
  lay : PyData.canLayAll0 ds = true
  dep : PyData.depthAll ds ≤ k
theorem LayA.nil {k : Nat} : LayA [] k := ⟨by simp [PyData.canLayAll0], by simp [PyData.depthAll]⟩
theorem LayA.cons {d : PyData} {ds : List PyData} {k : Nat} (h : Lay d k) (t : LayA ds k) : LayA (d :: ds) k := ⟨by simp [PyData.canLayAll0, h.lay, t.lay], by simp only [PyData.depthAll]; have := h.dep; have := t.dep; omega⟩
theorem LayA.map {α : Type} {f : α → PyData} {k : Nat} : ∀ {xs : List α}, (∀ x ∈ xs, Lay (f x) k) → LayA (xs.map f) k
  | [], _ => .nil
  | x :: xs, h => .cons (h x List.mem_cons_self) (LayA.map fun y hy => h y (List.mem_cons_of_mem _ hy))
theorem Lay.int {i : Int} {k : Nat} : Lay (.int i) k := ⟨by simp [PyData.canLay0], by simp [PyData.depth]⟩
theorem Lay.str {x : Str} {k : Nat} (h : PyData.strOk x = true) : Lay (.str x) k := ⟨by simpa [PyData.canLay0] using h, by simp [PyData.depth]⟩
theorem Lay.list {ds : List PyData} {k : Nat} (h : LayA ds k) : Lay (.list ds) (k + 1) := ⟨by simp [PyData.canLay0, h.lay], by simp only [PyData.depth]; have := h.dep; omega⟩
theorem Lay.tup {ds : List PyData} {k : Nat} (h : LayA ds k) : Lay (.tuple ds) (k + 1) := ⟨by simp [PyData.canLay0, h.lay], by simp only [PyData.depth]; have := h.dep; omega⟩
theorem Lay.shaped {d : PyData} {k : Nat} (h : Lay d k) (e : k ≤ 60) : SeqAt.shaped d = true := by
  unfold SeqAt.shaped
  rw [h.lay, decide_eq_true (Nat.le_trans h.dep (Nat.le_trans e (by decide)))]
  rfl
theorem lay_rd {d : Int} {r : Rd1} (h : isRead d r = true) : Lay r.d 2 := by
  unfold isRead at h
  rw [Bool.and_eq_true] at h
  exact .tup (.cons (.str (name_ok h.1).1) (.cons (.tup (.map fun _ _ => .int)) (.cons .int .nil)))
theorem lay_k {d : Int} {ts : List Tb} (O : OkT d ts) {t : Tb} (h : t ∈ ts) : Lay t.k 4 := .tup (.cons .int (.cons (.tup (.map fun r hr => lay_rd (O.reads t h r hr))) .nil))
theorem lay_tb {d : Int} {ts : List Tb} (O : OkT d ts) {t : Tb} (h : t ∈ ts) : Lay t.d 4 := .tup (.cons (.str (name_ok (O.names t h)).1) (.cons .int (.cons (.list (.map fun r hr => lay_rd (O.reads t h r hr))) .nil)))
theorem lay_nr {x : Str × Nat} (h : isName x.1 = true) : Lay (nrD x) 1 := .tup (.cons (.str (name_ok h).1) (.cons .int .nil))
theorem lay_named {d : Int} {ts : List Tb} (O : OkT d ts) {x : Str × Nat} (h : x ∈ named ts) : Lay (nrD x) 1 := by
  obtain ⟨t, ht, e, _⟩ := mem_named.mp (show (x.1, x.2) ∈ named ts from h)
  exact lay_nr (by rw [← e]; exact O.names t ht)
theorem eqv_nr (a b : Str × Nat) : PyData.eqv (nrD a) (nrD b) = decide (a = b) := by
  obtain ⟨x, i⟩ := a
  obtain ⟨y, j⟩ := b
  unfold nrD
  simp only [PyData.eqv, PyData.eqvAll, Bool.and_true]
  by_cases h1 : x = y
  · by_cases h2 : i = j
    · subst h1 h2
      simp
    · have : ¬ ((i : Int) = (j : Int)) := by omega
      simp [h2, this]
  · simp [h1]
theorem KvAt.ext {K : PySem.W.Frag} {H H' : Hp} (e : LamX.ExtN H H') {kvs : List (Key × V)} {ts : List Tb} (h : KvAt K H kvs ts) : KvAt K H' kvs ts := h.monoD (SD.ext e)
theorem SysAt.ext {K : PySem.W.Frag} {C : Addr} {H H' : Hp} {s : Addr} {d m : Int} {ts : List Tb} (e : LamX.ExtN H H') (h : SysAt K C H s d m ts) : SysAt K C H' s d m ts := by
  obtain ⟨dx, t, kvs, h1, h2, h3⟩ := h.ob
  exact ⟨dx, t, kvs, e _ _ h1 (fun ps z => by cases z), e _ _ h2 (fun ps z => by cases z), h3.ext e⟩
def tabEq (ts us : List Tb) : Bool := ts.length == us.length && ts.all fun t => match us.find? (fun u => decide (u.n = t.n)) with
  | none => false
  | some u => PyData.eqv t.k u.k
theorem kvEq_of {K : PySem.W.Frag} {H : Hp} {ls : List (Key × V)} {us : List Tb} (hl : KvAt K H ls us) (su : ∀ u ∈ us, SeqAt.shaped u.k = true) : ∀ {ks : List (Key × V)} {ts : List Tb}, KvAt K H ks ts → (∀ t ∈ ts, SeqAt.shaped t.k = true) →
    KvEq K H ls ks (ts.all fun t => match us.find? (fun u => decide (u.n = t.n)) with
      | none => false
      | some u => PyData.eqv t.k u.k)
  | [], _, h, _ => by
    cases h
    exact .nil
  | (k, v) :: ks, _, h, st => by
    cases h with
    | @cons _ t _ ts h1 h2 =>
      obtain ⟨e1, e2⟩ := h1
      have e1 : k = Sum.inr t.n := e1
      subst e1
      have ih := kvEq_of hl su h2 fun t ht => st t (List.mem_cons_of_mem _ ht)
      rw [List.all_cons]
      cases hf : us.find? (fun u => decide (u.n = t.n)) with
      | none =>
        refine .miss (hl.noVal fun hm => ?_)
        obtain ⟨u, hu, e⟩ := List.mem_map.mp hm
        have z := List.find?_eq_none.mp hf u hu
        exact z (decide_eq_true e)
      | some u =>
        obtain ⟨y, y1, y2⟩ := hl.get hf
        exact .hit y1 e2 y2 (st t List.mem_cons_self) (su u (List.mem_of_find?_eq_some hf)) ih
theorem find_nodup' {ts : List Tb} (hn : (ts.map (·.n)).Nodup) {t : Tb} (h : t ∈ ts) : ts.find? (fun u => decide (u.n = t.n)) = some t := find_nodup hn h rfl
theorem tabEq_refl {ts : List Tb} (hn : (ts.map (·.n)).Nodup) (st : ∀ t ∈ ts, SeqAt.shaped t.k = true) : tabEq ts ts = true := by
  unfold tabEq
  rw [Bool.and_eq_true]
  refine ⟨by simp, List.all_eq_true.mpr fun t ht => ?_⟩
  rw [find_nodup' hn ht]
  exact SeqAt.eqv_refl _ (SeqAt.canLay_of_shaped (st t ht))
end Fr

namespace Fr
open PySem PySem.Spec PyProof.Rows L2
theorem ltCps_iff : ∀ a b : List Nat, ltCps a b = true ↔ a < b
  | [], [] => by simp [ltCps]
  | [], b :: t => by simp [ltCps]
  | a :: r, [] => by simp [ltCps]
  | a :: r, b :: t => by
    rw [List.cons_lt_cons_iff, ← ltCps_iff r t]
    simp [ltCps]
theorem rising_pw : ∀ (l : List Str) (p : Str), risingS p l = true → (p :: l).Pairwise fun a b => a.cps.toList ≤ b.cps.toList
  | [], p, _ => by simp
  | x :: r, p, h => by
    unfold risingS at h
    rw [Bool.and_eq_true] at h
    have ih := rising_pw r x h.2
    have hx : p.cps.toList ≤ x.cps.toList := fun z => by
      have := (ltCps_iff x.cps.toList p.cps.toList).mpr z
      rw [this] at h
      exact Bool.noConfusion h.1
    rw [List.pairwise_cons]
    refine ⟨fun y hy => ?_, ih⟩
    rcases List.mem_cons.mp hy with rfl | hy
    · exact hx
    · exact List.le_trans hx ((List.pairwise_cons.mp ih).1 y hy)
theorem sorted_pw {l : List Str} (h : sortedS l = true) : l.Pairwise fun a b => a.cps.toList ≤ b.cps.toList := by
  cases l with
  | nil => exact .nil
  | cons x r => exact rising_pw r x h
theorem str_antisymm {a b : Str} (h : a.cps.toList ≤ b.cps.toList) (k : b.cps.toList ≤ a.cps.toList) : a = b := by
  have e := List.le_antisymm h k
  obtain ⟨a⟩ := a
  obtain ⟨b⟩ := b
  have e : a.toList = b.toList := e
  rw [Array.toList_inj.mp e]
theorem srt_pw (ts : List Tb) : ((srt ts).map (·.n)).Pairwise fun a b => a.cps.toList ≤ b.cps.toList := by
  rw [List.pairwise_map]
  have h := List.pairwise_mergeSort (le := leK Tb.n) (fun a b c h1 h2 => decide_eq_true (List.le_trans (of_decide_eq_true h1) (of_decide_eq_true h2))) (fun a b => by
    unfold leK
    rw [Bool.or_eq_true, decide_eq_true_eq, decide_eq_true_eq]
    exact List.le_total _ _) ts
  exact h.imp fun h => of_decide_eq_true h
theorem srt_perm (ts : List Tb) : (srt ts).Perm ts := List.mergeSort_perm ts (leK Tb.n)
theorem sorted_names {ys : List Str} {ts : List Tb} (p : ys.Perm (ts.map (·.n))) (h : sortedS ys = true) : ys = (srt ts).map (·.n) :=
  List.Perm.eq_of_pairwise (fun _ _ _ _ h k => str_antisymm h k) (sorted_pw h) (srt_pw ts) (p.trans ((srt_perm ts).map (·.n)).symm)
/-- one order alone -/
theorem srt_same {ts us : List Tb} (p : ts.Perm us) (n : (ts.map (·.n)).Nodup) : srt ts = srt us := by
  have e : (srt ts).map (·.n) = (srt us).map (·.n) := List.Perm.eq_of_pairwise (fun _ _ _ _ h k => str_antisymm h k) (srt_pw ts) (srt_pw us) ((((srt_perm ts).trans p).trans (srt_perm us).symm).map (·.n))
  have hp : (srt ts).Perm (srt us) := ((srt_perm ts).trans p).trans (srt_perm us).symm
  have hl : (srt ts).length = (srt us).length := hp.length_eq
  refine List.ext_getElem? fun i => ?_
  cases h : (srt ts)[i]? with
  | none =>
    rw [List.getElem?_eq_none_iff] at h
    rw [List.getElem?_eq_none (by omega)]
  | some t =>
    have hi : i < (srt us).length := by
      have := (List.getElem?_eq_some_iff.mp h).1
      omega
    rw [List.getElem?_eq_getElem hi]
    have h1 : ((srt us).map (·.n))[i]? = some t.n := by rw [← e, List.getElem?_map, h]; rfl
    rw [List.getElem?_map, List.getElem?_eq_getElem hi] at h1
    have h2 : ((srt us)[i]).n = t.n := Option.some.inj h1
    have m1 : t ∈ srt us := hp.mem_iff.mp (List.mem_of_getElem? h)
    have m2 : (srt us)[i] ∈ srt us := List.getElem_mem hi
    have nn : ((srt us).map (·.n)).Nodup := (((srt_perm us).trans p.symm).map (·.n)).nodup_iff.mpr n
    have f1 := find_nodup (x := t.n) nn m1 rfl
    have f2 := find_nodup (x := t.n) nn m2 h2
    rw [f1] at f2
    exact f2
end Fr

namespace Fr
open PySem PySem.Spec PyProof.Rows L2
abbrev s_System_len : Stmt := inClass (topS 28) 1
theorem sc_System_len : FnScope ["self"] ["self"] (defScope s_System_len) := ⟨rfl, rfl, rfl, by decide +kernel, rfl, by decide +kernel, by decide +kernel⟩
-- slots: 0 self
abbrev s_System_eq : Stmt := inClass (topS 28) 2
theorem sc_System_eq : FnScope ["self", "other"] ["self", "other"] (defScope s_System_eq) := ⟨rfl, rfl, rfl, by decide +kernel, rfl, by decide +kernel, by decide +kernel⟩
-- slots: 0 self, 1 other
abbrev s_System_constant : Stmt := inClass (topS 28) 6
theorem sc_System_constant : FnScope ["self", "name"] ["self", "name"] (defScope s_System_constant) := ⟨rfl, rfl, rfl, by decide +kernel, rfl, by decide +kernel, by decide +kernel⟩
-- slots: 0 self, 1 name
abbrev s_System_all_reads : Stmt := inClass (topS 28) 8
theorem sc_System_all_reads : FnScope ["self", "name", "number"] ["self"] (defScope s_System_all_reads) := ⟨rfl, rfl, rfl, by decide +kernel, rfl, by decide +kernel, by decide +kernel⟩
-- slots: 0 self, 1 name, 2 number
abbrev s_Systemwith_tables : Stmt := inClass (topS 28) 15
theorem sc_Systemwith_tables : FnScope ["self", "tables", "made", "name"] ["self", "tables"] (defScope s_Systemwith_tables) := ⟨rfl, rfl, rfl, by decide +kernel, rfl, by decide +kernel, by decide +kernel⟩
-- slots: 0 self, 1 tables, 2 made, 3 name
section
variable {P : Program} {w : World} {K : PySem.W.Frag} {mg : Str → Option Value} {base : Heap}
def spLenS (K : PySem.W.Frag) (C : Addr) : Sp := fun vs H Q _ => ∃ (s : Addr) (d m : Int) (ts : List Tb), vs = [.ref s] ∧ SysAt K C H s d m ts ∧ Q (.int (ts.length : Nat)) H
theorem ok_lenS {f C : Addr} {fd : FuncData} (F : Fun K "__len__" "System.__len__" s_System_len f fd) (T : Txt mg) (TC : TxtC K mg C) : FnOk P w K mg base CX0 1 f fd ["self"] (spLenS K C) := by
  refine F.ok sc_System_len (fun vs H Q E h => ?_) (fun cdv A outer s H vs Q E hr h => ?_)
  · obtain ⟨s, d, m, ts, rfl, _⟩ := h
    rfl
  · obtain ⟨s, d, m, ts, rfl, S, q⟩ := h
    refine ⟨_, (pss_one (ps_ret (pe_callB call_lenD (by rfl) T.b_len PySem.boot_len (pa_cons (pe_fld (pv 0) rfl) pa_nil)))), ?_⟩
    obtain ⟨dx, t, kvs, h1, h2, h3⟩ := S.ob
    refine ⟨_, rfl, s, C, dx, _, _, rfl, h1, TC.cl, TC.nT, flds_t _ _ _, t, kvs, rfl, h2, ?_⟩
    rw [h3.len]
    exact q
def spSysEq (K : PySem.W.Frag) (C : Addr) : Sp := fun vs H Q _ => ∃ (a b : Addr) (d m d' m' : Int) (ts us : List Tb), vs = [.ref a, .ref b] ∧ SysAt K C H a d m ts ∧ SysAt K C H b d' m' us ∧ (∀ t ∈ ts, SeqAt.shaped t.k = true) ∧ (∀ t ∈ us, SeqAt.shaped t.k = true) ∧
  Q (.bl (decide (d = d') && (decide (m = m') && tabEq ts us))) H
theorem dec_int (a b : Int) : decide (V.int a = V.int b) = decide (a = b) := decide_eq_decide.mpr ⟨fun h => V.int.inj h, fun h => congrArg V.int h⟩
theorem ok_eqS {f C : Addr} {fd : FuncData} (F : Fun K "__eq__" "System.__eq__" s_System_eq f fd) (T : Txt mg) (TC : TxtC K mg C) (zi : mg "isinstance" = none) (isC : C8.InsC K C) : FnOk P w K mg base CX0 1 f fd ["self", "other"] (spSysEq K C) := by
  refine F.ok sc_System_eq (fun vs H Q E h => ?_) (fun cdv A outer s H vs Q E hr h => ?_)
  · obtain ⟨a, b, d, m, d', m', ts, us, rfl, _⟩ := h
    rfl
  · obtain ⟨a, b, d, m, d', m', ts, us, rfl, S, S', st, su, q⟩ := h
    refine ⟨_, (pss_one (ps_ret (pe_and (pe_callB (C8.call_isC isC) (by rfl) zi (by decide +kernel) (pa_cons (pv 1) (pa_cons (pe_glob (v := .ref C) (by rfl) TC.g_System rfl) pa_nil))) (pe_and (pe_cmpR op_eq (pe_fld (pv 0) rfl) (pe_fld (pv 1) rfl) (nomark _)) (pe_and (pe_cmpR op_eq (pe_fld (pv 0) rfl) (pe_fld (pv 1) rfl) (nomark _)) (pe_one (pe_cmpR (op_eqKv hr.units1) (pe_fld (pv 0) rfl) (pe_fld (pv 1) rfl) (nomark _)))))))), ?_⟩
    obtain ⟨dx, t, kvs, h1, h2, h3⟩ := S.ob
    obtain ⟨dx', t', kvs', h1', h2', h3'⟩ := S'.ob
    refine ⟨_, rfl, b, dx', _, rfl, h1', _, rfl, iteT ?_⟩
    refine ⟨_, rfl, a, C, dx, _, _, rfl, h1, TC.cl, TC.nD, flds_d _ _ _, _, rfl, b, C, dx', _, _, rfl, h1', TC.cl, TC.nD, flds_d _ _ _, rfl, _, rfl, ?_⟩
    rw [dec_int]
    cases e1 : decide (d = d') with
    | false =>
      rw [e1] at q
      exact iteF q
    | true =>
      rw [e1, Bool.true_and] at q
      refine iteT ?_
      refine ⟨_, rfl, a, C, dx, _, _, rfl, h1, TC.cl, TC.nM, flds_m _ _ _, _, rfl, b, C, dx', _, _, rfl, h1', TC.cl, TC.nM, flds_m _ _ _, rfl, _, rfl, ?_⟩
      rw [dec_int]
      cases e2 : decide (m = m') with
      | false =>
        rw [e2] at q
        exact iteF q
      | true =>
        rw [e2, Bool.true_and] at q
        refine iteT ?_
        refine ⟨_, rfl, a, C, dx, _, _, rfl, h1, TC.cl, TC.nT, flds_t _ _ _, _, rfl, b, C, dx', _, _, rfl, h1', TC.cl, TC.nT, flds_t _ _ _, t, t', kvs, kvs', _, rfl, rfl, h2, h2', fun _ => kvEq_of h3' su h3 st, ?_⟩
        unfold tabEq at q
        rw [h3.len, h3'.len]
        exact q
def spConst (K : PySem.W.Frag) (C : Addr) : Sp := fun vs H Q _ => ∃ (s : Addr) (d m : Int) (ts : List Tb) (x : Str) (tb : Tb), vs = [.ref s, .str x] ∧ SysAt K C H s d m ts ∧ x ∈ ts.map (·.n) ∧ ts.find? (fun t => decide (t.n = x)) = some tb ∧ ∀ H', Same H H' → Q (.int tb.c) H'
theorem ok_const {f C : Addr} {fd : FuncData} (F : Fun K "constant" "System.constant" s_System_constant f fd) (T : Txt mg) (TC : TxtC K mg C) (c_check_table : C8.Cal P w K mg base 3 "check_table" (spCheckTable K C) []) : FnOk P w K mg base CX0 4 f fd ["self", "name"] (spConst K C) := by
  refine F.ok sc_System_constant (fun vs H Q E h => ?_) (fun cdv A outer s H vs Q E hr h => ?_)
  · obtain ⟨s, d, m, ts, x, tb, rfl, _⟩ := h
    rfl
  · obtain ⟨s, d, m, ts, x, tb, rfl, S, hx, hf, q⟩ := h
    have hu := hu_of hr
    refine ⟨_, (pss_cons (ps_expr (C8.pe_c c_check_table hr (by decide) (by rfl) (pa_cons (pv 0) (pa_cons (pv 1) pa_nil))))
  (pss_one (ps_ret (pe_ix ix_tup (pe_dget hu (pe_fld (pv 0) rfl) (pv 1) (fun _ _ => rfl)) pe_int (fun _ _ => rfl))))), ?_⟩
    refine ⟨_, rfl, _, rfl, s, d, m, ts, x, rfl, S, hx, fun H1 sm => ?_⟩
    obtain ⟨dx, t, kvs, h1, h2, h3⟩ := (S.mono sm).ob
    obtain ⟨v, e1, e2⟩ := h3.get hf
    obtain ⟨a, ys, rfl, ht, hd⟩ := dtup e2
    obtain ⟨y1, y2, rfl, g1, g2⟩ := dps2 hd
    obtain rfl := dint g1
    refine ⟨_, rfl, s, C, dx, _, _, rfl, h1, TC.cl, TC.nT, flds_t _ _ _, _, rfl, t, _, rfl, ?_, a, _, 0, _, rfl, rfl, ht, rfl, q H1 sm⟩
    have g := DGet.k (k := Sum.inr x) h2
    rw [e1] at g
    exact g
def spAll (K : PySem.W.Frag) (C : Addr) : Sp := fun vs H Q _ => ∃ (s : Addr) (d m : Int) (ts : List Tb), vs = [.ref s] ∧ SysAt K C H s d m ts ∧ (ts.map (·.n)).Nodup ∧ (ts.map fun t => t.rs.length).sum ≤ 1000 ∧ ∀ p H', H p = none → Same H H' → LD K H' p ((named ts).map nrD) → Q (.ref p) H'
theorem DGet.frz {H : Hp} {a : Addr} {o : PySem.Obj} {kvs : List (Key × V)} {k : Key} (e : H a = some (.frz o (.dK kvs))) : DGet H a (kV k) (valV kvs k) := .inl ⟨kvs, k, .inr ⟨o, e⟩, rfl, rfl⟩
theorem kv_at {H : Hp} : ∀ {kvs : List (Key × V)} {ts : List Tb} {i : Nat} {k : Key} {v : V}, KvAt K H kvs ts → kvs[i]? = some (k, v) → ∃ t, ts[i]? = some t ∧ k = Sum.inr t.n ∧ Dp K H v t.k
  | [], _, _, _, _, h, e => by cases e
  | p :: kvs, _, 0, k, v, h, e => by
    cases h with
    | cons h1 h2 =>
      cases e
      exact ⟨_, rfl, h1⟩
  | p :: kvs, _, i + 1, k, v, h, e => by
    cases h with
    | cons h1 h2 => exact kv_at (i := i) h2 (by simpa using e)
theorem st_upd {H : Hp} {t : Addr} {u v : HO} (h : H t = some u) (n : tupo u = false) : ST H (upd H t v) := fun b o e d => by
  have hb : b ≠ t := fun z => by
    rw [z, h] at e
    cases e
    rw [n] at d
    cases d
  rw [upd_ne hb]
  exact e
theorem ok_all {f C : Addr} {fd : FuncData} (F : Fun K "all_reads" "System.all_reads" s_System_all_reads f fd) (T : Txt mg) (TC : TxtC K mg C) : FnOk P w K mg base CX0 1 f fd ["self"] (spAll K C) := by
  refine F.ok sc_System_all_reads (fun vs H Q E h => ?_) (fun cdv A outer sh H vs Q E hr h => ?_)
  · obtain ⟨s, d, m, ts, rfl, _⟩ := h
    rfl
  · obtain ⟨s, d, m, ts, rfl, S, hn, hfew, q⟩ := h
    have hu := hu_of hr
    refine ⟨_, (pss_one (ps_ret (pe_lock (pe_lc2 (own := [("name", 1), ("number", 2)]) (vs1 := [2]) (g := gName 1) (g1 := gName 2) (tt := tYes) (tt1 := tYes) (by rfl) sc_System_all_reads.nd (pi_keys (pe_fld (pv 0) rfl)) (blkOk_by (N := ["self", "name", "number"]) (sc := defScope s_System_all_reads) (by decide +kernel)) (by decide) (fun _ _ _ _ _ => (pg_name (i := 1) sc_System_all_reads.nd rfl (by first | exact Or.inl rfl | exact Or.inr rfl))) (fun _ _ _ _ _ => pts_nil) (fun _ _ _ _ _ => (pi_range1 (by rfl) T.b_range (pa_cons (pe_callB (r := Evl.rLenS K) call_len_seq (by rfl) T.b_len PySem.boot_len (pa_cons (pe_ix (r := rIxT K) ix_tup (pe_dget hu (pe_fldK (K' := K) (pv 0)) (pv 1) (fun _ _ => rfl)) pe_int (fun _ _ => rfl)) pa_nil)) pa_nil))) (fun _ _ _ _ _ => (pg_name (i := 2) sc_System_all_reads.nd rfl (by first | exact Or.inl rfl | exact Or.inr rfl))) (fun _ _ _ _ _ => pts_nil) (fun _ _ _ _ _ => (pe_tup (pa_cons (pv 1) (pa_cons (pv 2) pa_nil)))))))), ?_⟩
    obtain ⟨dx, t, kvs, h1, h2, h3⟩ := S.ob
    have nst : s ≠ t := fun z => by
      rw [z, h2] at h1
      cases h1
    refine ⟨t, .dK kvs, h2, True.intro, fun od => ?_⟩
    have l1 : (upd H t (.frz od (.dK kvs))) s = some (.ins C dx (flds d m t)) := by rw [upd_ne nst]; exact h1
    have l2 : (upd H t (.frz od (.dK kvs))) t = some (.frz od (.dK kvs)) := upd_same
    have l3 : KvAt K (upd H t (.frz od (.dK kvs))) kvs ts := kvt (st_upd h2 rfl) h3
    have back : ∀ H', Same (upd H t (.frz od (.dK kvs))) H' → Same H (upd H' t (.dK kvs)) := fun H' e => unlock h2 e
    generalize hL : upd H t (.frz od (.dK kvs)) = HL at l1 l2 l3 back
    refine ⟨_, rfl, s, C, dx, _, _, rfl, l1, TC.cl, TC.nT, flds_t _ _ _, t, od, rfl, Or.inl ⟨kvs, l2, fun D hD => ?_⟩⟩
    refine lc2_it (walk_keys (o := od) (d := t) (kvs := kvs)) (fun i H' => ∃ (B : Hp) (xs : List V), Same HL B ∧ B D = none ∧ Same B H' ∧ H' D = some (.lst xs) ∧ DpAll K B xs ((named (ts.take i)).map nrD))
      ⟨HL, [], same_refl, hD, snew hD, upd_same, .nil⟩ (fun i H' _ ⟨B, xs, b1, _, b3, _⟩ => b3 _ _ (b1 _ _ l2)) ?_ ?_
    · rintro i x Hi _ hi ⟨B, xs, b1, b2, b3, b4, b5⟩ ⟨rfl, k, v, hk, rfl⟩ Nx hNx
      obtain ⟨tb, ht, rfl, hv⟩ := kv_at l3 hk
      have hf := find_nodup' hn (List.mem_of_getElem? ht)
      obtain ⟨v', e1, e2⟩ := l3.get hf
      have sBi := same_tr b1 b3
      refine ⟨rfl, yes_if ?_⟩
      obtain ⟨a, ys, rfl, hta, hda⟩ := dtup (dpm sBi _ _ e2)
      obtain ⟨y1, y2, rfl, g1, g2⟩ := dps2 hda
      obtain ⟨b, zs, rfl, htb, hdb⟩ := dtup g2
      have hzl : zs.length = tb.rs.length := by rw [dps_len hdb, List.length_map]
      have hrl : tb.rs.length ≤ 1000 := Nat.le_trans (mem_le_sum (f := fun t : Tb => t.rs.length) (List.mem_of_getElem? ht)) hfew
      refine ⟨_, rfl, s, C, dx, _, _, rfl, sBi _ _ l1, TC.cl, TC.nT, flds_t _ _ _, _, rfl, t, _, rfl, ?_, a, _, 1, _, rfl, rfl, hta, rfl, b, zs, rfl, Or.inr htb, (zs.length : Int), rfl, by omega, by omega, ?_⟩
      · have g := DGet.frz (k := Sum.inr tb.n) (sBi _ _ l2)
        rw [e1] at g
        exact g
      · have htn : ((zs.length : Int)).toNat = tb.rs.length := by omega
        rw [htn]
        refine in2_it walk_range (fun j H' => ∃ (B : Hp) (xs : List V), Same HL B ∧ B D = none ∧ Same B H' ∧ H' D = some (.lst xs) ∧ DpAll K B xs ((named (ts.take i) ++ (List.range j).map fun n => (tb.n, n)).map nrD))
          ⟨B, xs, b1, b2, b3, b4, by rw [List.range_zero, List.map_nil, List.append_nil]; exact b5⟩ (fun _ _ _ _ => True.intro) ?_ ?_
        · rintro j y _ Hj hj ⟨B2, xs2, c1, c2, c3, c4, c5⟩ ⟨rfl, rfl⟩
          refine ⟨rfl, yes_if ?_⟩
          refine ⟨_, rfl, _, rfl, (by show 2 ≤ sizeLine; decide), fun u hu2 => ?_⟩
          have nu : u ≠ D := fun z => by
            rw [z, c4] at hu2
            cases hu2
          have bu := free_of c3 hu2
          have c3' : Same (upd B2 u (.tup [.str tb.n, .int (0 + (j : Int))])) (upd Hj u (.tup [.str tb.n, .int (0 + (j : Int))])) := sgrow c3
          have bD : (upd B2 u (.tup [.str tb.n, .int (0 + (j : Int))])) D = none := by
            rw [upd_ne nu.symm]
            exact c2
          have hxl : xs2.length ≤ 2000 := by
            rw [dps_len c5, List.length_map, List.length_append, named_len, List.length_map, List.length_range]
            have e := congrArg (fun l : List Tb => (l.map fun t => t.rs.length).sum) (List.take_append_drop i ts)
            simp only [List.map_append, List.sum_append] at e
            omega
          refine ⟨xs2, by rw [upd_ne nu.symm]; exact c4, Nat.lt_of_le_of_lt hxl (by rw [sizeLine_eq]; decide), _, xs2 ++ [.ref u], same_tr c1 (snew bu), bD, swrite c3' bD, upd_same, ?_⟩
          have e : named (ts.take i) ++ (List.range (j + 1)).map (fun n => (tb.n, n)) = (named (ts.take i) ++ (List.range j).map fun n => (tb.n, n)) ++ [(tb.n, j)] := by
            rw [List.range_succ, List.map_append, List.append_assoc]
            rfl
          rw [e, List.map_append]
          refine dps_snoc (dpsm (snew bu) _ _ c5) (.tup (Or.inl (Or.inl upd_same)) (.cons (.str _) (.cons ?_ .nil)))
          rw [Int.zero_add]
          exact .int _
        · rintro H' ⟨B2, xs2, c1, c2, c3, c4, c5⟩
          refine hNx _ ⟨B2, xs2, c1, c2, c3, c4, ?_⟩
          rw [named_take ht]
          exact c5
    · rintro H' ⟨B, xs, b1, b2, b3, b4, b5⟩
      have hlt : kvs.length = ts.length := h3.len
      rw [hlt, List.take_length] at b5
      have tD : D ≠ t := fun z => by
        rw [z, l2] at hD
        cases hD
      refine ⟨b3 _ _ (b1 _ _ l2), q D _ ?_ (back _ (same_tr b1 b3)) ⟨xs, by rw [upd_ne tD]; exact b4, dpst (st_unlock b3 (b1 _ _ l2) rfl) _ _ (noLs_map noL_nr _) b5⟩⟩
      rw [← hL, upd_ne tD] at hD
      exact hD
end
end Fr

namespace Fr
open PySem PySem.Spec PyProof.Rows L2
theorem putF_flds (d m : Int) (t t' : Addr) : putF "_tables" (.ref t') (flds d m t) = flds d m t' := by
  unfold flds
  simp only [putF, if_neg nDM, if_neg nDT, if_neg nMT, if_true]
def bare : Tb := ⟨"a", 0, []⟩
theorem bare_ok {d m : Int} (h1 : 1 ≤ d) (h3 : d ≤ 3) (hm : 2 ≤ m) : OkSys d m [bare] :=
  ⟨h1, h3, hm, by decide, by decide, ⟨(by intro t ht; rw [List.mem_singleton.mp ht]; decide +kernel), (by simp), (by decide), (by intro t ht r hr; rw [List.mem_singleton.mp ht] at hr; cases hr), (by intro t ht r hr; rw [List.mem_singleton.mp ht] at hr; cases hr)⟩⟩
theorem keys_kv {K : PySem.W.Frag} {H : Hp} : ∀ {kvs : List (Key × V)} {ts : List Tb}, KvAt K H kvs ts → kvs.map (·.1) = (ts.map (·.n)).map Sum.inr
  | [], _, h => by cases h; rfl
  | p :: kvs, _, h => by
    cases h with
    | cons h1 h2 =>
      rw [List.map_cons, List.map_cons, List.map_cons, keys_kv h2, h1.1]
section
variable {P : Program} {w : World} {K : PySem.W.Frag} {mg : Str → Option Value} {base : Heap}
def spWith (K : PySem.W.Frag) (C : Addr) (TT : List (Addr × Str)) : Sp := fun vs H Q _ => ∃ (s t : Addr) (d m : Int) (ts us : List Tb) (kvs : List (Key × V)), vs = [.ref s, .ref t] ∧ SysAt K C H s d m ts ∧ 1 ≤ d ∧ d ≤ 3 ∧ 2 ≤ m ∧ H t = some (.dK kvs) ∧ KvAt K H kvs us ∧ (us.map (·.n)).Nodup ∧ us.length ≤ 60 ∧ LamX.Tabs TT H ∧
  ∀ x H', H x = none → LamX.ExtN H H' → LamX.Tabs TT H' → SysAt K C H' x d m (srt us) → Q (.ref x) H'
theorem ok_with {f C : Addr} {fd : FuncData} {TT : List (Addr × Str)} (F : Fun K "_with_tables" "System._with_tables" s_Systemwith_tables f fd) (T : Txt mg) (TC : TxtC K mg C) (m_System3 : C8.Mak P w K mg base 5 "System" C (spInit K C TT) []) : FnOk P w K mg base CX0 7 f fd ["self", "tables"] (spWith K C TT) := by
  refine F.ok sc_Systemwith_tables (fun vs H Q E h => ?_) (fun cdv A outer sh H vs Q E hr h => ?_)
  · obtain ⟨s, t, d, m, ts, us, kvs, rfl, _⟩ := h
    rfl
  · obtain ⟨s, t, d, m, ts, us, kvs, rfl, S, hd1, hd3, hm2, ht, hkv, hnd, hlen, hT, q⟩ := h
    have hu := hu_of hr
    refine ⟨_, (pss_cons (ps_set (i := 2) sc_Systemwith_tables.nd rfl (by first | exact Or.inl rfl | exact Or.inr rfl) (C8.pe_mk m_System3 hr (by decide) (by rfl) (pa_cons (pe_fld (pv 0) rfl) (pa_cons (pe_lst (pa_cons (pe_tup (pa_cons pe_str (pa_cons pe_int (pa_cons (pe_lst pa_nil) pa_nil)))) pa_nil)) (pa_cons (pe_fld (pv 0) rfl) pa_nil)))))
  (pss_cons (ps_fld (pv 2) (pe_dc (own := [("name", 3)]) (g := gName 3) (tt := tYes) (by rfl) sc_Systemwith_tables.nd (pi_list (pe_callB (call_sortedD rfl) (by rfl) T.b_sorted (by decide +kernel) (pa_cons (pv 1) pa_nil))) (blkOk_by (N := ["self", "tables", "made", "name"]) (sc := defScope s_Systemwith_tables) (by decide +kernel)) (fun _ _ _ _ _ => (pg_name (i := 3) sc_Systemwith_tables.nd rfl (by first | exact Or.inl rfl | exact Or.inr rfl))) (fun _ _ _ _ _ => pts_nil) (fun _ _ _ _ _ => (pv 3)) (fun _ _ _ _ _ => (pe_dget hu (pv 1) (pv 3) (fun _ _ => rfl)))) rfl)
  (pss_one (ps_ret (pv 2))))), ?_⟩
    obtain ⟨dx, tt, kvs0, h1, h2, h3⟩ := S.ob
    -- made = System(..)
    refine ⟨_, rfl, s, C, dx, _, _, rfl, h1, TC.cl, TC.nD, flds_d _ _ _, Nat.zero_le _, fun l0 hl0 => ⟨(by show 3 ≤ sizeLine; decide), fun t0 ht0 => ⟨(by show 1 ≤ sizeLine; decide), fun l1 hl1 => ?_⟩⟩⟩
    have s1 : Same H (upd (upd (upd H l0 (.lst [])) t0 (.tup [.str "a", .int 0, .ref l0])) l1 (.lst [.ref t0])) := same_tr (snew hl0) (same_tr (snew ht0) (snew hl1))
    have D1 : Dp K (upd (upd (upd H l0 (.lst [])) t0 (.tup [.str "a", .int 0, .ref l0])) l1 (.lst [.ref t0])) (.ref l1) (.list ([bare].map Tb.d)) := by
      refine .lst (Or.inl (Or.inl upd_same)) (.cons (.tup (Or.inl (Or.inl (snew hl1 _ _ upd_same))) (.cons (.str _) (.cons (.int _) (.cons (.lst (Or.inl (Or.inl (snew hl1 _ _ (snew ht0 _ _ upd_same)))) .nil) .nil)))) .nil)
    generalize upd (upd (upd H l0 (.lst [])) t0 (.tup [.str "a", .int 0, .ref l0])) l1 (.lst [.ref t0]) = H1 at s1 D1
    refine ⟨_, rfl, s, C, dx, _, _, rfl, s1 _ _ h1, TC.cl, TC.nM, flds_m _ _ _, fun x dx2 nx ndx nex => ?_⟩
    have sx : Same H1 (upd (upd H1 dx2 (.own x)) x (.ins C dx2 [])) := same_tr (snew ndx) (snew (by rw [upd_ne nex.symm]; exact nx))
    refine ⟨x, dx2, d, m, .ref l1, [bare], rfl, upd_same, (hT.ext s1).ext sx, bare_ok hd1 hd3 hm2, dpm sx _ _ D1, fun H2 E2 hT2 S2 => ⟨rfl, ?_⟩⟩
    have xH : H x = none := free_of s1 nx
    have e2 : LamX.ExtN H H2 := fun b o e n => E2 b o (sx b o (s1 b o e)) (ne_of_none (s1 b o e) nx) n
    obtain ⟨dx3, t3, kvs3, o1, o2, o3⟩ := S2.ob
    have ht2 := e2 _ _ ht (fun ps z => by cases z)
    have hk2 := hkv.ext e2
    -- sorted(tables)
    refine ⟨_, rfl, t, kvs, us.map (·.n), rfl, Or.inl ht2, keys_kv hk2, by rw [List.length_map]; omega, fun ys p perm so hp => ?_⟩
    have ey := sorted_names perm so
    have sl : (srt us).length = us.length := List.length_mergeSort _
    have nds : ((srt us).map (·.n)).Nodup := ((srt_perm us).map (·.n)).nodup_iff.mpr hnd
    have s3 : Same H2 (upd H2 p (.lst (ys.map V.str))) := snew hp
    have hyl : (ys.map V.str).length = us.length := by rw [List.length_map, ey, List.length_map, sl]
    refine ⟨p, rfl, ⟨_, Or.inl (Or.inl upd_same)⟩, fun D hD => dc_it (walk_list (K := K) (a := p) (xs := ys.map V.str)) (fun i H' => ∃ kvs', Same (upd H2 p (.lst (ys.map V.str))) (upd H' D (.dK kvs')) ∧ H' D = some (.dK kvs') ∧ KvAt K H2 kvs' ((srt us).take i) ∧ ∀ b, b ≠ D → (upd H2 p (.lst (ys.map V.str))) b = H' b)
      ⟨[], fun b o e => by rw [upd_ne (ne_of_none e hD), upd_ne (ne_of_none e hD)]; exact e, upd_same, .nil, fun b hb => (upd_ne hb).symm⟩ (fun i H' _ ⟨kvs', b1, b2, _, b4⟩ => Or.inl (Or.inl (by rw [← b4 p fun z => by rw [← z, upd_same] at hD; cases hD]; exact upd_same))) ?_ ?_⟩
    · rintro i y _ Hi hi ⟨kvs', b1, b2, b3, b4⟩ ⟨rfl, hy⟩
      rw [List.getElem?_map, ey, List.getElem?_map] at hy
      obtain ⟨z, hz, rfl⟩ := Option.map_eq_some_iff.mp hy
      obtain ⟨u, hu1, rfl⟩ := Option.map_eq_some_iff.mp hz
      have humem : u ∈ us := (srt_perm us).mem_iff.mp (List.mem_of_getElem? hu1)
      have hf := find_nodup' hnd humem
      obtain ⟨v, e1, e3⟩ := hk2.get hf
      have tD : t ≠ D := ne_of_none (s3 _ _ ht2) hD
      have htI : Hi t = some (.dK kvs) := by rw [← b4 t tD]; exact s3 _ _ ht2
      refine ⟨rfl, yes_if ?_⟩
      refine ⟨_, rfl, _, rfl, _, rfl, t, v, rfl, ?_, kvs', Sum.inr u.n, rfl, b2, ?_, ?_⟩
      · have g := DGet.k (k := Sum.inr u.n) htI
        rw [e1] at g
        exact g
      · have : kvs'.length ≤ 60 := by
          rw [b3.len, List.length_take]
          omega
        exact Nat.lt_of_le_of_lt this (by rw [sizeLine_eq]; decide)
      · have hno : valV kvs' (Sum.inr u.n) = none := b3.noVal (by
          rw [List.map_take]
          exact notin_take nds (by rw [List.getElem?_map, hu1]; rfl))
        rw [putK_new _ hno]
        refine ⟨kvs' ++ [(Sum.inr u.n, v)], fun b o e => ?_, upd_same, ?_, fun b hb => by rw [upd_ne hb]; exact b4 b hb⟩
        · have hb : b ≠ D := ne_of_none e hD
          rw [upd_ne hb, upd_ne hb, ← b4 b hb]
          exact e
        · rw [List.take_add_one, hu1]
          exact b3.app (.cons ⟨rfl, e3⟩ .nil)
    · rintro Hf ⟨kvs', b1, b2, b3, b4⟩
      rw [hyl, ← sl, List.take_length] at b3
      have xD : x ≠ D := ne_of_none (s3 _ _ o1) hD
      have hxf : Hf x = some (.ins C dx3 (flds d m t3)) := by rw [← b4 x xD]; exact s3 _ _ o1
      refine ⟨_, rfl, x, C, dx3, _, rfl, hxf, TC.cl, TC.nT, (by show 3 < 1000; decide), _, rfl, ?_⟩
      rw [putF_flds]
      have sf : Same H2 Hf := fun b o e => by
        have hb : b ≠ D := ne_of_none (s3 _ _ e) hD
        rw [← b4 b hb]
        exact s3 _ _ e
      refine q x _ xH (fun b o e n => ?_) (tabs_ins (hT2.ext sf) hxf) ⟨dx3, D, kvs', upd_same, by rw [upd_ne xD.symm]; exact b2, b3.monoD (SD.upd (.of sf) hxf rfl)⟩
      rw [upd_ne (ne_of_none e xH)]
      exact sf _ _ (e2 _ _ e n)
end
end Fr

namespace Fr
open PySem PySem.Spec PyProof.Rows L2
abbrev s_check_read : Stmt := topS 26
theorem sc_check_read : FnScope ["system", "read", "name", "number"] ["system", "read"] (defScope s_check_read) := ⟨rfl, rfl, rfl, by decide +kernel, rfl, by decide +kernel, by decide +kernel⟩
-- slots: 0 system, 1 read, 2 name, 3 number
abbrev s_System_without : Stmt := inClass (topS 28) 9
theorem sc_System_without : FnScope ["self", "reads", "read", "tables", "name", "constant", "own", "kept", "number"] ["self", "reads"] (defScope s_System_without) := ⟨rfl, rfl, rfl, by decide +kernel, rfl, by decide +kernel, by decide +kernel⟩
-- slots: 0 self, 1 reads, 2 read, 3 tables, 4 name, 5 constant, 6 own, 7 kept, 8 number
/-- the reads that stay, of the first i -/
def keptTo (gs : List (Str × Nat)) (x : Str) (rs : List Rd1) (i : Nat) : List Rd1 := ((rs.zipIdx.take i).filter fun p => !decide ((x, p.2) ∈ gs)).map (·.1)
def less (gs : List (Str × Nat)) (t : Tb) : Tb := ⟨t.n, t.c, keptTo gs t.n t.rs t.rs.length⟩
theorem keptTo_next {gs : List (Str × Nat)} {x : Str} {rs : List Rd1} {i : Nat} {r : Rd1} (h : rs[i]? = some r) : keptTo gs x rs (i + 1) = keptTo gs x rs i ++ (if (!decide ((x, i) ∈ gs)) = true then [r] else []) := by
  unfold keptTo
  have e : rs.zipIdx[i]? = some (r, i) := by rw [List.getElem?_zipIdx, h]; simp
  rw [List.take_add_one, e, List.filter_append, List.map_append]
  congr 1
  show (List.filter _ [(r, i)]).map _ = _
  rw [List.filter_cons]
  split <;> rfl
theorem keptTo_len (gs : List (Str × Nat)) (x : Str) (rs : List Rd1) (i : Nat) : (keptTo gs x rs i).length ≤ rs.length := by
  unfold keptTo
  rw [List.length_map]
  refine Nat.le_trans (List.length_filter_le _ _) ?_
  rw [List.length_take, List.length_zipIdx]
  omega
theorem keptTo_mem {gs : List (Str × Nat)} {x : Str} {rs : List Rd1} {i : Nat} {r : Rd1} (h : r ∈ keptTo gs x rs i) : r ∈ rs := by
  unfold keptTo at h
  obtain ⟨p, hp, rfl⟩ := List.mem_map.mp h
  have h1 := List.mem_of_mem_take (List.mem_filter.mp hp).1
  obtain ⟨p1, p2⟩ := p
  exact (List.mem_zipIdx' h1).2 ▸ List.getElem_mem _
theorem any_nr (gs : List (Str × Nat)) (a : Str × Nat) : ((gs.map nrD).any fun z => PyData.eqv z (nrD a)) = decide (a ∈ gs) := by
  rw [List.any_map]
  induction gs with
  | nil => simp
  | cons g gs ih =>
    rw [List.any_cons, ih]
    show (PyData.eqv (nrD g) (nrD a) || _) = _
    rw [eqv_nr]
    by_cases h : g = a
    · simp [h]
    · have h' : ¬ a = g := fun z => h z.symm
      simp [h, h']
theorem sql_keep {K : PySem.W.Frag} {H : Hp} {t g : Addr} {u v : HO} {xs : List V} (h : SqL K H g xs) (ht : H t = some u) (n : dat u = false) : SqL K (upd H t v) g xs := by
  have ne : ∀ o, H g = some o → dat o = true → (upd H t v) g = some o := fun o e d => by
    rw [upd_ne fun z => by
      rw [z, ht] at e
      cases e
      rw [n] at d
      cases d]
    exact e
  rcases h with (h | ⟨o, h⟩) | h
  · exact .inl (.inl (ne _ h rfl))
  · exact .inl (.inr ⟨o, ne _ h rfl⟩)
  · exact .inr h
section
variable {P : Program} {w : World} {K : PySem.W.Frag} {mg : Str → Option Value} {base : Heap}
def spCheckRd (K : PySem.W.Frag) (C : Addr) : Sp := fun vs H Q _ => ∃ (s : Addr) (d m : Int) (ts : List Tb) (v : V) (x : Str × Nat), vs = [.ref s, v] ∧ SysAt K C H s d m ts ∧ Dp K H v (nrD x) ∧ x ∈ named ts ∧ (ts.map (·.n)).Nodup ∧ ∀ H', Same H H' → Q .non H'
theorem ok_check_rd {f C : Addr} {fd : FuncData} (F : Fun K "check_read" "check_read" s_check_read f fd) (T : Txt mg) (TC : TxtC K mg C) (p_names : Prp P w K mg base 1 C "names" (spNames K C)) (t_reads : C8.Met P w K mg base 4 C "reads" (spReads K C) []) : FnOk P w K mg base CX0 5 f fd ["system", "read"] (spCheckRd K C) := by
  refine F.ok sc_check_read (fun vs H Q E h => ?_) (fun cdv A outer sh H vs Q E hr h => ?_)
  · obtain ⟨s, d, m, ts, v, x, rfl, _⟩ := h
    rfl
  · obtain ⟨s, d, m, ts, v, ⟨x, i⟩, rfl, S, hv, hx, hnd, q⟩ := h
    refine ⟨_, (pss_cons (ps_asg (pv 1) (pg_tup rfl (pgs_cons (pg_name (i := 2) sc_check_read.nd rfl (by first | exact Or.inl rfl | exact Or.inr rfl)) (pgs_cons (pg_name (i := 3) sc_check_read.nd rfl (by first | exact Or.inl rfl | exact Or.inr rfl)) pgs_nil))))
  (pss_one (ps_if (PW.pt (pw_or (pt_cmpR op_notIn_seq (pv 2) (pe_pr (pv 0) p_names hr (by decide) rfl) (by rfl)) (pw_or1 (pt_not (pt_chain op_le op_lt pe_int (pv 3) (pe_callB call_len_seq (by rfl) T.b_len PySem.boot_len (pa_cons (C8.pe_mt t_reads hr (by decide) (pv 0) (pa_cons (pv 2) pa_nil)) pa_nil)))))))
    (pss_one ps_never)
    pss_nil))), ?_⟩
    obtain ⟨tb, htb, rfl, hi⟩ := mem_named.mp hx
    obtain ⟨a, xs, rfl, ht, hd⟩ := dtup hv
    obtain ⟨x1, x2, rfl, h1, h2⟩ := dps2 hd
    obtain rfl := dstr h1
    obtain rfl := dint h2
    obtain ⟨dx, tt, kvs, o1, o2, o3⟩ := S.ob
    have hmem : tb.n ∈ ts.map (·.n) := List.mem_map.mpr ⟨tb, htb, rfl⟩
    refine ⟨_, rfl, a, _, rfl, ht, rfl, _, _, rfl, _, _, rfl, rfl, ?_⟩
    refine ⟨_, rfl, _, rfl, s, dx, _, rfl, o1, s, d, m, ts, rfl, S, fun p H' hp sm hl => ?_⟩
    have e : (ts.map fun t => V.str t.n) = (ts.map (·.n)).map V.str := by
      rw [List.map_map]
      rfl
    refine ⟨p, _, rfl, Or.inl (Or.inl (Or.inl hl)), rfl, ?_, ?_⟩
    · rw [e]
      exact flat_strs _
    · rw [e, inV_str hmem]
      refine ⟨_, rfl, iteF ?_⟩
      refine ⟨_, rfl, 0, (i : Nat), rfl, rfl, decide ((0 : Int) ≤ (i : Nat)), rfl, ?_⟩
      rw [decide_eq_true (by omega)]
      refine iteT ?_
      refine ⟨_, rfl, s, dx, _, rfl, sm _ _ o1, flds_no _ _ _ (by decide +kernel) (by decide +kernel) (by decide +kernel), _, rfl, H', s, d, m, ts, tb.n, tb, rfl, same_refl, S.mono sm, hmem, find_nodup' hnd htb, fun l H2 ys hl2 s2 hl3 hys => ?_⟩
      have hyl : ys.length = tb.rs.length := by rw [dps_len hys, List.length_map]
      refine ⟨l, ys, rfl, Or.inl (Or.inl (Or.inl hl3)), (i : Nat), (ys.length : Int), rfl, rfl, decide (((i : Nat) : Int) < (ys.length : Int)), rfl, ?_⟩
      rw [decide_eq_true (by omega)]
      exact iteF (q H2 (same_tr sm s2))
def spWithout (K : PySem.W.Frag) (C : Addr) (TT : List (Addr × Str)) : Sp := fun vs H Q _ => ∃ (s g : Addr) (d m : Int) (ts : List Tb) (gs : List (Str × Nat)), vs = [.ref s, .ref g] ∧ SysAt K C H s d m ts ∧ 1 ≤ d ∧ d ≤ 3 ∧ 2 ≤ m ∧ OkT d ts ∧ ts.length ≤ 12 ∧ Dp K H (.ref g) (.list (gs.map nrD)) ∧ (∀ x ∈ gs, x ∈ named ts) ∧ LamX.Tabs TT H ∧
  ∀ x H', H x = none → LamX.ExtN H H' → LamX.Tabs TT H' → SysAt K C H' x d m (srt (ts.map (less gs))) → Q (.ref x) H'
theorem ok_without {f C : Addr} {fd : FuncData} {TT : List (Addr × Str)} (F : Fun K "without" "System.without" s_System_without f fd) (T : Txt mg) (TC : TxtC K mg C) (c_check_read : C8.Cal P w K mg base 5 "check_read" (spCheckRd K C) []) (t__with_tables : C8.Met P w K mg base 7 C "_with_tables" (spWith K C TT) []) : FnOk P w K mg base CX0 8 f fd ["self", "reads"] (spWithout K C TT) := by
  refine F.ok sc_System_without (fun vs H Q E h => ?_) (fun cdv A outer sh H vs Q E hr h => ?_)
  · obtain ⟨s, g, d, m, ts, gs, rfl, _⟩ := h
    rfl
  · obtain ⟨s, g, d, m, ts, gs, rfl, S, hd1, hd3, hm2, O, hlen, hg, hgm, hT, q⟩ := h
    have hu := hu_of hr
    refine ⟨_, (pss_cons (ps_for PassesOwn.never rfl (pi_list (pv 1)) (pg_name (i := 2) sc_System_without.nd rfl (by first | exact Or.inl rfl | exact Or.inr rfl))
    (pss_one (ps_expr (C8.pe_c c_check_read hr (by decide) (by rfl) (pa_cons (pv 0) (pa_cons (pv 2) pa_nil))))))
  (pss_cons (ps_set (i := 3) sc_System_without.nd rfl (by first | exact Or.inl rfl | exact Or.inr rfl) pe_dnewK)
  (pss_cons (ps_lock (ps_for PassesOwn.never rfl (pi_items (pe_fld (pv 0) rfl)) (pg_tup rfl (pgs_cons (pg_name (i := 4) sc_System_without.nd rfl (by first | exact Or.inl rfl | exact Or.inr rfl)) (pgs_cons (pg_tup rfl (pgs_cons (pg_name (i := 5) sc_System_without.nd rfl (by first | exact Or.inl rfl | exact Or.inr rfl)) (pgs_cons (pg_name (i := 6) sc_System_without.nd rfl (by first | exact Or.inl rfl | exact Or.inr rfl)) pgs_nil))) pgs_nil)))
    (pss_cons (ps_setLc (i := 7) (own := [("number", 8), ("read", 2)]) (g := gTup K 2 (gCons (gName 8) (gCons (gName 2) gNil))) (by rfl) sc_System_without.nd rfl rfl (sw_true rfl rfl rfl (by decide +kernel)) (pi_enumT (by rfl) T.b_enumerate (pa_cons (pv 6) pa_nil)) (blkOk_by (N := ["self", "reads", "read", "tables", "name", "constant", "own", "kept", "number"]) (sc := defScope s_System_without) (by decide +kernel)) (fun _ _ _ _ _ => (pg_tup rfl (pgs_cons (pg_name (i := 8) sc_System_without.nd rfl (by first | exact Or.inl rfl | exact Or.inr rfl)) (pgs_cons (pg_name (i := 2) sc_System_without.nd rfl (by first | exact Or.inl rfl | exact Or.inr rfl)) pgs_nil)))) (fun _ _ _ _ _ => (pts_one (pt_cmpR (r := rNotInD K) (op_notInD hr.units1) (pe_tup (pa_cons (pv 4) (pa_cons (pv 8) pa_nil))) (pv 1) (by rfl)))) (fun _ _ _ _ _ => (pv 2)))
    (pss_one (ps_dput hu (pv 3) (pv 4) (pe_tup (pa_cons (pv 5) (pa_cons (pe_callTy call_tuple_of (by rfl) T.b_tuple (by decide +kernel) (pa_cons (pv 7) pa_nil)) pa_nil))) rfl)))))
  (pss_one (ps_ret (C8.pe_mt t__with_tables hr (by decide) (pv 0) (pa_cons (pv 3) pa_nil))))))), ?_⟩
    obtain ⟨_, gv, e, hgl, hgd⟩ := dlst hg
    cases e
    have hsg : SeqAt.shaped (.list (gs.map nrD)) = true := (Lay.list (k := 1) (.map fun x hx => lay_named O (hgm x hx))).shaped (by decide)
    -- the reads are there
    refine ⟨_, rfl, g, rfl, ⟨gv, hgl⟩, for_it (walk_list (K := K) (a := g) (xs := gv)) (fun i σ H' => ∃ y2, σ = [some (.ref s), some (.ref g), y2, none, none, none, none, none, none] ∧ Same H H') ⟨none, rfl, same_refl⟩ (fun i σ H' _ ⟨_, _, b⟩ => sql b hgl) ?_ ?_⟩
    · rintro i y σ _ H1 hi ⟨y2, rfl, b1⟩ ⟨rfl, hy⟩
      obtain ⟨dd, e1, e2⟩ := dps_get hgd hy
      rw [List.getElem?_map] at e1
      obtain ⟨x, hx, rfl⟩ := Option.map_eq_some_iff.mp e1
      exact ⟨_, rfl, _, rfl, s, d, m, ts, y, x, rfl, S.mono b1, dpm b1 _ _ e2, hgm x (List.mem_of_getElem? hx), O.nodup, fun H2 s2 => ⟨_, rfl, same_tr b1 s2⟩⟩
    · rintro σ H1 ⟨y2, rfl, b1⟩
      have S1 := S.mono b1
      obtain ⟨dx, tt, kvs, h1, h2, h3⟩ := S1.ob
      have hg1 := dpm b1 _ _ hg
      -- tables = {}
      intro Tt hTt
      have nst : s ≠ tt := fun z => by
        rw [z, h2] at h1
        cases h1
      have ntT : tt ≠ Tt := ne_of_none h2 hTt
      refine ⟨tt, .dK kvs, by rw [upd_ne ntT]; exact h2, True.intro, fun od => ?_⟩
      have swap : upd (upd H1 Tt (.dK [])) tt (.frz od (.dK kvs)) = upd (upd H1 tt (.frz od (.dK kvs))) Tt (.dK []) := by
        funext b
        by_cases hb : b = tt
        · rw [hb, upd_same, upd_ne ntT, upd_same]
        · by_cases hb2 : b = Tt
          · rw [hb2, upd_ne ntT.symm, upd_same, upd_same]
          · rw [upd_ne hb, upd_ne hb2, upd_ne hb2, upd_ne hb]
      rw [swap]
      have l1 : (upd H1 tt (.frz od (.dK kvs))) s = some (.ins C dx (flds d m tt)) := by rw [upd_ne nst]; exact h1
      have l2 : (upd H1 tt (.frz od (.dK kvs))) tt = some (.frz od (.dK kvs)) := upd_same
      have lT : (upd H1 tt (.frz od (.dK kvs))) Tt = none := by rw [upd_ne ntT.symm]; exact hTt
      have l3 : KvAt K (upd H1 tt (.frz od (.dK kvs))) kvs ts := kvt (st_upd h2 rfl) h3
      have lg : Dp K (upd H1 tt (.frz od (.dK kvs))) (.ref g) (.list (gs.map nrD)) := by
        obtain ⟨_, gv1, e, q1, q2⟩ := dlst hg1
        cases e
        refine .lst ?_ (dpst (st_upd h2 rfl) _ _ (noLs_map noL_nr _) q2)
        exact sql_keep q1 h2 rfl
      have back : ∀ H', Same (upd H1 tt (.frz od (.dK kvs))) H' → Same H1 (upd H' tt (.dK kvs)) := fun H' e => unlock h2 e
      generalize upd H1 tt (.frz od (.dK kvs)) = HL at l1 l2 l3 lT lg back ⊢
      refine ⟨_, rfl, s, C, dx, _, _, rfl, by rw [upd_ne (ne_of_none l1 lT)]; exact l1, TC.cl, TC.nT, flds_t _ _ _, tt, od, kvs, rfl, by rw [upd_ne ntT]; exact l2, ?_⟩
      refine for_it (walk_items (o := od) (d := tt) (kvs := kvs)) (fun i σ H' => ∃ y4 y5 y6 y7, σ = [some (.ref s), some (.ref g), y2, some (.ref Tt), y4, y5, y6, y7, none] ∧ ∃ (B : Hp) (kvs' : List (Key × V)), Same HL B ∧ B Tt = none ∧ Same B H' ∧ H' Tt = some (.dK kvs') ∧ KvAt K B kvs' ((ts.take i).map (less gs)))
        ⟨none, none, none, none, rfl, HL, [], same_refl, lT, snew lT, upd_same, .nil⟩ (fun i σ H' _ ⟨_, _, _, _, _, B, _, c1, _, c3, _⟩ => c3 _ _ (c1 _ _ l2)) ?_ ?_
      · rintro i x σ Hi _ hi ⟨y4, y5, y6, y7, rfl, B, kvs', c1, c2, c3, c4, c5⟩ ⟨Tp, k1, v1, rfl, hTp, rfl, e1, e2⟩
        obtain ⟨⟨k, v⟩, hk, rfl⟩ := Option.map_eq_some_iff.mp e1
        obtain ⟨⟨k', v'⟩, hk', rfl⟩ := Option.map_eq_some_iff.mp e2
        rw [hk] at hk'
        cases hk'
        obtain ⟨tb, ht, rfl, hv⟩ := kv_at l3 hk
        have htm := List.mem_of_getElem? ht
        have h12 := few_reads O htm
        have hnames : ∀ l : List Tb, (l.map (less gs)).map (·.n) = l.map (·.n) := fun l => by
          rw [List.map_map]
          rfl
        have hno : valV kvs' (Sum.inr tb.n) = none := c5.noVal (by
          rw [hnames, List.map_take]
          exact notin_take O.nodup (by rw [List.getElem?_map, ht]; rfl))
        have hkl : kvs'.length ≤ 12 := by
          rw [c5.len, List.length_map, List.length_take]
          omega
        have sTp : Same Hi (upd Hi Tp (.tup [kV (Sum.inr tb.n), v])) := snew hTp
        have c3' := same_tr c3 sTp
        have nTp : Tt ≠ Tp := ne_of_none c4 hTp
        have c4' : (upd Hi Tp (.tup [kV (Sum.inr tb.n), v])) Tt = some (.dK kvs') := by rw [upd_ne nTp]; exact c4
        have tpat : (upd Hi Tp (.tup [kV (Sum.inr tb.n), v])) Tp = some (.tup [.str tb.n, v]) := upd_same
        generalize upd Hi Tp (.tup [kV (Sum.inr tb.n), v]) = H3 at c3' c4' tpat
        obtain ⟨a, ys, rfl, hta, hda⟩ := dtup (dpm c1 _ _ hv)
        obtain ⟨z1, z2, rfl, g1, g2⟩ := dps2 hda
        obtain rfl := dint g1
        obtain ⟨ow, os, rfl, hto, hdo⟩ := dtup g2
        have hol : os.length = tb.rs.length := by rw [dps_len hdo, List.length_map]
        refine ⟨Tp, _, rfl, Or.inl (Or.inl tpat), rfl, _, _, rfl, _, _, rfl, a, _, rfl, sqt c3' hta, rfl, _, _, rfl, _, _, rfl, rfl, rfl, ?_⟩
        -- kept = [..]
        refine ⟨_, rfl, ow, os, rfl, sqt c3' hto, fun D hD => ?_⟩
        have bD : B D = none := free_of c3' hD
        have nDT : Tt ≠ D := ne_of_none c4' hD
        refine lc_it (walk_enumT (K := K) (a := ow) (xs := os)) (fun j H' => ∃ xs : List V, Same B H' ∧ H' Tt = some (.dK kvs') ∧ H' D = some (.lst xs) ∧ DpAll K B xs ((keptTo gs tb.n tb.rs j).map Rd1.d))
          ⟨[], same_tr c3' (snew hD), by rw [upd_ne nDT]; exact c4', upd_same, .nil⟩ (fun j H' _ ⟨xs, d1, _⟩ => sqt d1 hto) ?_ ?_
        · rintro j y Hj _ hj ⟨xs, d1, d2, d3, d4⟩ ⟨T2, n1, r1, rfl, hT2, rfl, f1, f2⟩
          cases f1
          obtain ⟨r, ra, rb, e3, rfl, hrd, _, _⟩ := rd_at hdo f2
          refine ⟨T2, _, rfl, Or.inl (Or.inl upd_same), rfl, _, _, rfl, _, _, rfl, rfl, rfl, ?_⟩
          have s4 := snew (o := HO.tup [V.int (j : Nat), V.ref ra]) hT2
          refine ⟨_, rfl, _, rfl, (by show 2 ≤ sizeLine; decide), fun q1 hq1 => ?_⟩
          have s5 := same_tr s4 (snew (o := HO.tup [V.str tb.n, V.int (j : Nat)]) hq1)
          have hkn : (keptTo gs tb.n tb.rs j).length ≤ 12 := Nat.le_trans (keptTo_len gs tb.n tb.rs j) h12
          refine ⟨_, rfl, nrD (tb.n, j), gs.map nrD, .tup (Or.inl (Or.inl upd_same)) (.cons (.str _) (.cons (.int _) .nil)), dpm (same_tr c1 (same_tr d1 s5)) _ _ lg, (lay_nr (x := (tb.n, j)) (O.names tb htm)).shaped (by decide), hsg, _, rfl, ?_⟩
          rw [any_nr]
          have hkt := keptTo_next (gs := gs) (x := tb.n) e3
          have b5 := same_tr d1 s5
          have t5 := s5 _ _ d2
          have D5 := s5 _ _ d3
          generalize upd (upd Hj T2 (.tup [V.int (j : Nat), V.ref ra])) q1 (.tup [V.str tb.n, V.int (j : Nat)]) = H5 at b5 t5 D5
          cases hc : decide ((tb.n, j) ∈ gs) with
          | true =>
            rw [hc, if_neg (by decide), List.append_nil] at hkt
            refine iteF ?_
            exact ⟨xs, b5, t5, D5, by rw [hkt]; exact d4⟩
          | false =>
            rw [hc, if_pos (by decide)] at hkt
            refine iteT ?_
            refine ⟨_, rfl, xs, D5, small1000 (by rw [dps_len d4, List.length_map]; omega), xs ++ [.ref ra], ?_, by rw [upd_ne nDT]; exact t5, upd_same, ?_⟩
            · exact swrite b5 bD
            · rw [hkt, List.map_append]
              exact dps_snoc d4 hrd
        · rintro H4 ⟨xs, d1, d2, d3, d4⟩
          rw [hol] at d4
          refine ⟨_, rfl, _, rfl, D, xs, rfl, Or.inl ⟨Or.inl (Or.inl d3), fun l hl => ⟨(by show 2 ≤ sizeLine; decide), fun u hu2 => ⟨_, rfl, _, rfl, ?_⟩⟩⟩⟩
          have bl : B l = none := free_of d1 hl
          have s6 : Same (upd B l (.tup xs)) (upd H4 l (.tup xs)) := sgrow d1
          have bu : (upd B l (.tup xs)) u = none := free_of s6 hu2
          have s7 : Same (upd (upd B l (.tup xs)) u (.tup [.int tb.c, .ref l])) (upd (upd H4 l (.tup xs)) u (.tup [.int tb.c, .ref l])) := sgrow s6
          have sB : Same B (upd (upd B l (.tup xs)) u (.tup [.int tb.c, .ref l])) := same_tr (snew bl) (snew bu)
          have nlT : Tt ≠ l := ne_of_none d2 hl
          have d2' : (upd H4 l (.tup xs)) Tt = some (.dK kvs') := by rw [upd_ne nlT]; exact d2
          have nuT : Tt ≠ u := ne_of_none d2' hu2
          have d2'' : (upd (upd H4 l (.tup xs)) u (.tup [.int tb.c, .ref l])) Tt = some (.dK kvs') := by rw [upd_ne nuT]; exact d2'
          have bT : (upd (upd B l (.tup xs)) u (.tup [.int tb.c, .ref l])) Tt = none := by rw [upd_ne nuT, upd_ne nlT]; exact c2
          have ul : (upd (upd B l (.tup xs)) u (.tup [.int tb.c, .ref l])) l = some (.tup xs) := by
            rw [upd_ne (ne_of_none (upd_same (H := B) (o := HO.tup xs)) bu)]
            exact upd_same
          refine ⟨Tt, _, rfl, DPut.k (k := Sum.inr tb.n) d2'' (Nat.lt_of_le_of_lt hkl (by rw [sizeLine_eq]; decide)), ?_⟩
          refine ⟨_, _, _, _, rfl, _, kvs' ++ [(Sum.inr tb.n, .ref u)], same_tr c1 sB, bT, swrite s7 bT, by rw [upd_same, putK_new _ hno], ?_⟩
          rw [List.take_add_one, ht, List.map_append]
          exact (c5.mono sB).app (.cons ⟨rfl, .tup (Or.inl (Or.inl upd_same)) (.cons (.int _) (.cons (.tup (Or.inl (Or.inl ul)) (dpsm sB _ _ d4)) .nil))⟩ .nil)
      · rintro σ H' ⟨y4, y5, y6, y7, rfl, B, kvs', c1, c2, c3, c4, c5⟩
        have hlt : kvs.length = ts.length := h3.len
        rw [hlt, List.take_length] at c5
        have sb := back H' (same_tr c1 c3)
        have ntt : Tt ≠ tt := ntT.symm
        refine ⟨c3 _ _ (c1 _ _ l2), _, rfl, s, dx, _, rfl, sb _ _ h1, flds_no _ _ _ (by decide +kernel) (by decide +kernel) (by decide +kernel), _, rfl, ?_⟩
        refine ⟨s, Tt, d, m, ts, ts.map (less gs), kvs', rfl, S1.mono sb, hd1, hd3, hm2, by rw [upd_ne ntt]; exact c4, kvt (st_unlock c3 (c1 _ _ l2) rfl) c5, ?_, by rw [List.length_map]; omega, hT.ext (same_tr b1 sb), fun x H2 hx e2 hT2 S2 => q x H2 (free_of (same_tr b1 sb) hx) (fun b o e n => e2 _ _ (sb _ _ (b1 _ _ e)) n) hT2 S2⟩
        rw [List.map_map]
        exact O.nodup
end
end Fr

namespace Fr
open PySem PySem.Spec PyProof.Rows L2
abbrev s_System_beside : Stmt := inClass (topS 28) 10
theorem sc_System_beside : FnScope ["self", "other", "name"] ["self", "other"] (defScope s_System_beside) := ⟨rfl, rfl, rfl, by decide +kernel, rfl, by decide +kernel, by decide +kernel⟩
-- slots: 0 self, 1 other, 2 name
section
variable {P : Program} {w : World} {K : PySem.W.Frag} {mg : Str → Option Value} {base : Heap}
def spBeside (K : PySem.W.Frag) (C : Addr) (TT : List (Addr × Str)) : Sp := fun vs H Q _ => ∃ (s o : Addr) (d m : Int) (ts us : List Tb), vs = [.ref s, .ref o] ∧ SysAt K C H s d m ts ∧ SysAt K C H o d m us ∧ 1 ≤ d ∧ d ≤ 3 ∧ 2 ≤ m ∧ ((ts ++ us).map (·.n)).Nodup ∧ ts.length ≤ 12 ∧ us.length ≤ 12 ∧ LamX.Tabs TT H ∧
  ∀ x H', H x = none → LamX.ExtN H H' → LamX.Tabs TT H' → SysAt K C H' x d m (srt (ts ++ us)) → Q (.ref x) H'
theorem ok_beside {f C : Addr} {fd : FuncData} {TT : List (Addr × Str)} (F : Fun K "beside" "System.beside" s_System_beside f fd) (T : Txt mg) (TC : TxtC K mg C) (t__with_tables : C8.Met P w K mg base 7 C "_with_tables" (spWith K C TT) []) : FnOk P w K mg base CX0 8 f fd ["self", "other"] (spBeside K C TT) := by
  refine F.ok sc_System_beside (fun vs H Q E h => ?_) (fun cdv A outer sh H vs Q E hr h => ?_)
  · obtain ⟨s, o, d, m, ts, us, rfl, _⟩ := h
    rfl
  · obtain ⟨s, o, d, m, ts, us, rfl, S, S', hd1, hd3, hm2, hnd, hl1, hl2, hT, q⟩ := h
    have hu := hu_of hr
    refine ⟨_, (pss_cons (ps_lock (ps_for PassesOwn.never rfl (pi_keys (pe_fld (pv 0) rfl)) (pg_name (i := 2) sc_System_beside.nd rfl (by first | exact Or.inl rfl | exact Or.inr rfl))
    (pss_one (ps_if (pt_cmp (pc_din hu (pv 2) (pe_fld (pv 1) rfl)))
      (pss_one ps_never)
      pss_nil))))
  (pss_one (ps_ret (C8.pe_mt t__with_tables hr (by decide) (pv 0) (pa_cons (pe_mrg (pe_fld (pv 0) rfl) (pe_fld (pv 1) rfl)) pa_nil))))), ?_⟩
    obtain ⟨dx, tt, kvs, h1, h2, h3⟩ := S.ob
    obtain ⟨dx', tt', kvs', h1', h2', h3'⟩ := S'.ob
    have nst : s ≠ tt := fun z => by
      rw [z, h2] at h1
      cases h1
    have nst' : o ≠ tt := fun z => by
      rw [z, h2] at h1'
      cases h1'
    refine ⟨tt, .dK kvs, h2, True.intro, fun od => ?_⟩
    have l1 : (upd H tt (.frz od (.dK kvs))) s = some (.ins C dx (flds d m tt)) := by rw [upd_ne nst]; exact h1
    have l1' : (upd H tt (.frz od (.dK kvs))) o = some (.ins C dx' (flds d m tt')) := by rw [upd_ne nst']; exact h1'
    have l2 : (upd H tt (.frz od (.dK kvs))) tt = some (.frz od (.dK kvs)) := upd_same
    have l2' : Rd (upd H tt (.frz od (.dK kvs))) tt' (.dK kvs') := by
      by_cases hb : tt' = tt
      · rw [hb, h2] at h2'
        cases h2'
        exact .inr ⟨od, by rw [hb]; exact l2⟩
      · exact .inl (by rw [upd_ne hb]; exact h2')
    have back : ∀ H', Same (upd H tt (.frz od (.dK kvs))) H' → Same H (upd H' tt (.dK kvs)) := fun H' e => unlock h2 e
    generalize upd H tt (.frz od (.dK kvs)) = HL at l1 l1' l2 l2' back ⊢
    rw [List.map_append, List.nodup_append] at hnd
    refine ⟨_, rfl, s, C, dx, _, _, rfl, l1, TC.cl, TC.nT, flds_t _ _ _, tt, od, rfl, Or.inl ⟨kvs, l2, for_it (walk_keys (o := od) (d := tt) (kvs := kvs)) (fun i σ H' => ∃ y2, σ = [some (.ref s), some (.ref o), y2] ∧ H' = HL) ⟨none, rfl, rfl⟩ (fun i σ H' _ ⟨_, _, e⟩ => by rw [e]; exact l2) ?_ ?_⟩⟩
    · rintro i x σ _ _ hi ⟨y2, rfl, rfl⟩ ⟨rfl, k, v, hk, rfl⟩
      obtain ⟨tb, ht, rfl, hv⟩ := kv_at h3 hk
      have hno : valV kvs' (Sum.inr tb.n) = none := h3'.noVal fun hm => hnd.2.2 tb.n (List.mem_map.mpr ⟨tb, List.mem_of_getElem? ht, rfl⟩) tb.n hm rfl
      refine ⟨_, rfl, _, rfl, o, C, dx', _, _, rfl, l1', TC.cl, TC.nT, flds_t _ _ _, tt', valV kvs' (Sum.inr tb.n), rfl, .inl ⟨kvs', Sum.inr tb.n, l2', rfl, rfl⟩, _, rfl, ?_⟩
      rw [hno]
      exact iteF ⟨_, rfl, rfl⟩
    · rintro σ HL ⟨y2, rfl, rfl⟩
      have sb := back _ same_refl
      refine ⟨l2, ?_⟩
      have hback : ∀ b, (upd HL tt (.dK kvs)) b = (upd HL tt (.dK kvs)) b := fun _ => rfl
      generalize upd HL tt (.dK kvs) = H1 at sb
      refine ⟨_, rfl, s, dx, _, rfl, sb _ _ h1, flds_no _ _ _ (by decide +kernel) (by decide +kernel) (by decide +kernel), fun p hp => ?_⟩
      have s2 : Same H1 (upd H1 p (.dK [])) := snew hp
      have ntp : tt ≠ p := ne_of_none (sb _ _ h2) hp
      have ntp' : tt' ≠ p := ne_of_none (sb _ _ h2') hp
      have nsp : s ≠ p := ne_of_none (sb _ _ h1) hp
      have nop : o ≠ p := ne_of_none (sb _ _ h1') hp
      have ek := keys_kv h3
      have ek' := keys_kv h3'
      have inj : ∀ l : List Str, l.Nodup → (l.map (Sum.inr : Str → Key)).Nodup := fun l h => by
        rw [List.Nodup, List.pairwise_map]
        exact h.imp fun h e => h (Sum.inr.inj e)
      refine ⟨_, rfl, s, C, dx, _, _, rfl, s2 _ _ (sb _ _ h1), TC.cl, TC.nT, flds_t _ _ _, tt, kvs, rfl, s2 _ _ (sb _ _ h2), ntp, upd_same, by rw [ek]; exact inj _ hnd.1, ?_⟩
      refine ⟨_, rfl, o, C, dx', _, _, rfl, by rw [upd_ne nop]; exact s2 _ _ (sb _ _ h1'), TC.cl, TC.nT, flds_t _ _ _, tt', kvs', rfl, by rw [upd_ne ntp']; exact s2 _ _ (sb _ _ h2'), ntp', upd_same, ?_, ?_, ?_⟩
      · rw [List.map_append, ek, ek', ← List.map_append]
        exact inj _ (List.nodup_append.mpr hnd)
      · rw [h3.len, h3'.len]
        exact Nat.le_trans (Nat.add_le_add hl1 hl2) (by rw [sizeLine_eq]; decide)
      · have ee : upd (upd (upd H1 p (.dK [])) p (.dK kvs)) p (.dK (kvs ++ kvs')) = upd H1 p (.dK (kvs ++ kvs')) := by
          funext b
          by_cases hb : b = p
          · rw [hb, upd_same, upd_same]
          · rw [upd_ne hb, upd_ne hb, upd_ne hb, upd_ne hb]
        rw [ee]
        have s3 : Same H1 (upd H1 p (.dK (kvs ++ kvs'))) := snew hp
        have s4 := same_tr sb s3
        refine ⟨s, p, d, m, ts, ts ++ us, kvs ++ kvs', rfl, S.mono s4, hd1, hd3, hm2, upd_same, (h3.mono s4).app (h3'.mono s4), by rw [List.map_append]; exact List.nodup_append.mpr hnd, by rw [List.length_append]; omega, hT.ext s4, fun x H2 hx e2 hT2 S2 => q x H2 (free_of s4 hx) (fun b o e n => e2 _ _ (s4 _ _ e) n) hT2 S2⟩
end
end Fr

namespace Fr
open PySem PySem.Spec PyProof.Rows L2
abbrev s_Lshown : Stmt := topS 36
theorem sc_Lshown : FnScope ["_law_made", "_law_rows", "_law_word"] ["_law_made"] (defScope s_Lshown) := ⟨rfl, rfl, rfl, by decide +kernel, rfl, by decide +kernel, by decide +kernel⟩
-- slots: 0 _law_made, 1 _law_rows, 2 _law_word
/-- a system of the laws -/
structure Sys1 (d m : Int) (ts : List Tb) : Prop where
  d1 : 1 ≤ d
  d3 : d ≤ 3
  m2 : 2 ≤ m
  mx : m ≤ 1000000000
  l1 : 1 ≤ ts.length
  l6 : ts.length ≤ 6
  ok : OkT d ts
  sm : ∀ t ∈ ts, SmT t
theorem Sys1.sys {d m : Int} {ts : List Tb} (h : Sys1 d m ts) : OkSys d m ts := ⟨h.d1, h.d3, h.m2, h.l1, h.l6, h.ok⟩
theorem OkT.perm {d : Int} {ts us : List Tb} (p : ts.Perm us) (O : OkT d ts) : OkT d us := by
  refine ⟨fun t ht => O.names t (p.mem_iff.mpr ht), (p.map (·.n)).nodup_iff.mp O.nodup, ?_, fun t ht => O.reads t (p.mem_iff.mpr ht), fun t ht r hr => (p.map (·.n)).mem_iff.mp (O.here t (p.mem_iff.mpr ht) r hr)⟩
  rw [← (p.map fun t => t.rs.length).sum_nat]
  exact O.few
theorem Sys1.srt {d m : Int} {ts : List Tb} (h : Sys1 d m ts) : Sys1 d m (srt ts) := by
  have p := (srt_perm ts).symm
  have e := p.length_eq
  exact ⟨h.d1, h.d3, h.m2, h.mx, by have := h.l1; omega, by have := h.l6; omega, h.ok.perm p, fun t ht => h.sm t (p.mem_iff.mpr ht)⟩
def sysD (d m : Int) (ts : List Tb) : PyData := .list [.int d, .int m, .list (ts.map Tb.d), .list ((named ts).map nrD), .int (ts.length : Nat)]
def sysS (d m : Int) (ts : List Tb) : Str := (sysD d m ts).shown
theorem shw_rd {d : Int} {r : Rd1} (h : isRead d r = true) (hd : d ≤ 3) (f : -10 ≤ r.f ∧ r.f ≤ 10) (v : ∀ x ∈ r.v, -1000 ≤ x ∧ x ≤ 1000) : Shw r.d 3 174 := by
  unfold isRead at h
  rw [Bool.and_eq_true, Bool.and_eq_true] at h
  have hl : r.v.length ≤ 3 := by
    have := of_decide_eq_true h.2.1
    omega
  have hv : ShwA (r.v.map .int) 1 123 := (ShwA.map fun x hx => Shw.one (by have := v x hx; omega)).mono (Nat.le_refl _) (by omega)
  exact (Shw.tup (ShwA.c (Shw.str (k := 2) (name_ok h.1).1 (name_ok h.1).2) (ShwA.c (Shw.tup hv) (ShwA.c (Shw.one (k := 2) (i := r.f) (by omega)) ShwA.nil)))).mono (j := 3) (by decide) (by decide)
theorem shw_tb {d m : Int} {ts : List Tb} (h : Sys1 d m ts) {t : Tb} (ht : t ∈ ts) : Shw t.d 5 2200 := by
  have h12 := few_reads h.ok ht
  have hr : ShwA (t.rs.map Rd1.d) 3 2100 := (ShwA.map fun r hr => shw_rd (h.ok.reads t ht r hr) h.d3 ((h.sm t ht).f r hr) ((h.sm t ht).v r hr)).mono (Nat.le_refl _) (by omega)
  have hn := name_ok (h.ok.names t ht)
  have hc := (h.sm t ht).c
  exact (Shw.tup (ShwA.c (Shw.str (k := 4) hn.1 hn.2) (ShwA.c (Shw.one (i := t.c) (by omega)) (ShwA.c (Shw.list hr) ShwA.nil)))).mono (by decide) (by decide)
theorem shw_nr {x : Str × Nat} (h : isName x.1 = true) (hi : x.2 ≤ 1000) : Shw (nrD x) 1 50 := by
  have hn := name_ok h
  exact (Shw.tup (ShwA.c (Shw.str (k := 0) hn.1 hn.2) (ShwA.c (Shw.one (i := (x.2 : Nat)) (by omega)) ShwA.nil))).mono (by decide) (by decide)
theorem shw_named {d m : Int} {ts : List Tb} (h : Sys1 d m ts) {x : Str × Nat} (hx : x ∈ named ts) : Shw (nrD x) 1 50 := by
  obtain ⟨t, ht, e, hi⟩ := mem_named.mp (show (x.1, x.2) ∈ named ts from hx)
  have h12 := few_reads h.ok ht
  exact shw_nr (by rw [← e]; exact h.ok.names t ht) (by omega)
theorem sysD_ok {d m : Int} {ts : List Tb} (h : Sys1 d m ts) : Shw (sysD d m ts) 7 30000 := by
  have hts : ShwA (ts.map Tb.d) 5 13206 := (ShwA.map fun t ht => shw_tb h ht).mono (Nat.le_refl _) (by have := h.l6; omega)
  have hnl : (named ts).length ≤ 12 := by rw [named_len]; exact h.ok.few
  have hnm : ShwA ((named ts).map nrD) 5 700 := (ShwA.map (w := 50) fun x hx => shw_named h hx).mono (by decide) (by omega)
  have h1 := h.d1
  have h3 := h.d3
  have h2 := h.m2
  have hx := h.mx
  have h6 := h.l6
  exact (Shw.list (ShwA.c (Shw.one (k := 6) (i := d) (by omega)) (ShwA.c (Shw.one (i := m) (by omega)) (ShwA.c (Shw.list hts) (ShwA.c (Shw.list hnm) (ShwA.c (Shw.one (i := (ts.length : Nat)) (by omega)) ShwA.nil)))))).mono (by decide) (by decide)
section
variable {P : Program} {w : World} {K : PySem.W.Frag} {mg : Str → Option Value} {base : Heap}
def spShown (K : PySem.W.Frag) (C : Addr) : Sp := fun vs H Q _ => ∃ (s : Addr) (d m : Int) (ts : List Tb), vs = [.ref s] ∧ SysAt K C H s d m ts ∧ Sys1 d m ts ∧ ∀ H', Same H H' → Q (.str (sysS d m ts)) H'
theorem ok_shown {f C : Addr} {fd : FuncData} (F : Fun K "_law_shown" "_law_shown" s_Lshown f fd) (T : Txt mg) (zr : mg "repr" = none) (TC : TxtC K mg C) (p_names : Prp P w K mg base 1 C "names" (spNames K C)) (p_dimensions : Prp P w K mg base 1 C "dimensions" (spDims K C)) (p_modulus : Prp P w K mg base 1 C "modulus" (spMod K C))
    (t_constant : C8.Met P w K mg base 4 C "constant" (spConst K C) []) (t_reads : C8.Met P w K mg base 4 C "reads" (spReads K C) []) (t_all_reads : C8.Met P w K mg base 1 C "all_reads" (spAll K C) []) (len_System : LenM P w K mg base 1 C (spLenS K C)) : FnG P w K mg base 5 f fd ["_law_made"] (spShown K C) := by
  refine Fun_okG F sc_Lshown (fun vs H Q E h => ?_) (fun cdv A outer sh H vs Q E hr h => ?_)
  · obtain ⟨s, d, m, ts, rfl, _⟩ := h
    rfl
  · obtain ⟨s, d, m, ts, rfl, S, O, q⟩ := h
    refine ⟨_, (pss_cons (ps_setLc (i := 1) (own := [("_law_word", 2)]) (g := gName 2) (tt := tYes) (by rfl) sc_Lshown.nd rfl rfl (sw_true rfl rfl rfl (by decide +kernel)) (pi_list (pe_pr (pv 0) p_names hr.room (by decide) rfl)) (blkOk_by (N := ["_law_made", "_law_rows", "_law_word"]) (sc := defScope s_Lshown) (by decide +kernel)) (fun _ _ _ _ _ => (pg_name (i := 2) sc_Lshown.nd rfl (by first | exact Or.inl rfl | exact Or.inr rfl))) (fun _ _ _ _ _ => pts_nil) (fun _ _ _ _ _ => (pe_tup (pa_cons (pv 2) (pa_cons (C8.pe_mt t_constant hr.room (by decide) (pv 0) (pa_cons (pv 2) pa_nil)) (pa_cons (C8.pe_mt t_reads hr.room (by decide) (pv 0) (pa_cons (pv 2) pa_nil)) pa_nil))))))
  (pss_one (ps_ret (pe_callB (call_reprD hr.free hr.room.units1) (by rfl) zr (by decide +kernel) (pa_cons (pe_lst (pa_cons (pe_pr (pv 0) p_dimensions hr.room (by decide) rfl) (pa_cons (pe_pr (pv 0) p_modulus hr.room (by decide) rfl) (pa_cons (pv 1) (pa_cons (C8.pe_mt0 t_all_reads hr.room (by decide) (pv 0)) (pa_cons (pe_callB (call_lenOwn len_System hr.room (by decide)) (by rfl) T.b_len PySem.boot_len (pa_cons (pv 0) pa_nil)) pa_nil)))))) pa_nil))))), ?_⟩
    obtain ⟨dx, tt, kvs, h1, h2, h3⟩ := id S.ob
    have nf : ∀ {x : Str}, ¬ x = "_dimensions" → ¬ x = "_modulus" → ¬ x = "_tables" → (flds d m tt).lookup x = none := fun a b c => flds_no _ _ _ a b c
    refine ⟨_, rfl, s, dx, _, rfl, h1, s, d, m, ts, rfl, S, fun p H0 hp s0 hp0 => ⟨p, rfl, ⟨_, Or.inl (Or.inl hp0)⟩, fun D hD => ?_⟩⟩
    refine lc_it (walk_list (K := K) (a := p) (xs := ts.map fun t => V.str t.n)) (fun i H' => ∃ (B : Hp) (xs : List V), Same H0 B ∧ B D = none ∧ Same B H' ∧ H' D = some (.lst xs) ∧ DpAll K B xs ((ts.take i).map Tb.d))
      ⟨H0, [], same_refl, hD, snew hD, upd_same, .nil⟩ (fun i H' _ ⟨B, xs, b1, _, b3, _⟩ => Or.inl (Or.inl (b3 _ _ (b1 _ _ hp0)))) ?_ ?_
    · rintro i y Hi _ hi ⟨B, xs, b1, b2, b3, b4, b5⟩ ⟨rfl, hy⟩
      rw [List.getElem?_map] at hy
      obtain ⟨tb, ht, rfl⟩ := Option.map_eq_some_iff.mp hy
      have htm := List.mem_of_getElem? ht
      have hmem : tb.n ∈ ts.map (·.n) := List.mem_map.mpr ⟨tb, htm, rfl⟩
      have hf := find_nodup' O.ok.nodup htm
      have sB := same_tr s0 b1
      have si := same_tr sB b3
      refine ⟨rfl, yes_if ?_⟩
      refine ⟨_, rfl, _, rfl, s, dx, _, rfl, si _ _ h1, nf (by decide +kernel) (by decide +kernel) (by decide +kernel), _, rfl, s, d, m, ts, tb.n, tb, rfl, S.mono si, hmem, hf, fun H2 s2 => ?_⟩
      have si2 := same_tr si s2
      have b32 := same_tr b3 s2
      have D2 := s2 _ _ b4
      refine ⟨_, rfl, s, dx, _, rfl, si2 _ _ h1, nf (by decide +kernel) (by decide +kernel) (by decide +kernel), _, rfl, B, s, d, m, ts, tb.n, tb, rfl, b32, S.mono sB, hmem, hf, fun l H3 rs hl s3 hl3 hrs => ⟨(by show 3 ≤ sizeLine; decide), fun u hu2 => ?_⟩⟩
      have b33 := same_tr b32 s3
      have D3 := s3 _ _ D2
      have bl : B l = none := free_of b32 hl
      have c1 : Same (upd B l (.lst rs)) H3 := fun b o e => by
        by_cases hb : b = l
        · rw [hb, upd_same] at e
          rw [hb, ← e]
          exact hl3
        · rw [upd_ne hb] at e
          exact b33 _ _ e
      have bu : (upd B l (.lst rs)) u = none := free_of c1 hu2
      have c2 : Same (upd (upd B l (.lst rs)) u (.tup [.str tb.n, .int tb.c, .ref l])) (upd H3 u (.tup [.str tb.n, .int tb.c, .ref l])) := sgrow c1
      have sBB : Same B (upd (upd B l (.lst rs)) u (.tup [.str tb.n, .int tb.c, .ref l])) := same_tr (snew bl) (snew bu)
      have nuD : D ≠ u := ne_of_none D3 hu2
      have nlD : D ≠ l := ne_of_none D2 hl
      have bD : (upd (upd B l (.lst rs)) u (.tup [.str tb.n, .int tb.c, .ref l])) D = none := by rw [upd_ne nuD, upd_ne nlD]; exact b2
      have ul : (upd (upd B l (.lst rs)) u (.tup [.str tb.n, .int tb.c, .ref l])) l = some (.lst rs) := by
        rw [upd_ne (ne_of_none (upd_same (H := B) (o := HO.lst rs)) bu)]
        exact upd_same
      have hl6 := O.l6
      refine ⟨xs, by rw [upd_ne nuD]; exact D3, small1000 (by rw [dps_len b5, List.length_map, List.length_take]; omega), _, xs ++ [.ref u], same_tr b1 sBB, bD, swrite c2 bD, upd_same, ?_⟩
      rw [List.take_add_one, ht, List.map_append]
      exact dps_snoc (dpsm sBB _ _ b5) (.tup (Or.inl (Or.inl upd_same)) (.cons (.str _) (.cons (.int _) (.cons (.lst (Or.inl (Or.inl ul)) (dpsm sBB _ _ hrs)) .nil))))
    · rintro H1 ⟨B, xs, b1, b2, b3, b4, b5⟩
      rw [List.length_map, List.take_length] at b5
      have s1 := same_tr s0 (same_tr b1 b3)
      have S1 := S.mono s1
      refine ⟨_, rfl, s, dx, _, rfl, s1 _ _ h1, s, d, m, ts, rfl, S1, ?_⟩
      refine ⟨_, rfl, s, dx, _, rfl, s1 _ _ h1, s, d, m, ts, rfl, S1, ?_⟩
      refine ⟨_, rfl, ?_⟩
      refine ⟨_, rfl, s, dx, _, rfl, s1 _ _ h1, nf (by decide +kernel) (by decide +kernel) (by decide +kernel), s, d, m, ts, rfl, S1, O.ok.nodup, Nat.le_trans O.ok.few (by decide), fun p2 H2 hp2 s2 L2 => ?_⟩
      have S2 := S1.mono s2
      refine ⟨_, rfl, s, dx, _, rfl, s2 _ _ (s1 _ _ h1), s, d, m, ts, rfl, S2, ts.length, rfl, by have := O.l6; omega, (by show 5 ≤ sizeLine; decide), fun q1 hq1 => ?_⟩
      have s3 := snew (o := .lst [.int d, .int m, .ref D, .ref p2, .int (ts.length : Nat)]) hq1
      obtain ⟨w1, w2, w3, w4⟩ := (sysD_ok O).asks (by decide) (by decide)
      refine ⟨.ref q1, sysD d m ts, rfl, ?_, w1, w2, w3, w4, q _ (same_tr s1 (same_tr s2 s3))⟩
      refine .lst (Or.inl (Or.inl upd_same)) (.cons (.int _) (.cons (.int _) (.cons ?_ (.cons ?_ (.cons (.int _) .nil)))))
      · exact .lst (Or.inl (Or.inl (s3 _ _ (s2 _ _ b4)))) (dpsm (same_tr b3 (same_tr s2 s3)) _ _ b5)
      · exact dpm s3 _ _ L2.dp
end
end Fr

namespace Fr
open PySem PySem.Spec PyProof.Rows L2
theorem countIn_strs (k : Str) : ∀ ks : List Str, countIn (.str k) (ks.map PyData.str) = ((ks.count k : Nat) : Int)
  | [] => rfl
  | x :: ks => by
    rw [List.map_cons, countIn, countIn_strs k ks, List.count_cons]
    show (if (x == k) = true then 1 else 0) + _ = _
    by_cases h : x = k
    · rw [h]
      simp
      omega
    · have h' : (x == k) = false := beq_eq_false_iff_ne.mpr h
      rw [h']
      simp
section
variable {X : Cx}
def rCountS (K : PySem.W.Frag) : V → List V → Hp → VK → Prop := fun x xs H Q => ∃ (a : Addr) (ks : List Str) (k : Str), x = .ref a ∧ xs = [.str k] ∧ SqL K H a (ks.map V.str) ∧ Q (.int (ks.count k : Nat)) H
theorem mt_count : MtR X "list.count" (rCountS X.K) := by
  intro pins s σ H x xs v us Q I rx rxs h
  obtain ⟨a, ks, k, rfl, rfl, hl, q⟩ := h
  cases rx
  obtain ⟨u, rfl, t, rfl⟩ := vals1 rxs
  obtain ⟨its, r, hp, hz⟩ := I.list hl
  refine count_list_strs (vs := its) hp.isList r.strs ?_
  rw [countIn_strs]
  exact ⟨.int (ks.count k : Nat), H, I.tok _, ⟨_, rfl⟩, q⟩
/-- sorted(t), t a tuple of ints -/
def rSortedIT (K : PySem.W.Frag) : List V → Hp → VK → Prop := fun vs H Q => ∃ (a : Addr) (ns : List Int), vs = [V.ref a] ∧ SqT K H a (ns.map V.int) ∧
  ∀ (ns' : List Int) (p : Addr), ns'.Perm ns → ns'.Pairwise (· ≤ ·) → H p = none → Q (.ref p) (upd H p (.lst (ns'.map V.int)))
theorem cr_sortedIT : CallR X (.builtin "sorted") (rSortedIT X.K) := by
  intro pins s σ H vs us Q I r h
  obtain ⟨a, ns, rfl, hs, q⟩ := h
  obtain ⟨its, rv, ⟨o, ho, hc, n, hd⟩, hz⟩ := I.tuple hs
  rw [Vals.ref1 r]
  have hi := rv.ints
  have hlz : its.length ≤ sizeLine := by rw [← rv.length]; exact hz
  refine Calls.call_function_entry kind_sorted plain_sorted entry_sorted (args_sorted1 _) ?_
  unfold Builtin.«sorted»
  refine wpAny_bind (m := checkCount "sorted" 1 1 _) (wpAny_pure ?_)
  refine wpAny_bind (wpAny_collect_seq a (.inr rfl) ho hc hd (fun h1 keep => ?_) (by rw [List.size_toArray]; exact hlz))
  have I1 : Inv X pins σ H { s with heap := h1 } := I.kept (t' := s.toks) keep
  refine wpAny_bind (wpAny_newList ?_ hlz)
  have hL : (h1.push (seqObj "list" its.toArray 0)).get? h1.objs.size = some (seqObj "list" its.toArray 0) := Heap.get?_push_size _ rfl
  refine wpAny_bind (wpAny_holding (wpAny_call_entry slot_list_sort ⟨_, hL, rfl⟩ entry_list_sort (SrtO.list_sort_ord SrtO.swo_int hL hlz (fun h2 => SrtO.ints_sortable hi h2) fun out so sb => ⟨_, rfl, ?_⟩) (args_list_sort _)))
  obtain ⟨k1, k2, k3⟩ := SrtO.ints_out hi so sb
  obtain ⟨ep, he'⟩ := PyProof.Rows.sortedHeap_at (vs := its) (out := out.toArray) hL
  have hlen : ((out.map SrtO.iv).map V.int).length ≤ sizeLine := by
    rw [List.length_map, k2.length_eq]
    rw [List.length_map] at hz
    exact hz
  refine wpAny_pure ⟨_, rfl, .ref h1.objs.size, upd H h1.objs.size (.lst ((out.map SrtO.iv).map V.int)), ?_, rfl, q _ _ k2 k3 (I1.hok.fresh (Nat.le_refl _))⟩
  refine I1.laid (t' := s.toks) (fun b ob hb => ?_) (Nat.le_refl _) ⟨hlen, out, ep, vals_of_ints k1, by simpa using he'⟩
  have hlt : b < h1.objs.size := Heap.lt_size hb
  have hlt2 : b < (h1.push (seqObj "list" its.toArray 0)).objs.size := by rw [Heap.size_push]; exact Nat.lt_succ_of_lt hlt
  rw [PyProof.Rows.sortedHeap_old (Nat.ne_of_lt hlt) hlt2]
  exact Heap.get?_push_of_some _ hb
/-- walked in a comprehension's block -/
theorem pi_tupK {K' : PySem.W.Frag} {tg l : Expr} {tl : TE} (hl : PE X l tl) (hK : X.K = K' := by rfl) : PI X tg l (iTup K' tl) := by
  subst hK
  exact pi_tup hl
theorem pi_listK {K' : PySem.W.Frag} {tg l : Expr} {tl : TE} (hl : PE X l tl) (hK : X.K = K' := by rfl) : PI X tg l (iList K' tl) := by
  subst hK
  exact pi_list hl
/-- list(d.values()) -/
def tLstVals (te : TE) : TE := fun σ H Q => te σ H fun x H1 => ∃ (d : Addr) (kvs : List (Key × V)), x = .ref d ∧ H1 d = some (.dK kvs) ∧ ∀ q, H1 q = none → Q (.ref q) (upd H1 q (.lst (kvs.map (·.2))))
theorem pe_listVals {e : Expr} {te : TE} {p apos cpos pos : Pos} (hc : X.calm = true) (hg : Gl X "list") (hm : X.mg "list" = none) (he : PE X e te) (hbase : attributeBase e "values" X.env (eval e X.env) = eval e X.env := by rfl) (hline : (apos.endLine == cpos.line) = true := by rfl)
    (na : starEach [.Call (.Attribute e "values" apos) [] [] cpos] X.env = (false, eval (.Call (.Attribute e "values" apos) [] [] cpos) X.env) :: starEach [] X.env := by rfl) : PE X (.Call (.Name "list" p) [.Call (.Attribute e "values" apos) [] [] cpos] [] pos) (tLstVals te) := by
  refine ⟨fun pins s σ H Q I h => ?_⟩
  refine Call_ (ld_blt I hg hm boot_list (PyProof.Rows.callWith_type1 (args_cons ?_ na) na))
  refine wpAny_Call_method (T := "dict") (id := "dict.values") hbase rfl hline PySem.F.plainAttrs_dict PySem.F.slot_dict_values PySem.F.type_dict_values (thn (he.run pins s σ H _ I h) fun u s1 ⟨x, H1, I1, rx, d, kvs, ex, hd, q⟩ => ?_)
  subst ex
  obtain rfl : u = Value.ref d := rx
  obtain ⟨z, lo, vs, rk, hdd⟩ := (show ObjOk X.prog X.w H1 s1.heap d (.dK kvs) from I1.hok d _ hd)
  obtain ⟨ep, hat⟩ := hdd.dictAt
  have hl : kvs.length = vs.length := Paired.length rk
  refine ⟨hdd.typeIs, hdd.mapOf.noDict, ?_⟩
  have I2 : Inv X pins σ H1 { s1 with heap := s1.heap.push { cls := .type "dict_values", data := .fields #[.ref d] } } := I1.kept (t' := s1.toks) fun b ob q => Heap.get?_push_of_some _ q
  have fin : wpAny (model X.prog X.w) X.A (call (.type "list") [.ref s1.heap.objs.size]) (EP X pins σ Q) X.xe { s1 with heap := s1.heap.push { cls := .type "dict_values", data := .fields #[.ref d] } } := by
    refine PySem.W.kdl_call (PySem.W.kdl_values (knd := mixKind X.prog X.w) (r := s1.heap.objs.size) (d := d) (kvs := vs) (ep := ep)) (I2.ok.hd hc) ⟨⟨_, Heap.get?_push_size _ rfl, rfl, rfl⟩, hat.push _⟩ (by rw [← hl]; exact z) fun h' tk acc' c' hkeep hS hacc => ?_
    refine ⟨.ref _, upd H1 _ (.lst (kvs.map (·.2))), I2.laid hkeep (Nat.le_refl _) (show ObjOk X.prog X.w _ _ _ (.lst (kvs.map (·.2))) from ⟨?_, acc'.toList, c', ?_, ?_⟩), rfl, q _ (I2.hok.fresh (Nat.le_refl _))⟩
    · rw [List.length_map]; exact z
    · have el : acc'.toList.length = acc'.size := by simp
      refine vals_of_at (by rw [List.length_map, el, hacc.1, hl]) fun j x w h1 h2 => ?_
      obtain ⟨k, hky⟩ := hacc.2 j w (by rw [← Array.getElem?_toList]; exact h2)
      rw [List.getElem?_map] at h1
      obtain ⟨kv, h3, rfl⟩ := Option.map_eq_some_iff.mp h1
      obtain ⟨y, h4, h5⟩ := KV.at' rk hky
      rw [h3] at h4
      cases h4
      exact h5
    · rw [Array.toArray_toList]; exact hS
  show wpAny _ _ (callWith cpos (.builtin "dict.values") [.ref d] [] []) _ X.xe s1
  exact method_meetsIn PySem.F.slot_dict_values PySem.F.entry_dict_values rfl (PySem.evalArgs_none ⟨rfl, hdd.typeIs, PySem.F.args_dict_values_1 _, _, meets_dict_values (mixKind X.prog X.w) d lo, ⟨vs, hdd⟩, args_nil fin⟩)
end
end Fr

namespace Fr
open PySem PySem.Spec PyProof.Rows L2
abbrev s_System_exchanged : Stmt := inClass (topS 28) 12
theorem sc_System_exchanged : FnScope ["self", "axes", "tables", "name", "constant", "own", "reads", "axis", "table", "vector", "factor"] ["self", "axes"] (defScope s_System_exchanged) := ⟨rfl, rfl, rfl, by decide +kernel, rfl, by decide +kernel, by decide +kernel⟩
-- slots: 0 self, 1 axes, 2 tables, 3 name, 4 constant, 5 own, 6 reads, 7 axis, 8 table, 9 vector, 10 factor
/-- a vector with its coordinates in the sequence ax -/
def axV (ax : List Nat) (v : List Int) : List Int := ax.map fun a => v.getD a 0
def axR (ax : List Nat) (r : Rd1) : Rd1 := ⟨r.t, axV ax r.v, r.f⟩
def axT (ax : List Nat) (t : Tb) : Tb := ⟨t.n, t.c, t.rs.map (axR ax)⟩
def AxOk (d : Int) (ax : List Nat) : Prop := ax.Perm (List.range d.toNat)
theorem rg_map {l : List Int} {n : Nat} (h : n = l.length) : (List.range n).map (fun j => V.int (l.getD j 0)) = l.map V.int := by
  subst h
  refine List.ext_getElem (by simp) fun i h1 h2 => ?_
  simp only [List.length_map, List.length_range] at h1
  simp [List.getD_eq_getElem?_getD, h1]
theorem AxOk.len {d : Int} {ax : List Nat} (h : AxOk d ax) : ax.length = d.toNat := by
  rw [h.length_eq, List.length_range]
theorem AxOk.lt {d : Int} {ax : List Nat} (h : AxOk d ax) {a : Nat} (m : a ∈ ax) : a < d.toNat := List.mem_range.mp (h.mem_iff.mp m)
theorem AxOk.sorted {d : Int} {ax : List Nat} {ns : List Int} (h : AxOk d ax) (p : ns.Perm (ax.map fun a : Nat => (a : Int))) (so : ns.Pairwise (· ≤ ·)) : ns = (List.range d.toNat).map fun a : Nat => (a : Int) :=
  List.Perm.eq_of_pairwise (fun _ _ _ _ h k => Int.le_antisymm h k) so (List.pairwise_map.mpr (List.pairwise_lt_range.imp fun h => by omega)) (p.trans (h.map _))
theorem rgV0 (d : Int) : rgV 0 d = ((List.range d.toNat).map fun a : Nat => (a : Int)).map V.int := by
  unfold rgV
  rw [List.map_map, Int.sub_zero]
  refine List.map_congr_left fun a _ => ?_
  show V.int (0 + (a : Int)) = V.int a
  rw [Int.zero_add]
theorem sqt_st {K : PySem.W.Frag} {H H' : Hp} {g : Addr} {xs : List V} (s : ST H H') (h : SqT K H g xs) : SqT K H' g xs := by
  rcases h with (h | ⟨o, h⟩) | h
  · exact .inl (.inl (s _ _ h rfl))
  · exact .inl (.inr ⟨o, s _ _ h rfl⟩)
  · exact .inr h
section
variable {P : Program} {w : World} {K : PySem.W.Frag} {mg : Str → Option Value} {base : Heap}
def spExch (K : PySem.W.Frag) (C : Addr) (TT : List (Addr × Str)) : Sp := fun vs H Q _ => ∃ (s g : Addr) (d m : Int) (ts : List Tb) (ax : List Nat), vs = [.ref s, .ref g] ∧ SysAt K C H s d m ts ∧ 1 ≤ d ∧ d ≤ 3 ∧ 2 ≤ m ∧ OkT d ts ∧ ts.length ≤ 12 ∧ SqT K H g ((ax.map fun a : Nat => (a : Int)).map V.int) ∧ AxOk d ax ∧ LamX.Tabs TT H ∧
  ∀ x H', H x = none → LamX.ExtN H H' → LamX.Tabs TT H' → SysAt K C H' x d m (srt (ts.map (axT ax))) → Q (.ref x) H'
theorem ok_exch {f C : Addr} {fd : FuncData} {TT : List (Addr × Str)} (F : Fun K "exchanged" "System.exchanged" s_System_exchanged f fd) (T : Txt mg) (TC : TxtC K mg C) (t__with_tables : C8.Met P w K mg base 7 C "_with_tables" (spWith K C TT) []) : FnOk P w K mg base CX0 8 f fd ["self", "axes"] (spExch K C TT) := by
  refine F.ok sc_System_exchanged (fun vs H Q E h => ?_) (fun cdv A outer sh H vs Q E hr h => ?_)
  · obtain ⟨s, g, d, m, ts, ax, rfl, _⟩ := h
    rfl
  · obtain ⟨s, g, d, m, ts, ax, rfl, S, hd1, hd3, hm2, O, hlen, hg, hax, hT, q⟩ := h
    have hu := hu_of hr
    refine ⟨_, (pss_cons (ps_if (pt_cmpR (op_neD hr.units) (pe_callB cr_sortedIT (by rfl) T.b_sorted (by decide +kernel) (pa_cons (pv 1) pa_nil)) (pe_listRg rfl (by rfl) T.b_list (prg_1 (by rfl) T.b_range (pe_fld (pv 0) rfl))) (nomark _))
    (pss_one ps_never)
    pss_nil)
  (pss_cons (ps_set (i := 2) sc_System_exchanged.nd rfl (by first | exact Or.inl rfl | exact Or.inr rfl) pe_dnewK)
  (pss_cons (ps_lock (ps_for PassesOwn.never rfl (pi_items (pe_fld (pv 0) rfl)) (pg_tup rfl (pgs_cons (pg_name (i := 3) sc_System_exchanged.nd rfl (by first | exact Or.inl rfl | exact Or.inr rfl)) (pgs_cons (pg_tup rfl (pgs_cons (pg_name (i := 4) sc_System_exchanged.nd rfl (by first | exact Or.inl rfl | exact Or.inr rfl)) (pgs_cons (pg_name (i := 5) sc_System_exchanged.nd rfl (by first | exact Or.inl rfl | exact Or.inr rfl)) pgs_nil))) pgs_nil)))
    (pss_cons (ps_setLc (i := 6) (own := [("table", 8), ("vector", 9), ("factor", 10)]) (g := gTup K 3 (gCons (gName 8) (gCons (gName 9) (gCons (gName 10) gNil)))) (tt := tYes) (by rfl) sc_System_exchanged.nd rfl rfl (sw_true rfl rfl rfl (by decide +kernel)) (pi_tup (pv 5)) (blkOk_by (N := ["self", "axes", "tables", "name", "constant", "own", "reads", "axis", "table", "vector", "factor"]) (sc := defScope s_System_exchanged) (by decide +kernel)) (fun _ _ _ _ _ => (pg_tup rfl (pgs_cons (pg_name (i := 8) sc_System_exchanged.nd rfl (by first | exact Or.inl rfl | exact Or.inr rfl)) (pgs_cons (pg_name (i := 9) sc_System_exchanged.nd rfl (by first | exact Or.inl rfl | exact Or.inr rfl)) (pgs_cons (pg_name (i := 10) sc_System_exchanged.nd rfl (by first | exact Or.inl rfl | exact Or.inr rfl)) pgs_nil))))) (fun _ _ _ _ _ => pts_nil) (fun _ _ _ _ _ => (pe_tup (pa_cons (pv 8) (pa_cons (pe_callTy (r := rTupS K) call_tuple_of (by rfl) T.b_tuple (by decide +kernel) (pa_cons (pe_lc (own := [("axis", 7)]) (g := gName 7) (tt := tYes) (by rfl) sc_System_exchanged.nd (pi_tupK (K' := K) (pv 1)) (blkOk_by (N := ["self", "axes", "tables", "name", "constant", "own", "reads", "axis", "table", "vector", "factor"]) (sc := { kind := .function, names := [(".0", .local), ("table", .local), ("vector", .cell), ("factor", .local), ("tuple", .globalImplicit), ("axes", .cell)], isGenerator := false, isCoroutine := false }) (by decide +kernel)) (fun _ _ _ _ _ => (pg_name (i := 7) sc_System_exchanged.nd rfl (by first | exact Or.inl rfl | exact Or.inr rfl))) (fun _ _ _ _ _ => pts_nil) (fun _ _ _ _ _ => (pe_ix (r := rIxT K) ix_tup (pv 9) (pv 7) (fun _ _ => rfl)))) pa_nil)) (pa_cons (pv 10) pa_nil))))))
    (pss_one (ps_dput hu (pv 2) (pv 3) (pe_tup (pa_cons (pv 4) (pa_cons (pe_callTy call_tuple_of (by rfl) T.b_tuple (by decide +kernel) (pa_cons (pv 6) pa_nil)) pa_nil))) rfl)))))
  (pss_one (ps_ret (C8.pe_mt t__with_tables hr (by decide) (pv 0) (pa_cons (pv 2) pa_nil))))))), ?_⟩
    obtain ⟨dx, tt, kvs, h1, h2, h3⟩ := S.ob
    have hal := hax.len
    -- the test
    refine ⟨_, rfl, g, _, rfl, hg, fun ns p perm so hp => ?_⟩
    have ens := hax.sorted perm so
    have sp1 : Same H (upd H p (.lst (ns.map V.int))) := snew hp
    refine ⟨_, rfl, s, C, dx, _, _, rfl, sp1 _ _ h1, TC.cl, TC.nD, flds_d _ _ _, d, rfl, RgOk.of_le (by omega) (by omega) (by omega) (by omega), fun q2 hq2 => ?_⟩
    have sp2 := same_tr sp1 (snew (o := .lst (rgV 0 d)) hq2)
    have shp : SeqAt.shaped (.list (ns.map PyData.int)) = true := (Lay.list (k := 0) (.map fun x _ => Lay.int)).shaped (by decide)
    refine ⟨.list (ns.map .int), .list (ns.map .int), .lst (Or.inl (Or.inl (snew hq2 _ _ upd_same))) (ints_dps ns), .lst (Or.inl (Or.inl (by rw [rgV0, ← ens]; exact upd_same))) (ints_dps ns), shp, shp, _, rfl, ?_⟩
    rw [SeqAt.eqv_refl _ (SeqAt.canLay_of_shaped shp)]
    refine iteF ?_
    have b1 := sp2
    generalize upd (upd H p (.lst (ns.map V.int))) q2 (.lst (rgV 0 d)) = H1 at b1 ⊢
    have S1 := S.mono b1
    have hg1 := sqt b1 hg
    clear sp1 sp2 h1 h2 h3
    obtain ⟨dx, tt, kvs, h1, h2, h3⟩ := S1.ob
    -- tables = {}
    intro Tt hTt
    have nst : s ≠ tt := fun z => by
      rw [z, h2] at h1
      cases h1
    have ntT : tt ≠ Tt := ne_of_none h2 hTt
    refine ⟨tt, .dK kvs, by rw [upd_ne ntT]; exact h2, True.intro, fun od => ?_⟩
    have swap : upd (upd H1 Tt (.dK [])) tt (.frz od (.dK kvs)) = upd (upd H1 tt (.frz od (.dK kvs))) Tt (.dK []) := by
      funext b
      by_cases hb : b = tt
      · rw [hb, upd_same, upd_ne ntT, upd_same]
      · by_cases hb2 : b = Tt
        · rw [hb2, upd_ne ntT.symm, upd_same, upd_same]
        · rw [upd_ne hb, upd_ne hb2, upd_ne hb2, upd_ne hb]
    rw [swap]
    have l1 : (upd H1 tt (.frz od (.dK kvs))) s = some (.ins C dx (flds d m tt)) := by rw [upd_ne nst]; exact h1
    have l2 : (upd H1 tt (.frz od (.dK kvs))) tt = some (.frz od (.dK kvs)) := upd_same
    have lT : (upd H1 tt (.frz od (.dK kvs))) Tt = none := by rw [upd_ne ntT.symm]; exact hTt
    have l3 : KvAt K (upd H1 tt (.frz od (.dK kvs))) kvs ts := kvt (st_upd h2 rfl) h3
    have lg : SqT K (upd H1 tt (.frz od (.dK kvs))) g ((ax.map fun a : Nat => (a : Int)).map V.int) := sqt_st (st_upd h2 rfl) hg1
    have back : ∀ H', Same (upd H1 tt (.frz od (.dK kvs))) H' → Same H1 (upd H' tt (.dK kvs)) := fun H' e => unlock h2 e
    generalize upd H1 tt (.frz od (.dK kvs)) = HL at l1 l2 l3 lT lg back ⊢
    refine ⟨_, rfl, s, C, dx, _, _, rfl, by rw [upd_ne (ne_of_none l1 lT)]; exact l1, TC.cl, TC.nT, flds_t _ _ _, tt, od, kvs, rfl, by rw [upd_ne ntT]; exact l2, ?_⟩
    refine for_it (walk_items (o := od) (d := tt) (kvs := kvs)) (fun i σ H' => ∃ y3 y4 y5 y6, σ = [some (.ref s), some (.ref g), some (.ref Tt), y3, y4, y5, y6, none, none, none, none] ∧ ∃ (B : Hp) (kvs' : List (Key × V)), Same HL B ∧ B Tt = none ∧ Same B H' ∧ H' Tt = some (.dK kvs') ∧ KvAt K B kvs' ((ts.take i).map (axT ax)))
      ⟨none, none, none, none, rfl, HL, [], same_refl, lT, snew lT, upd_same, .nil⟩ (fun i σ H' _ ⟨_, _, _, _, _, B, _, c1, _, c3, _⟩ => c3 _ _ (c1 _ _ l2)) ?_ ?_
    · rintro i x σ Hi _ hi ⟨y3, y4, y5, y6, rfl, B, kvs', c1, c2, c3, c4, c5⟩ ⟨Tp, k1, v1, rfl, hTp, rfl, e1, e2⟩
      obtain ⟨⟨k, v⟩, hk, rfl⟩ := Option.map_eq_some_iff.mp e1
      obtain ⟨⟨k', v'⟩, hk', rfl⟩ := Option.map_eq_some_iff.mp e2
      rw [hk] at hk'
      cases hk'
      obtain ⟨tb, ht, rfl, hv⟩ := kv_at l3 hk
      have htm := List.mem_of_getElem? ht
      have h12 := few_reads O htm
      have hnames : ∀ l : List Tb, (l.map (axT ax)).map (·.n) = l.map (·.n) := fun l => by
        rw [List.map_map]
        rfl
      have hno : valV kvs' (Sum.inr tb.n) = none := c5.noVal (by
        rw [hnames, List.map_take]
        exact notin_take O.nodup (by rw [List.getElem?_map, ht]; rfl))
      have hkl : kvs'.length ≤ 12 := by
        rw [c5.len, List.length_map, List.length_take]
        omega
      have sTp : Same Hi (upd Hi Tp (.tup [kV (Sum.inr tb.n), v])) := snew hTp
      have c3' := same_tr c3 sTp
      have nTp : Tt ≠ Tp := ne_of_none c4 hTp
      have c4' : (upd Hi Tp (.tup [kV (Sum.inr tb.n), v])) Tt = some (.dK kvs') := by rw [upd_ne nTp]; exact c4
      have tpat : (upd Hi Tp (.tup [kV (Sum.inr tb.n), v])) Tp = some (.tup [.str tb.n, v]) := upd_same
      generalize upd Hi Tp (.tup [kV (Sum.inr tb.n), v]) = H3 at c3' c4' tpat
      obtain ⟨a, ys, rfl, hta, hda⟩ := dtup (dpm c1 _ _ hv)
      obtain ⟨z1, z2, rfl, g1, g2⟩ := dps2 hda
      obtain rfl := dint g1
      obtain ⟨ow, os, rfl, hto, hdo⟩ := dtup g2
      have hol : os.length = tb.rs.length := by rw [dps_len hdo, List.length_map]
      refine ⟨Tp, _, rfl, Or.inl (Or.inl tpat), rfl, _, _, rfl, _, _, rfl, a, _, rfl, sqt c3' hta, rfl, _, _, rfl, _, _, rfl, rfl, rfl, ?_⟩
      -- reads = [..]
      refine ⟨_, rfl, ow, rfl, ⟨os, sqt c3' hto⟩, fun D hD => ?_⟩
      have bD : B D = none := free_of c3' hD
      have nDT : Tt ≠ D := ne_of_none c4' hD
      refine lc_it (walk_tup (K := K) (a := ow) (xs := os)) (fun j H' => ∃ (B2 : Hp) (zs : List V), Same B B2 ∧ B2 D = none ∧ B2 Tt = none ∧ Same B2 H' ∧ H' Tt = some (.dK kvs') ∧ H' D = some (.lst zs) ∧ DpAll K B2 zs (((tb.rs.take j).map (axR ax)).map Rd1.d))
        ⟨B, [], same_refl, bD, c2, same_tr c3' (snew hD), by rw [upd_ne nDT]; exact c4', upd_same, .nil⟩ (fun j H' _ ⟨B2, zs, d1, _, _, d4, _⟩ => sqt d4 (sqt d1 hto)) ?_ ?_
      · rintro j y _ Hj hj ⟨B2, zs, d1, d2, d3, d4, d5, d6, d7⟩ ⟨rfl, hy⟩
        obtain ⟨r, ra, rb, e3, rfl, _, f3, f4⟩ := rd_at (dpsm d1 _ _ hdo) hy
        have hrm := List.mem_of_getElem? e3
        have hrv : r.v.length = d.toNat := by
          have := O.reads tb htm r hrm
          unfold isRead at this
          rw [Bool.and_eq_true, Bool.and_eq_true] at this
          have := of_decide_eq_true this.2.1
          omega
        have hgj : SqT K Hj g ((ax.map fun a : Nat => (a : Int)).map V.int) := sqt d4 (sqt d1 (sqt c1 lg))
        refine ⟨ra, _, rfl, sqt d4 f3, rfl, _, _, rfl, _, _, rfl, _, _, rfl, rfl, rfl, yes_if ?_⟩
        refine ⟨_, rfl, _, rfl, g, rfl, ⟨_, hgj⟩, fun D2 hD2 => lc_flat (walk_tup (K := K) (a := g) (xs := (ax.map fun a : Nat => (a : Int)).map V.int)) (fun j => .int ((axV ax r.v).getD j 0)) (by rw [List.length_map, List.length_map]; omega) hD2 (fun H' sm => sqt sm hgj) (fun i H x H' y => yat_same y) ?_ ?_⟩
        · rintro j2 z Ha _ hj2 sm ⟨rfl, hz⟩ R hR
          rw [List.getElem?_map, List.getElem?_map] at hz
          obtain ⟨_, hz2, rfl⟩ := Option.map_eq_some_iff.mp hz
          obtain ⟨c, hc, rfl⟩ := Option.map_eq_some_iff.mp hz2
          have hcl : c < r.v.length := by rw [hrv]; exact hax.lt (List.mem_of_getElem? hc)
          have ev : (axV ax r.v).getD j2 0 = r.v.getD c 0 := by
            unfold axV
            simp [List.getD_eq_getElem?_getD, hc]
          have eg : (r.v.map V.int)[c]? = some (.int (r.v.getD c 0)) := by
            simp [List.getD_eq_getElem?_getD, hcl]
          have r' := hR _ same_refl
          rw [ev] at r'
          exact ⟨rfl, _, rfl, _, rfl, rb, r.v.map V.int, (c : Int), _, rfl, rfl, sqt sm (sqt d4 f4), atI_nat eg, r'⟩
        · intro H4 s4 hD4
          rw [rg_map (l := axV ax r.v) (by unfold axV; simp)] at hD4
          refine ⟨D2, _, rfl, Or.inl ⟨Or.inl (Or.inl hD4), fun t ht => ?_⟩⟩
          have d4' := same_tr d4 s4
          have bt := free_of d4' ht
          have s5 : Same (upd B2 t (.tup ((axV ax r.v).map V.int))) (upd H4 t (.tup ((axV ax r.v).map V.int))) := sgrow d4'
          have d5' := s4 _ _ d5
          have d6' := s4 _ _ d6
          have ntT2 : Tt ≠ t := ne_of_none d5' ht
          have ntD : D ≠ t := ne_of_none d6' ht
          have d5'' : (upd H4 t (.tup ((axV ax r.v).map V.int))) Tt = some (.dK kvs') := by rw [upd_ne ntT2]; exact d5'
          have d6'' : (upd H4 t (.tup ((axV ax r.v).map V.int))) D = some (.lst zs) := by rw [upd_ne ntD]; exact d6'
          refine ⟨_, rfl, (by show 3 ≤ sizeLine; decide), fun u hu2 => ?_⟩
          have bu := free_of s5 hu2
          have nuD : D ≠ u := ne_of_none d6'' hu2
          have nuT : Tt ≠ u := ne_of_none d5'' hu2
          have s6 : Same (upd (upd B2 t (.tup ((axV ax r.v).map V.int))) u (.tup [.str r.t, .ref t, .int r.f])) (upd (upd H4 t (.tup ((axV ax r.v).map V.int))) u (.tup [.str r.t, .ref t, .int r.f])) := sgrow s5
          have sB : Same B2 (upd (upd B2 t (.tup ((axV ax r.v).map V.int))) u (.tup [.str r.t, .ref t, .int r.f])) := same_tr (snew bt) (snew bu)
          have cD : (upd (upd B2 t (.tup ((axV ax r.v).map V.int))) u (.tup [.str r.t, .ref t, .int r.f])) D = none := by rw [upd_ne nuD, upd_ne ntD]; exact d2
          have cT : (upd (upd B2 t (.tup ((axV ax r.v).map V.int))) u (.tup [.str r.t, .ref t, .int r.f])) Tt = none := by rw [upd_ne nuT, upd_ne ntT2]; exact d3
          have ut : (upd (upd B2 t (.tup ((axV ax r.v).map V.int))) u (.tup [.str r.t, .ref t, .int r.f])) t = some (.tup ((axV ax r.v).map V.int)) := by rw [upd_ne (ne_of_none upd_same bu)]; exact upd_same
          refine ⟨zs, by rw [upd_ne nuD]; exact d6'', small1000 (by rw [dps_len d7, List.length_map, List.length_map, List.length_take]; omega), _, zs ++ [.ref u], same_tr d1 sB, cD, cT, swrite s6 cD, by rw [upd_ne nDT, upd_ne nuT]; exact d5'', upd_same, ?_⟩
          rw [List.take_add_one, e3, List.map_append, List.map_append]
          exact dps_snoc (dpsm sB _ _ d7) (.tup (Or.inl (Or.inl upd_same)) (.cons (.str _) (.cons (.tup (Or.inl (Or.inl ut)) (ints_dps _)) (.cons (.int _) .nil))))
      · rintro H4 ⟨B2, zs, d1, d2, d3, d4, d5, d6, d7⟩
        rw [hol, List.take_length] at d7
        refine ⟨_, rfl, _, rfl, D, zs, rfl, Or.inl ⟨Or.inl (Or.inl d6), fun l hl => ⟨(by show 2 ≤ sizeLine; decide), fun u hu2 => ⟨_, rfl, _, rfl, ?_⟩⟩⟩⟩
        have bl : B2 l = none := free_of d4 hl
        have s6 : Same (upd B2 l (.tup zs)) (upd H4 l (.tup zs)) := sgrow d4
        have bu : (upd B2 l (.tup zs)) u = none := free_of s6 hu2
        have s7 : Same (upd (upd B2 l (.tup zs)) u (.tup [.int tb.c, .ref l])) (upd (upd H4 l (.tup zs)) u (.tup [.int tb.c, .ref l])) := sgrow s6
        have sB2 : Same B2 (upd (upd B2 l (.tup zs)) u (.tup [.int tb.c, .ref l])) := same_tr (snew bl) (snew bu)
        have sB := same_tr d1 sB2
        have nlT : Tt ≠ l := ne_of_none d5 hl
        have d2' : (upd H4 l (.tup zs)) Tt = some (.dK kvs') := by rw [upd_ne nlT]; exact d5
        have nuT : Tt ≠ u := ne_of_none d2' hu2
        have d2'' : (upd (upd H4 l (.tup zs)) u (.tup [.int tb.c, .ref l])) Tt = some (.dK kvs') := by rw [upd_ne nuT]; exact d2'
        have bT : (upd (upd B2 l (.tup zs)) u (.tup [.int tb.c, .ref l])) Tt = none := by rw [upd_ne nuT, upd_ne nlT]; exact d3
        have ul : (upd (upd B2 l (.tup zs)) u (.tup [.int tb.c, .ref l])) l = some (.tup zs) := by
          rw [upd_ne (ne_of_none (upd_same (H := B2) (o := HO.tup zs)) bu)]
          exact upd_same
        refine ⟨Tt, _, rfl, DPut.k (k := Sum.inr tb.n) d2'' (Nat.lt_of_le_of_lt hkl (by rw [sizeLine_eq]; decide)), ?_⟩
        refine ⟨_, _, _, _, rfl, _, kvs' ++ [(Sum.inr tb.n, .ref u)], same_tr c1 sB, bT, swrite s7 bT, by rw [upd_same, putK_new _ hno], ?_⟩
        rw [List.take_add_one, ht, List.map_append]
        exact (c5.mono sB).app (.cons ⟨rfl, .tup (Or.inl (Or.inl upd_same)) (.cons (.int _) (.cons (.tup (Or.inl (Or.inl ul)) (dpsm sB2 _ _ d7)) .nil))⟩ .nil)
    · rintro σ H' ⟨y3, y4, y5, y6, rfl, B, kvs', c1, c2, c3, c4, c5⟩
      have hlt : kvs.length = ts.length := h3.len
      rw [hlt, List.take_length] at c5
      have sb := back H' (same_tr c1 c3)
      have ntt : Tt ≠ tt := ntT.symm
      refine ⟨c3 _ _ (c1 _ _ l2), _, rfl, s, dx, _, rfl, sb _ _ h1, flds_no _ _ _ (by decide +kernel) (by decide +kernel) (by decide +kernel), _, rfl, ?_⟩
      refine ⟨s, Tt, d, m, ts, ts.map (axT ax), kvs', rfl, S1.mono sb, hd1, hd3, hm2, by rw [upd_ne ntt]; exact c4, kvt (st_unlock c3 (c1 _ _ l2) rfl) c5, ?_, by rw [List.length_map]; omega, hT.ext (same_tr b1 sb), fun x H2 hx e2 hT2 S2 => q x H2 (free_of (same_tr b1 sb) hx) (fun b o e n => e2 _ _ (sb _ _ (b1 _ _ e)) n) hT2 S2⟩
      rw [List.map_map]
      exact O.nodup
end
end Fr

namespace Fr
open PySem PySem.Spec PyProof.Rows L2
abbrev s_Systemcheck_new_names : Stmt := inClass (topS 28) 14
theorem sc_Systemcheck_new_names : FnScope ["self", "changed", "new_names", "all_names", "name"] ["self", "changed", "new_names"] (defScope s_Systemcheck_new_names) := ⟨rfl, rfl, rfl, by decide +kernel, rfl, by decide +kernel, by decide +kernel⟩
-- slots: 0 self, 1 changed, 2 new_names, 3 all_names, 4 name
abbrev s_System_renamed : Stmt := inClass (topS 28) 11
theorem sc_System_renamed : FnScope ["self", "names", "name", "new_names", "tables", "constant", "own", "reads", "table", "vector", "factor"] ["self", "names"] (defScope s_System_renamed) := ⟨rfl, rfl, rfl, by decide +kernel, rfl, by decide +kernel, by decide +kernel⟩
-- slots: 0 self, 1 names, 2 name, 3 new_names, 4 tables, 5 constant, 6 own, 7 reads, 8 table, 9 vector, 10 factor
/-- a dict from names to names -/
def dictS (nn : List (Str × Str)) : List (Key × V) := nn.map fun p => (Sum.inr p.1, V.str p.2)
theorem valS (k : Str) : ∀ nn : List (Str × Str), valV (dictS nn) (Sum.inr k) = (nn.lookup k).map V.str
  | [] => rfl
  | (a, b) :: nn => by
    show ((((Sum.inr a : Key), V.str b) :: dictS nn).find? fun kv => decide (kv.1 = Sum.inr k)).map (·.2) = _
    by_cases h : a = k
    · subst h
      rw [List.find?_cons_of_pos (by simp), List.lookup_cons_self]
      rfl
    · rw [List.find?_cons_of_neg (by simpa using h), List.lookup_cons, beq_eq_false_iff_ne.mpr fun z => h z.symm]
      exact valS k nn
theorem look_mem {k : Str} : ∀ {nn : List (Str × Str)}, k ∈ nn.map (·.1) → ∃ b, nn.lookup k = some b ∧ (k, b) ∈ nn
  | [], h => by cases h
  | (a, b) :: nn, h => by
    rw [List.lookup_cons]
    by_cases e : k = a
    · subst e
      rw [beq_self_eq_true]
      exact ⟨b, rfl, List.mem_cons_self⟩
    · rw [beq_eq_false_iff_ne.mpr e]
      rw [List.map_cons, List.mem_cons] at h
      obtain ⟨c, h1, h2⟩ := look_mem (h.resolve_left e)
      exact ⟨c, h1, List.mem_cons_of_mem _ h2⟩
section
variable {P : Program} {w : World} {K : PySem.W.Frag} {mg : Str → Option Value} {base : Heap}
def spNewNames (K : PySem.W.Frag) : Sp := fun vs H Q _ => ∃ (s l dd : Addr) (ks : List Str) (nn : List (Str × Str)), vs = [.ref s, .ref l, .ref dd] ∧ SqL K H l (ks.map V.str) ∧ H dd = some (.dK (dictS nn)) ∧ (∀ k ∈ ks, k ∈ nn.map (·.1)) ∧ (nn.map (·.2)).Nodup ∧ (∀ p ∈ nn, isName p.2 = true) ∧ ∀ H', Same H H' → Q .non H'
theorem ok_newnames {f : Addr} {fd : FuncData} (F : Fun K "_check_new_names" "System._check_new_names" s_Systemcheck_new_names f fd) (T : Txt mg) (c_is_name : C8.Cal P w K mg base 1 "is_name" spIsName []) : FnOk P w K mg base CX0 2 f fd ["self", "changed", "new_names"] (spNewNames K) := by
  refine F.ok sc_Systemcheck_new_names (fun vs H Q E h => ?_) (fun cdv A outer sh H vs Q E hr h => ?_)
  · obtain ⟨s, l, dd, ks, nn, rfl, _⟩ := h
    rfl
  · obtain ⟨s, l, dd, ks, nn, rfl, hl, hd, hk, hn2, hnm, q⟩ := h
    have hu := hu_of hr
    refine ⟨_, (pss_cons (ps_set (i := 3) sc_Systemcheck_new_names.nd rfl (by first | exact Or.inl rfl | exact Or.inr rfl) (pe_listVals rfl (by rfl) T.b_list (pv 2)))
  (pss_one (ps_for PassesOwn.never rfl (pi_list (pv 1)) (pg_name (i := 4) sc_Systemcheck_new_names.nd rfl (by first | exact Or.inl rfl | exact Or.inr rfl))
    (pss_one (ps_if (PW.pt (pw_or (pt_not (pt_val (C8.pe_c c_is_name hr (by decide) (by rfl) (pa_cons (pe_dget hu (pv 2) (pv 4) (fun _ _ => rfl)) pa_nil)))) (pw_or1 (pt_cmpR op_gt (pe_bm PySem.F.plainAttrs_list PySem.F.slot_list_count PySem.F.type_list_count mt_count (pv 3) (pa_cons (pe_dget hu (pv 2) (pv 4) (fun _ _ => rfl)) pa_nil)) pe_int (nomark _)))))
      (pss_one ps_never)
      pss_nil))))), ?_⟩
    have ev : (dictS nn).map (·.2) = (nn.map (·.2)).map V.str := by
      unfold dictS
      rw [List.map_map, List.map_map]
      rfl
    refine ⟨_, rfl, dd, _, rfl, hd, fun p hp => ?_⟩
    rw [ev]
    have s1 : Same H (upd H p (.lst ((nn.map (·.2)).map V.str))) := snew hp
    have hp1 : (upd H p (.lst ((nn.map (·.2)).map V.str))) p = some (.lst ((nn.map (·.2)).map V.str)) := upd_same
    generalize upd H p (.lst ((nn.map (·.2)).map V.str)) = H1 at s1 hp1
    refine ⟨_, rfl, l, rfl, ⟨_, sql s1 hl⟩, for_it (walk_list (K := K) (a := l) (xs := ks.map V.str)) (fun i σ H' => ∃ y4, σ = [some (.ref s), some (.ref l), some (.ref dd), some (.ref p), y4] ∧ Same H1 H') ⟨none, rfl, same_refl⟩ (fun i σ H' _ ⟨_, _, b⟩ => sql b (sql s1 hl)) ?_ ?_⟩
    · rintro i y σ _ H2 hi ⟨y4, rfl, b⟩ ⟨rfl, hy⟩
      rw [List.getElem?_map] at hy
      obtain ⟨k, hki, rfl⟩ := Option.map_eq_some_iff.mp hy
      obtain ⟨nw, hlk, hmem⟩ := look_mem (hk k (List.mem_of_getElem? hki))
      have hdg : ∀ {H' : Hp}, Same H2 H' → DGet H' dd (.str k) (some (.str nw)) := fun sm => by
        have g := DGet.k (k := Sum.inr k) (sm _ _ (b _ _ (s1 _ _ hd)))
        rw [valS, hlk] at g
        exact g
      have hok := hnm _ hmem
      have hc : (nn.map (·.2)).count nw ≤ 1 := List.nodup_iff_count.mp hn2 nw
      refine ⟨_, rfl, _, rfl, dd, _, rfl, hdg same_refl, nw, rfl, name_len hok, fun H3 s3 => ⟨_, rfl, ?_⟩⟩
      rw [show isName nw = true from hok]
      refine iteF ?_
      have hp3 := s3 _ _ (b _ _ hp1)
      refine ⟨_, rfl, Or.inl ⟨rfl, _, Or.inl (Or.inl hp3)⟩, _, rfl, _, rfl, dd, _, rfl, hdg s3, p, _, nw, rfl, rfl, Or.inl (Or.inl hp3), _, _, rfl, rfl, _, rfl, ?_⟩
      rw [decide_eq_false (by omega)]
      refine iteF ?_
      exact ⟨_, rfl, same_tr b s3⟩
    · rintro σ H2 ⟨y4, rfl, b⟩
      exact q _ (same_tr s1 b)
/-- the new name -/
def rnm (nn : List (Str × Str)) (x : Str) : Str := (nn.lookup x).getD x
def rnR (nn : List (Str × Str)) (r : Rd1) : Rd1 := ⟨rnm nn r.t, r.v, r.f⟩
def rnT (nn : List (Str × Str)) (t : Tb) : Tb := ⟨rnm nn t.n, t.c, t.rs.map (rnR nn)⟩
def spRen (K : PySem.W.Frag) (C : Addr) (TT : List (Addr × Str)) : Sp := fun vs H Q _ => ∃ (s g : Addr) (d m : Int) (ts : List Tb) (nn : List (Str × Str)), vs = [.ref s, .ref g] ∧ SysAt K C H s d m ts ∧ 1 ≤ d ∧ d ≤ 3 ∧ 2 ≤ m ∧ OkT d ts ∧ ts.length ≤ 12 ∧ H g = some (.dK (dictS nn)) ∧ nn.length ≤ 12 ∧ (∀ p ∈ nn, p.1 ∈ ts.map (·.n)) ∧
  ((ts.map (rnT nn)).map (·.n)).Nodup ∧ (∀ t ∈ ts, isName (rnm nn t.n) = true) ∧ LamX.Tabs TT H ∧
  ∀ x H', H x = none → LamX.ExtN H H' → LamX.Tabs TT H' → SysAt K C H' x d m (srt (ts.map (rnT nn))) → Q (.ref x) H'
theorem ok_ren {f C : Addr} {fd : FuncData} {TT : List (Addr × Str)} (F : Fun K "renamed" "System.renamed" s_System_renamed f fd) (T : Txt mg) (TC : TxtC K mg C) (c_check_table : C8.Cal P w K mg base 3 "check_table" (spCheckTable K C) [])
    (t__check_new_names : C8.Met P w K mg base 2 C "_check_new_names" (spNewNames K) []) (t__with_tables : C8.Met P w K mg base 7 C "_with_tables" (spWith K C TT) []) : FnOk P w K mg base CX0 8 f fd ["self", "names"] (spRen K C TT) := by
  refine F.ok sc_System_renamed (fun vs H Q E h => ?_) (fun cdv A outer sh H vs Q E hr h => ?_)
  · obtain ⟨s, g, d, m, ts, nn, rfl, _⟩ := h
    rfl
  · obtain ⟨s, g, d, m, ts, nn, rfl, S, hd1, hd3, hm2, O, hlen, hg, hnl, hnt, hnd, hnm, hT, q⟩ := h
    have hu := hu_of hr
    refine ⟨_, (pss_cons (ps_for PassesOwn.never rfl (pi_list (pe_callB (call_sortedD rfl) (by rfl) T.b_sorted (by decide +kernel) (pa_cons (pv 1) pa_nil))) (pg_name (i := 2) sc_System_renamed.nd rfl (by first | exact Or.inl rfl | exact Or.inr rfl))
    (pss_one (ps_expr (C8.pe_c c_check_table hr (by decide) (by rfl) (pa_cons (pv 0) (pa_cons (pv 2) pa_nil))))))
  (pss_cons (ps_set (i := 3) sc_System_renamed.nd rfl (by first | exact Or.inl rfl | exact Or.inr rfl) (pe_lock (pe_dc (own := [("name", 2)]) (g := gName 2) (tt := tYes) (by rfl) sc_System_renamed.nd (pi_keys (pe_fld (pv 0) rfl)) (blkOk_by (N := ["self", "names", "name", "new_names", "tables", "constant", "own", "reads", "table", "vector", "factor"]) (sc := defScope s_System_renamed) (by decide +kernel)) (fun _ _ _ _ _ => (pg_name (i := 2) sc_System_renamed.nd rfl (by first | exact Or.inl rfl | exact Or.inr rfl))) (fun _ _ _ _ _ => pts_nil) (fun _ _ _ _ _ => (pv 2)) (fun _ _ _ _ _ => (pe_dget2 hu (pv 1) (pv 2) (pv 2) ⟨by rfl, by rfl, by rfl, by rfl⟩)))))
  (pss_cons (ps_expr (C8.pe_mt t__check_new_names hr (by decide) (pv 0) (pa_cons (pe_callB (call_sortedD rfl) (by rfl) T.b_sorted (by decide +kernel) (pa_cons (pv 1) pa_nil)) (pa_cons (pv 3) pa_nil))))
  (pss_cons (ps_set (i := 4) sc_System_renamed.nd rfl (by first | exact Or.inl rfl | exact Or.inr rfl) pe_dnewK)
  (pss_cons (ps_lock (ps_for PassesOwn.never rfl (pi_items (pe_fld (pv 0) rfl)) (pg_tup rfl (pgs_cons (pg_name (i := 2) sc_System_renamed.nd rfl (by first | exact Or.inl rfl | exact Or.inr rfl)) (pgs_cons (pg_tup rfl (pgs_cons (pg_name (i := 5) sc_System_renamed.nd rfl (by first | exact Or.inl rfl | exact Or.inr rfl)) (pgs_cons (pg_name (i := 6) sc_System_renamed.nd rfl (by first | exact Or.inl rfl | exact Or.inr rfl)) pgs_nil))) pgs_nil)))
    (pss_cons (ps_setLc (i := 7) (own := [("table", 8), ("vector", 9), ("factor", 10)]) (g := gTup K 3 (gCons (gName 8) (gCons (gName 9) (gCons (gName 10) gNil)))) (tt := tYes) (by rfl) sc_System_renamed.nd rfl rfl (sw_true rfl rfl rfl (by decide +kernel)) (pi_tup (pv 6)) (blkOk_by (N := ["self", "names", "name", "new_names", "tables", "constant", "own", "reads", "table", "vector", "factor"]) (sc := defScope s_System_renamed) (by decide +kernel)) (fun _ _ _ _ _ => (pg_tup rfl (pgs_cons (pg_name (i := 8) sc_System_renamed.nd rfl (by first | exact Or.inl rfl | exact Or.inr rfl)) (pgs_cons (pg_name (i := 9) sc_System_renamed.nd rfl (by first | exact Or.inl rfl | exact Or.inr rfl)) (pgs_cons (pg_name (i := 10) sc_System_renamed.nd rfl (by first | exact Or.inl rfl | exact Or.inr rfl)) pgs_nil))))) (fun _ _ _ _ _ => pts_nil) (fun _ _ _ _ _ => (pe_tup (pa_cons (pe_dget hu (pv 3) (pv 8) (fun _ _ => rfl)) (pa_cons (pv 9) (pa_cons (pv 10) pa_nil))))))
    (pss_one (ps_dput hu (pv 4) (pe_dget hu (pv 3) (pv 2) (fun _ _ => rfl)) (pe_tup (pa_cons (pv 5) (pa_cons (pe_callTy call_tuple_of (by rfl) T.b_tuple (by decide +kernel) (pa_cons (pv 7) pa_nil)) pa_nil))) rfl)))))
  (pss_one (ps_ret (C8.pe_mt t__with_tables hr (by decide) (pv 0) (pa_cons (pv 4) pa_nil))))))))), ?_⟩
    obtain ⟨dx0, tt0, kvs0, h10, h20, h30⟩ := id S.ob
    have hkeys : (dictS nn).map (·.1) = (nn.map (·.1)).map Sum.inr := by
      unfold dictS
      rw [List.map_map, List.map_map]
      rfl
    have hnn : ∀ k ∈ nn.map (·.1), k ∈ ts.map (·.n) := fun k hk => by
      obtain ⟨p, hp, rfl⟩ := List.mem_map.mp hk
      exact hnt p hp
    have hkl : (nn.map (·.1)).length < 64 := by rw [List.length_map]; omega
    -- the old names are there
    refine ⟨_, rfl, g, dictS nn, nn.map (·.1), rfl, Or.inl hg, hkeys, hkl, fun ys p perm so hp => ?_⟩
    have s1 : Same H (upd H p (.lst (ys.map V.str))) := snew hp
    have hp1 : (upd H p (.lst (ys.map V.str))) p = some (.lst (ys.map V.str)) := upd_same
    generalize upd H p (.lst (ys.map V.str)) = H1 at s1 hp1
    refine ⟨p, rfl, ⟨_, Or.inl (Or.inl hp1)⟩, for_it (walk_list (K := K) (a := p) (xs := ys.map V.str)) (fun i σ H' => ∃ y2, σ = [some (.ref s), some (.ref g), y2, none, none, none, none, none, none, none, none] ∧ Same H1 H') ⟨none, rfl, same_refl⟩ (fun i σ H' _ ⟨_, _, b⟩ => Or.inl (Or.inl (b _ _ hp1))) ?_ ?_⟩
    · rintro i y σ _ H2 hi ⟨y2, rfl, b⟩ ⟨rfl, hy⟩
      rw [List.getElem?_map] at hy
      obtain ⟨k, hki, rfl⟩ := Option.map_eq_some_iff.mp hy
      exact ⟨_, rfl, _, rfl, s, d, m, ts, k, rfl, (S.mono s1).mono b, hnn k (perm.mem_iff.mp (List.mem_of_getElem? hki)), fun H3 s3 => ⟨_, rfl, same_tr b s3⟩⟩
    · rintro σ H2 ⟨y2, rfl, b⟩
      have b2 := same_tr s1 b
      have S2 := S.mono b2
      have hg2 := b2 _ _ hg
      clear h10 h20 h30
      obtain ⟨dx, t, kvs, h1, h2, h3⟩ := id S2.ob
      have hlt : kvs.length = ts.length := h3.len
      -- new_names
      have nst : s ≠ t := fun z => by
        rw [z, h2] at h1
        cases h1
      refine ⟨t, .dK kvs, h2, True.intro, fun od => ?_⟩
      have l1 : (upd H2 t (.frz od (.dK kvs))) s = some (.ins C dx (flds d m t)) := by rw [upd_ne nst]; exact h1
      have l2 : (upd H2 t (.frz od (.dK kvs))) t = some (.frz od (.dK kvs)) := upd_same
      have lg : Rd (upd H2 t (.frz od (.dK kvs))) g (.dK (dictS nn)) := by
        by_cases hb : g = t
        · rw [hb]
          rw [hb, h2] at hg2
          cases hg2
          exact Or.inr ⟨od, upd_same⟩
        · exact Or.inl (by rw [upd_ne hb]; exact hg2)
      have l3 : KvAt K (upd H2 t (.frz od (.dK kvs))) kvs ts := kvt (st_upd h2 rfl) h3
      have back : ∀ H', Same (upd H2 t (.frz od (.dK kvs))) H' → Same H2 (upd H' t (.dK kvs)) := fun H' e => unlock h2 e
      have pn : (upd H2 t (.frz od (.dK kvs))) p = some (.lst (ys.map V.str)) := by
        rw [upd_ne fun z => by
          have q1 := b _ _ hp1
          rw [z, h2] at q1
          cases q1]
        exact b _ _ hp1
      generalize hLq : upd H2 t (.frz od (.dK kvs)) = HL at l1 l2 l3 lg back pn
      refine ⟨_, rfl, s, C, dx, _, _, rfl, l1, TC.cl, TC.nT, flds_t _ _ _, t, od, rfl, Or.inl ⟨kvs, l2, fun D hD => ?_⟩⟩
      refine dc_it (walk_keys (o := od) (d := t) (kvs := kvs)) (fun i H' => ∃ kvs', Same HL H' ∧ H' D = some (.dK kvs') ∧ kvs' = dictS ((ts.take i).map fun t => (t.n, rnm nn t.n)) ∧ kvs'.length ≤ 12)
        ⟨[], snew hD, upd_same, rfl, Nat.zero_le _⟩ (fun i H' _ ⟨_, b1, _⟩ => b1 _ _ l2) ?_ ?_
      · rintro i x _ Hi hi ⟨kvs', c1, c2, c3, c4⟩ ⟨rfl, k, v, hk, rfl⟩
        obtain ⟨tb, ht, rfl, hv⟩ := kv_at l3 hk
        refine ⟨rfl, yes_if ?_⟩
        have lgi : Rd Hi g (.dK (dictS nn)) := by
          rcases lg with z | ⟨o, z⟩
          · exact Or.inl (c1 _ _ z)
          · exact Or.inr ⟨o, c1 _ _ z⟩
        refine ⟨_, rfl, _, rfl, g, rfl, Or.inl ⟨_, lgi⟩, _, rfl, _, rfl, _, Or.inl ⟨dictS nn, Sum.inr tb.n, lgi, rfl, rfl⟩, ?_⟩
        have hval : ((valV (dictS nn) (Sum.inr tb.n)).getD (kV (Sum.inr tb.n))) = V.str (rnm nn tb.n) := by
          rw [valS]
          unfold rnm
          cases nn.lookup tb.n <;> rfl
        rw [hval]
        have hn1 : tb.n ∉ ((ts.take i).map fun t => (t.n, rnm nn t.n)).map (·.1) := by
          rw [List.map_map]
          show tb.n ∉ (ts.take i).map (·.n)
          rw [List.map_take]
          exact notin_take O.nodup (by rw [List.getElem?_map, ht]; rfl)
        have hno : valV kvs' (Sum.inr tb.n) = none := by
          rw [c3, valS]
          have : ((ts.take i).map fun t => (t.n, rnm nn t.n)).lookup tb.n = none := by
            cases e : ((ts.take i).map fun t => (t.n, rnm nn t.n)).lookup tb.n with
            | none => rfl
            | some z =>
              exfalso
              have := List.lookup_eq_some_iff.mp e
              obtain ⟨l1', l2', e1, _⟩ := this
              exact hn1 (by rw [e1]; simp)
          rw [this]
          rfl
        refine ⟨kvs', Sum.inr tb.n, rfl, c2, Nat.lt_of_le_of_lt c4 (by rw [sizeLine_eq]; decide), _, swrite c1 hD, upd_same, ?_, ?_⟩
        · rw [putK_new _ hno, c3, List.take_add_one, ht]
          unfold dictS
          rw [List.map_append, List.map_append]
          rfl
        · rw [putK_new _ hno, c3]
          unfold dictS
          rw [List.length_append, List.length_map, List.length_map, List.length_take]
          show _ + 1 ≤ 12
          omega
      · rintro H3 ⟨kvs', c1, c2, c3, c4⟩
        have el : ts.take kvs.length = ts := by rw [hlt, List.take_length]
        rw [el] at c3
        subst c3
        have nDt : D ≠ t := fun z => by rw [z, l2] at hD; cases hD
        have sb := back H3 c1
        refine ⟨c1 _ _ l2, ?_⟩
        have D4 : (upd H3 t (.dK kvs)) D = some (.dK (dictS (ts.map fun t => (t.n, rnm nn t.n)))) := by rw [upd_ne nDt]; exact c2
        have S4 := S2.mono sb
        have g4 := sb _ _ hg2
        have b4 := same_tr b2 sb
        clear c2 c4 l3 pn lg hLq
        generalize upd H3 t (.dK kvs) = H4 at sb D4 S4 g4 b4 ⊢
        clear h1 h2 h3 l1 l2 back
        obtain ⟨dx, t, kvs, h1, h2, h3⟩ := id S4.ob
        have hlt : kvs.length = ts.length := h3.len
        -- the new names are names
        refine ⟨_, rfl, s, dx, _, rfl, h1, flds_no _ _ _ (by decide +kernel) (by decide +kernel) (by decide +kernel), _, rfl, g, dictS nn, nn.map (·.1), rfl, Or.inl g4, hkeys, hkl, fun ys2 p2 perm2 so2 hp2 => ⟨_, rfl, ?_⟩⟩
        have s5 : Same H4 (upd H4 p2 (.lst (ys2.map V.str))) := snew hp2
        have n1 : (ts.map fun t => (t.n, rnm nn t.n)).map (·.1) = ts.map (·.n) := by rw [List.map_map]; rfl
        have n2 : (ts.map fun t => (t.n, rnm nn t.n)).map (·.2) = (ts.map (rnT nn)).map (·.n) := by rw [List.map_map, List.map_map]; rfl
        refine ⟨s, p2, D, ys2, _, rfl, Or.inl (Or.inl upd_same), s5 _ _ D4, fun k hk => by rw [n1]; exact hnn k (perm2.mem_iff.mp hk), by rw [n2]; exact hnd, fun q hq => ?_, fun H5 s6 => ?_⟩
        · obtain ⟨t', ht', rfl⟩ := List.mem_map.mp hq
          exact hnm t' ht'
        have b5 := same_tr s5 s6
        have D5 := b5 _ _ D4
        have S5 := S4.mono b5
        have b6 := same_tr b4 b5
        clear h1 h2 h3
        obtain ⟨dx, tt, kvs, h1, h2, h3⟩ := id S5.ob
        -- tables = {}
        intro Tt hTt
        have nst : s ≠ tt := fun z => by
          rw [z, h2] at h1
          cases h1
        have ntT : tt ≠ Tt := ne_of_none h2 hTt
        refine ⟨tt, .dK kvs, by rw [upd_ne ntT]; exact h2, True.intro, fun od => ?_⟩
        have swap : upd (upd H5 Tt (.dK [])) tt (.frz od (.dK kvs)) = upd (upd H5 tt (.frz od (.dK kvs))) Tt (.dK []) := by
          funext b
          by_cases hb : b = tt
          · rw [hb, upd_same, upd_ne ntT, upd_same]
          · by_cases hb2 : b = Tt
            · rw [hb2, upd_ne ntT.symm, upd_same, upd_same]
            · rw [upd_ne hb, upd_ne hb2, upd_ne hb2, upd_ne hb]
        rw [swap]
        have l1 : (upd H5 tt (.frz od (.dK kvs))) s = some (.ins C dx (flds d m tt)) := by rw [upd_ne nst]; exact h1
        have l2 : (upd H5 tt (.frz od (.dK kvs))) tt = some (.frz od (.dK kvs)) := upd_same
        have lT : (upd H5 tt (.frz od (.dK kvs))) Tt = none := by rw [upd_ne ntT.symm]; exact hTt
        have l3 : KvAt K (upd H5 tt (.frz od (.dK kvs))) kvs ts := kvt (st_upd h2 rfl) h3
        have lD : Rd (upd H5 tt (.frz od (.dK kvs))) D (.dK (dictS (ts.map fun t => (t.n, rnm nn t.n)))) := by
          by_cases hb : D = tt
          · rw [hb]
            rw [hb, h2] at D5
            cases D5
            exact Or.inr ⟨od, upd_same⟩
          · exact Or.inl (by rw [upd_ne hb]; exact D5)
        have back : ∀ H', Same (upd H5 tt (.frz od (.dK kvs))) H' → Same H5 (upd H' tt (.dK kvs)) := fun H' e => unlock h2 e
        generalize upd H5 tt (.frz od (.dK kvs)) = HL at l1 l2 l3 lT lD back ⊢
        have hDg : ∀ {H' : Hp} {x : Str}, Same HL H' → x ∈ ts.map (·.n) → DGet H' D (.str x) (some (.str (rnm nn x))) := fun {H' x} sm hx => by
          have rd : Rd H' D (.dK (dictS (ts.map fun t => (t.n, rnm nn t.n)))) := by
            rcases lD with z | ⟨o, z⟩
            · exact Or.inl (sm _ _ z)
            · exact Or.inr ⟨o, sm _ _ z⟩
          refine Or.inl ⟨_, Sum.inr x, rd, rfl, ?_⟩
          rw [valS]
          obtain ⟨y, e1, e2⟩ := look_mem (nn := ts.map fun t => (t.n, rnm nn t.n)) (by rw [n1]; exact hx)
          rw [e1]
          obtain ⟨t', _, e3⟩ := List.mem_map.mp e2
          cases e3
          rfl
        refine ⟨_, rfl, s, C, dx, _, _, rfl, by rw [upd_ne (ne_of_none l1 lT)]; exact l1, TC.cl, TC.nT, flds_t _ _ _, tt, od, kvs, rfl, by rw [upd_ne ntT]; exact l2, ?_⟩
        refine for_it (walk_items (o := od) (d := tt) (kvs := kvs)) (fun i σ H' => ∃ y2 y5 y6 y7, σ = [some (.ref s), some (.ref g), y2, some (.ref D), some (.ref Tt), y5, y6, y7, none, none, none] ∧ ∃ (B : Hp) (kvs' : List (Key × V)), Same HL B ∧ B Tt = none ∧ Same B H' ∧ H' Tt = some (.dK kvs') ∧ KvAt K B kvs' ((ts.take i).map (rnT nn)))
          ⟨_, none, none, none, rfl, HL, [], same_refl, lT, snew lT, upd_same, .nil⟩ (fun i σ H' _ ⟨_, _, _, _, _, B, _, c1, _, c3, _⟩ => c3 _ _ (c1 _ _ l2)) ?_ ?_
        · rintro i x σ Hi _ hi ⟨y2, y5, y6, y7, rfl, B, kvs', c1, c2, c3, c4, c5⟩ ⟨Tp, k1, v1, rfl, hTp, rfl, e1, e2⟩
          obtain ⟨⟨k, v⟩, hk, rfl⟩ := Option.map_eq_some_iff.mp e1
          obtain ⟨⟨k', v'⟩, hk', rfl⟩ := Option.map_eq_some_iff.mp e2
          rw [hk] at hk'
          cases hk'
          obtain ⟨tb, ht, rfl, hv⟩ := kv_at l3 hk
          have htm := List.mem_of_getElem? ht
          have h12 := few_reads O htm
          have hno : valV kvs' (Sum.inr (rnm nn tb.n)) = none := c5.noVal (by
            rw [List.map_take, List.map_take]
            exact notin_take hnd (by rw [List.getElem?_map, List.getElem?_map, ht]; rfl))
          have hkl2 : kvs'.length ≤ 12 := by
            rw [c5.len, List.length_map, List.length_take]
            omega
          have sTp : Same Hi (upd Hi Tp (.tup [kV (Sum.inr tb.n), v])) := snew hTp
          have c3' := same_tr c3 sTp
          have nTp : Tt ≠ Tp := ne_of_none c4 hTp
          have c4' : (upd Hi Tp (.tup [kV (Sum.inr tb.n), v])) Tt = some (.dK kvs') := by rw [upd_ne nTp]; exact c4
          have tpat : (upd Hi Tp (.tup [kV (Sum.inr tb.n), v])) Tp = some (.tup [.str tb.n, v]) := upd_same
          generalize upd Hi Tp (.tup [kV (Sum.inr tb.n), v]) = H3 at c3' c4' tpat
          obtain ⟨a, ys, rfl, hta, hda⟩ := dtup (dpm c1 _ _ hv)
          obtain ⟨z1, z2, rfl, g1, g2⟩ := dps2 hda
          obtain rfl := dint g1
          obtain ⟨ow, os, rfl, hto, hdo⟩ := dtup g2
          have hol : os.length = tb.rs.length := by rw [dps_len hdo, List.length_map]
          refine ⟨Tp, _, rfl, Or.inl (Or.inl tpat), rfl, _, _, rfl, _, _, rfl, a, _, rfl, sqt c3' hta, rfl, _, _, rfl, _, _, rfl, rfl, rfl, ?_⟩
          -- reads = [..]
          refine ⟨_, rfl, ow, rfl, ⟨os, sqt c3' hto⟩, fun E hE => ?_⟩
          have bE : B E = none := free_of c3' hE
          have nET : Tt ≠ E := ne_of_none c4' hE
          refine lc_it (walk_tup (K := K) (a := ow) (xs := os)) (fun j H' => ∃ (B2 : Hp) (zs : List V), Same B B2 ∧ B2 E = none ∧ B2 Tt = none ∧ Same B2 H' ∧ H' Tt = some (.dK kvs') ∧ H' E = some (.lst zs) ∧ DpAll K B2 zs (((tb.rs.take j).map (rnR nn)).map Rd1.d))
            ⟨B, [], same_refl, bE, c2, same_tr c3' (snew hE), by rw [upd_ne nET]; exact c4', upd_same, .nil⟩ (fun j H' _ ⟨B2, zs, d1, _, _, d4, _⟩ => sqt d4 (sqt d1 hto)) ?_ ?_
          · rintro j y _ Hj hj ⟨B2, zs, d1, d2, d3, d4, d5, d6, d7⟩ ⟨rfl, hy⟩
            obtain ⟨r, ra, rb, e3, rfl, _, f3, f4⟩ := rd_at (dpsm d1 _ _ hdo) hy
            have hrm := List.mem_of_getElem? e3
            refine ⟨ra, _, rfl, sqt d4 f3, rfl, _, _, rfl, _, _, rfl, _, _, rfl, rfl, rfl, yes_if ?_⟩
            refine ⟨_, rfl, _, rfl, D, _, rfl, hDg (same_tr c1 (same_tr d1 d4)) (O.here tb htm r hrm), _, rfl, _, rfl, (by show 3 ≤ sizeLine; decide), fun u hu2 => ?_⟩
            have bu := free_of d4 hu2
            have nuE : E ≠ u := ne_of_none d6 hu2
            have nuT : Tt ≠ u := ne_of_none d5 hu2
            have s6 : Same (upd B2 u (.tup [.str (rnm nn r.t), .ref rb, .int r.f])) (upd Hj u (.tup [.str (rnm nn r.t), .ref rb, .int r.f])) := sgrow d4
            have cE : (upd B2 u (.tup [.str (rnm nn r.t), .ref rb, .int r.f])) E = none := by rw [upd_ne nuE]; exact d2
            have cT : (upd B2 u (.tup [.str (rnm nn r.t), .ref rb, .int r.f])) Tt = none := by rw [upd_ne nuT]; exact d3
            refine ⟨zs, by rw [upd_ne nuE]; exact d6, small1000 (by rw [dps_len d7, List.length_map, List.length_map, List.length_take]; omega), _, zs ++ [.ref u], same_tr d1 (snew bu), cE, cT, swrite s6 cE, by rw [upd_ne nET, upd_ne nuT]; exact d5, upd_same, ?_⟩
            rw [List.take_add_one, e3, List.map_append, List.map_append]
            exact dps_snoc (dpsm (snew bu) _ _ d7) (.tup (Or.inl (Or.inl upd_same)) (.cons (.str _) (.cons (.tup (sqt (snew bu) f4) (ints_dps _)) (.cons (.int _) .nil))))
          · rintro H4 ⟨B2, zs, d1, d2, d3, d4, d5, d6, d7⟩
            rw [hol, List.take_length] at d7
            refine ⟨_, rfl, _, rfl, E, zs, rfl, Or.inl ⟨Or.inl (Or.inl d6), fun l hl => ⟨(by show 2 ≤ sizeLine; decide), fun u hu2 => ?_⟩⟩⟩
            have bl : B2 l = none := free_of d4 hl
            have s6 : Same (upd B2 l (.tup zs)) (upd H4 l (.tup zs)) := sgrow d4
            have bu : (upd B2 l (.tup zs)) u = none := free_of s6 hu2
            have s7 : Same (upd (upd B2 l (.tup zs)) u (.tup [.int tb.c, .ref l])) (upd (upd H4 l (.tup zs)) u (.tup [.int tb.c, .ref l])) := sgrow s6
            have sB2 : Same B2 (upd (upd B2 l (.tup zs)) u (.tup [.int tb.c, .ref l])) := same_tr (snew bl) (snew bu)
            have sB := same_tr d1 sB2
            have nlT : Tt ≠ l := ne_of_none d5 hl
            have d2' : (upd H4 l (.tup zs)) Tt = some (.dK kvs') := by rw [upd_ne nlT]; exact d5
            have nuT : Tt ≠ u := ne_of_none d2' hu2
            have d2'' : (upd (upd H4 l (.tup zs)) u (.tup [.int tb.c, .ref l])) Tt = some (.dK kvs') := by rw [upd_ne nuT]; exact d2'
            have bT : (upd (upd B2 l (.tup zs)) u (.tup [.int tb.c, .ref l])) Tt = none := by rw [upd_ne nuT, upd_ne nlT]; exact d3
            have ul : (upd (upd B2 l (.tup zs)) u (.tup [.int tb.c, .ref l])) l = some (.tup zs) := by
              rw [upd_ne (ne_of_none (upd_same (H := B2) (o := HO.tup zs)) bu)]
              exact upd_same
            refine ⟨_, rfl, _, rfl, _, rfl, D, _, rfl, hDg (same_tr c1 (same_tr sB s7)) (List.mem_map.mpr ⟨tb, htm, rfl⟩), ?_⟩
            refine ⟨Tt, _, rfl, DPut.k (k := Sum.inr (rnm nn tb.n)) d2'' (Nat.lt_of_le_of_lt hkl2 (by rw [sizeLine_eq]; decide)), ?_⟩
            refine ⟨_, _, _, _, rfl, _, kvs' ++ [(Sum.inr (rnm nn tb.n), .ref u)], same_tr c1 sB, bT, swrite s7 bT, by rw [upd_same, putK_new _ hno], ?_⟩
            rw [List.take_add_one, ht, List.map_append]
            exact (c5.mono sB).app (.cons ⟨rfl, .tup (Or.inl (Or.inl upd_same)) (.cons (.int _) (.cons (.tup (Or.inl (Or.inl ul)) (dpsm sB2 _ _ d7)) .nil))⟩ .nil)
        · rintro σ H' ⟨y2, y5, y6, y7, rfl, B, kvs', c1, c2, c3, c4, c5⟩
          have hlt2 : kvs.length = ts.length := h3.len
          rw [hlt2, List.take_length] at c5
          have sb2 := back H' (same_tr c1 c3)
          have ntt : Tt ≠ tt := ntT.symm
          refine ⟨c3 _ _ (c1 _ _ l2), _, rfl, s, dx, _, rfl, sb2 _ _ h1, flds_no _ _ _ (by decide +kernel) (by decide +kernel) (by decide +kernel), _, rfl, ?_⟩
          refine ⟨s, Tt, d, m, ts, ts.map (rnT nn), kvs', rfl, S5.mono sb2, hd1, hd3, hm2, by rw [upd_ne ntt]; exact c4, kvt (st_unlock c3 (c1 _ _ l2) rfl) c5, hnd, by rw [List.length_map]; omega, hT.ext (same_tr b6 sb2), fun x H2 hx e2 hT2 S2 => q x H2 (free_of (same_tr b6 sb2) hx) (fun b o e n => e2 _ _ (sb2 _ _ (b6 _ _ e)) n) hT2 S2⟩
end
end Fr

namespace Fr
open PySem PySem.Spec PyProof.Rows L2 HT
theorem places_back (n : Nat) : Builtin.Slice.slicePlaces ((n : Int) - 1) (-1) (-1) = n := by
  unfold Builtin.Slice.slicePlaces
  have h1 : ¬ ((-1 : Int) > 0) := by omega
  simp only [h1, if_false]
  split <;> simp <;> omega
theorem adjust_back (n : Nat) : Builtin.Slice.sliceAdjust none none (-1) (n : Int) = ((n : Int) - 1, -1) := by
  unfold Builtin.Slice.sliceAdjust
  have h1 : (-1 : Int) < 0 := by omega
  simp only [h1, if_true]
theorem pick_back (xs : Array Value) : ((List.range xs.size).filterMap fun (m : Nat) => xs[(((xs.size : Nat) : Int) - 1 + (m : Int) * (-1)).toNat]?).toArray = xs.toList.reverse.toArray := by
  have e : (List.range xs.size).filterMap (fun (m : Nat) => xs[(((xs.size : Nat) : Int) - 1 + (m : Int) * (-1)).toNat]?) = (List.range xs.size).filterMap (fun m => xs[xs.size - 1 - m]?) := by
    refine congrArg (fun f : Nat → Option Value => (List.range xs.size).filterMap f) (funext fun m => ?_)
    have : (((xs.size : Nat) : Int) - 1 + (m : Int) * (-1)).toNat = xs.size - 1 - m := by omega
    rw [this]
  rw [e]
  congr 1
  have e2 : (List.range xs.size).filterMap (fun m => xs[xs.size - 1 - m]?) = ((List.range xs.size).map fun m => xs.size - 1 - m).filterMap (xs[·]?) := by
    rw [List.filterMap_map]
    rfl
  rw [e2, PySem.W.krv_range, List.filterMap_reverse, PySem.W.krv_all]
section
variable {prog : Program} {w : World} {A : Around} {E : Value → Shared → Prop} {s : Shared}
theorem tup_back {t sl : Addr} {items : Array Value} {vs : Value} {Q : Value → Shared → Prop} (ht : IsTup s.heap t items) (hs : s.heap.IsSliceOf sl .none .none vs) (ps : IsPart vs (some (-1)))
    (h : Q (.ref s.heap.objs.size) { s with heap := s.heap.push { cls := .type "tuple", data := .seq items.toList.reverse.toArray } }) (hz : items.size ≤ sizeLine) : wpAny (model prog w) A (getItem (.ref t) (.ref sl)) Q E s := by
  have hlen : sizeOk (.seq items.toList.reverse.toArray) := by
    show items.toList.reverse.toArray.size ≤ sizeLine
    rw [List.size_toArray, List.length_reverse, Array.length_toList]
    exact hz
  obtain ⟨os, ho, hc, hd⟩ := id hs
  have hTs : s.TypeIs (.ref sl) "slice" := ⟨os, ho, hc⟩
  unfold getItem
  try with_reducible refine wpAny_holding ?_
  first | refine wpAny_bind (wpAny_pure ?_) | skip
  refine wpAny_bind (wpAny_sequenceKey ht.typeIs (by decide) ?_)
  refine wpAny_bind (wpAny_callSpecial?_slot (name := Str.ofString "__getitem__") ht.typeIs PyProof.Rows.slot_tuple_getitem (wpAny_call_entry PyProof.Rows.slot_tuple_getitem ht.typeIs entry_tuple_getitem ?_ (args_tuple_getitem _ _)))
  show wpAny _ _ (Builtin.Tuple.tupleItemsOf (.ref t) >>= _) _ _ s
  refine wpAny_bind (tupleItemsOf_ ht (wpAny_bind (wpAny_typeOf hTs ?_)))
  rw [if_pos (by decide)]
  refine wpAny_bind ?_
  unfold Builtin.Slice.sliceApplied Builtin.Slice.sliceFields
  refine wpAny_bind (wpAny_bind (wpAny_field ho hd (x := .none) rfl (wpAny_bind (wpAny_field ho hd (x := .none) rfl (wpAny_bind (wpAny_field ho hd (x := vs) rfl (wpAny_pure ?_)))))))
  refine wpAny_bind (slicePart_ ps ?_)
  show wpAny _ _ (if ((-1 : Int) == 0) = true then _ else _) _ _ s
  rw [if_neg (by decide)]
  refine wpAny_bind (slicePart_none (wpAny_bind (slicePart_none (wpAny_bind (wpAny_pure ?_)))))
  show wpAny _ _ (match Builtin.Slice.sliceAdjust none none (-1) (items.size : Int) with | (lo, hi) => pure (lo, (-1 : Int), Builtin.Slice.slicePlaces lo hi (-1))) _ _ s
  rw [adjust_back]
  show wpAny _ _ (pure (((items.size : Nat) : Int) - 1, (-1 : Int), Builtin.Slice.slicePlaces (((items.size : Nat) : Int) - 1) (-1) (-1))) _ _ s
  rw [places_back]
  refine wpAny_pure ?_
  have hno : ¬ (((((items.size : Nat) : Int) - 1) == 0 && (-1 : Int) == 1 && items.size == items.size) = true) := by
    rw [show ((-1 : Int) == 1) = false from rfl, Bool.and_false, Bool.false_and]
    exact Bool.false_ne_true
  show wpAny _ _ (if ((((items.size : Nat) : Int) - 1) == 0 && (-1 : Int) == 1 && items.size == items.size) = true then _ else _) _ _ s
  rw [if_neg hno, pick_back]
  first
    | exact wpAny_bind (m := Builtin.Tuple.tupleExact _) (wpAny_newObj_type (wpAny_pure ⟨_, rfl, wpAny_pure h⟩) hlen)
    | exact wpAny_bind (m := Builtin.Tuple.tupleExact _) (wpAny_newObj_type (wpAny_bind (wpAny_pure (wpAny_pure ⟨_, rfl, wpAny_pure h⟩))) hlen)
    | exact wpAny_bind (wpAny_bind (m := Builtin.Tuple.tupleExact _) (wpAny_newObj_type (wpAny_pure (wpAny_pure ⟨_, rfl, wpAny_pure h⟩)) hlen))
    | exact wpAny_bind (wpAny_bind (m := Builtin.Tuple.tupleExact _) (wpAny_newObj_type (wpAny_pure ⟨_, rfl, wpAny_pure h⟩) hlen))
end
section
variable {X : Cx}
def tRevT (K : PySem.W.Frag) (te : TE) : TE := fun σ H Q => te σ H fun x H1 => ∃ a xs, x = .ref a ∧ SqT K H1 a xs ∧ ∀ p, H1 p = none → Q (.ref p) (upd H1 p (.tup xs.reverse))
theorem pe_revT {e : Expr} {te : TE} {k : Nat} {p1 p2 p3 pos : Pos} (he : PE X e te) : PE X (.Subscript e (.Slice none none (some (.UnaryOp .USub (.Constant (.int 1) k p1) p2)) p3) pos) (tRevT X.K te) := by
  refine ⟨fun pins s σ H Q I h => ?_⟩
  refine Subscript_ (thn (he.run pins s σ H _ I h) fun v s1 ⟨x, H1, I1, r1, a, xs, ex, hx, q⟩ => ?_)
  subst ex
  cases r1
  have hst : PO X (some (.UnaryOp .USub (.Constant (.int 1) k p1) p2)) (tPart (tUn (rU fun i => .int (-i)) (tC (.int 1)))) := po_some (pe_un un_neg pe_int)
  refine wpAny_Slice (thn (po_none.run pins s1 σ H1 (fun o H2 => o = none ∧ H2 = H1) I1 ⟨rfl, rfl⟩) fun vl s2 ⟨l, H2, I2, pl, el, e2⟩ => ?_)
  subst el e2
  refine thn (po_none.run pins s2 σ H2 (fun o H3 => o = none ∧ H3 = H2) I2 ⟨rfl, rfl⟩) fun vu s3 ⟨u, H3, I3, pu, eu, e3⟩ => ?_
  subst eu e3
  refine thn (hst.run pins s3 σ H3 (fun o H4 => o = some (-1) ∧ H4 = H3) I3 ⟨1, rfl, -1, rfl, rfl, rfl⟩) fun vs s4 ⟨o, H4, I4, ps, eo, e4⟩ => ?_
  subst eo e4
  cases pl
  cases pu
  have I5 : Inv X pins σ H4 { s4 with heap := s4.heap.push { cls := .type "slice", data := .fields #[.none, .none, vs] } } := I4.kept (t' := s4.toks) fun b ob q => Heap.get?_push_of_some _ q
  obtain ⟨its, r, ht, hz⟩ := I5.tuple hx
  have hlen := r.length
  show wpAny (model X.prog X.w) X.A (subscriptTail e (.Slice none none (some (.UnaryOp .USub (.Constant (.int 1) k p1) p2)) p3) (.ref a) (.ref s4.heap.objs.size)) (EP X pins σ Q) X.xe { s4 with heap := s4.heap.push { cls := .type "slice", data := .fields #[.none, .none, vs] } }
  refine tail_any (ops := [.ref a, .ref s4.heap.objs.size]) ht.typeIs (PyProof.Rows.slot_tuple_getitem.lookup) ?_ (by with_unfolding_all rfl)
  refine tup_back ht (Heap.IsSliceOf.new _ .none .none vs) ps ?_ (by rw [List.size_toArray]; omega)
  refine ⟨.ref _, _, I5.laid (t' := s4.toks) (o := .tup xs.reverse) (fun b ob q => Heap.get?_push_of_some _ q) (Nat.le_refl _) ?_, rfl, q _ (I5.hok.fresh (Nat.le_refl _))⟩
  exact ⟨by rw [List.length_reverse]; exact hz, _, r.reverse, IsTup.new _ _⟩
end
end Fr

namespace Fr
open PySem PySem.Spec PyProof.Rows L2
section
variable {P : Program} {w : World} {K : PySem.W.Frag} {mg : Str → Option Value} {base : Heap}
theorem mk_sys {C : Addr} {TT : List (Addr × Str)} {H : Hp} {d m : Int} {v : V} {ts : List Tb} {R : Hp → Prop} {E : XK} (hT : LamX.Tabs TT H) (O : OkSys d m ts) (hv : Dp K H v (.list (ts.map Tb.d))) {x dx : Addr} (nx : H x = none) (ndx : H dx = none) (nex : dx ≠ x)
    (q : ∀ H', LamX.ExtN H H' → LamX.Tabs TT H' → SysAt K C H' x d m (srt ts) → R H') : spInit K C TT [.ref x, .int d, v, .int m] (upd (upd H dx (.own x)) x (.ins C dx [])) (fun v H2 => v = .non ∧ R H2) E := by
  have sx : Same H (upd (upd H dx (.own x)) x (.ins C dx [])) := same_tr (snew ndx) (snew (by rw [upd_ne nex.symm]; exact nx))
  exact ⟨x, dx, d, m, v, ts, rfl, upd_same, hT.ext sx, O, dpm sx _ _ hv, fun H2 E2 hT2 S2 => ⟨rfl, q H2 (fun b o e n => E2 b o (sx b o e) (ne_of_none e nx) n) hT2 S2⟩⟩
theorem eq_sys {C a b : Addr} {H : Hp} {d m : Int} {ts : List Tb} {Q : VK} (S : SysAt K C H a d m ts) (S' : SysAt K C H b d m ts) (O : OkT d ts) (q : Q (.bl true) H) : rEqOwn C (spSysEq K C) (.ref a) (.ref b) H Q := by
  have sh : ∀ t ∈ ts, SeqAt.shaped t.k = true := fun t ht => (lay_k O ht).shaped (by decide)
  obtain ⟨dx, t, kvs, h1, _⟩ := id S.ob
  obtain ⟨dx', t', kvs', h1', _⟩ := id S'.ob
  refine ⟨a, b, dx, dx', _, _, rfl, rfl, h1, h1', a, b, d, m, d, m, ts, ts, rfl, S, S', sh, sh, _, rfl, ?_⟩
  rw [tabEq_refl O.nodup sh, decide_eq_true rfl, decide_eq_true rfl]
  exact q
theorem no_fld {d m : Int} {t : Addr} {x : Str} (h : decide (x = "_dimensions" ∨ x = "_modulus" ∨ x = "_tables") = false) : (flds d m t).lookup x = none := by
  have h := of_decide_eq_false h
  exact flds_no _ _ _ (fun e => h (.inl e)) (fun e => h (.inr (.inl e))) fun e => h (.inr (.inr e))
end
section
variable {K : PySem.W.Frag} {TT : List (Addr × Str)} {r : Addr} {m m' : Nat} {B B' H H' : Hp}
theorem LS.ext (h : LS TT r m B H) (x : LamX.ExtN H H') (t : LamX.Tabs TT H') : LS TT r m B H' := by
  obtain ⟨a, b, c, e, n⟩ := h.rs.ok
  exact ⟨⟨same_of_ext h.rs.s h.nt x, h.rs.n, a, b, c, x _ _ e (fun ps z => by cases z), n⟩, t, h.nt⟩
theorem LS.up (h : LS TT r m B H) : Same B (bs H r) := fun b o e => bs_of (h.rs.s b o e) (ne_of_none e h.rs.n) fun ps z => h.nt b ps (by rw [e, z])
theorem LS.re (h : LS TT r m B H) : LS TT r m (bs H r) H := LS.own h.rs.ok h.tb
theorem LS.call (h : LS TT r m B H) (R : RS r m' B' H') (s : Same (cutr H r) B') : LS TT r m' B H' :=
  ⟨⟨fun b o e => R.s _ _ (s _ _ (by rw [cutr_ne (ne_of_none e h.rs.n)]; exact h.rs.s b o e)), h.rs.n, R.ok⟩, tabs_cut h.tb h.rs.ok (same_tr s R.s), h.nt⟩
theorem LD.bs {l : Addr} {ds : List PyData} (h : LD K H l ds) (n : noLs ds = true) (ok : RngOk H r m) (ne : r ≠ l) : LD K (Fr.bs H r) l ds := by
  obtain ⟨xs, h1, h2⟩ := h
  exact ⟨xs, bs_of h1 ne.symm (fun ps z => by cases z), dpst (ST.bs ok) _ _ n h2⟩
theorem ST.cut (ok : RngOk H r m) : ST H (cutr H r) := fun b o e d => by
  obtain ⟨x, y, z, h1, _⟩ := ok
  rw [cutr_ne fun q => by rw [q, h1] at e; cases e; cases d]
  exact e
theorem sd_to (s : Same B H) (n : B r = none) (x : LamX.ExtN H H') : SD B (Fr.bs H' r) := fun b o e d => by
  have nt : ∀ ps, o ≠ .tbl ps := fun ps z => by
    rw [z] at d
    cases d
  exact bs_of (x _ _ (s _ _ e) nt) (ne_of_none e n) nt
theorem LD.to {l : Addr} {ds : List PyData} (h : LD K B l ds) (s : Same B H) (n : B r = none) (x : LamX.ExtN H H') : LD K (Fr.bs H' r) l ds := by
  obtain ⟨xs, h1, h2⟩ := h
  exact ⟨xs, sd_to s n x _ _ h1 rfl, dpsd (sd_to s n x) _ _ h2⟩
theorem SysAt.re {C s : Addr} {d md : Int} {ts : List Tb} (h : SysAt K C H s d md ts) (ok : RngOk H r m) : SysAt K C (Fr.bs H r) s d md ts := h.bs ok fun _ => kvt (ST.bs ok)
end
/-- an expression, up to what holds behind it -/
def tCsqE (t : TE) : TE := fun σ H Q => ∃ N : V → Hp → Prop, (∀ v H, N v H → Q v H) ∧ t σ H N
theorem pe_csqE {X : Cx} {e : Expr} {t : TE} (h : PE X e t) : PE X e (tCsqE t) := ⟨fun pins s σ H Q I ⟨N, hN, q⟩ => thn (h.run pins s σ H _ I q) fun v s1 ⟨x, H1, I1, r, n⟩ => ⟨x, H1, I1, r, hN _ _ n⟩⟩
theorem dps_take {K : PySem.W.Frag} {H : Hp} : ∀ (n : Nat) {vs : List V} {ds : List PyData}, DpAll K H vs ds → DpAll K H (vs.take n) (ds.take n)
  | 0, _, _, _ => by rw [List.take_zero, List.take_zero]; exact .nil
  | n + 1, _, _, h => by
    cases h with
    | nil => exact .nil
    | cons h1 h2 => exact .cons h1 (dps_take n h2)
theorem LS.keep {TT : List (Addr × Str)} {r p : Addr} {m : Nat} {B H : Hp} {o : HO} (h : LS TT r m B H) (e : H p = some o) (k : B p = none) (n : r ≠ p) (t : ∀ ps, o ≠ .tbl ps) : LS TT r m (upd B p o) H :=
  ⟨h.rs.keep e k n, h.tb, fun b ps z => by
    by_cases hb : b = p
    · rw [hb, upd_same] at z
      exact t ps (Option.some.inj z)
    · rw [upd_ne hb] at z
      exact h.nt b ps z⟩
theorem cut_any (xs : List V) (i : Nat) : cutV xs none (some (i : Int)) = xs.take i := by
  unfold cutV
  rw [show HT.sIx xs.length xs.length (some (i : Int)) = min i xs.length from HT.sIx_nat xs.length xs.length i, HT.sIx_none, List.drop_zero, Nat.sub_zero]
  exact (List.take_eq_take_min).symm
theorem LD.dr {K : PySem.W.Frag} {H H' : Hp} {l r : Addr} {m m' : Nat} {ds : List PyData} (h : LD K H l ds) (n : noLs ds = true) (ok : RngOk H r m) (d : Dr r m' H H') (ne : r ≠ l) : LD K H' l ds := h.st (ST.dr ok d) n (d.ne _ ne.symm)
theorem srt_srt {ts : List Tb} (n : (ts.map (·.n)).Nodup) : srt (srt ts) = srt ts := (srt_same (srt_perm ts).symm n).symm
end Fr

namespace Fr
open PySem PySem.Spec PyProof.Rows L2
/-- what the written part says of an error class -/
structure ErrC (K : PySem.W.Frag) (C : Addr) : Prop where
  oex : OexC K C
  ga : PySem.W.findIn K (.ref C) "__getattribute__" = some (some (.builtin "BaseException.__getattribute__"))
  gg : PySem.W.findIn K (.ref C) "__getattr__" = some none
  hd : PySem.W.hasDictIn K C = true
  kc : PySem.W.findIn K (.ref C) "__class__" = some (some (.builtin "object.__class__"))
  kg : PySem.W.specialIn K (.builtin "object.__class__") "__get__" = some (some (.builtin "getset_descriptor.__get__"))
  kt : PySem.W.takesIn K (.builtin "object.__class__") = some true
  km : PySem.W.mroIn K C (.type "object") = some true
/-- an error at a with these attributes -/
def ErrAt (H : Hp) (a C : Addr) (fs : List (Str × V)) : Prop := ∃ d : Addr, H a = some (exo a C (some d)) ∧ H d = some (exd d fs)
theorem ErrAt.mono {H H' : Hp} {a C : Addr} {fs : List (Str × V)} (h : ErrAt H a C fs) (e : Same H H') : ErrAt H' a C fs := by
  obtain ⟨d, h1, h2⟩ := h
  exact ⟨d, e _ _ h1, e _ _ h2⟩
section
variable {X : Cx} {C fI : Addr} {k : Nat} {fd : FuncData} {ps : List Str} {sp : Sp} {x f : Str} {p pos : Pos} {e : Expr} {es : List Expr} {t : TA} {te : TE}
/-- C(e, ..), the error itself -/
def tMkV (C : Addr) (sp : Sp) (t : TA) : TE := fun σ H Q => t σ H fun vs H1 => vs.length ≤ 1000 ∧ ∀ a, H1 a = none → sp (.ref a :: vs) (upd H1 a (exo a C none)) (fun v H2 => v = .non ∧ Q (.ref a) H2) C8.E0
theorem pe_mkV (T : OexC X.K C) (iC : PySem.W.findIn X.K (.ref C) "__init__" = some (some (.ref fI))) (tI : PySem.W.typeIn X.K (.ref fI) = some (.type "function")) (F : FnOk X.prog X.w X.K X.mg X.base CX0 k fI fd ps sp) (hr : Room (k + 1) X.A) (hb : Binds X.K fd ps [])
    (hg : Gl X x) (hm : X.mg x = some (.ref C)) (ha : PA X (e :: es) t) (hdb : (x == ("__debug__" : Str)) = false := by decide) (he : starEach (e :: es) X.env = (false, eval e X.env) :: starEach es X.env := by rfl) (hpl : (backTo pos (starEach es X.env)).any (·.1) = false := by rfl) :
    PE X (.Call (.Name x p) (e :: es) [] pos) (tMkV C sp t) := by
  constructor
  intro pins s σ H Q I h
  obtain ⟨nm, q, N, bs, bm, sn, sub, ab, col, dd, k0, k1, k2, k3, k5, hC, hbm⟩ := T.cls
  refine wpAny_Call_Name_kw (ld_glob I hg hm (PySem.W.callWith_K (h₀ := X.base) I.ok.mod.kin T.kC (thn (ha.run pos pins s σ H _ I h) ?_) he hpl) hdb)
  rintro us s1 ⟨vs, H1, I1, r1, hz, q1⟩
  refine ⟨I1.kIn, ?_⟩
  show wpAny _ _ (call (.ref C) us) _ _ _
  obtain ⟨hp, g, dr, tk, os⟩ := s1
  have big : hp.objs.size ≤ hp.objs.size + 1 := Nat.le_succ _
  have hq := q1 (hp.objs.size + 1) (I1.hok.fresh big)
  have old : ∀ b o, hp.get? b = some o → ((hp.push (PySem.W.kdv_tup us)).push (PySem.HandSPX.excO C hp.objs.size)).get? b = some o := fun b o z => Heap.get?_push_of_some _ (Heap.get?_push_of_some _ z)
  have new : ((hp.push (PySem.W.kdv_tup us)).push (PySem.HandSPX.excO C hp.objs.size)).get? (hp.objs.size + 1) = some (PySem.HandSPX.excO C hp.objs.size) := by heap_get
  have J : Inv X pins σ (upd H1 (hp.objs.size + 1) (exo (hp.objs.size + 1) C none)) ⟨(hp.push (PySem.W.kdv_tup us)).push (PySem.HandSPX.excO C hp.objs.size), g, dr, tk, os⟩ := I1.laid (t' := tk) (o := exo (hp.objs.size + 1) C none) old big (exo_ok new)
  have rr : Vals (V.ref (hp.objs.size + 1) :: vs) (Value.ref (hp.objs.size + 1) :: us) := .cons rfl r1
  have hl : ((Value.ref (hp.objs.size + 1) :: us) ++ ([] : List Value)).length = ps.length := by
    rw [List.append_nil, ← rr.length]
    exact F.len _ _ _ _ hq
  have hu : us.length ≤ sizeLine := by
    rw [← Paired.length r1, sizeLine_eq]
    omega
  have bd := hb ⟨(hp.push (PySem.W.kdv_tup us)).push (PySem.HandSPX.excO C hp.objs.size), g, dr, tk, os⟩ (Value.ref (hp.objs.size + 1) :: us) J.kIn hl
  rw [List.append_nil] at bd
  refine wpAny_call (PySem.HandSPX.call_own PySem.F.excBase_ValueError (fun Y => PySem.HandSPX.refsVE_contains Y bm hbm) (I1.kIn _ _ hC) (PySem.W.looks_findIn I1.kIn iC) (fun self => PySem.W.bind_fn I1.kIn self tI) hu
    (codeAny_mono (FnOk.run F _ X.stack _ _ ⟨Value.ref (hp.objs.size + 1) :: us, []⟩ (Value.ref (hp.objs.size + 1) :: us) _ _ C8.E0 (hr.make C us []) (J.env0.make C us []) bd rr hq) ?_))
  intro rs s2 z
  match rs, z with
  | .error er, z => exact pass0 (X := X) pins σ _ _ er s2 J z
  | .ok .next, z => exact z.elim
  | .ok .brk, z => exact z.elim
  | .ok .cont, z => exact z.elim
  | .ok (.ret u), z =>
    obtain ⟨v, H2, I3, rv, ev, q3⟩ := J.after z
    subst ev
    exact ⟨rv, .ref (hp.objs.size + 1), H2, I3, rfl, q3⟩
/-- e.f, e an error -/
def tErrF (K : PySem.W.Frag) (f : Str) (te : TE) : TE := fun σ H Q => te σ H fun x H1 => ∃ (a C : Addr) (fs : List (Str × V)) (v : V), x = .ref a ∧ ErrC K C ∧ ErrAt H1 a C fs ∧ PySem.W.findIn K (.ref C) f = some none ∧ fs.lookup f = some v ∧ Q v H1
theorem pe_errF (he : PE X e te) (hb : attributeBase e f X.env (eval e X.env) = eval e X.env := by rfl) : PE X (.Attribute e f pos) (tErrF X.K f te) := by
  constructor
  intro pins s σ H Q I h
  refine attr_of hb (thn (he.run pins s σ H _ I h) ?_)
  rintro u s1 ⟨x, H1, I1, rx, a, C, fs, v, rfl, T, ⟨d, h1, h2⟩, no, hl, q⟩
  obtain rfl : u = Value.ref a := rx
  obtain ⟨t1, ho⟩ := exo_at I1.hok h1
  obtain ⟨mA, hns, rel⟩ := exd_at I1.hok h2
  obtain ⟨od, hod, lk⟩ := lookIn_ns hns
  obtain ⟨u, hu, ru⟩ := RelO.some_of (v := v) (o := mA f) (by rw [← hl]; exact rel f)
  exact HandSPX.exc_get I1.kIn (od := some od) ⟨ho, rfl, rfl, hod⟩ T.ga T.gg T.oex.exC (PySem.W.findObj_own T.hd no rfl (by rw [lk, hu])) (handed_of ru) ⟨v, H1, I1.tok _, ru, q⟩
/-- isinstance(e, c), e an error -/
def rIsX (K : PySem.W.Frag) : List V → Hp → VK → Prop := fun xs H Q => ∃ (a C : Addr) (fs : List (Str × V)) (c : V) (cv : Value) (b : Bool), xs = [.ref a, c] ∧ ErrC K C ∧ ErrAt H a C fs ∧ ClsV c cv ∧ PySem.W.kitOne K (.ref C) cv = some b ∧ Q (.bl b) H
theorem call_isX : CallR X (.builtin "isinstance") (rIsX X.K) := by
  intro pins s σ H xs us Q I r h
  obtain ⟨a, C, fs, c, cv, b, rfl, T, ⟨d, h1, h2⟩, hc, e, q⟩ := h
  obtain ⟨u1, u2, rfl, r1, r2⟩ := vals2 r
  obtain rfl := hc.eq r2
  obtain rfl : u1 = Value.ref a := r1
  obtain ⟨t1, ho⟩ := exo_at I.hok h1
  obtain ⟨mA, hns, rel⟩ := exd_at I.hok h2
  obtain ⟨od, hod, lk⟩ := lookIn_ns hns
  have is : PySem.W.InstAt s.heap a _ C (some od) := ⟨ho, rfl, rfl, hod⟩
  have cl : (PySem.W.clsIn X.K C).isSome = true := by
    obtain ⟨cd, hcd, _⟩ := PySem.W.any_some T.hd
    rw [hcd]
    rfl
  exact PySem.W.kia_one (PySem.W.kitx_exc cl T.ga T.gg T.oex.exC T.kc T.kg T.kt T.km) I.kIn is e (fun z => by cases z) fun tk => ⟨.bl b, H, I.tok tk, rfl, q⟩
end
end Fr

namespace Fr
open PySem PySem.Spec PyProof.Rows L2
/-- an error as a thing that is tracked: its class, its dict -/
def exq (a : Addr) (cls : Value) (d : Option Addr) : HO := .ext fun h => ∃ (o : PySem.Obj) (vs : Array Value), h.get? a = some o ∧ Zc cls d o ∧ o.data = .fields vs
theorem exq_ok {P : Program} {w : World} {H : Hp} {h : Heap} {a : Addr} {cls : Value} {d : Option Addr} {o : PySem.Obj} {vs : Array Value} (e : h.get? a = some o) (z : Zc cls d o) (f : o.data = .fields vs) : ObjOk P w H h a (exq a cls d) :=
  ⟨⟨o, vs, e, z, f⟩, ⟨_, e⟩, fun h1 h2 q k => by
    obtain ⟨o', vs', e', z', f'⟩ := q
    exact ⟨o', vs', k _ e', z', f'⟩⟩
section
variable {X : Cx} {pins : List (Addr × PySem.Obj)} {σ : L2.St} {H : Hp} {s : Shared} {a : Addr} {o : HO}
/-- a thing of the heap that was not tracked is tracked from now on -/
theorem inv_adopt (I : Inv X pins σ H s) (na : H a = none) (old : X.s_0.heap.get? a = none) (nl : a ≠ X.env.locals) (nc : ∀ x c, X.env.cells.lookup x = some c → c ≠ a) (np : ∀ p ∈ X.pn ++ pins, p.1 ≠ a) (new : ObjOk X.prog X.w (upd H a o) s.heap a o) : Inv X pins σ (upd H a o) s := by
  have up : ∀ {b : Addr} {u : HO}, H b = some u → upd H a o b = some u := fun {b u} e => by
    rw [upd_ne (ne_of_none e na)]
    exact e
  have u := I.base
  refine { I with base := { keep := u.keep, slot := u.slot, free := ?_, there := u.there, tups := ?_, frzs := ?_, tbls := ?_ }, free := ?_, freeC := ?_, pin := ?_, hok := ?_ }
  · intro b q e n hx
    have hb : b ≠ a := fun z => by
      rw [z, old] at e
      cases e
    rw [upd_ne hb]
    exact u.free b q e n hx
  · exact fun b xs e => up (u.tups b xs e)
  · exact fun b q v e => up (u.frzs b q v e)
  · intro b ps e
    obtain ⟨more, z⟩ := u.tbls b ps e
    exact ⟨more, up z⟩
  · rw [upd_ne nl.symm]
    exact I.free
  · intro x c e
    rw [upd_ne (nc x c e)]
    exact I.freeC x c e
  · intro p hp
    obtain ⟨z1, z2, z3⟩ := I.pin p hp
    exact ⟨z1, by rw [upd_ne (np p hp)]; exact z2, z3⟩
  · intro b q e
    by_cases hb : b = a
    · subst hb
      rw [upd_same] at e
      cases e
      exact new
    · rw [upd_ne hb] at e
      exact (I.hok b q e).stay (fun _ _ _ z => z) (fun c z => up z) fun c xs z => up z
end
/-- what a body must know of its error when the clause keeps it: slot i is the clause's name, slot j the variable -/
def wKeep (K : PySem.W.Frag) (c : Value) (i j : Nat) (D : Ends) : WX := fun cls d σ H => PySem.W.exmOne K cls c = some true ∧ ∀ a, H a = none → D.nx ((((σ.set i (some (.ref a))).set j (some (.ref a)))).set i none) (upd H a (exq a cls d))
section
variable {X : Cx} {x n y : Str} {c : Value} {i j : Nat} {body : List Stmt} {np yp ep pos pos' apos : Pos} {tb : WX → TS}
theorem ps_try_keep (hs : X.stack = X.env :: X.outer) (hf : X.env.frame = some X.env.locals) (hex : X.ex = []) (hN : X.N.Nodup) (hi : X.N[i]? = some n) (hj : X.N[j]? = some y) (hln : X.env.kindOf n = some .local) (hly : X.env.kindOf y = some .local) (hij : i ≠ j) (hc : Names X x c)
    (hb : ∀ (W : WX) (pn : List (Addr × PySem.Obj)) (xe : Value → Shared → Prop), Takes (X.tr pn xe) W → PassesOwn (model X.prog X.w) X.A X.env xe → PSs (X.tr pn xe) body (tb W))
    (hsw : swapsWith (.Name n ep) (some (.Name y yp)) apos.line X.env = pure false := by rfl) (hd : (n == ("__debug__" : Str)) = false := by decide) (hcd : (n == ("__classdict__" : Str)) = false := by decide) :
    PS X (.Try body [.ExceptHandler (some (.Name x np)) (some n) [.Assign [.Name y yp] (.Name n ep) apos] pos'] [] [] pos) (fun D σ H => tb (wKeep X.K c i j D) D σ H) := by
  constructor
  intro pins s σ H D I h
  have ok := I.ok
  have fra : X.A.frames = some (X.env :: X.outer) := ok.frames.trans (congrArg some hs)
  obtain ⟨xe, hxe⟩ : ∃ xe : Value → Shared → Prop, xe = fun e s₁ => wpAny (model X.prog X.w) X.A (noteFrame e X.env) (fun _ s₂ => wpAny (model X.prog X.w) X.A (setFlight e none) (fun _ s₃ =>
    wpAny (model X.prog X.w) X.A (handleBy e X.env [.ExceptHandler (some (.Name x np)) (some n) [.Assign [.Name y yp] (.Name n ep) apos] pos']) (SP X pins D) X.xe s₃) X.xe s₂) X.xe s₁ := ⟨_, rfl⟩
  have pas : PassesOwn (model X.prog X.w) X.A X.env xe := by rw [hxe]; exact PassesOwn.looking
  have caught : Takes (X.tr (X.pn ++ pins) xe) (wKeep X.K c i j D) := by
    rw [hxe]
    rintro u s1 ⟨a, B, sI, pins', σ1, H1, cls, d, rfl, J0, nb, up, sky, na, os, ag, hb1, hyes⟩
    have J : Inv X pins σ1 H1 sI := J0.ofTry ok
    have sky1 : Sky B (X.env :: X.outer) a (Zc cls d) X.env.locals s1.heap := hs ▸ sky
    show wpAny (model X.prog X.w) X.A (noteFrame (.ref a) X.env) _ _ _
    refine Sky.land Zc.steady fra hf sky1 fun g3 fly3 u3 => ?_
    have K3 : Inv X pins σ1 H1 { s1 with heap := g3 } := J.landed nb fly3.1 (up.trans u3) os ag
    obtain ⟨q3, vs3, at3, z3, dat3⟩ := fly3.there
    have out : a ∉ frs (X.env :: X.outer) := fun hm => by
      obtain ⟨_, q', e', nof⟩ := fly3.2.2.1.mem hm
      rw [at3] at e'
      cases e'
      exact nof _ dat3
    have aL : a ≠ X.env.locals := fun z => out (List.mem_filterMap.mpr ⟨X.env, List.mem_cons_self, by rw [hf, z]⟩)
    have aF : a ∉ X.fs := fun hm => by
      obtain ⟨e, he, q⟩ := List.mem_filterMap.mp hm
      exact out (List.mem_filterMap.mpr ⟨e, List.mem_cons_of_mem _ he, q⟩)
    have gone : sI.heap.get? a = none := by
      cases q : sI.heap.get? a with
      | none => rfl
      | some w =>
        have z := nb a w q (by rw [hs]; exact out)
        rw [fly3.2.1] at z
        cases z
    have S3 := K3.suite at3 dat3 na aL aF
    refine wpAny_handleBy_cons (codeAny_handlers_test ?_) (by intro q; cases q)
    have ty3 : PySem.W.Looks (model X.prog X.w) g3 (typeOf (.ref a)) cls := fun A Q E s k q => wpAny_typeOf_ref (k _ _ at3) (by rw [z3.1]; exact q)
    have hit := PySem.W.exm_one (M := model X.prog X.w) K3.kIn ty3 hb1
    have asks : ∀ {Q : Value → Shared → Prop} {E : Value → Shared → Prop}, Q c { s1 with heap := g3 } → wpAny (model X.prog X.w) (X.A.mark (some (.ref a))) (eval (.Name x np) X.env) Q E { s1 with heap := g3 } := fun {Q E} q => by
      obtain ⟨hg, nd, hm | ⟨hm, hv, nn⟩⟩ := hc
      · exact ld_glob S3 hg hm q nd
      · exact ld_blt S3 hg hm hv q nn nd
    refine asks (hit.here ?_)
    refine codeAny_handlers_suite_as (HandSPX.lands_againZ fly3 fun g4 fly4 u4 => ?_)
    have K4 : Inv X pins σ1 H1 { s1 with heap := g4 } := J.landed nb fly4.1 ((up.trans u3).trans u4) os ag
    obtain ⟨q4, vs4, at4, z4, dat4⟩ := fly4.there
    have S4 := K4.suite at4 dat4 na aL aF
    have one : PSs (X.suite a ((a, q4) :: (X.pn ++ pins))) [.Assign [.Name y yp] (.Name n ep) apos] (tAsg (tVar i) (gName j)) :=
      pss_one (ps_set (X := X.suite a ((a, q4) :: (X.pn ++ pins))) hN hj (.inl hly) (pe_var (X := X.suite a ((a, q4) :: (X.pn ++ pins))) hi (.inl hln) hd hcd) hsw (.inr hly))
    refine store_ok (X := X.suite a ((a, q4) :: (X.pn ++ pins))) (v := .ref a) S4 hN hi (.inl hln) rfl (fun s5 S5 => ?_) (.inr hln)
    have hlen : i < σ1.length := by
      rw [K4.len]
      exact (List.getElem?_eq_some_iff.mp hi).1
    refine wpAny_mono (one.run [] s5 _ H1 { nx := fun σ' H' => σ' = (σ1.set i (some (.ref a))).set j (some (.ref a)) ∧ H' = H1, rt := fun _ _ => False, bk := fun _ _ => False, ct := fun _ _ => False } S5 ⟨.ref a, List.getElem?_set_self hlen, rfl, rfl⟩) (fun f s6 q => ?_) (fun _ _ z => False.elim z)
    cases f with
    | brk => obtain ⟨_, _, _, z⟩ := q; exact z.elim
    | cont => obtain ⟨_, _, _, z⟩ := q; exact z.elim
    | ret u => obtain ⟨_, _, _, _, _, z⟩ := q; exact z.elim
    | next =>
      obtain ⟨σ6, H6, S6, rfl, rfl⟩ := q
      obtain ⟨at6, _⟩ := S6.pin (a, q4) (List.mem_append_left _ List.mem_cons_self)
      have K6 : Inv X pins _ H6 s6 := S6.unsuite ok
      have K7 := inv_adopt K6 na ?_ aL ?_ ?_ (exq_ok at6 z4 dat4)
      · exact gone_ok K7 hN hi hln fun s7 K8 => ⟨_, _, K8, hyes a na⟩
      · cases q : X.s_0.heap.get? a with
        | none => rfl
        | some w =>
          obtain ⟨w', z⟩ := J.base.there a w q (by rw [hex]; exact fun z => nomatch z)
          rw [gone] at z
          cases z
      · intro v k e z
        subst z
        obtain ⟨w, q, z, _⟩ := J.cell v _ e
        rw [gone] at z
        cases z
      · intro p hp z
        obtain ⟨e, _⟩ := J.pin p hp
        rw [z, gone] at e
        cases e
  have R := (hb (wKeep X.K c i j D) (X.pn ++ pins) xe caught pas).run [] s σ H D (I.toTry _) h
  rw [hxe] at R
  refine wpAny_Try_except (wpAny_mono R (fun f s1 q => ?_) fun _ _ z => z)
  cases f with
  | next =>
    obtain ⟨σ1, H1, J, z⟩ := q
    exact wpAny_execs_nil ⟨σ1, H1, J.ofTry ok, z⟩
  | brk =>
    obtain ⟨σ1, H1, J, z⟩ := q
    exact ⟨σ1, H1, J.ofTry ok, z⟩
  | cont =>
    obtain ⟨σ1, H1, J, z⟩ := q
    exact ⟨σ1, H1, J.ofTry ok, z⟩
  | ret u =>
    obtain ⟨v, σ1, H1, J, r, z⟩ := q
    exact ⟨v, σ1, H1, J.ofTry ok, r, z⟩
end
end Fr

namespace Fr
open PySem PySem.Spec PyProof.Rows L2
section
variable {P : Program} {w : World} {K : PySem.W.Frag} {mg : Str → Option Value} {base : Heap}
/-- the promise of a def whose body may raise -/
theorem fun_okX {x qual : Str} {st : Stmt} {f : Addr} {fd : FuncData} {N ps : List Str} {k : Nat} {sp : Sp} (F : Fun K x qual st f fd) (S : FnScope N ps (defScope st)) (len : ∀ vs H Q E, sp vs H Q E → vs.length = ps.length)
    (body : ∀ (cdv : Value) (A : Around) (outer : List Env) (s : Shared) (H : Hp) (vs : List V) (Q : VK) (E : XK), Room k (A.deeper (envOfC qual (defScope st) s.heap.objs.size f cdv)) → sp vs H Q E →
      ∃ t, PSs (cxOf (L2.CX P w) P w K mg base N qual (defScope st) f cdv A outer s H E) (defBody st) t ∧ t { nx := fun _ H' => Q .non H', rt := Q } (start N vs) H) : FnOk P w K mg base (L2.CX P w) (k + 1) f fd ps sp := by
  obtain ⟨oc, od, kV, doc, pm, an, cdv, ct, osl, rfl, lk, hcd⟩ := F.ex
  exact fn_of lk hcd S len fun A outer s H vs Q E hr hsp => body cdv A outer s H vs Q E hr hsp
/-- a def that raises, by its name -/
structure CalX (P : Program) (w : World) (K : PySem.W.Frag) (mg : Str → Option Value) (base : Heap) (k : Nat) (x : Str) (sp : Sp) : Prop where
  ex : ∃ (f : Addr) (fd : FuncData) (ps : List Str), FnOk P w K mg base (L2.CX P w) k f fd ps sp ∧ mg x = some (.ref f) ∧ PySem.W.keepIn K (.ref f) = true ∧ Binds K fd ps []
theorem pe_cx {X : Cx} {k j : Nat} {x : Str} {sp : Sp} {W : WX} {e : Expr} {es : List Expr} {t : TA} {p pos : Pos} (c : CalX X.prog X.w X.K X.mg X.base k x sp) (hr : Room j X.A) (hk : k ≤ j) (hg : Gl X x) (tk : Takes X W) (ha : PA X (e :: es) t)
    (hdb : (x == ("__debug__" : Str)) = false := by decide) (he : starEach (e :: es) X.env = (false, eval e X.env) :: starEach es X.env := by rfl) (hpl : (backTo pos (starEach es X.env)).any (·.1) = false := by rfl) : PE X (.Call (.Name x p) (e :: es) [] pos) (tCallS sp (WE W) t) := by
  obtain ⟨f, fd, ps, F, hm, kp, b⟩ := c.ex
  exact pe_callS F (hr.mono hk) hg hm kp b (fun σ => passAt tk σ) ha hdb he hpl
/-- two promises of one def, one of them without errors -/
theorem fn_or {k : Nat} {f : Addr} {fd : FuncData} {ps : List Str} {sp0 sp1 : Sp} (F0 : FnOk P w K mg base CX0 k f fd ps sp0) (F1 : FnOk P w K mg base (L2.CX P w) k f fd ps sp1) : FnOk P w K mg base (L2.CX P w) k f fd ps (fun vs H Q E => sp0 vs H Q E ∨ sp1 vs H Q E) :=
  ⟨fun vs H Q E h => h.elim (F0.len vs H Q E) (F1.len vs H Q E), fun A outer s H args us vs Q E hr e0 hb r h => h.elim
    (fun h => codeAny_mono (F0.run A outer s H args us vs Q E hr e0 hb r h) fun rs s' z => by
      cases rs with
      | error e => exact False.elim z
      | ok fl => cases fl <;> exact z) (F1.run A outer s H args us vs Q E hr e0 hb r)⟩
end
def ErrQ (H : Hp) (a C : Addr) (fs : List (Str × V)) : Prop := ∃ d : Addr, H a = some (exq a (.ref C) (some d)) ∧ H d = some (.xd fs)
theorem ErrQ.mono {H H' : Hp} {a C : Addr} {fs : List (Str × V)} (h : ErrQ H a C fs) (e : Same H H') : ErrQ H' a C fs := by
  obtain ⟨d, h1, h2⟩ := h
  exact ⟨d, e _ _ h1, e _ _ h2⟩
theorem ErrQ.look {X : Cx} {pins : List (Addr × PySem.Obj)} {σ : L2.St} {H : Hp} {s : Shared} {a C : Addr} {fs : List (Str × V)} (I : Inv X pins σ H s) (h : ErrQ H a C fs) :
    ∃ (o od : PySem.Obj) (mA : Str → Option Value), PySem.W.InstAt s.heap a o C (some od) ∧ (∀ f, RelO (fs.lookup f) (mA f)) ∧ ∀ f, PySem.W.lookIn f od = some (mA f) := by
  obtain ⟨d, h1, h2⟩ := h
  obtain ⟨⟨o, vs, e, z, df⟩, _⟩ := (show ObjOk X.prog X.w H s.heap a (exq a (.ref C) (some d)) from I.hok a _ h1)
  obtain ⟨mA, hns, rel⟩ := (show ObjOk X.prog X.w H s.heap d (.xd fs) from I.hok d _ h2)
  obtain ⟨od, hod, lk⟩ := lookIn_ns hns
  refine ⟨o, od, mA, ⟨e, z.1, ?_, ?_⟩, rel, lk⟩
  · unfold PySem.W.notCls
    rw [df]
  · rw [z.2]
    exact hod
section
variable {X : Cx} {f : Str} {pos : Pos} {e : Expr} {te : TE}
/-- e.f, e a caught error -/
def tErrG (K : PySem.W.Frag) (f : Str) (te : TE) : TE := fun σ H Q => te σ H fun x H1 => ∃ (a C : Addr) (fs : List (Str × V)) (v : V), x = .ref a ∧ ErrC K C ∧ ErrQ H1 a C fs ∧ PySem.W.findIn K (.ref C) f = some none ∧ fs.lookup f = some v ∧ Q v H1
theorem pe_errG (he : PE X e te) (hb : attributeBase e f X.env (eval e X.env) = eval e X.env := by rfl) : PE X (.Attribute e f pos) (tErrG X.K f te) := by
  constructor
  intro pins s σ H Q I h
  refine attr_of hb (thn (he.run pins s σ H _ I h) ?_)
  rintro u s1 ⟨x, H1, I1, rx, a, C, fs, v, rfl, T, eq, no, hl, q⟩
  obtain rfl : u = Value.ref a := rx
  obtain ⟨o, od, mA, J, rel, lk⟩ := eq.look I1
  obtain ⟨u, hu, ru⟩ := RelO.some_of (v := v) (o := mA f) (by rw [← hl]; exact rel f)
  exact HandSPX.exc_get I1.kIn J T.ga T.gg T.oex.exC (PySem.W.findObj_own T.hd no rfl (by rw [lk, hu])) (handed_of ru) ⟨v, H1, I1.tok _, ru, q⟩
/-- isinstance(e, c), e a caught error -/
def rIsQ (K : PySem.W.Frag) : List V → Hp → VK → Prop := fun xs H Q => ∃ (a C : Addr) (fs : List (Str × V)) (c : V) (cv : Value) (b : Bool), xs = [.ref a, c] ∧ ErrC K C ∧ ErrQ H a C fs ∧ ClsV c cv ∧ PySem.W.kitOne K (.ref C) cv = some b ∧ Q (.bl b) H
theorem ErrC.cl {K : PySem.W.Frag} {C : Addr} (T : ErrC K C) : (PySem.W.clsIn K C).isSome = true := by
  obtain ⟨cd, hcd, _⟩ := PySem.W.any_some T.hd
  rw [hcd]
  rfl
theorem call_isQ : CallR X (.builtin "isinstance") (rIsQ X.K) := by
  intro pins s σ H xs us Q I r h
  obtain ⟨a, C, fs, c, cv, b, rfl, T, eq, hc, e, q⟩ := h
  obtain ⟨u1, u2, rfl, r1, r2⟩ := vals2 r
  obtain rfl := hc.eq r2
  obtain rfl : u1 = Value.ref a := r1
  obtain ⟨o, od, mA, J, _, _⟩ := eq.look I
  exact PySem.W.kia_one (PySem.W.kitx_exc T.cl T.ga T.gg T.oex.exC T.kc T.kg T.kt T.km) I.kIn J e (fun z => by cases z) fun tk => ⟨.bl b, H, I.tok tk, rfl, q⟩
/-- isinstance(e, (c, ..)), e a caught error -/
def rIsQT (K : PySem.W.Frag) : List V → Hp → VK → Prop := fun xs H Q => ∃ (a C tp : Addr) (fs : List (Str × V)) (cs : List V) (ws : List Value) (b : Bool), xs = [.ref a, .ref tp] ∧ ErrC K C ∧ ErrQ H a C fs ∧ H tp = some (.tup cs) ∧ Paired ClsV cs ws ∧ PySem.W.kitAny K (.ref C) ws = some b ∧ Q (.bl b) H
theorem call_isQT : CallR X (.builtin "isinstance") (rIsQT X.K) := by
  intro pins s σ H xs us Q I r h
  obtain ⟨a, C, tp, fs, cs, ws, b, rfl, T, eq, ht, hc, e, q⟩ := h
  obtain ⟨u1, u2, rfl, r1, r2⟩ := vals2 r
  obtain rfl : u2 = Value.ref tp := r2
  obtain rfl : u1 = Value.ref a := r1
  obtain ⟨o, od, mA, J, _, _⟩ := eq.look I
  obtain ⟨_, its, rv, to, h1, h2, n, h3⟩ := (show ObjOk X.prog X.w H s.heap tp (.tup cs) from I.hok tp _ ht)
  obtain rfl := ClsV.all hc rv
  obtain ⟨oc, odd, dt, sl⟩ := to
  simp only at h2 h3
  subst h2 h3
  exact PySem.W.kia_tup (PySem.W.kitx_exc T.cl T.ga T.gg T.oex.exC T.kc T.kg T.kt T.km) I.kIn J h1 e (fun z => by cases z) fun tk => ⟨.bl b, H, I.tok tk, rfl, q⟩
end
end Fr

namespace Fr
open PySem PySem.Spec PyProof.Rows L2
abbrev s_ReadError_init : Stmt := inClass (topS 2) 0
theorem sc_ReadError_init : FnScope ["self", "value"] ["self", "value"] (defScope s_ReadError_init) := ⟨rfl, rfl, rfl, by decide +kernel, rfl, by decide +kernel, by decide +kernel⟩
-- slots: 0 self, 1 value
section
variable {P : Program} {w : World} {K : PySem.W.Frag} {mg : Str → Option Value} {base : Heap}
/-- self.value = value, the error being made -/
def spErrI (K : PySem.W.Frag) : Sp := fun vs H Q _ => ∃ (a C : Addr) (y : V), vs = [.ref a, y] ∧ OexC K C ∧ H a = some (exo a C none) ∧ PySem.W.findIn K (.ref C) "value" = some none ∧ ∀ dx, H dx = none → dx ≠ a → Q .non (upd (upd H dx (exd dx [(("value" : Str), y)])) a (exo a C (some dx)))
theorem ok_errI {f : Addr} {fd : FuncData} (F : Fun K "__init__" "ReadError.__init__" s_ReadError_init f fd) : FnOk P w K mg base CX0 1 f fd ["self", "value"] (spErrI K) := by
  refine F.ok sc_ReadError_init (fun vs H Q E h => ?_) (fun cdv A outer sh H vs Q E hr h => ?_)
  · obtain ⟨a, C, y, rfl, _⟩ := h
    rfl
  · obtain ⟨a, C, y, rfl, T, ha, no, q⟩ := h
    exact ⟨_, pss_one (ps_ost (pv 0) (pv 1)), _, rfl, _, rfl, a, C, rfl, T, no, Or.inl ⟨ha, q⟩⟩
/-- an error class of the program, to be raised -/
structure MkR (P : Program) (w : World) (K : PySem.W.Frag) (mg : Str → Option Value) (base : Heap) (k : Nat) (x : Str) (C : Addr) : Prop where
  err : ErrC K C
  no : PySem.W.findIn K (.ref C) "value" = some none
  ex : ∃ (f : Addr) (fd : FuncData) (ps : List Str), PySem.W.findIn K (.ref C) "__init__" = some (some (.ref f)) ∧ PySem.W.typeIn K (.ref f) = some (.type "function") ∧ FnOk P w K mg base CX0 k f fd ps (spErrI K) ∧ Binds K fd ps [] ∧ mg x = some (.ref C)
theorem ps_err {X : Cx} {W : WX} {k j : Nat} {x : Str} {C : Addr} {e : Expr} {t : TA} {p pos pos' : Pos} (c : MkR X.prog X.w X.K X.mg X.base k x C) (hc : X.calm = true) (tk : Takes X W) (hr : Room j X.A) (hk : k + 1 ≤ j) (hg : Gl X x) (ha : PA X [e] t)
    (hdb : (x == ("__debug__" : Str)) = false := by decide) (he : starEach [e] X.env = (false, eval e X.env) :: starEach [] X.env := by rfl) : PS X (.Raise (some (.Call (.Name x p) [e] [] pos)) none pos') (fun _ σ H => tMkO C (spErrI X.K) [] t σ H fun cls d H' => W cls d σ H') := by
  obtain ⟨f, fd, ps, i, ty, F, b, hm⟩ := c.ex
  exact ps_raise hc tk (pmk_oex c.err.oex i ty F (hr.mono hk) b .nil pass0 hg hm ha hdb he rfl)
theorem err_raise {C : Addr} {y : V} {Q : XK} {H1 : Hp} {vs : List V} (e : vs = [y]) (T : OexC K C) (no : PySem.W.findIn K (.ref C) "value" = some none) (q : ∀ d, H1 d = none → Q (.ref C) (some d) (upd H1 d (.xd [(("value" : Str), y)]))) :
    vs.length ≤ 1000 ∧ ∀ a, H1 a = none → spErrI K (.ref a :: (vs ++ [])) (upd H1 a (exo a C none))
      (fun v H2 => v = .non ∧ ∃ (d : Addr) (fs : List (Str × V)), H2 a = some (exo a C (some d)) ∧ H2 d = some (exd d fs) ∧ H1 d = none ∧ Q (.ref C) (some d) (upd (L2.del H2 a) d (.xd fs))) (fun _ _ _ => False) := by
  subst e
  refine ⟨(by show 1 ≤ 1000; decide), fun a ha => ⟨a, C, y, rfl, T, upd_same, no, fun dx hdx ne => ⟨rfl, dx, _, upd_same, by rw [upd_ne ne]; exact upd_same, ?_, ?_⟩⟩⟩
  · rw [upd_ne ne] at hdx
    exact hdx
  · have hd : H1 dx = none := by
      rw [upd_ne ne] at hdx
      exact hdx
    have e : upd (L2.del (upd (upd (upd H1 a (exo a C none)) dx (exd dx [(("value" : Str), y)])) a (exo a C (some dx))) a) dx (.xd [(("value" : Str), y)]) = upd H1 dx (.xd [(("value" : Str), y)]) := by
      funext b
      by_cases h1 : b = dx
      · rw [h1, upd_same, upd_same]
      · rw [upd_ne h1, upd_ne h1]
        by_cases h2 : b = a
        · rw [h2, del_same, ha]
        · rw [del_ne h2, upd_ne h2, upd_ne h1, upd_ne h2]
    rw [e]
    exact q dx hd
end
end Fr

namespace Fr
open PySem PySem.Spec PyProof.Rows L2 HotX
section
variable {prog : Program} {w : World} {A : Around} {E : Value → Shared → Prop} {s : Shared}
theorem list_end_hot {it l x1 : Addr} {i : Nat} {items} {Q : Option Value → Shared → Prop} (hot : HotAt A x1 s.heap) (nx : x1 ≠ it) (hit : s.heap.IsListIter it l i) (hl : s.heap.IsList l items) (hx : items[i]? = none)
    (hQ : ∀ h', Heap.ExtBut it s.heap h' → Q none { s with heap := h' }) : wpAny (model prog w) A (pyNext (.ref it)) Q E s := by
  obtain ⟨hh, o1, vs1, h1, d1, c1⟩ := hot
  obtain ⟨io, hio, _, dio⟩ := id hit
  obtain ⟨lo, hlo, _, _, dlo⟩ := hl
  unfold pyNext
  refine wpAny_bind (wpAny_attempt (wpAny_callSpecial?_slot (name := Str.ofString "__next__") hit.typeIs slot_listiter_next (wpAny_call_entry slot_listiter_next hit.typeIs entry_listiter_next ?_ (args_listiter_next _))))
  show wpAny _ _ (field (.ref it) 0 >>= _) _ _ s
  refine wpAny_bind (wpAny_field hio dio (x := .ref l) rfl ?_)
  show wpAny _ _ (if (Value.ref l == Value.none) = true then _ else _) _ _ s
  rw [if_neg (fun z => by cases z)]
  show wpAny _ _ (field (.ref it) 1 >>= _) _ _ s
  refine wpAny_bind (wpAny_field hio dio (x := .int i 0) rfl ?_)
  show wpAny _ _ (seqItems? (.ref l) >>= _) _ _ s
  refine wpAny_bind (wpAny_seqItems hlo dlo ?_)
  simp only [Int.toNat_natCast, hx]
  have k1 : (s.heap.update it (Obj.mapFields (·.setIfInBounds 0 Value.none))).get? x1 = some o1 := (Heap.get?_update_other _ _ (Ne.symm nx)).trans h1
  refine wpAny_bind (wpAny_rule (wpAny_bind (wpAny_setField hio dio (by simp) ?_)))
  show wpAny _ _ (newExc (.type "StopIteration") [] >>= _) _ _ _
  refine wpAny_bind ?_
  simp only [newExc, newTuple]
  refine wpAny_bind (wpAny_newObj_type ?_ (by size_fits))
  refine wpAny_bind (m := firstArgMember _ _) (wpAny_of_eq (a := Value.none) (by first | rfl | (simp only [firstArgMember]; rfl)) ?_)
  refine wpAny_newObj_type ?_ (by size_fits)
  refine raiseNew_hot ⟨hh, o1, vs1, Heap.get?_push_of_some _ (Heap.get?_push_of_some _ k1), d1, c1⟩ (Nat.ne_of_lt (Heap.lt_size (Heap.get?_push_of_some _ k1))) (Heap.get?_push_size _ rfl) rfl (by first | (simp; done) | (simp; omega) | (simp only [Array.size_append]; simp; omega)) ?_
  refine wpAny_bind (wpAny_isInstance (T := "StopIteration") (b := true) ⟨_, Heap.get?_update_self _ (Heap.get?_push_size _ rfl) rfl, rfl⟩ isSubtype_stop ?_)
  refine wpAny_pure (hQ _ fun b o hb e => ?_)
  have k2 : (s.heap.update it (Obj.mapFields (·.setIfInBounds 0 Value.none))).get? b = some o := (Heap.get?_update_other _ _ (Ne.symm hb)).trans e
  rw [Heap.get?_update_other _ _ (Nat.ne_of_gt (Heap.lt_size (Heap.get?_push_of_some _ k2)))]
  exact Heap.get?_push_of_some _ (Heap.get?_push_of_some _ k2)
theorem tup_end_hot {it l x1 : Addr} {i : Nat} {items} {Q : Option Value → Shared → Prop} (hot : HotAt A x1 s.heap) (nx : x1 ≠ it) (hit : IsTupIter s.heap it l i) (hl : IsTup s.heap l items) (hx : items[i]? = none)
    (hQ : ∀ h', Heap.ExtBut it s.heap h' → Q none { s with heap := h' }) : wpAny (model prog w) A (pyNext (.ref it)) Q E s := by
  obtain ⟨hh, o1, vs1, h1, d1, c1⟩ := hot
  obtain ⟨io, hio, _, dio⟩ := id hit
  obtain ⟨lo, hlo, _, _, dlo⟩ := hl
  unfold pyNext
  refine wpAny_bind (wpAny_attempt (wpAny_callSpecial?_slot (name := Str.ofString "__next__") hit.typeIs slot_tupleiter_next (wpAny_call_entry slot_tupleiter_next hit.typeIs entry_tupleiter_next ?_ (args_tupleiter_next _))))
  show wpAny _ _ (field (.ref it) 0 >>= _) _ _ s
  refine wpAny_bind (wpAny_field hio dio (x := .ref l) rfl ?_)
  show wpAny _ _ (if (Value.ref l == Value.none) = true then _ else _) _ _ s
  rw [if_neg (fun z => by cases z)]
  show wpAny _ _ (field (.ref it) 1 >>= _) _ _ s
  refine wpAny_bind (wpAny_field hio dio (x := .int i 0) rfl ?_)
  show wpAny _ _ (seqItems? (.ref l) >>= _) _ _ s
  refine wpAny_bind (wpAny_seqItems hlo dlo ?_)
  simp only [Int.toNat_natCast, hx]
  have k1 : (s.heap.update it (Obj.mapFields (·.setIfInBounds 0 Value.none))).get? x1 = some o1 := (Heap.get?_update_other _ _ (Ne.symm nx)).trans h1
  refine wpAny_bind (wpAny_rule (wpAny_bind (wpAny_setField hio dio (by simp) ?_)))
  show wpAny _ _ (newExc (.type "StopIteration") [] >>= _) _ _ _
  refine wpAny_bind ?_
  simp only [newExc, newTuple]
  refine wpAny_bind (wpAny_newObj_type ?_ (by size_fits))
  refine wpAny_bind (m := firstArgMember _ _) (wpAny_of_eq (a := Value.none) (by first | rfl | (simp only [firstArgMember]; rfl)) ?_)
  refine wpAny_newObj_type ?_ (by size_fits)
  refine raiseNew_hot ⟨hh, o1, vs1, Heap.get?_push_of_some _ (Heap.get?_push_of_some _ k1), d1, c1⟩ (Nat.ne_of_lt (Heap.lt_size (Heap.get?_push_of_some _ k1))) (Heap.get?_push_size _ rfl) rfl (by first | (simp; done) | (simp; omega) | (simp only [Array.size_append]; simp; omega)) ?_
  refine wpAny_bind (wpAny_isInstance (T := "StopIteration") (b := true) ⟨_, Heap.get?_update_self _ (Heap.get?_push_size _ rfl) rfl, rfl⟩ isSubtype_stop ?_)
  refine wpAny_pure (hQ _ fun b o hb e => ?_)
  have k2 : (s.heap.update it (Obj.mapFields (·.setIfInBounds 0 Value.none))).get? b = some o := (Heap.get?_update_other _ _ (Ne.symm hb)).trans e
  rw [Heap.get?_update_other _ _ (Nat.ne_of_gt (Heap.lt_size (Heap.get?_push_of_some _ k2)))]
  exact Heap.get?_push_of_some _ (Heap.get?_push_of_some _ k2)
theorem unpackItems_hot {t x1 : Addr} {items : Array Value} {Q : List Value → Shared → Prop} (hot : HotAt A x1 s.heap) (ht : IsTup s.heap t items)
    (hQ : ∀ h', Heap.ExtBut s.heap.objs.size s.heap h' → Q items.toList { s with heap := h' }) : wpAny (model prog w) A (unpackItems (.ref t) items.size none) Q E s := by
  have tn : t ≠ s.heap.objs.size := by
    obtain ⟨o, e, _⟩ := ht
    exact Nat.ne_of_lt (Heap.lt_size e)
  have xn : x1 ≠ s.heap.objs.size := by
    obtain ⟨_, o, _, e, _⟩ := hot
    exact Nat.ne_of_lt (Heap.lt_size e)
  unfold unpackItems notIterableAtAll
  refine wpAny_bind (wpAny_bind (wpAny_specialOf ht.typeIs slot_tuple_iter.lookup (wpAny_pure ?_)))
  simp only [Bool.false_eq_true, if_false]
  refine wpAny_bind (wpAny_holding (iter_tuple ht (wpAny_bind (wpAny_holding (draw_tuple tn items.size 0 _ _ ⟨_, Heap.get?_push_size _ rfl, rfl, rfl⟩ (ht.push _) (by omega) fun g1 it1 sb1 => ?_)))))
  rw [List.drop_zero, List.take_of_length_le (by simp), if_neg (by simp)]
  have t1 : IsTup g1 t items := (ht.push _).extBut sb1.extBut tn
  have hot1 : HotAt A x1 g1 := by
    obtain ⟨hh, o, vs, e, d, c⟩ := hot
    exact ⟨hh, o, vs, sb1.extBut _ _ xn (Heap.get?_push_of_some _ e), d, c⟩
  refine wpAny_bind (wpAny_holding (tup_end_hot (s := { s with heap := g1 }) hot1 xn it1 t1 (by simp) fun g2 e2 => ?_))
  simp only [Option.isSome_none, Bool.false_eq_true, if_false]
  exact wpAny_pure (hQ g2 fun b o hb e => e2 b o hb (sb1.extBut b o hb (Heap.get?_push_of_some _ e)))
end
end Fr

namespace Fr
open PySem PySem.Spec PyProof.Rows L2 HotX L2H
section
variable {X : Cx} {pins : List (Addr × PySem.Obj)} {σ : L2.St} {H : Hp} {s : Shared} {tg : Expr}
theorem pg_tupH {es : List Expr} {k n : Nat} {t : TGs} {pos : Pos} (hot : HotC X) (h : PGs X es t) (hn : (assignEach es X.env).length = n := by rfl) (hst : (assignEach es X.env).findIdx? (·.1) = none := by rfl) : PG X (.Tuple es k pos) (gTup X.K n t) := by
  constructor
  rintro pins s σ H v u Q I r ⟨a, xs, rfl, tq, len, q⟩
  obtain rfl : u = Value.ref a := r
  obtain ⟨its, rv, it, _⟩ := I.tuple tq
  obtain ⟨x1, ha⟩ := hot.at I
  rw [assign_Tuple]
  refine wpAny_bind (wpAny_standAt ?_)
  unfold unpack
  rw [show (assignEach es X.env).length = its.toArray.size by simp [hn, ← len, rv.length], hst]
  refine wpAny_bind (wpAny_holding (unpackItems_hot ha it fun g eg => ?_))
  exact h.run pins _ σ H xs _ Q (I.kept (t' := s.toks) fun b o e => eg b o (Nat.ne_of_lt (Heap.lt_size e)) e) (by simpa using rv) q
/-- a list, walked where an exception is handled -/
theorem turn_listH {P : Program} {w : World} {K : PySem.W.Frag} (a it : Addr) : TurnH P w K tg (Itl K a) [it] it (fun i h => h.IsListIter it a i) where
  mem := List.mem_singleton.mpr rfl
  obj i h st b hb := by
    obtain rfl := List.mem_singleton.mp hb
    obtain ⟨o, e, _, d⟩ := st
    exact ⟨o, e, fun v z => by rw [d] at z; cases z⟩
  keep i h h' st k := st.at fun o e => k it (List.mem_singleton.mpr rfl) o e
  item := by
    rintro X rfl rfl rfl hot i pins s σ H E I hf st ⟨xs, x, hq, hx⟩
    obtain ⟨its, rv, p, _⟩ := I.list hq
    obtain ⟨u, hu, ru⟩ := rv.get hx
    obtain ⟨f0, f1, f2, f3, f4, f5⟩ := hf it (List.mem_singleton.mpr rfl)
    refine wpAny_pyNext_list_item st p.isList (x := u) (by simpa using hu) fun g st1 sb => ?_
    have I1 : Inv X pins σ H { s with heap := g } := I.turned (t' := s.toks) (fun b o hb e => (sb.2 b hb).trans e) f0 f1 f3 f4 f5
    obtain ⟨o, e, c, d⟩ := id st1
    exact ⟨u, rfl, go_of (s := { s with heap := g }) e c d (by decide) ⟨x, H, I1, ru, ⟨rfl, fun ys hy => by rw [I.list_inj hy hq]; exact hx⟩, st1, fun b hb => (hf b hb).1⟩⟩
  done := by
    rintro X rfl rfl rfl hot i pins s σ H E I hf st ⟨xs, hq, hx⟩
    obtain ⟨its, rv, p, _⟩ := I.list hq
    obtain ⟨f0, f1, f2, f3, f4, f5⟩ := hf it (List.mem_singleton.mpr rfl)
    obtain ⟨q, ⟨hh, vs, dv, cv⟩, hq1⟩ := hot
    have lv := rv.length
    exact list_end_hot ⟨hh, q.2, vs, (I.pin q (List.mem_append_left _ hq1)).1, dv, cv⟩ (f5 q (List.mem_append_left _ hq1)) st p.isList (by simp; omega) fun g eb => ⟨rfl, I.turned (t' := s.toks) (fun b o hb e => eb b o hb e) f0 f1 f3 f4 f5⟩
  self _ _ _ _ _ st h := wpAny_pyIter_listiter st h
theorem pi_listH {l : Expr} {tl : TE} (hl : PE X l tl) : PIH X tg l (iList X.K tl) := by
  constructor
  intro pins s σ H R I h
  refine thn (hl.run pins s σ H _ I h) ?_
  rintro v s1 ⟨x, H1, I1, r1, a, rfl, ⟨xs, hq⟩, q⟩
  obtain rfl : v = Value.ref a := r1
  obtain ⟨its, rv, p, _⟩ := I1.list hq
  refine wpAny_pyIter_list p.isList ⟨s1.heap.objs.size, [s1.heap.objs.size], _, _, H1, rfl, I1.kept (t' := s1.toks) fun b o e => Heap.get?_push_of_some _ e, turn_listH a _, ⟨_, Heap.get?_push_size _ rfl, rfl, rfl⟩, fun b hb => ?_, q⟩
  obtain rfl := List.mem_singleton.mp hb
  exact I1.fpOk (Nat.le_refl _) (I1.hok.fresh (Nat.le_refl _))
end
/-- a block where p's object is the exception that is handled -/
abbrev blkH (X : Cx) (p : Addr × PySem.Obj) (s : Shared) (H : Hp) (scope : Scope) (cenv : Env) (fp : List Addr) : Cx := { X.blk s H scope cenv fp with pn := [p] }
section
variable {X : Cx} {pins : List (Addr × PySem.Obj)} {σ : L2.St} {H : Hp} {s : Shared}
theorem blkH_start {scope : Scope} {own : List (Str × Nat)} {fp : List Addr} {p : Addr × PySem.Obj} (hp : p ∈ X.pn) (I : Inv X pins σ H s) (ok : BlkOk X.N X.env.scope scope own) (hN : X.N.Nodup) (hfp : ∀ b ∈ fp, FpOk X pins H b ∧ b < s.heap.objs.size) :
    Inv (blkH X p s H scope (compEnvC scope (cellsFrom (s.heap.objs.size + 1) scope.names (cloFrom X.env.cells scope.names [])) s.heap.objs.size X.env) fp) [] (wipe σ (own.map (·.2))) H { s with heap := pushCells (s.heap.push { cls := .type "dict", data := .dict #[] }) scope.names } := by
  have J := block_start I ok hN hfp
  obtain ⟨p1, p2, p3, p4, p5⟩ := I.pin p (List.mem_append_left _ hp)
  refine ⟨⟨J.ok.mod, J.ok.kind, J.ok.glob, J.ok.blt, J.ok.above, J.ok.inj, J.ok.has, J.ok.cab, J.ok.hd, J.ok.frames, J.ok.stk, J.ok.exf, J.ok.bs, J.ok.bsz, J.ok.noex, J.ok.exfs, J.ok.funs, J.ok.frf⟩, J.os, J.bare, J.base, J.loc, J.cell, J.free, J.freeC, fun q hq => ?_, J.hok, J.len⟩
  obtain rfl : q = p := by simpa using hq
  exact ⟨pushCells_keeps _ _ _ _ (Heap.get?_push_of_some _ p1), p2, Nat.ne_of_lt (Heap.lt_size p1), fun hm => (List.mem_cons.mp (I.stkSub q.1 hm)).elim p3 p4, p5⟩
end
end Fr

namespace Fr
open PySem PySem.Spec PyProof.Rows L2 HotX L2H
section
variable {X : Cx} {tg : Expr}
theorem lc_coreH {pins : List (Addr × PySem.Obj)} {s : Shared} {σ : L2.St} {H : Hp} {Q : VK} {elt iter : Expr} {ifs : List Expr} {scope : Scope} {own : List (Str × Nat)} {pos pos' : Pos} {wi : TI} {g : TG} {tt : TT} {te : TE} {use : Option (Value → Sem Unit)} {Qf : Value → Shared → Prop}
    (hot : HotC X) (hN : X.N.Nodup) (I : Inv X pins σ H s) (hi : PIH X tg iter wi) (ok : BlkOk X.N X.env.scope scope own)
    (hg : ∀ (p : Addr × PySem.Obj) (s : Shared) (H : Hp) (C : Addr) (cl : List (Str × Addr)) (fp : List Addr), HotC (blkH X p s H scope (compEnvC scope cl C X.env) fp) → PG (blkH X p s H scope (compEnvC scope cl C X.env) fp) tg g)
    (ht : ∀ (p : Addr × PySem.Obj) (s : Shared) (H : Hp) (C : Addr) (cl : List (Str × Addr)) (fp : List Addr), PTs (blkH X p s H scope (compEnvC scope cl C X.env) fp) ifs tt)
    (he : ∀ (p : Addr × PySem.Obj) (s : Shared) (H : Hp) (C : Addr) (cl : List (Str × Addr)) (fp : List Addr), PE (blkH X p s H scope (compEnvC scope cl C X.env) fp) elt te) (hs : ∀ x, foldedSetIterable iter X.env x = pure x)
    (h : tLc wi g tt te (own.map (·.2)) σ H Q)
    (fin : ∀ D C s' m H', Inv X pins σ H' s' → Q (.ref D) H' → s'.heap.Ns C m → FpOk X pins H' C → compPost (model X.prog X.w) X.A X.xe use Qf (.ref D) C (.ok .next) s') :
    wpAny (model X.prog X.w) X.A (comprehension (.ListComp elt [⟨tg, iter, ifs, 0⟩] scope pos) scope X.env pos' (newList []) false (eval iter X.env) use) Qf X.xe s := by
  obtain ⟨p, h1, hp⟩ := hot
  have free : ∀ y ∈ scope.names, y.2 = .free → ∃ c, X.env.cells.lookup y.1 = some c := fun y hy e => I.ok.has _ (ok.free y hy e)
  refine wpAny_comprehension_free (use := use) rfl hs (closure_ok free) ok.kind (fun y hy e => by rw [ok.uniq y hy, e]) (thn (hi.run pins s σ H _ I h) fun xv s1 hx => thn hx ?_)
  rintro _ s2 ⟨it, fp, tn, J, H2, rfl, I2, T, st2, f2, q⟩
  refine wpAny_newObj_type (newEnv_comp ?_) (by show 0 ≤ sizeLine; decide)
  obtain ⟨D, hD⟩ : ∃ D, D = s2.heap.objs.size := ⟨_, rfl⟩
  rw [← hD]
  have dn : H2 D = none := I2.hok.fresh (Nat.le_of_eq hD.symm)
  obtain ⟨W, ⟨m0, w0⟩, turn⟩ := q D dn
  -- with the new list
  generalize hs3 : ({ s2 with heap := s2.heap.push { cls := .type "list", data := .seq ([] : List Value).toArray } } : Shared) = s3
  have h3 : s3.heap = s2.heap.push { cls := .type "list", data := .seq ([] : List Value).toArray } := by rw [← hs3]
  have I3 : Inv X pins σ (upd H2 D (.lst [])) s3 := by
    rw [← hs3]
    refine I2.laid (t' := s2.toks) (fun b o e => Heap.get?_push_of_some _ e) (Nat.le_of_eq hD.symm) ⟨Nat.zero_le _, [], 0, .nil, ?_⟩
    rw [hD]
    exact Heap.get?_push_size _ rfl
  have f3 : ∀ b ∈ fp, FpOk X pins (upd H2 D (.lst [])) b ∧ b < s3.heap.objs.size := by
    intro b hb
    obtain ⟨o, e, _⟩ := T.obj _ _ st2 b hb
    have lt := Heap.lt_size e
    refine ⟨⟨?_, (f2 b hb).2⟩, by rw [h3, Heap.size_push]; exact Nat.lt_succ_of_lt lt⟩
    rw [upd_ne (by rw [hD]; exact Nat.ne_of_lt lt)]
    exact (f2 b hb).1
  have st3 : tn 0 s3.heap := T.keep _ _ _ st2 fun b _ o e => by rw [h3]; exact Heap.get?_push_of_some _ e
  have I4 := blkH_start hp I3 ok hN f3
  have hotB : ∀ (s : Shared) (H : Hp) (cenv : Env) (fp : List Addr), HotC (blkH X p s H scope cenv fp) := fun _ _ _ _ => ⟨p, h1, List.mem_singleton.mpr rfl⟩
  have pg := hg p s3 (upd H2 D (.lst [])) s3.heap.objs.size (cellsFrom (s3.heap.objs.size + 1) scope.names (cloFrom X.env.cells scope.names [])) fp (hotB _ _ _ _)
  have pt := ht p s3 (upd H2 D (.lst [])) s3.heap.objs.size (cellsFrom (s3.heap.objs.size + 1) scope.names (cloFrom X.env.cells scope.names [])) fp
  have pe := he p s3 (upd H2 D (.lst [])) s3.heap.objs.size (cellsFrom (s3.heap.objs.size + 1) scope.names (cloFrom X.env.cells scope.names [])) fp
  show codeAny _ _ (.compStart (.ListComp elt [⟨tg, iter, ifs, 0⟩] scope pos) 0 (.ref it) (.ref D) (compEnvC scope (cellsFrom (s3.heap.objs.size + 1) scope.names (cloFrom X.env.cells scope.names [])) s3.heap.objs.size X.env)) (compPost (model X.prog X.w) X.A X.xe use Qf (.ref D) s3.heap.objs.size) { s3 with heap := pushCells (s3.heap.push { cls := .type "dict", data := .dict #[] }) scope.names }
  have nfp : ∀ b ∈ fp, (upd H2 D (.lst [])) b = none := fun b hb => (f3 b hb).1.1
  generalize hce : compEnvC scope (cellsFrom (s3.heap.objs.size + 1) scope.names (cloFrom X.env.cells scope.names [])) s3.heap.objs.size X.env = ce at I4 pg pt pe ⊢
  have cL : ce.locals = s3.heap.objs.size := by rw [← hce]; rfl
  generalize hH3 : upd H2 D (.lst []) = H3 at I3 I4 pg pt pe w0 nfp f3
  generalize hs4 : ({ s3 with heap := pushCells (s3.heap.push { cls := .type "dict", data := .dict #[] }) scope.names } : Shared) = s4 at I4 ⊢
  have st4 : tn 0 s4.heap := T.keep _ _ _ st3 fun b _ o e => by rw [← hs4]; exact pushCells_keeps _ _ _ _ (Heap.get?_push_of_some _ e)
  have stay : ∀ {σ1 : L2.St} {H1 : Hp} {s1 : Shared}, Inv (blkH X p s3 H3 scope ce fp) [] σ1 H1 s1 → (∀ b ∈ fp, H1 b = none) → ∀ b ∈ fp, FpOk (blkH X p s3 H3 scope ce fp) [] H1 b := fun {σ1 H1 s1} J1 n1 b hb =>
    ⟨n1 b hb, (J1.ok.exf b hb).1, J1.ok.exfs b hb, .inl hb, fun x c e => (J1.ok.exf b hb).2 x c e, fun z hz => by
      obtain rfl : z = p := by simpa using hz
      exact (f3 b hb).1.2.2.2.2.2 z (List.mem_append_left _ hp)⟩
  refine codeAny_compStart_list ?_ (T.self X.A 0 _ _ _ st4 ?_) <;> (
    refine compLoop_any (fun n s' => ∃ i H', Inv (blkH X p s3 H3 scope ce fp) [] (wipe σ (own.map (·.2))) H' s' ∧ tn i s'.heap ∧ (∀ b ∈ fp, H' b = none) ∧ W i n H') ?_ m0 ⟨0, H3, I4, st4, nfp, w0⟩
    rintro n s5 ⟨i, H5, I5, st5, n5, w5⟩
    rcases turn i n H5 w5 with ⟨stop, qq⟩ | ⟨go, Nx, hNx, step⟩
    · refine thnF (T.done (blkH X p s3 H3 scope ce fp) rfl rfl rfl (hotB _ _ _ _) i [] s5 _ H5 (fun _ _ => False) I5 (stay I5 n5) st5 stop) ?_
      rintro _ s6 ⟨rfl, I6⟩
      have I7 : Inv X pins σ H5 s6 := I3.call' (ch := fp) I6.os I6.base I6.hok I6.bare fun b hb => ⟨(f3 b hb).1.2.2.2.1, (f3 b hb).1.2.1, (f3 b hb).1.2.2.2.2.1, (f3 b hb).1.2.2.2.2.2⟩
      obtain ⟨m, hn, _⟩ := I6.loc
      have hn1 : s6.heap.Ns ce.locals m := hn
      have free5 : H5 ce.locals = none := I6.free
      rw [cL] at hn1 free5
      exact fin D _ s6 m H5 I7 qq hn1 (I3.fpOk (Nat.le_refl _) free5)
    · refine thnF (T.item (blkH X p s3 H3 scope ce fp) rfl rfl rfl (hotB _ _ _ _) i [] s5 _ H5 (fun _ _ => False) I5 (stay I5 n5) st5 go) ?_
      rintro _ s6 ⟨u, rfl, h6⟩
      refine thnF h6 ?_
      rintro _ s7 ⟨x, H7, I7, r7, y7, st7, n7⟩
      have K7 := I7.pinned (stay I7 n7) (T.obj _ _ st7)
      refine thnF (pg.run _ s7 _ H7 x u _ K7 r7 (step x H7 y7)) ?_
      rintro _ s8 ⟨σ8, H8, I8, hw, q8⟩
      refine thnF (pt.run _ s8 σ8 H8 _ I8 q8) ?_
      rintro b s9 ⟨H9, I9, q9⟩
      have again : ∀ {s' : Shared} {H' : Hp}, Inv (blkH X p s3 H3 scope ce fp) ([] ++ pinsAt fp s7.heap) σ8 H' s' → Nx H' → ∃ m, m < n ∧ ∃ i H', Inv (blkH X p s3 H3 scope ce fp) [] (wipe σ (own.map (·.2))) H' s' ∧ tn i s'.heap ∧ (∀ b ∈ fp, H' b = none) ∧ W i m H' := fun {s' H'} J1 nx => by
        obtain ⟨m1, lt, w1⟩ := hNx H' nx
        have there : ∀ b ∈ fp, ∀ o, s7.heap.get? b = some o → s'.heap.get? b = some o ∧ H' b = none := fun b hb o e => by
          obtain ⟨z1, z2, _⟩ := J1.pin (b, o) (List.mem_append_right _ (List.mem_append_right _ (mem_pinsAt hb e)))
          exact ⟨z1, z2⟩
        refine ⟨m1, lt, i + 1, H', (J1.unpinned (pins := [])).weak (by rw [← hw, wipe_length]) (fun j v e => ?_), T.keep _ _ _ st7 fun b hb o e => (there b hb o e).1, fun b hb => ?_, w1⟩
        · rw [← hw] at e
          exact (wipe_some e).1
        · obtain ⟨o, e, _⟩ := T.obj _ _ st7 b hb
          exact (there b hb o e).2
      cases b with
      | false => exact again I9 (by simpa using q9)
      | true =>
        simp only [if_true] at q9 ⊢
        refine thnF (pe.run _ s9 σ8 H9 _ I9 q9) ?_
        rintro z s10 ⟨yv, H10, I10, r10, acc, hD10, hz10, nx⟩
        exact app_ok (X := blkH X p s3 H3 scope ce fp) I10 hD10 hz10 r10 fun s11 I11 => again I11 nx)
theorem pe_lcH {elt iter : Expr} {ifs : List Expr} {scope : Scope} {own : List (Str × Nat)} {pos : Pos} {wi : TI} {g : TG} {tt : TT} {te : TE} (hot : HotC X) (hN : X.N.Nodup) (hi : PIH X tg iter wi) (ok : BlkOk X.N X.env.scope scope own)
    (hg : ∀ (p : Addr × PySem.Obj) (s : Shared) (H : Hp) (C : Addr) (cl : List (Str × Addr)) (fp : List Addr), HotC (blkH X p s H scope (compEnvC scope cl C X.env) fp) → PG (blkH X p s H scope (compEnvC scope cl C X.env) fp) tg g)
    (ht : ∀ (p : Addr × PySem.Obj) (s : Shared) (H : Hp) (C : Addr) (cl : List (Str × Addr)) (fp : List Addr), PTs (blkH X p s H scope (compEnvC scope cl C X.env) fp) ifs tt)
    (he : ∀ (p : Addr × PySem.Obj) (s : Shared) (H : Hp) (C : Addr) (cl : List (Str × Addr)) (fp : List Addr), PE (blkH X p s H scope (compEnvC scope cl C X.env) fp) elt te) (hs : ∀ x, foldedSetIterable iter X.env x = pure x := by intro _; rfl) :
    PE X (.ListComp elt [⟨tg, iter, ifs, 0⟩] scope pos) (tLc wi g tt te (own.map (·.2))) := by
  constructor
  intro pins s σ H Q I h
  rw [eval_ListComp]
  refine lc_coreH hot hN I hi ok hg ht he hs h ?_
  intro D C s1 m H1 I1 q ns fo
  refine ⟨m, ns, fun g sb => ?_⟩
  obtain ⟨g0, g1, _, g3, g4, g5⟩ := fo
  exact ⟨.ref D, H1, I1.turned (t' := s1.toks) (fun b o hb e => (sb.2 b hb).trans e) g0 g1 g3 g4 g5, rfl, q⟩
theorem ps_setLcH {i : Nat} {y : Str} {py : Pos} {elt iter : Expr} {ifs : List Expr} {scope : Scope} {own : List (Str × Nat)} {pos spos : Pos} {wi : TI} {g : TG} {tt : TT} {te : TE} (hot : HotC X) (hN : X.N.Nodup) (hy : X.N[i]? = some y) (hyl : X.env.scope.names.lookup y = some .local)
    (hsw : swapsWith (.ListComp elt [⟨tg, iter, ifs, 0⟩] scope pos) (some (.Name y py)) spos.line X.env = pure true) (hi : PIH X tg iter wi) (ok : BlkOk X.N X.env.scope scope own)
    (hg : ∀ (p : Addr × PySem.Obj) (s : Shared) (H : Hp) (C : Addr) (cl : List (Str × Addr)) (fp : List Addr), HotC (blkH X p s H scope (compEnvC scope cl C X.env) fp) → PG (blkH X p s H scope (compEnvC scope cl C X.env) fp) tg g)
    (ht : ∀ (p : Addr × PySem.Obj) (s : Shared) (H : Hp) (C : Addr) (cl : List (Str × Addr)) (fp : List Addr), PTs (blkH X p s H scope (compEnvC scope cl C X.env) fp) ifs tt)
    (he : ∀ (p : Addr × PySem.Obj) (s : Shared) (H : Hp) (C : Addr) (cl : List (Str × Addr)) (fp : List Addr), PE (blkH X p s H scope (compEnvC scope cl C X.env) fp) elt te) (hs : ∀ x, foldedSetIterable iter X.env x = pure x := by intro _; rfl) :
    PS X (.Assign [.Name y py] (.ListComp elt [⟨tg, iter, ifs, 0⟩] scope pos) spos) (tAsg (tLc wi g tt te (own.map (·.2))) (gName i)) := by
  constructor
  intro pins s σ H D I h
  have h1 : tLc wi g tt te (own.map (·.2)) σ H (fun x H1 => gName i x σ H1 D.nx) := h
  rw [exec_Assign_Name_used _ _ _ _ hsw]
  refine wpAny_bind (wpAny_standAt (wpAny_bind ?_))
  show wpAny _ X.A (do let _ ← comprehension (.ListComp elt [⟨tg, iter, ifs, 0⟩] scope pos) scope X.env (firstIterPos [⟨tg, iter, ifs, 0⟩] pos) (newList []) false (eval iter X.env) (some (assign (.Name y py) X.env))) _ _ s
  refine wpAny_bind (thn (lc_coreH (Qf := fun _ s1 => SP X pins D .next s1) hot hN I hi ok hg ht he hs h1 ?_) fun _ s1 q => wpAny_pure (wpAny_pure q))
  intro L C s1 m H1 I1 q ns fo
  show wpAny _ _ (assign (.Name y py) X.env (.ref L)) _ _ _
  refine wpAny_assign_Name (store_ok2 (v := V.ref L) I1 hN hy (.inl hyl) rfl ?_ (.inr hyl))
  rintro s2 I2 ⟨a, sb, ha⟩
  obtain ⟨g0, g1, _, g3, g4, g5⟩ := fo
  have ne : C ≠ a := by
    cases ha with
    | inl z => exact z ▸ g1
    | inr z => exact fun e => g4 y a z e.symm
  refine ⟨m, ns.sameBut sb ne, fun g sb2 => ?_⟩
  exact ⟨_, H1, I2.turned (t' := s2.toks) (fun b o hb e => (sb2.2 b hb).trans e) g0 g1 g3 g4 g5, q⟩
end
end Fr

namespace Fr
open PySem PySem.Spec PyProof.Rows L2 HotX L2H
section
variable {X : Cx}
/-- an own error made with its __init__: its context is None -/
theorem mk_oexN {CX : CXT} {x : Str} {C fI : Addr} {k : Nat} {fd : FuncData} {ps : List Str} {sp : Sp} {e : Expr} {es : List Expr} {ta : TA} {p pos : Pos} (T : OexC X.K C) (iC : PySem.W.findIn X.K (.ref C) "__init__" = some (some (.ref fI))) (tI : PySem.W.typeIn X.K (.ref fI) = some (.type "function"))
    (F1 : FnOk X.prog X.w X.K X.mg X.base CX k fI fd ps sp) (hr : Room (k + 1) X.A) (hb : Binds X.K fd ps []) (hx : Passes CX X (fun _ _ _ => False)) (hg : Gl X x) (hm : X.mg x = some (.ref C)) (ha : PA X (e :: es) ta)
    (hdb : (x == ("__debug__" : Str)) = false := by decide) (he : starEach (e :: es) X.env = (false, eval e X.env) :: starEach es X.env := by rfl) (hpl : (backTo pos (starEach es X.env)).any (·.1) = false := by rfl) :
    L2N.PMk X (.Call (.Name x p) (e :: es) [] pos) (tMkO C sp [] ta) := by
  intro pins s σ H Q I h
  obtain ⟨_, _, _, _, bm, _, _, _, _, _, _, _, _, _, _, hC, hbm⟩ := T.cls
  refine wpAny_Call_Name_kw (ld_glob I hg hm ?_ hdb)
  refine PySem.W.callWith_K (h₀ := X.base) I.ok.mod.kin T.kC (thn (ha.run pos pins s σ H _ I h) ?_) he hpl
  rintro us ⟨hp, g, dr, tk, os⟩ ⟨vs, H1, I1, r1, few, q1⟩
  refine ⟨I1.kIn, ?_⟩
  show wpAny _ _ (call (.ref C) us) _ _ _
  have up : hp.objs.size ≤ hp.objs.size + 1 := Nat.le_succ _
  have hq := q1 (hp.objs.size + 1) (I1.hok.fresh up)
  have stays : ∀ b o, hp.get? b = some o → ((hp.push (PySem.W.kdv_tup us)).push (PySem.HandSPX.excO C hp.objs.size)).get? b = some o := fun b o e => Heap.get?_push_of_some _ (Heap.get?_push_of_some _ e)
  have there : ((hp.push (PySem.W.kdv_tup us)).push (PySem.HandSPX.excO C hp.objs.size)).get? (hp.objs.size + 1) = some (PySem.HandSPX.excO C hp.objs.size) := by heap_get
  have I2 : Inv X pins σ (upd H1 (hp.objs.size + 1) (exo (hp.objs.size + 1) C none)) ⟨(hp.push (PySem.W.kdv_tup us)).push (PySem.HandSPX.excO C hp.objs.size), g, dr, tk, os⟩ :=
    I1.laid (t' := tk) (a := hp.objs.size + 1) (o := exo (hp.objs.size + 1) C none) (h' := (hp.push (PySem.W.kdv_tup us)).push (PySem.HandSPX.excO C hp.objs.size)) stays up (exo_ok there)
  have r2 : Vals (V.ref (hp.objs.size + 1) :: (vs ++ [])) (Value.ref (hp.objs.size + 1) :: (us ++ [])) := .cons rfl (r1.append .nil)
  have hl : (Value.ref (hp.objs.size + 1) :: us ++ []).length = ps.length := by
    have z := r2.length
    rw [F1.len _ _ _ _ hq] at z
    exact z.symm
  have hus : us.length ≤ sizeLine := by
    rw [← Paired.length r1, sizeLine_eq]
    omega
  refine wpAny_call (PySem.HandSPX.call_own F.excBase_ValueError (fun Y => PySem.HandSPX.refsVE_contains Y bm hbm) (I1.kIn _ _ hC) (PySem.W.looks_findIn I1.kIn iC) (fun self => PySem.W.bind_fn I1.kIn self tI) hus
    (codeAny_mono (F1.run _ X.stack _ _ ⟨Value.ref (hp.objs.size + 1) :: us, []⟩ _ _ _ (fun _ _ _ => False) (hr.make C us []) (I2.env0.make C us []) (hb _ (Value.ref (hp.objs.size + 1) :: us) I2.kIn hl) r2 hq) ?_))
  rintro r ⟨h2, g2, d2, t2, os2⟩ hq2
  cases r with
  | error er => exact hx pins σ _ _ er _ I2 hq2
  | ok fl =>
    cases fl with
    | ret u =>
      obtain ⟨v, H2, o2, bare2, un2, hok2, rv, rfl, d, fs, ea, ed, hd1, q2⟩ := hq2
      obtain ⟨_, G, J, kG, ge, hoe, na⟩ := mk_end0 (d2 := d2) (t2 := t2) I1 up stays un2 hok2 o2 bare2 ea ed hd1
      refine ⟨rv, hp.objs.size + 1, _, _, ⟨G, g2, d2, t2, os2⟩, _, .ref C, some d, rfl, J, kG, ge, hoe, ⟨rfl, rfl, fun vs hv => ?_⟩, rfl, rfl, na, rfl, bare2, raises_own T.exC T.tyC, q2⟩
      cases hv
      rfl
    | next => exact False.elim hq2
    | brk => exact False.elim hq2
    | cont => exact False.elim hq2
/-- a class call whose __init__ may raise -/
theorem run_mkS {CX : CXT} {k : Nat} {f C : Addr} {fd : FuncData} {ps : List Str} {sp : Sp} {dvs : List V} {ds : List Value} {E : L2.St → XK} {pins : List (Addr × PySem.Obj)} {σ : L2.St} {H : Hp} {s : Shared} {Q : VK} {us : List Value} {vs : List V} (M : Mk X.K C f) (F : FnOk X.prog X.w X.K X.mg X.base CX k f fd ps sp) (hr : Room (k + 1) X.A) (hb : Binds X.K fd ps ds) (hd : Vals dvs ds)
    (hx : PassesAt CX X σ (E σ)) (I : Inv X pins σ H s) (r : Vals vs us) (h : ∀ x dx, H x = none → H dx = none → dx ≠ x → sp (.ref x :: (vs ++ dvs)) (upd (upd H dx (.own x)) x (.ins C dx [])) (fun v H2 => v = .non ∧ Q (.ref x) H2) (E σ)) :
    wpAny (model X.prog X.w) X.A (call (.ref C) us) (EP X pins σ Q) X.xe s := by
  have hq := h (s.heap.objs.size + 1) s.heap.objs.size (I.hok.fresh (Nat.le_succ _)) (I.hok.fresh (Nat.le_refl _)) (Nat.ne_of_lt (Nat.lt_succ_self _))
  have J := Inv.made (C := C) I
  have r2 : Vals (V.ref (s.heap.objs.size + 1) :: (vs ++ dvs)) (Value.ref (s.heap.objs.size + 1) :: (us ++ ds)) := .cons rfl (r.append hd)
  have hl : (Value.ref (s.heap.objs.size + 1) :: us ++ ds).length = ps.length := r2.length.symm.trans (F.len _ _ _ _ hq)
  refine wpAny_call (make_map (f := f) I.kIn M.makes M.init (beq_iff_eq.mp M.fn) (codeAny_mono (F.run _ X.stack _ _ ⟨Value.ref (s.heap.objs.size + 1) :: us, []⟩ _ _ _ (E σ) (hr.make C us []) (J.env0.make C us []) (hb _ (Value.ref (s.heap.objs.size + 1) :: us) J.kIn hl) r2 hq) ?_))
  intro rs s2 z
  cases rs with
  | error e => exact hx pins _ _ e s2 J z
  | ok fl =>
    cases fl with
    | ret u =>
      obtain ⟨v, H2, J2, rv, rfl, q⟩ := J.after z
      exact ⟨rv, V.ref (s.heap.objs.size + 1), H2, J2, rfl, q⟩
    | next => exact False.elim z
    | brk => exact False.elim z
    | cont => exact False.elim z
def tMakeS (C : Addr) (sp : Sp) (E : L2.St → XK) (t : TA) : TE := fun σ H Q => t σ H fun vs H1 => ∀ x dx, H1 x = none → H1 dx = none → dx ≠ x → sp (.ref x :: (vs ++ [])) (upd (upd H1 dx (.own x)) x (.ins C dx [])) (fun v H2 => v = .non ∧ Q (.ref x) H2) (E σ)
end
section
variable {P : Program} {w : World} {K : PySem.W.Frag} {mg : Str → Option Value} {base : Heap}
theorem fun_okN {x qual : Str} {st : Stmt} {f : Addr} {fd : FuncData} {N ps : List Str} {k : Nat} {sp : Sp} (F : Fun K x qual st f fd) (S : FnScope N ps (defScope st)) (len : ∀ vs H Q E, sp vs H Q E → vs.length = ps.length)
    (body : ∀ (cdv : Value) (A : Around) (outer : List Env) (s : Shared) (H : Hp) (vs : List V) (Q : VK) (E : XK), Room k (A.deeper (envOfC qual (defScope st) s.heap.objs.size f cdv)) → sp vs H Q E →
      ∃ t, PSs (cxOf (L2N.CX P w) P w K mg base N qual (defScope st) f cdv A outer s H E) (defBody st) t ∧ t { nx := fun _ H' => Q .non H', rt := Q } (start N vs) H) : FnOk P w K mg base (L2N.CX P w) (k + 1) f fd ps sp := by
  obtain ⟨oc, od, kV, doc, pm, an, cdv, ct, osl, rfl, lk, hcd⟩ := F.ex
  exact fn_of lk hcd S len fun A outer s H vs Q E hr hsp => body cdv A outer s H vs Q E hr hsp
structure CalN (P : Program) (w : World) (K : PySem.W.Frag) (mg : Str → Option Value) (base : Heap) (k : Nat) (x : Str) (sp : Sp) : Prop where
  ex : ∃ (f : Addr) (fd : FuncData) (ps : List Str), FnOk P w K mg base (L2N.CX P w) k f fd ps sp ∧ mg x = some (.ref f) ∧ PySem.W.keepIn K (.ref f) = true ∧ Binds K fd ps []
structure MakN (P : Program) (w : World) (K : PySem.W.Frag) (mg : Str → Option Value) (base : Heap) (k : Nat) (x : Str) (C : Addr) (sp : Sp) : Prop where
  ex : ∃ (f : Addr) (fd : FuncData) (ps : List Str), Mk K C f ∧ FnOk P w K mg base (L2N.CX P w) k f fd ps sp ∧ mg x = some (.ref C) ∧ Binds K fd ps []
theorem fn_orN {k : Nat} {f : Addr} {fd : FuncData} {ps : List Str} {sp0 sp1 : Sp} (F0 : FnOk P w K mg base CX0 k f fd ps sp0) (F1 : FnOk P w K mg base (L2N.CX P w) k f fd ps sp1) : FnOk P w K mg base (L2N.CX P w) k f fd ps (fun vs H Q E => sp0 vs H Q E ∨ sp1 vs H Q E) :=
  ⟨fun vs H Q E h => h.elim (F0.len vs H Q E) (F1.len vs H Q E), fun A outer s H args us vs Q E hr e0 hb r h => h.elim
    (fun h => codeAny_mono (F0.run A outer s H args us vs Q E hr e0 hb r h) fun rs s' z => by
      cases rs with
      | error e => exact False.elim z
      | ok fl => cases fl <;> exact z) (F1.run A outer s H args us vs Q E hr e0 hb r)⟩
end
section
variable {X : Cx} {k j : Nat} {x : Str} {sp : Sp} {W : WX} {e : Expr} {es : List Expr} {t : TA} {p pos : Pos} {C : Addr}
theorem pe_cN (c : CalN X.prog X.w X.K X.mg X.base k x sp) (hr : Room j X.A) (hk : k ≤ j) (hg : Gl X x) (tk : L2N.Takes X W) (ha : PA X (e :: es) t)
    (hdb : (x == ("__debug__" : Str)) = false := by decide) (he : starEach (e :: es) X.env = (false, eval e X.env) :: starEach es X.env := by rfl) (hpl : (backTo pos (starEach es X.env)).any (·.1) = false := by rfl) : PE X (.Call (.Name x p) (e :: es) [] pos) (tCallS sp (WE W) t) := by
  obtain ⟨f, fd, ps, F, hm, kp, b⟩ := c.ex
  exact pe_callS F (hr.mono hk) hg hm kp b (fun σ => L2N.passAt tk σ) ha hdb he hpl
theorem pe_mkN (c : MakN X.prog X.w X.K X.mg X.base k x C sp) (hr : Room j X.A) (hk : k + 1 ≤ j) (hg : Gl X x) (tk : L2N.Takes X W) (ha : PA X (e :: es) t)
    (hdb : (x == ("__debug__" : Str)) = false := by decide) (he : starEach (e :: es) X.env = (false, eval e X.env) :: starEach es X.env := by rfl) (hpl : (backTo pos (starEach es X.env)).any (·.1) = false := by rfl) : PE X (.Call (.Name x p) (e :: es) [] pos) (tMakeS C sp (WE W) t) := by
  obtain ⟨f, fd, ps, M, F, hm, b⟩ := c.ex
  constructor
  intro pins s σ H Q I h
  refine wpAny_Call_Name_kw (ld_glob I hg hm (PySem.W.callWith_K (h₀ := X.base) I.ok.mod.kin M.kp (thn (ha.run pos pins s σ H _ I h) ?_) he hpl) hdb)
  rintro us s1 ⟨vs, H1, I1, r, q⟩
  exact ⟨I1.kIn, run_mkS (E := WE W) M F (hr.mono hk) b .nil (L2N.passAt tk σ) I1 r q⟩
end
end Fr

namespace Fr
open PySem PySem.Spec PyProof.Rows L2 HotX L2H
abbrev SpE := Addr → Value → Option Addr → Hp → VK → Prop
/-- the error at a, as it stands while it is handled -/
def HasE (a : Addr) (cls : Value) (d : Option Addr) (oe : PySem.Obj) : Prop := L2N.Zn cls d oe ∧ ∃ vs, oe.data = .fields vs
theorem HasE.hot {A : Around} {a : Addr} {cls : Value} {d : Option Addr} {oe : PySem.Obj} (h : HasE a cls d oe) (e : A.handled = some (.ref a)) : Hot1 A (a, oe) := by
  obtain ⟨z, vs, dv⟩ := h
  exact ⟨e, vs, dv, z.2.2 vs dv⟩
structure FnE (P : Program) (w : World) (K : PySem.W.Frag) (mg : Str → Option Value) (base : Heap) (k : Nat) (f : Addr) (fd : FuncData) (y : Str) (sp : SpE) : Prop where
  go : ∀ (A : Around) (outer : List Env) (s : Shared) (H : Hp) (args : Args) (a : Addr) (oe : PySem.Obj) (cls : Value) (d : Option Addr) (Q : VK), RoomH k A → A.handled = some (.ref a) → HasE a cls d oe → PinOk outer H s (a, oe) → Env0 P w K mg base A outer s H → BindsTo s fd args [(y, .ref a)] → sp a cls d H Q →
    codeAny (model P w) A (.call (.ref f) args) (CR CX0 outer P w H s Q C8.E0) s
section
variable {P : Program} {w : World} {K : PySem.W.Frag} {mg : Str → Option Value} {base : Heap}
theorem Fun_okE {x qual y : Str} {st : Stmt} {f : Addr} {fd : FuncData} {N : List Str} {k : Nat} {sp : SpE} (F : Fun K x qual st f fd) (S : FnScope N [y] (defScope st))
    (hb : ∀ (cd : Value) (A : Around) (outer : List Env) (s : Shared) (H : Hp) (a : Addr) (oe : PySem.Obj) (cls : Value) (d : Option Addr) (Q : VK), HasE a cls d oe → HotC (cxH CX0 P w K mg base N qual (defScope st) f cd A outer s H C8.E0 (a, oe)) → RoomH k (A.deeper (envOfC qual (defScope st) s.heap.objs.size f cd)) → sp a cls d H Q →
      ∃ t, PSs (cxH CX0 P w K mg base N qual (defScope st) f cd A outer s H C8.E0 (a, oe)).nox (defBody st) t ∧ t { nx := fun _ H' => Q .non H', rt := Q } (start N [.ref a]) H) : FnE P w K mg base (k + 1) f fd y sp := by
  obtain ⟨oc, od, kV, doc, pm, an, cd, ct, osl, rfl, lk, hcd⟩ := F.ex
  constructor
  intro A outer s H args a oe cls d Q hr hh he pin e0 bt hq
  have inK : K.In s.heap := e0.mod.kin.keeps fun b o z => (e0.bs b o z).1
  have noL : s.heap.NoLimit := e0.mod.nolimit.keeps fun b o z => (e0.bs b o z).1
  have kinds : ∀ z ∈ [(y, Value.ref a)], (defScope st).names.lookup z.1 = some .local ∨ ((defScope st).names.lookup z.1 = some .cell ∧ ((cellsFrom (s.heap.objs.size + 1) (defScope st).names []).lookup z.1).isSome = true) := by
    intro z hz
    obtain rfl := List.mem_singleton.mp hz
    cases S.par y (List.mem_singleton.mpr rfl) with
    | inl q => exact Or.inl q
    | inr q => exact Or.inr ⟨q, PySem.W.cellsFrom_some _ _ _ (Or.inl q)⟩
  refine codeAny_call_function hr.depth (inK _ _ lk) rfl S.co S.gen rfl (PySem.W.codeRec_of inK hcd) (bt _ _ _ _ (wpAny_newFunctionEnv_cells S.kind kinds ?_))
  rintro _ rfl s1 ic
  refine ⟨noL.keeps ic.toInCall.keep, codeAny_func ?_⟩
  have rv : Vals [V.ref a] [Value.ref a] := .cons rfl .nil
  obtain ⟨t, pt, ht⟩ := hb cd A outer s H a oe cls d Q he ⟨(a, oe), he.hot hh, List.mem_singleton.mpr rfl⟩ (hr.deeper _) hq
  have I0 := inv_startH (CX := CX0) (E := C8.E0) S pin e0 (us := [Value.ref a]) (vs := [V.ref a]) rfl rv ic
  refine wpAny_mono (pt.nox.run [] s1 (start N [.ref a]) H _ I0 ht) (fun fl s2 z => ?_) fun _ _ z => z
  cases fl with
  | next =>
    obtain ⟨_, H2, J, q⟩ := z
    exact ⟨V.non, H2, J.os, J.bare, J.base, J.hok, rfl, q⟩
  | ret u =>
    obtain ⟨v, _, H2, J, ru, q⟩ := z
    exact ⟨v, H2, J.os, J.bare, J.base, J.hok, ru, q⟩
  | brk => exact z.elim fun _ z => z.elim fun _ z => z.2.elim
  | cont => exact z.elim fun _ z => z.elim fun _ z => z.2.elim
structure CalE (P : Program) (w : World) (K : PySem.W.Frag) (mg : Str → Option Value) (base : Heap) (k : Nat) (x : Str) (sp : SpE) : Prop where
  ex : ∃ (f : Addr) (fd : FuncData) (y : Str), FnE P w K mg base k f fd y sp ∧ mg x = some (.ref f) ∧ PySem.W.keepIn K (.ref f) = true ∧ Binds K fd [y] []
end
section
variable {X : Cx} {k j : Nat} {x : Str} {sp : SpE} {p pos : Pos} {e : Expr} {t : TA} {a : Addr} {oe : PySem.Obj} {cls : Value} {d : Option Addr}
def tCallE (a : Addr) (cls : Value) (d : Option Addr) (sp : SpE) (t : TA) : TE := fun σ H Q => t σ H fun vs H1 => vs = [.ref a] ∧ sp a cls d H1 Q
theorem pe_cE (c : CalE X.prog X.w X.K X.mg X.base k x sp) (hr : RoomH j X.A) (hk : k ≤ j) (hh : X.A.handled = some (.ref a)) (he : HasE a cls d oe) (hp : (a, oe) ∈ X.pn) (hg : Gl X x) (ha : PA X [e] t)
    (hdb : (x == ("__debug__" : Str)) = false := by decide) (hst : starEach [e] X.env = (false, eval e X.env) :: starEach [] X.env := by rfl) : PE X (.Call (.Name x p) [e] [] pos) (tCallE a cls d sp t) := by
  obtain ⟨f, fd, y, F1, hm, kp, b⟩ := c.ex
  constructor
  intro pins s σ H Q I h
  refine wpAny_Call_Name_kw (ld_glob I hg hm (PySem.W.callWith_K (h₀ := X.base) I.ok.mod.kin kp (thn (ha.run pos pins s σ H _ I h) ?_) hst rfl) hdb)
  rintro us s1 ⟨vs, H1, I1, r, rfl, q⟩
  refine ⟨I1.kIn, ?_⟩
  cases r with
  | cons r rr =>
    cases rr
    cases r
    obtain ⟨p1, p2, p3, p4, p5⟩ := I1.pin (a, oe) (List.mem_append_left _ hp)
    refine wpAny_call (codeAny_mono (F1.go X.A X.stack s1 H1 ⟨[.ref a], []⟩ a oe cls d Q (hr.mono hk) hh he ⟨p1, p2, fun hm => (List.mem_cons.mp (I1.stkSub a hm)).elim p3 p4, p5⟩ I1.env0 (b s1 [.ref a] I1.kIn rfl) q) ?_)
    intro rs s2 z
    cases rs with
    | error e => exact False.elim z
    | ok fl =>
      cases fl with
      | ret u => exact I1.after z
      | next => exact False.elim z
      | brk => exact False.elim z
      | cont => exact False.elim z
theorem look_hot {pins : List (Addr × PySem.Obj)} {σ : L2.St} {H : Hp} {s : Shared} {C dd : Addr} {fs : List (Str × V)} (I : Inv X pins σ H s) (he : HasE a (.ref C) (some dd) oe) (hp : (a, oe) ∈ X.pn) (hd : H dd = some (.xd fs)) :
    ∃ (od : PySem.Obj) (mA : Str → Option Value), PySem.W.InstAt s.heap a oe C (some od) ∧ (∀ f, RelO (fs.lookup f) (mA f)) ∧ ∀ f, PySem.W.lookIn f od = some (mA f) := by
  obtain ⟨z, vs, df⟩ := he
  obtain ⟨mA, hns, rel⟩ := (show ObjOk X.prog X.w H s.heap dd (.xd fs) from I.hok dd _ hd)
  obtain ⟨od, hod, lk⟩ := lookIn_ns hns
  refine ⟨od, mA, ⟨(I.pin (a, oe) (List.mem_append_left _ hp)).1, z.1, ?_, ?_⟩, rel, lk⟩
  · unfold PySem.W.notCls
    rw [df]
  · rw [z.2.1]
    exact hod
def rIsP (K : PySem.W.Frag) (a : Addr) (cls : Value) (d : Option Addr) : List V → Hp → VK → Prop := fun xs H Q => ∃ (C dd : Addr) (fs : List (Str × V)) (c : V) (cv : Value) (b : Bool), xs = [.ref a, c] ∧ cls = .ref C ∧ d = some dd ∧ H dd = some (.xd fs) ∧ ErrC K C ∧ ClsV c cv ∧ PySem.W.kitOne K (.ref C) cv = some b ∧ Q (.bl b) H
theorem call_isP (he : HasE a cls d oe) (hp : (a, oe) ∈ X.pn) : CallR X (.builtin "isinstance") (rIsP X.K a cls d) := by
  intro pins s σ H xs us Q I r h
  obtain ⟨C, dd, fs, c, cv, b, rfl, rfl, rfl, hd, T, hc, e, q⟩ := h
  obtain ⟨u1, u2, rfl, r1, r2⟩ := vals2 r
  obtain rfl := hc.eq r2
  obtain rfl : u1 = Value.ref a := r1
  obtain ⟨od, mA, J, _, _⟩ := look_hot I he hp hd
  exact PySem.W.kia_one (PySem.W.kitx_exc T.cl T.ga T.gg T.oex.exC T.kc T.kg T.kt T.km) I.kIn J e (fun z => by cases z) fun tk => ⟨.bl b, H, I.tok tk, rfl, q⟩
def tErrP (K : PySem.W.Frag) (a : Addr) (cls : Value) (d : Option Addr) (f : Str) (te : TE) : TE := fun σ H Q => te σ H fun x H1 => ∃ (C dd : Addr) (fs : List (Str × V)) (v : V), x = .ref a ∧ cls = .ref C ∧ d = some dd ∧ H1 dd = some (.xd fs) ∧ ErrC K C ∧ PySem.W.findIn K (.ref C) f = some none ∧ fs.lookup f = some v ∧ Q v H1
theorem pe_errP {f : Str} {te : TE} (he : HasE a cls d oe) (hp : (a, oe) ∈ X.pn) (h : PE X e te) (hb : attributeBase e f X.env (eval e X.env) = eval e X.env := by rfl) : PE X (.Attribute e f pos) (tErrP X.K a cls d f te) := by
  constructor
  intro pins s σ H Q I q
  refine attr_of hb (thn (h.run pins s σ H _ I q) ?_)
  rintro u s1 ⟨x, H1, I1, rx, C, dd, fs, v, rfl, rfl, rfl, hd, T, no, hl, q⟩
  obtain rfl : u = Value.ref a := rx
  obtain ⟨od, mA, J, rel, lk⟩ := look_hot I1 he hp hd
  obtain ⟨u, hu, ru⟩ := RelO.some_of (v := v) (o := mA f) (by rw [← hl]; exact rel f)
  exact HandSPX.exc_get I1.kIn J T.ga T.gg T.oex.exC (PySem.W.findObj_own T.hd no rfl (by rw [lk, hu])) (handed_of ru) ⟨v, H1, I1.tok _, ru, q⟩
end
end Fr

namespace Fr
open PySem PySem.Spec PyProof.Rows L2 HotX L2H
section
variable {X : Cx}
/-- nothing leaves -/
def wNo : WX := fun _ _ _ _ => False
theorem takes_noN : L2N.Takes X wNo := fun u s x => by
  obtain ⟨_, _, _, _, _, _, _, _, _, _, _, _, _, _, _, _, z⟩ := x
  exact z.elim
def tRetE (sp : SpE) (i : Nat) : Addr → Value → Option Addr → TS := fun a cls d D σ H => tCallE a cls d sp (tCons (tVar i) tNil) σ H D.rt
/-- try: body, except X as n: return f(n) -/
theorem ps_try_retE {x n y : Str} {c : Value} {i j k : Nat} {sp : SpE} {body : List Stmt} {np fp ep pos pos' cpos rpos : Pos} {tb : WX → TS} (hs : X.stack = X.env :: X.outer) (hf : X.env.frame = some X.env.locals) (hN : X.N.Nodup) (hi : X.N[i]? = some n) (hln : X.env.scope.names.lookup n = some .local) (hc : Names X x c)
    (f : CalE X.prog X.w X.K X.mg X.base k y sp) (hr : Room j X.A) (hk : k ≤ j) (hg : Gl X y)
    (hb : ∀ (W : WX) (pn : List (Addr × PySem.Obj)) (xe : Value → Shared → Prop), L2N.Takes (X.tr pn xe) W → PassesOwn (model X.prog X.w) X.A X.env xe → PSs (X.tr pn xe) body (tb W))
    (hdn : (n == ("__debug__" : Str)) = false := by decide) (hcn : (n == ("__classdict__" : Str)) = false := by decide) (hdb : (y == ("__debug__" : Str)) = false := by decide) (hst : starEach [.Name n ep] X.env = (false, eval (.Name n ep) X.env) :: starEach [] X.env := by rfl) :
    PS X (.Try body [.ExceptHandler (some (.Name x np)) (some n) [.Return (some (.Call (.Name y fp) [.Name n ep] [] cpos)) rpos] pos'] [] [] pos) (fun D σ H => tb (wAs X.K c i (tRetE sp i) wNo D) D σ H) := by
  refine L2N.ps_try_as hs hf hN hi hln hc takes_noN hb fun a oe cls d pn hz hd => pss_one (ps_ret ?_)
  have ar : PA (X.suite a ((a, oe) :: pn)) [.Name n ep] (tCons (tVar i) tNil) := pa_cons (pv i hi (Or.inl hln) hdn hcn) pa_nil hst
  exact pe_cE (X := X.suite a ((a, oe) :: pn)) (j := j) f ⟨hr.dp, hr.un⟩ hk rfl ⟨hz, hd⟩ (List.mem_cons_self ..) hg ar hdb hst
/-- raise of an own error, its context kept -/
theorem ps_errN {W : WX} {k j : Nat} {x : Str} {C : Addr} {e : Expr} {t : TA} {p pos pos' : Pos} (c : MkR X.prog X.w X.K X.mg X.base k x C) (hc : X.calm = true) (tk : L2N.Takes X W) (hr : Room j X.A) (hk : k + 1 ≤ j) (hg : Gl X x) (ha : PA X [e] t)
    (hdb : (x == ("__debug__" : Str)) = false := by decide) (he : starEach [e] X.env = (false, eval e X.env) :: starEach [] X.env := by rfl) : PS X (.Raise (some (.Call (.Name x p) [e] [] pos)) none pos') (fun _ σ H => tMkO C (spErrI X.K) [] t σ H fun cls d H' => W cls d σ H') := by
  obtain ⟨f, fd, ps, i, ty, F1, b, hm⟩ := c.ex
  exact L2N.ps_raise hc tk (mk_oexN c.err.oex i ty F1 (hr.mono hk) b pass0 hg hm ha hdb he rfl)
end
end Fr

namespace Fr
open PySem PySem.Spec PyProof.Rows L2 HotX L2H
abbrev s_Lcaught : Stmt := topS 35
theorem sc_Lcaught : FnScope ["_law_e", "_law_some", "_law_words", "_law_word", "_law_so"] ["_law_e"] (defScope s_Lcaught) := ⟨rfl, rfl, rfl, by decide +kernel, rfl, by decide +kernel, by decide +kernel⟩
-- slots: 0 _law_e, 1 _law_some, 2 _law_words, 3 _law_word, 4 _law_so
structure TxX (mg : Str → Option Value) (c : Nat → Addr) : Prop where
  b_ValueError : mg "ValueError" = none
  g_InvalidSystem : mg "InvalidSystem" = some (.ref (c 0))
  g_InvalidName : mg "InvalidName" = some (.ref (c 1))
  g_InvalidAxes : mg "InvalidAxes" = some (.ref (c 2))
  g_UnknownTable : mg "UnknownTable" = some (.ref (c 3))
  g_InvalidCell : mg "InvalidCell" = some (.ref (c 4))
  g_InvalidRead : mg "InvalidRead" = some (.ref (c 5))
  g_InvalidShifts : mg "InvalidShifts" = some (.ref (c 6))
  g_InvalidNumber : mg "InvalidNumber" = some (.ref (c 7))
  g_NotReady : mg "NotReady" = some (.ref (c 8))
  g_NoFar : mg "NoFar" = some (.ref (c 9))
  g_NothingToUndo : mg "NothingToUndo" = some (.ref (c 10))
  g_Unreadable : mg "Unreadable" = some (.ref (c 11))
  g_ReadError : mg "ReadError" = some (.ref (c 12))
theorem relvTy (s : String) : RelV (.ty s) (.type s) := rfl
/-- what is asked of the classes of an error -/
structure KitE (K : PySem.W.Frag) (c : Nat → Addr) (i : Nat) : Prop where
  own : ∀ j, j < 13 → PySem.W.kitOne K (.ref (c i)) (.ref (c j)) = some (decide (j = i) || decide (j = 12))
  val : PySem.W.kitOne K (.ref (c i)) (.type "ValueError") = some true
def PrsE (H : Hp) (xs : List V) (ps : List (Str × Bool)) : Prop := Paired (fun (v : V) (p : Str × Bool) => ∃ q, v = .ref q ∧ H q = some (.tup [.str p.1, .bl p.2])) xs ps
theorem PrsE.mono {H H' : Hp} {xs : List V} {ps : List (Str × Bool)} (h : PrsE H xs ps) (e : Same H H') : PrsE H' xs ps := _root_.L2.Paired.mapP h fun _ _ ⟨q, z1, z2⟩ => ⟨q, z1, e _ _ z2⟩
theorem PrsE.snoc {H : Hp} {xs : List V} {ps : List (Str × Bool)} {q : Addr} {x : Str} {z : Bool} (h : PrsE H xs ps) (e : H q = some (.tup [.str x, .bl z])) : PrsE H (xs ++ [.ref q]) (ps ++ [(x, z)]) := by
  unfold PrsE at h ⊢
  induction h with
  | nil => exact .cons ⟨q, rfl, e⟩ .nil
  | cons h1 h2 ih => exact .cons h1 ih
theorem PrsE.get {H : Hp} {xs : List V} {ps : List (Str × Bool)} (h : PrsE H xs ps) : ∀ {i : Nat} {x : V}, xs[i]? = some x → ∃ p q, ps[i]? = some p ∧ x = .ref q ∧ H q = some (.tup [.str p.1, .bl p.2]) := by
  unfold PrsE at h
  induction h with
  | nil => intro i x e; cases e
  | cons h1 h2 ih =>
    intro i x e
    cases i with
    | zero =>
      cases e
      obtain ⟨q, rfl, hq⟩ := h1
      exact ⟨_, q, rfl, rfl, hq⟩
    | succ i => exact ih e
/-- the classes and the words, as they are asked -/
def askC : List (Str × Nat) := [("number", 7), ("system", 0), ("name", 1), ("axes", 2), ("table", 3), ("cell", 4), ("read", 5), ("shifts", 6), ("ready", 8), ("far", 9), ("undo", 10), ("text", 11)]
def wordC (i : Nat) : Str := (((askC.filter fun p => decide (p.2 = i)).map (·.1))[0]?).getD "odd"
theorem ask_one : ∀ i ∈ List.range 12, (askC.filter fun p => decide (p.2 = i)).map (·.1) = [wordC i] := by decide +kernel
section
variable {P : Program} {w : World} {K : PySem.W.Frag} {mg : Str → Option Value} {base : Heap} {c : Nat → Addr}
def spCaught (K : PySem.W.Frag) (c : Nat → Addr) : SpE := fun a cls d H Q => ∃ (i : Nat) (dd : Addr) (y : V), i < 12 ∧ cls = .ref (c i) ∧ d = some dd ∧ H dd = some (.xd [(("value" : Str), y)]) ∧ ErrC K (c i) ∧ KitE K c i ∧ PySem.W.findIn K (.ref (c i)) "value" = some none ∧ ∀ l H', Same H H' → H' l = some (.tup [.str (wordC i), y]) → Q (.ref l) H'
theorem ok_caught {f : Addr} {fd : FuncData} (F : Fun K "_law_caught" "_law_caught" s_Lcaught f fd) (T : Txt mg) (TE : TxX mg c) (zi : mg "isinstance" = none) : FnE P w K mg base 1 f fd "_law_e" (spCaught K c) := by
  refine Fun_okE F sc_Lcaught fun cd A outer sh H a oe cls d Q he hot hr h => ?_
  obtain ⟨i, dd, y, hi, rfl, rfl, hd, EC, KE, no, q⟩ := h
  refine ⟨_, (pss_cons (ps_set (i := 1) sc_Lcaught.nd rfl (by first | exact Or.inl rfl | exact Or.inr rfl) (pe_lst (pa_cons (pe_tup (pa_cons pe_str (pa_cons (pe_callB (call_isP he (List.mem_cons_self ..)) (by rfl) zi (by decide +kernel) (pa_cons (pv 0) (pa_cons (pe_glob (v := .ref (c 7)) (by rfl) TE.g_InvalidNumber rfl) pa_nil))) pa_nil))) (pa_cons (pe_tup (pa_cons pe_str (pa_cons (pe_callB (call_isP he (List.mem_cons_self ..)) (by rfl) zi (by decide +kernel) (pa_cons (pv 0) (pa_cons (pe_glob (v := .ref (c 0)) (by rfl) TE.g_InvalidSystem rfl) pa_nil))) pa_nil))) pa_nil))))
  (pss_cons (ps_set (i := 1) sc_Lcaught.nd rfl (by first | exact Or.inl rfl | exact Or.inr rfl) (pe_op op_cat (pv 1) (pe_lst (pa_cons (pe_tup (pa_cons pe_str (pa_cons (pe_callB (call_isP he (List.mem_cons_self ..)) (by rfl) zi (by decide +kernel) (pa_cons (pv 0) (pa_cons (pe_glob (v := .ref (c 1)) (by rfl) TE.g_InvalidName rfl) pa_nil))) pa_nil))) (pa_cons (pe_tup (pa_cons pe_str (pa_cons (pe_callB (call_isP he (List.mem_cons_self ..)) (by rfl) zi (by decide +kernel) (pa_cons (pv 0) (pa_cons (pe_glob (v := .ref (c 2)) (by rfl) TE.g_InvalidAxes rfl) pa_nil))) pa_nil))) pa_nil)))))
  (pss_cons (ps_set (i := 1) sc_Lcaught.nd rfl (by first | exact Or.inl rfl | exact Or.inr rfl) (pe_op op_cat (pv 1) (pe_lst (pa_cons (pe_tup (pa_cons pe_str (pa_cons (pe_callB (call_isP he (List.mem_cons_self ..)) (by rfl) zi (by decide +kernel) (pa_cons (pv 0) (pa_cons (pe_glob (v := .ref (c 3)) (by rfl) TE.g_UnknownTable rfl) pa_nil))) pa_nil))) (pa_cons (pe_tup (pa_cons pe_str (pa_cons (pe_callB (call_isP he (List.mem_cons_self ..)) (by rfl) zi (by decide +kernel) (pa_cons (pv 0) (pa_cons (pe_glob (v := .ref (c 4)) (by rfl) TE.g_InvalidCell rfl) pa_nil))) pa_nil))) pa_nil)))))
  (pss_cons (ps_set (i := 1) sc_Lcaught.nd rfl (by first | exact Or.inl rfl | exact Or.inr rfl) (pe_op op_cat (pv 1) (pe_lst (pa_cons (pe_tup (pa_cons pe_str (pa_cons (pe_callB (call_isP he (List.mem_cons_self ..)) (by rfl) zi (by decide +kernel) (pa_cons (pv 0) (pa_cons (pe_glob (v := .ref (c 5)) (by rfl) TE.g_InvalidRead rfl) pa_nil))) pa_nil))) (pa_cons (pe_tup (pa_cons pe_str (pa_cons (pe_callB (call_isP he (List.mem_cons_self ..)) (by rfl) zi (by decide +kernel) (pa_cons (pv 0) (pa_cons (pe_glob (v := .ref (c 6)) (by rfl) TE.g_InvalidShifts rfl) pa_nil))) pa_nil))) pa_nil)))))
  (pss_cons (ps_set (i := 1) sc_Lcaught.nd rfl (by first | exact Or.inl rfl | exact Or.inr rfl) (pe_op op_cat (pv 1) (pe_lst (pa_cons (pe_tup (pa_cons pe_str (pa_cons (pe_callB (call_isP he (List.mem_cons_self ..)) (by rfl) zi (by decide +kernel) (pa_cons (pv 0) (pa_cons (pe_glob (v := .ref (c 8)) (by rfl) TE.g_NotReady rfl) pa_nil))) pa_nil))) (pa_cons (pe_tup (pa_cons pe_str (pa_cons (pe_callB (call_isP he (List.mem_cons_self ..)) (by rfl) zi (by decide +kernel) (pa_cons (pv 0) (pa_cons (pe_glob (v := .ref (c 9)) (by rfl) TE.g_NoFar rfl) pa_nil))) pa_nil))) pa_nil)))))
  (pss_cons (ps_set (i := 1) sc_Lcaught.nd rfl (by first | exact Or.inl rfl | exact Or.inr rfl) (pe_op op_cat (pv 1) (pe_lst (pa_cons (pe_tup (pa_cons pe_str (pa_cons (pe_callB (call_isP he (List.mem_cons_self ..)) (by rfl) zi (by decide +kernel) (pa_cons (pv 0) (pa_cons (pe_glob (v := .ref (c 10)) (by rfl) TE.g_NothingToUndo rfl) pa_nil))) pa_nil))) (pa_cons (pe_tup (pa_cons pe_str (pa_cons (pe_callB (call_isP he (List.mem_cons_self ..)) (by rfl) zi (by decide +kernel) (pa_cons (pv 0) (pa_cons (pe_glob (v := .ref (c 11)) (by rfl) TE.g_Unreadable rfl) pa_nil))) pa_nil))) pa_nil)))))
  (pss_cons (ps_setLcH (i := 2) (own := [("_law_word", 3), ("_law_so", 4)]) (g := gTup K 2 (gCons (gName 3) (gCons (gName 4) gNil))) hot sc_Lcaught.nd rfl rfl (sw_true rfl rfl rfl (by decide +kernel)) (pi_listH (pv 1)) (blkOk_by (N := ["_law_e", "_law_some", "_law_words", "_law_word", "_law_so"]) (sc := defScope s_Lcaught) (by decide +kernel)) (fun _ _ _ _ _ _ hotB => (pg_tupH hotB (pgs_cons (pg_name (i := 3) sc_Lcaught.nd rfl (by first | exact Or.inl rfl | exact Or.inr rfl)) (pgs_cons (pg_name (i := 4) sc_Lcaught.nd rfl (by first | exact Or.inl rfl | exact Or.inr rfl)) pgs_nil)))) (fun _ _ _ _ _ _ => (pts_one (pt_val (pv 4)))) (fun _ _ _ _ _ _ => (pv 3)))
  (pss_one (ps_ret (pe_ifExp (PW.pt (pw_and (pt_cmpR op_eq (pe_callB call_len_seq (by rfl) T.b_len PySem.boot_len (pa_cons (pv 2) pa_nil)) pe_int (nomark _)) (pw_and1 (pt_val (pe_callB (call_isP he (List.mem_cons_self ..)) (by rfl) zi (by decide +kernel) (pa_cons (pv 0) (pa_cons (pe_bltn (by rfl) TE.b_ValueError (by decide +kernel) (relvTy "ValueError")) pa_nil))))))) (pe_tup (pa_cons (pe_ix ix_list (pv 2) pe_int (fun _ _ => rfl)) (pa_cons (pe_errP he (List.mem_cons_self ..) (pv 0)) pa_nil))) pe_str)))))))))), ?_⟩
  have z3 : 2 ≤ sizeLine := by decide
  obtain ⟨b, hb⟩ : ∃ b : Nat → Bool, b = fun j => decide (j = i) || decide (j = 12) := ⟨_, rfl⟩
  have hk : ∀ j, j < 13 → PySem.W.kitOne K (.ref (c i)) (.ref (c j)) = some (b j) := by rw [hb]; exact KE.own
  have P0 : PrsE H [] [] := .nil
  have s0 : Same H H := same_refl
  have d0 := hd
  refine ⟨_, rfl, c i, dd, _, _, _, b 7, rfl, rfl, rfl, d0, EC, .own _, hk 7 (by decide), z3, fun p np => ?_⟩
  have sp := snew (o := HO.tup [.str "number", .bl (b 7)]) np
  have P1 := (P0.mono sp).snoc (upd_same (H := H) (a := p) (o := HO.tup [.str "number", .bl (b 7)]))
  have dp := sp _ _ d0
  have sq := same_tr s0 sp
  generalize upd H p (.tup [.str "number", .bl (b 7)]) = Hp0 at np sp P1 dp sq ⊢
  clear P0 s0 d0 sp np
  refine ⟨_, rfl, c i, dd, _, _, _, b 0, rfl, rfl, rfl, dp, EC, .own _, hk 0 (by decide), z3, fun p2 np2 => ?_⟩
  have sp := snew (o := HO.tup [.str "system", .bl (b 0)]) np2
  have P2 := (P1.mono sp).snoc (upd_same (H := Hp0) (a := p2) (o := HO.tup [.str "system", .bl (b 0)]))
  have d2 := sp _ _ dp
  have s2 := same_tr sq sp
  generalize upd Hp0 p2 (.tup [.str "system", .bl (b 0)]) = Hq0 at np2 sp P2 d2 s2 ⊢
  clear P1 dp sq sp np2
  refine ⟨z3, fun l0 nl => ?_⟩
  have sp := snew (o := HO.lst [.ref p, .ref p2]) nl
  have P3 := P2.mono sp
  have d3 := sp _ _ d2
  have s3 := same_tr s2 sp
  have k3 : (upd Hq0 l0 (.lst [.ref p, .ref p2])) l0 = some (.lst [.ref p, .ref p2]) := upd_same
  generalize upd Hq0 l0 (.lst [.ref p, .ref p2]) = Hr0 at nl sp P3 d3 s3 k3 ⊢
  clear P2 d2 s2 sp nl
  obtain ⟨L0, eL0⟩ : ∃ L, L = [V.ref p, V.ref p2] := ⟨_, rfl⟩
  rw [← eL0] at k3
  have P0 : PrsE Hr0 L0 ((([] : List (Str × Bool)) ++ [(("number" : Str), b 7)]) ++ [(("system" : Str), b 0)]) := by rw [eL0]; exact P3
  have n0 : L0.length = 2 := by rw [eL0]; rfl
  have d0 := d3
  have s0 := s3
  have kl := k3
  clear P3 d3 s3 k3 eL0 p p2
  refine ⟨_, rfl, _, rfl, c i, dd, _, _, _, b 1, rfl, rfl, rfl, d0, EC, .own _, hk 1 (by decide), z3, fun p np => ?_⟩
  have sp := snew (o := HO.tup [.str "name", .bl (b 1)]) np
  have P1 := (P0.mono sp).snoc (upd_same (H := Hr0) (a := p) (o := HO.tup [.str "name", .bl (b 1)]))
  have dp := sp _ _ d0
  have sq := same_tr s0 sp
  have kp := sp _ _ kl
  generalize upd Hr0 p (.tup [.str "name", .bl (b 1)]) = Hp1 at np sp P1 dp sq kp ⊢
  clear P0 s0 d0 sp np kl
  refine ⟨_, rfl, c i, dd, _, _, _, b 2, rfl, rfl, rfl, dp, EC, .own _, hk 2 (by decide), z3, fun p2 np2 => ?_⟩
  have sp := snew (o := HO.tup [.str "axes", .bl (b 2)]) np2
  have P2 := (P1.mono sp).snoc (upd_same (H := Hp1) (a := p2) (o := HO.tup [.str "axes", .bl (b 2)]))
  have d2 := sp _ _ dp
  have s2 := same_tr sq sp
  have kq := sp _ _ kp
  generalize upd Hp1 p2 (.tup [.str "axes", .bl (b 2)]) = Hq1 at np2 sp P2 d2 s2 kq ⊢
  clear P1 dp sq sp np2 kp
  refine ⟨z3, fun l1 nl => ?_⟩
  have sp := snew (o := HO.lst [.ref p, .ref p2]) nl
  have P3 := P2.mono sp
  have d3 := sp _ _ d2
  have s3 := same_tr s2 sp
  have k3 : (upd Hq1 l1 (.lst [.ref p, .ref p2])) l1 = some (.lst [.ref p, .ref p2]) := upd_same
  have kr := sp _ _ kq
  generalize upd Hq1 l1 (.lst [.ref p, .ref p2]) = Hr1 at nl sp P3 d3 s3 k3 kr ⊢
  clear P2 d2 s2 sp nl kq
  refine ⟨l0, l1, _, _, rfl, rfl, kr, k3, (by rw [List.length_cons, List.length_cons, List.length_nil, n0]; show _ ≤ sizeLine; decide), fun m1 nm => ?_⟩
  have sp := snew (o := HO.lst (L0 ++ [.ref p, .ref p2])) nm
  have P4 := P3.mono sp
  have d0 := sp _ _ d3
  have s0 := same_tr s3 sp
  have kl : (upd Hr1 m1 (.lst (L0 ++ [.ref p, .ref p2]))) m1 = some (.lst (L0 ++ [.ref p, .ref p2])) := upd_same
  generalize upd Hr1 m1 (.lst (L0 ++ [.ref p, .ref p2])) = Hm1 at nm sp P4 d0 s0 kl ⊢
  obtain ⟨L1, eL1⟩ : ∃ L, L = L0 ++ [V.ref p, V.ref p2] := ⟨_, rfl⟩
  rw [← eL1] at kl
  have P0 : PrsE Hm1 L1 ((((([] : List (Str × Bool)) ++ [(("number" : Str), b 7)]) ++ [(("system" : Str), b 0)]) ++ [(("name" : Str), b 1)]) ++ [(("axes" : Str), b 2)]) := by rw [eL1]; rw [List.append_assoc] at P4; exact P4
  have n1 : L1.length = 4 := by rw [eL1, List.length_append, n0]; rfl
  clear P3 P4 d3 s3 k3 kr nm sp eL1 p p2
  refine ⟨_, rfl, _, rfl, c i, dd, _, _, _, b 3, rfl, rfl, rfl, d0, EC, .own _, hk 3 (by decide), z3, fun p np => ?_⟩
  have sp := snew (o := HO.tup [.str "table", .bl (b 3)]) np
  have P1 := (P0.mono sp).snoc (upd_same (H := Hm1) (a := p) (o := HO.tup [.str "table", .bl (b 3)]))
  have dp := sp _ _ d0
  have sq := same_tr s0 sp
  have kp := sp _ _ kl
  generalize upd Hm1 p (.tup [.str "table", .bl (b 3)]) = Hp2 at np sp P1 dp sq kp ⊢
  clear P0 s0 d0 sp np kl
  refine ⟨_, rfl, c i, dd, _, _, _, b 4, rfl, rfl, rfl, dp, EC, .own _, hk 4 (by decide), z3, fun p2 np2 => ?_⟩
  have sp := snew (o := HO.tup [.str "cell", .bl (b 4)]) np2
  have P2 := (P1.mono sp).snoc (upd_same (H := Hp2) (a := p2) (o := HO.tup [.str "cell", .bl (b 4)]))
  have d2 := sp _ _ dp
  have s2 := same_tr sq sp
  have kq := sp _ _ kp
  generalize upd Hp2 p2 (.tup [.str "cell", .bl (b 4)]) = Hq2 at np2 sp P2 d2 s2 kq ⊢
  clear P1 dp sq sp np2 kp
  refine ⟨z3, fun l2 nl => ?_⟩
  have sp := snew (o := HO.lst [.ref p, .ref p2]) nl
  have P3 := P2.mono sp
  have d3 := sp _ _ d2
  have s3 := same_tr s2 sp
  have k3 : (upd Hq2 l2 (.lst [.ref p, .ref p2])) l2 = some (.lst [.ref p, .ref p2]) := upd_same
  have kr := sp _ _ kq
  generalize upd Hq2 l2 (.lst [.ref p, .ref p2]) = Hr2 at nl sp P3 d3 s3 k3 kr ⊢
  clear P2 d2 s2 sp nl kq
  refine ⟨m1, l2, _, _, rfl, rfl, kr, k3, (by rw [List.length_cons, List.length_cons, List.length_nil, n1]; show _ ≤ sizeLine; decide), fun m2 nm => ?_⟩
  have sp := snew (o := HO.lst (L1 ++ [.ref p, .ref p2])) nm
  have P4 := P3.mono sp
  have d0 := sp _ _ d3
  have s0 := same_tr s3 sp
  have kl : (upd Hr2 m2 (.lst (L1 ++ [.ref p, .ref p2]))) m2 = some (.lst (L1 ++ [.ref p, .ref p2])) := upd_same
  generalize upd Hr2 m2 (.lst (L1 ++ [.ref p, .ref p2])) = Hm2 at nm sp P4 d0 s0 kl ⊢
  obtain ⟨L2, eL2⟩ : ∃ L, L = L1 ++ [V.ref p, V.ref p2] := ⟨_, rfl⟩
  rw [← eL2] at kl
  have P0 : PrsE Hm2 L2 ((((((([] : List (Str × Bool)) ++ [(("number" : Str), b 7)]) ++ [(("system" : Str), b 0)]) ++ [(("name" : Str), b 1)]) ++ [(("axes" : Str), b 2)]) ++ [(("table" : Str), b 3)]) ++ [(("cell" : Str), b 4)]) := by rw [eL2]; rw [List.append_assoc] at P4; exact P4
  have n2 : L2.length = 6 := by rw [eL2, List.length_append, n1]; rfl
  clear P3 P4 d3 s3 k3 kr nm sp eL2 p p2
  refine ⟨_, rfl, _, rfl, c i, dd, _, _, _, b 5, rfl, rfl, rfl, d0, EC, .own _, hk 5 (by decide), z3, fun p np => ?_⟩
  have sp := snew (o := HO.tup [.str "read", .bl (b 5)]) np
  have P1 := (P0.mono sp).snoc (upd_same (H := Hm2) (a := p) (o := HO.tup [.str "read", .bl (b 5)]))
  have dp := sp _ _ d0
  have sq := same_tr s0 sp
  have kp := sp _ _ kl
  generalize upd Hm2 p (.tup [.str "read", .bl (b 5)]) = Hp3 at np sp P1 dp sq kp ⊢
  clear P0 s0 d0 sp np kl
  refine ⟨_, rfl, c i, dd, _, _, _, b 6, rfl, rfl, rfl, dp, EC, .own _, hk 6 (by decide), z3, fun p2 np2 => ?_⟩
  have sp := snew (o := HO.tup [.str "shifts", .bl (b 6)]) np2
  have P2 := (P1.mono sp).snoc (upd_same (H := Hp3) (a := p2) (o := HO.tup [.str "shifts", .bl (b 6)]))
  have d2 := sp _ _ dp
  have s2 := same_tr sq sp
  have kq := sp _ _ kp
  generalize upd Hp3 p2 (.tup [.str "shifts", .bl (b 6)]) = Hq3 at np2 sp P2 d2 s2 kq ⊢
  clear P1 dp sq sp np2 kp
  refine ⟨z3, fun l3 nl => ?_⟩
  have sp := snew (o := HO.lst [.ref p, .ref p2]) nl
  have P3 := P2.mono sp
  have d3 := sp _ _ d2
  have s3 := same_tr s2 sp
  have k3 : (upd Hq3 l3 (.lst [.ref p, .ref p2])) l3 = some (.lst [.ref p, .ref p2]) := upd_same
  have kr := sp _ _ kq
  generalize upd Hq3 l3 (.lst [.ref p, .ref p2]) = Hr3 at nl sp P3 d3 s3 k3 kr ⊢
  clear P2 d2 s2 sp nl kq
  refine ⟨m2, l3, _, _, rfl, rfl, kr, k3, (by rw [List.length_cons, List.length_cons, List.length_nil, n2]; show _ ≤ sizeLine; decide), fun m3 nm => ?_⟩
  have sp := snew (o := HO.lst (L2 ++ [.ref p, .ref p2])) nm
  have P4 := P3.mono sp
  have d0 := sp _ _ d3
  have s0 := same_tr s3 sp
  have kl : (upd Hr3 m3 (.lst (L2 ++ [.ref p, .ref p2]))) m3 = some (.lst (L2 ++ [.ref p, .ref p2])) := upd_same
  generalize upd Hr3 m3 (.lst (L2 ++ [.ref p, .ref p2])) = Hm3 at nm sp P4 d0 s0 kl ⊢
  obtain ⟨L3, eL3⟩ : ∃ L, L = L2 ++ [V.ref p, V.ref p2] := ⟨_, rfl⟩
  rw [← eL3] at kl
  have P0 : PrsE Hm3 L3 ((((((((([] : List (Str × Bool)) ++ [(("number" : Str), b 7)]) ++ [(("system" : Str), b 0)]) ++ [(("name" : Str), b 1)]) ++ [(("axes" : Str), b 2)]) ++ [(("table" : Str), b 3)]) ++ [(("cell" : Str), b 4)]) ++ [(("read" : Str), b 5)]) ++ [(("shifts" : Str), b 6)]) := by rw [eL3]; rw [List.append_assoc] at P4; exact P4
  have n3 : L3.length = 8 := by rw [eL3, List.length_append, n2]; rfl
  clear P3 P4 d3 s3 k3 kr nm sp eL3 p p2
  refine ⟨_, rfl, _, rfl, c i, dd, _, _, _, b 8, rfl, rfl, rfl, d0, EC, .own _, hk 8 (by decide), z3, fun p np => ?_⟩
  have sp := snew (o := HO.tup [.str "ready", .bl (b 8)]) np
  have P1 := (P0.mono sp).snoc (upd_same (H := Hm3) (a := p) (o := HO.tup [.str "ready", .bl (b 8)]))
  have dp := sp _ _ d0
  have sq := same_tr s0 sp
  have kp := sp _ _ kl
  generalize upd Hm3 p (.tup [.str "ready", .bl (b 8)]) = Hp4 at np sp P1 dp sq kp ⊢
  clear P0 s0 d0 sp np kl
  refine ⟨_, rfl, c i, dd, _, _, _, b 9, rfl, rfl, rfl, dp, EC, .own _, hk 9 (by decide), z3, fun p2 np2 => ?_⟩
  have sp := snew (o := HO.tup [.str "far", .bl (b 9)]) np2
  have P2 := (P1.mono sp).snoc (upd_same (H := Hp4) (a := p2) (o := HO.tup [.str "far", .bl (b 9)]))
  have d2 := sp _ _ dp
  have s2 := same_tr sq sp
  have kq := sp _ _ kp
  generalize upd Hp4 p2 (.tup [.str "far", .bl (b 9)]) = Hq4 at np2 sp P2 d2 s2 kq ⊢
  clear P1 dp sq sp np2 kp
  refine ⟨z3, fun l4 nl => ?_⟩
  have sp := snew (o := HO.lst [.ref p, .ref p2]) nl
  have P3 := P2.mono sp
  have d3 := sp _ _ d2
  have s3 := same_tr s2 sp
  have k3 : (upd Hq4 l4 (.lst [.ref p, .ref p2])) l4 = some (.lst [.ref p, .ref p2]) := upd_same
  have kr := sp _ _ kq
  generalize upd Hq4 l4 (.lst [.ref p, .ref p2]) = Hr4 at nl sp P3 d3 s3 k3 kr ⊢
  clear P2 d2 s2 sp nl kq
  refine ⟨m3, l4, _, _, rfl, rfl, kr, k3, (by rw [List.length_cons, List.length_cons, List.length_nil, n3]; show _ ≤ sizeLine; decide), fun m4 nm => ?_⟩
  have sp := snew (o := HO.lst (L3 ++ [.ref p, .ref p2])) nm
  have P4 := P3.mono sp
  have d0 := sp _ _ d3
  have s0 := same_tr s3 sp
  have kl : (upd Hr4 m4 (.lst (L3 ++ [.ref p, .ref p2]))) m4 = some (.lst (L3 ++ [.ref p, .ref p2])) := upd_same
  generalize upd Hr4 m4 (.lst (L3 ++ [.ref p, .ref p2])) = Hm4 at nm sp P4 d0 s0 kl ⊢
  obtain ⟨L4, eL4⟩ : ∃ L, L = L3 ++ [V.ref p, V.ref p2] := ⟨_, rfl⟩
  rw [← eL4] at kl
  have P0 : PrsE Hm4 L4 ((((((((((([] : List (Str × Bool)) ++ [(("number" : Str), b 7)]) ++ [(("system" : Str), b 0)]) ++ [(("name" : Str), b 1)]) ++ [(("axes" : Str), b 2)]) ++ [(("table" : Str), b 3)]) ++ [(("cell" : Str), b 4)]) ++ [(("read" : Str), b 5)]) ++ [(("shifts" : Str), b 6)]) ++ [(("ready" : Str), b 8)]) ++ [(("far" : Str), b 9)]) := by rw [eL4]; rw [List.append_assoc] at P4; exact P4
  have n4 : L4.length = 10 := by rw [eL4, List.length_append, n3]; rfl
  clear P3 P4 d3 s3 k3 kr nm sp eL4 p p2
  refine ⟨_, rfl, _, rfl, c i, dd, _, _, _, b 10, rfl, rfl, rfl, d0, EC, .own _, hk 10 (by decide), z3, fun p np => ?_⟩
  have sp := snew (o := HO.tup [.str "undo", .bl (b 10)]) np
  have P1 := (P0.mono sp).snoc (upd_same (H := Hm4) (a := p) (o := HO.tup [.str "undo", .bl (b 10)]))
  have dp := sp _ _ d0
  have sq := same_tr s0 sp
  have kp := sp _ _ kl
  generalize upd Hm4 p (.tup [.str "undo", .bl (b 10)]) = Hp5 at np sp P1 dp sq kp ⊢
  clear P0 s0 d0 sp np kl
  refine ⟨_, rfl, c i, dd, _, _, _, b 11, rfl, rfl, rfl, dp, EC, .own _, hk 11 (by decide), z3, fun p2 np2 => ?_⟩
  have sp := snew (o := HO.tup [.str "text", .bl (b 11)]) np2
  have P2 := (P1.mono sp).snoc (upd_same (H := Hp5) (a := p2) (o := HO.tup [.str "text", .bl (b 11)]))
  have d2 := sp _ _ dp
  have s2 := same_tr sq sp
  have kq := sp _ _ kp
  generalize upd Hp5 p2 (.tup [.str "text", .bl (b 11)]) = Hq5 at np2 sp P2 d2 s2 kq ⊢
  clear P1 dp sq sp np2 kp
  refine ⟨z3, fun l5 nl => ?_⟩
  have sp := snew (o := HO.lst [.ref p, .ref p2]) nl
  have P3 := P2.mono sp
  have d3 := sp _ _ d2
  have s3 := same_tr s2 sp
  have k3 : (upd Hq5 l5 (.lst [.ref p, .ref p2])) l5 = some (.lst [.ref p, .ref p2]) := upd_same
  have kr := sp _ _ kq
  generalize upd Hq5 l5 (.lst [.ref p, .ref p2]) = Hr5 at nl sp P3 d3 s3 k3 kr ⊢
  clear P2 d2 s2 sp nl kq
  refine ⟨m4, l5, _, _, rfl, rfl, kr, k3, (by rw [List.length_cons, List.length_cons, List.length_nil, n4]; show _ ≤ sizeLine; decide), fun m5 nm => ?_⟩
  have sp := snew (o := HO.lst (L4 ++ [.ref p, .ref p2])) nm
  have P4 := P3.mono sp
  have d0 := sp _ _ d3
  have s0 := same_tr s3 sp
  have kl : (upd Hr5 m5 (.lst (L4 ++ [.ref p, .ref p2]))) m5 = some (.lst (L4 ++ [.ref p, .ref p2])) := upd_same
  generalize upd Hr5 m5 (.lst (L4 ++ [.ref p, .ref p2])) = Hm5 at nm sp P4 d0 s0 kl ⊢
  obtain ⟨L5, eL5⟩ : ∃ L, L = L4 ++ [V.ref p, V.ref p2] := ⟨_, rfl⟩
  rw [← eL5] at kl
  have P0 : PrsE Hm5 L5 ((((((((((((([] : List (Str × Bool)) ++ [(("number" : Str), b 7)]) ++ [(("system" : Str), b 0)]) ++ [(("name" : Str), b 1)]) ++ [(("axes" : Str), b 2)]) ++ [(("table" : Str), b 3)]) ++ [(("cell" : Str), b 4)]) ++ [(("read" : Str), b 5)]) ++ [(("shifts" : Str), b 6)]) ++ [(("ready" : Str), b 8)]) ++ [(("far" : Str), b 9)]) ++ [(("undo" : Str), b 10)]) ++ [(("text" : Str), b 11)]) := by rw [eL5]; rw [List.append_assoc] at P4; exact P4
  have n5 : L5.length = 12 := by rw [eL5, List.length_append, n4]; rfl
  clear P3 P4 d3 s3 k3 kr nm sp eL5 p p2
  obtain ⟨ps, eps⟩ : ∃ ps, ps = askC.map fun p => (p.1, b p.2) := ⟨_, rfl⟩
  have Pp : PrsE Hm5 L5 ps := by rw [eps]; exact P0
  clear P0
  have same5 : L5.length = ps.length := Paired.length Pp
  refine ⟨_, rfl, m5, rfl, ⟨L5, Or.inl (Or.inl kl)⟩, fun D hD => lc_list (K := K) (a := m5) (xs := L5) (fun j H' => Same Hm5 H' ∧ H' D = some (.lst (((ps.take j).filter (·.2)).map fun p => V.str p.1))) ⟨snew hD, upd_same⟩ (fun j H' _ z => Or.inl (Or.inl (z.1 _ _ kl))) ?_ ?_⟩
  · rintro j x H1 hx ⟨sj, dj⟩
    obtain ⟨pr, q1, hp, rfl, e1⟩ := Pp.get hx
    refine ⟨q1, _, rfl, Or.inl (Or.inl (sj _ _ e1)), rfl, _, _, rfl, _, _, rfl, rfl, rfl, _, rfl, pr.2, rfl, ?_⟩
    have tk : (ps.take (j + 1)).filter (·.2) = (ps.take j).filter (·.2) ++ (if pr.2 = true then [pr] else []) := by
      rw [List.take_add_one, hp, List.filter_append]
      cases e : pr.2 <;> simp [e]
    have few : (((ps.take j).filter (·.2)).map fun p => V.str p.1).length < sizeLine := by
      have z1 := List.length_filter_le (·.2) (ps.take j)
      have z2 := List.length_take_le j ps
      rw [List.length_map]
      have z3 := (List.getElem?_eq_some_iff.mp hx).1
      rw [n5] at z3
      have z4 : 12 < sizeLine := by decide
      omega
    have nD : Hm5 D = none := hD
    cases e : pr.2 with
    | true =>
      rw [e] at tk
      refine ite2 (fun _ => ⟨_, rfl, _, dj, few, ?_, ?_⟩) (fun z => absurd z (by decide))
      · intro x o hx2
        rw [upd_ne fun z => by rw [z, nD] at hx2; cases hx2]
        exact sj _ _ hx2
      · rw [upd_same, tk, List.map_append]
        rfl
    | false =>
      rw [e] at tk
      refine ite2 (fun z => absurd z (by decide)) (fun _ => ⟨sj, ?_⟩)
      rw [tk, if_neg Bool.false_ne_true, List.append_nil]
      exact dj
  · rintro H1 ⟨s1, d1⟩
    have ew : ((ps.take L5.length).filter (·.2)).map (fun p => V.str p.1) = [V.str (wordC i)] := by
      rw [same5, List.take_length, eps, List.filter_map, List.map_map]
      have z := ask_one i (List.mem_range.mpr hi)
      have e2 : askC.filter ((fun x : Str × Bool => x.2) ∘ fun p : Str × Nat => (p.1, b p.2)) = askC.filter fun p => decide (p.2 = i) := by
        refine List.filter_congr fun p hp => ?_
        show b p.2 = decide (p.2 = i)
        rw [hb]
        have n12 : ∀ p ∈ askC, decide (p.2 = 12) = false := by decide +kernel
        show (decide (p.2 = i) || decide (p.2 = 12)) = _
        rw [n12 p hp, Bool.or_false]
      rw [e2, show ((fun p : Str × Bool => V.str p.1) ∘ fun p : Str × Nat => (p.1, b p.2)) = V.str ∘ (·.1) from rfl, ← List.map_map, z]
      rfl
    rw [ew] at d1
    have hd1 := s1 _ _ d0
    refine ⟨_, rfl, D, _, rfl, Or.inl (Or.inl (Or.inl d1)), rfl, _, rfl, iteT ?_⟩
    refine ⟨_, rfl, c i, dd, _, _, _, true, rfl, rfl, rfl, hd1, EC, .ty _, KE.val, _, rfl, iteT ?_⟩
    refine ⟨_, rfl, D, _, 0, _, rfl, rfl, Or.inl (Or.inl d1), rfl, ?_⟩
    refine ⟨_, rfl, c i, dd, _, y, rfl, rfl, rfl, hd1, EC, no, rfl, z3, fun l hl => ?_⟩
    exact q l _ (same_tr s0 (same_tr s1 (snew hl))) upd_same
end
end Fr

namespace Fr
open PySem PySem.Spec PyProof.Rows L2 HotX L2H
structure MetN (P : Program) (w : World) (K : PySem.W.Frag) (mg : Str → Option Value) (base : Heap) (k : Nat) (C : Addr) (m : Str) (sp : Sp) : Prop where
  ex : ∃ (f : Addr) (fd : FuncData) (ps : List Str), Cls K C ∧ Meth K C m f ∧ FnOk P w K mg base (L2N.CX P w) k f fd ps sp ∧ Binds K fd ps []
def tMethN (C : Addr) (m : Str) (sp : Sp) (E : L2.St → XK) (ta : TE) (t : TA) : TE := fun σ H Q => ta σ H fun x H1 => ∃ a dx fs, x = .ref a ∧ H1 a = some (.ins C dx fs) ∧ fs.lookup m = none ∧ t σ H1 fun vs H2 => sp (x :: vs) H2 Q (E σ)
section
variable {X : Cx} {k j : Nat} {C : Addr} {m : Str} {sp : Sp} {W : WX} {e o : Expr} {es : List Expr} {ta : TE} {t : TA} {pos apos : Pos}
theorem pe_mtN {pl : Sem Bool} (c : MetN X.prog X.w X.K X.mg X.base k C m sp) (hr : Room j X.A) (hk : k ≤ j) (he : PE X o ta) (tk : L2N.Takes X W) (ha : PA X (e :: es) t)
    (hst : starEach (e :: es) X.env = (false, eval e X.env) :: starEach es X.env := by rfl) (hpl : (backTo pos (starEach es X.env)).any (·.1) = false := by rfl)
    (ht : eval (.Call (.Attribute o m apos) (e :: es) [] pos) X.env = (do
      let ov ← eval o X.env
      standAt apos.atName
      let (f, first) ← holding [ov] (getMethod ov m pl)
      callWith pos f first (backTo pos (starEach (e :: es) X.env)) (backToKw pos (keywordEach [] X.env))) := by rfl) :
    PE X (.Call (.Attribute o m apos) (e :: es) [] pos) (tMethN C m sp (WE W) ta t) := by
  obtain ⟨f, fd, ps, cl, hm, F1, hb⟩ := c.ex
  constructor
  intro pins s σ H Q I h
  refine PySem.W.methodCall_KW (pl := pl) (thn (he.run pins s σ H _ I h) ?_) ht
  rintro u s1 ⟨x, H1, I1, rx, a, dx, fs, rfl, ea, l, q⟩
  obtain rfl : u = Value.ref a := rx
  refine getmeth_ok I1 ea cl hm l ?_
  refine PySem.W.callWith_K (first := [.ref a]) (h₀ := X.base) I.ok.mod.kin hm.kp (thn (ha.run pos pins s1 σ H1 _ I1 q) ?_) hst hpl
  rintro us s2 ⟨vs, H2, I2, r, q2⟩
  exact ⟨I2.kIn, run_fnS (us := .ref a :: us) (vs := .ref a :: vs) (E := WE W) F1 (hr.mono hk) hb (L2N.passAt tk σ) I2 (.cons rfl r) q2⟩
end
end Fr

namespace Fr
open PySem PySem.Spec PyProof.Rows L2
section
variable {P : Program} {w : World} {K : PySem.W.Frag} {mg : Str → Option Value} {base : Heap}
/-- the error with this class and value is let out -/
def OutsV (CS : Addr) (H : Hp) (E : XK) (y : V) : Prop := ∀ e H', Same H H' → H' e = some (.xd [(("value" : Str), y)]) → E (.ref CS) (some e) H'
def spCheckTableX (K : PySem.W.Frag) (C CT : Addr) : Sp := fun vs H Q E => ∃ (s : Addr) (d m : Int) (ts : List Tb) (x : Str), vs = [.ref s, .str x] ∧ SysAt K C H s d m ts ∧ x ∉ ts.map (·.n) ∧ OutsV CT H E (.str x)
theorem ok_check_tableX {f C CT : Addr} {fd : FuncData} (F : Fun K "check_table" "check_table" s_check_table f fd) (T : Txt mg) (p_names : Prp P w K mg base 1 C "names" (spNames K C)) (r_UnknownTable : MkR P w K mg base 1 "UnknownTable" CT) : FnOk P w K mg base (L2N.CX P w) 3 f fd ["system", "name"] (spCheckTableX K C CT) := by
  refine fun_okN F sc_check_table (fun vs H Q E h => ?_) (fun cdv A outer s H vs Q E hr h => ?_)
  · obtain ⟨s, d, m, ts, x, rfl, _⟩ := h
    rfl
  · obtain ⟨s, d, m, ts, x, rfl, S, hx, q⟩ := h
    refine ⟨_, (pss_one (ps_if (pt_cmpR op_notIn_seq (pv 1) (pe_pr (pv 0) p_names hr (by decide) rfl) (by rfl))
    (pss_one (ps_errN r_UnknownTable rfl (L2N.takes_of rfl rfl rfl rfl) hr (by decide) (by rfl) (pa_cons (pv 1) pa_nil)))
    pss_nil)), ?_⟩
    obtain ⟨dx, t, kvs, h1, h2, h3⟩ := S.ob
    refine ⟨_, rfl, _, rfl, s, dx, _, rfl, h1, s, d, m, ts, rfl, S, fun p H' hp sm hl => ?_⟩
    have e : (ts.map fun t => V.str t.n) = (ts.map (·.n)).map V.str := by
      rw [List.map_map]
      rfl
    refine ⟨p, _, rfl, Or.inl (Or.inl (Or.inl hl)), rfl, by rw [e]; exact flat_strs _, ?_⟩
    rw [e, inV_no hx]
    exact ⟨_, rfl, iteT ⟨_, rfl, err_raise rfl r_UnknownTable.err.oex r_UnknownTable.no fun d hd => q d _ (same_tr sm (snew hd)) upd_same⟩⟩
def spCheckTableB (K : PySem.W.Frag) (C CT : Addr) : Sp := fun vs H Q E => spCheckTable K C vs H Q E ∨ spCheckTableX K C CT vs H Q E
theorem ok_readsX {f C CT : Addr} {fd : FuncData} (F : Fun K "reads" "System.reads" s_System_reads f fd) (T : Txt mg) (TC : TxtC K mg C) (x_check_table : CalN P w K mg base 3 "check_table" (spCheckTableB K C CT)) : FnOk P w K mg base (L2N.CX P w) 4 f fd ["self", "name"] (spCheckTableX K C CT) := by
  refine fun_okN F sc_System_reads (fun vs H Q E h => ?_) (fun cdv A outer s H vs Q E hr h => ?_)
  · obtain ⟨s, d, m, ts, x, rfl, _⟩ := h
    rfl
  · obtain ⟨s, d, m, ts, x, rfl, S, hx, q⟩ := h
    have hu := hu_of hr
    refine ⟨_, (pss_cons (ps_expr (pe_cN x_check_table hr (by decide) (by rfl) (L2N.takes_of rfl rfl rfl rfl) (pa_cons (pv 0) (pa_cons (pv 1) pa_nil))))
  (pss_one (ps_ret (pe_callTy call_list_of (by rfl) T.b_list (by decide +kernel) (pa_cons (pe_ix ix_tup (pe_dget hu (pe_fld (pv 0) rfl) (pv 1) (fun _ _ => rfl)) pe_int (fun _ _ => rfl)) pa_nil))))), ?_⟩
    exact ⟨_, rfl, _, rfl, Or.inr ⟨s, d, m, ts, x, rfl, S, hx, q⟩⟩
theorem ok_constX {f C CT : Addr} {fd : FuncData} (F : Fun K "constant" "System.constant" s_System_constant f fd) (T : Txt mg) (TC : TxtC K mg C) (x_check_table : CalN P w K mg base 3 "check_table" (spCheckTableB K C CT)) : FnOk P w K mg base (L2N.CX P w) 4 f fd ["self", "name"] (spCheckTableX K C CT) := by
  refine fun_okN F sc_System_constant (fun vs H Q E h => ?_) (fun cdv A outer s H vs Q E hr h => ?_)
  · obtain ⟨s, d, m, ts, x, rfl, _⟩ := h
    rfl
  · obtain ⟨s, d, m, ts, x, rfl, S, hx, q⟩ := h
    have hu := hu_of hr
    refine ⟨_, (pss_cons (ps_expr (pe_cN x_check_table hr (by decide) (by rfl) (L2N.takes_of rfl rfl rfl rfl) (pa_cons (pv 0) (pa_cons (pv 1) pa_nil))))
  (pss_one (ps_ret (pe_ix ix_tup (pe_dget hu (pe_fld (pv 0) rfl) (pv 1) (fun _ _ => rfl)) pe_int (fun _ _ => rfl))))), ?_⟩
    exact ⟨_, rfl, _, rfl, Or.inr ⟨s, d, m, ts, x, rfl, S, hx, q⟩⟩
end
end Fr

namespace Fr
open PySem PySem.Spec PyProof.Rows L2
section
variable {P : Program} {w : World} {K : PySem.W.Frag} {mg : Str → Option Value} {base : Heap}
/-- a system has a read of this name and number -/
def RdIn (ts : List Tb) (x : Str) (n : Int) : Prop := ∃ tb ∈ ts, tb.n = x ∧ 0 ≤ n ∧ n < (tb.rs.length : Int)
def spCheckRdN (K : PySem.W.Frag) (C CR : Addr) : Sp := fun vs H Q E => ∃ (s : Addr) (d m : Int) (ts : List Tb) (v : V) (x : Str) (n : Int), vs = [.ref s, v] ∧ SysAt K C H s d m ts ∧ Dp K H v (.tuple [.str x, .int n]) ∧ (ts.map (·.n)).Nodup ∧ (RdIn ts x n → ∀ H', Same H H' → Q .non H') ∧ (¬ RdIn ts x n → OutsV CR H E v)
theorem ok_check_rdN {f C CR : Addr} {fd : FuncData} (F : Fun K "check_read" "check_read" s_check_read f fd) (T : Txt mg) (TC : TxtC K mg C) (p_names : Prp P w K mg base 1 C "names" (spNames K C)) (t_reads : C8.Met P w K mg base 4 C "reads" (spReads K C) []) (r_InvalidRead : MkR P w K mg base 1 "InvalidRead" CR) : FnOk P w K mg base (L2N.CX P w) 5 f fd ["system", "read"] (spCheckRdN K C CR) := by
  refine fun_okN F sc_check_read (fun vs H Q E h => ?_) (fun cdv A outer sh H vs Q E hr h => ?_)
  · obtain ⟨s, d, m, ts, v, x, n, rfl, _⟩ := h
    rfl
  · obtain ⟨s, d, m, ts, v, x, n, rfl, S, hv, hnd, q, qe⟩ := h
    refine ⟨_, (pss_cons (ps_asg (pv 1) (pg_tup rfl (pgs_cons (pg_name (i := 2) sc_check_read.nd rfl (by first | exact Or.inl rfl | exact Or.inr rfl)) (pgs_cons (pg_name (i := 3) sc_check_read.nd rfl (by first | exact Or.inl rfl | exact Or.inr rfl)) pgs_nil))))
  (pss_one (ps_if (PW.pt (pw_or (pt_cmpR op_notIn_seq (pv 2) (pe_pr (pv 0) p_names hr (by decide) rfl) (by rfl)) (pw_or1 (pt_not (pt_chain op_le op_lt pe_int (pv 3) (pe_callB call_len_seq (by rfl) T.b_len PySem.boot_len (pa_cons (C8.pe_mt t_reads hr (by decide) (pv 0) (pa_cons (pv 2) pa_nil)) pa_nil)))))))
    (pss_one (ps_errN r_InvalidRead rfl (L2N.takes_of rfl rfl rfl rfl) hr (by decide) (by rfl) (pa_cons (pv 1) pa_nil)))
    pss_nil))), ?_⟩
    obtain ⟨a, xs, rfl, ht, hd⟩ := dtup hv
    obtain ⟨x1, x2, rfl, h1, h2⟩ := dps2 hd
    obtain rfl := dstr h1
    obtain rfl := dint h2
    obtain ⟨dx, tt, kvs, o1, o2, o3⟩ := S.ob
    refine ⟨_, rfl, a, _, rfl, ht, rfl, _, _, rfl, _, _, rfl, rfl, ?_⟩
    refine ⟨_, rfl, _, rfl, s, dx, _, rfl, o1, s, d, m, ts, rfl, S, fun p H' hp sm hl => ?_⟩
    have e : (ts.map fun t => V.str t.n) = (ts.map (·.n)).map V.str := by
      rw [List.map_map]
      rfl
    refine ⟨p, _, rfl, Or.inl (Or.inl (Or.inl hl)), rfl, by rw [e]; exact flat_strs _, ?_⟩
    by_cases hmem : x ∈ ts.map (·.n)
    · rw [e, inV_str hmem]
      refine ⟨_, rfl, iteF ?_⟩
      obtain ⟨tb, htb, hx⟩ := List.mem_map.mp hmem
      subst hx
      refine ⟨_, rfl, 0, n, rfl, rfl, decide ((0 : Int) ≤ n), rfl, ?_⟩
      by_cases h0 : 0 ≤ n
      · rw [decide_eq_true h0]
        refine iteT ?_
        refine ⟨_, rfl, s, dx, _, rfl, sm _ _ o1, flds_no _ _ _ (by decide +kernel) (by decide +kernel) (by decide +kernel), _, rfl, H', s, d, m, ts, tb.n, tb, rfl, same_refl, S.mono sm, hmem, find_nodup' hnd htb, fun l H2 ys hl2 s2 hl3 hys => ?_⟩
        have hyl : ys.length = tb.rs.length := by rw [dps_len hys, List.length_map]
        refine ⟨l, ys, rfl, Or.inl (Or.inl (Or.inl hl3)), n, (ys.length : Int), rfl, rfl, decide (n < (ys.length : Int)), rfl, ?_⟩
        by_cases h3 : n < (ys.length : Int)
        · rw [decide_eq_true h3]
          exact iteF (q ⟨tb, htb, rfl, h0, by omega⟩ H2 (same_tr sm s2))
        · rw [decide_eq_false h3]
          refine iteT ⟨_, rfl, err_raise rfl r_InvalidRead.err.oex r_InvalidRead.no fun dd hdd => qe (fun ⟨t2, g1, g2, _, g4⟩ => h3 ?_) dd _ (same_tr sm (same_tr s2 (snew hdd))) upd_same⟩
          have z1 := find_nodup' hnd g1
          have z2 := find_nodup' hnd htb
          rw [g2, z2] at z1
          cases z1
          omega
      · rw [decide_eq_false h0]
        refine iteF ⟨false, rfl, iteT ⟨_, rfl, err_raise rfl r_InvalidRead.err.oex r_InvalidRead.no fun dd hdd => qe (fun ⟨_, _, _, g3, _⟩ => h0 g3) dd _ (same_tr sm (snew hdd)) upd_same⟩⟩
    · rw [e, inV_no hmem]
      exact ⟨_, rfl, iteT ⟨_, rfl, err_raise rfl r_InvalidRead.err.oex r_InvalidRead.no fun dd hdd => qe (fun ⟨t2, g1, g2, _⟩ => hmem (List.mem_map.mpr ⟨t2, g1, g2⟩)) dd _ (same_tr sm (snew hdd)) upd_same⟩⟩
end
end Fr

namespace Fr
open PySem PySem.Spec PyProof.Rows L2
section
variable {P : Program} {w : World} {K : PySem.W.Frag} {mg : Str → Option Value} {base : Heap}
def spWithoutX (K : PySem.W.Frag) (C CR : Addr) : Sp := fun vs H Q E => ∃ (s l : Addr) (d m : Int) (ts : List Tb) (xs : List V) (ps : List (Str × Int)) (i : Nat) (v : V) (p : Str × Int), vs = [.ref s, .ref l] ∧ SysAt K C H s d m ts ∧ (ts.map (·.n)).Nodup ∧ H l = some (.lst xs) ∧ DpAll K H xs (ps.map fun p => .tuple [.str p.1, .int p.2]) ∧ xs.length ≤ 1000 ∧
  xs[i]? = some v ∧ ps[i]? = some p ∧ ¬ RdIn ts p.1 p.2 ∧ (∀ (j : Nat) (q : Str × Int), j < i → ps[j]? = some q → RdIn ts q.1 q.2) ∧ OutsV CR H E v
theorem ok_withoutX {f C CR : Addr} {fd : FuncData} {TT : List (Addr × Str)} (F : Fun K "without" "System.without" s_System_without f fd) (T : Txt mg) (TC : TxtC K mg C) (x_check_read : CalN P w K mg base 5 "check_read" (spCheckRdN K C CR)) (t__with_tables : C8.Met P w K mg base 7 C "_with_tables" (spWith K C TT) []) : FnOk P w K mg base (L2N.CX P w) 8 f fd ["self", "reads"] (spWithoutX K C CR) := by
  refine fun_okN F sc_System_without (fun vs H Q E h => ?_) (fun cdv A outer sh H vs Q E hr h => ?_)
  · obtain ⟨s, l, d, m, ts, xs, ps, i, v, p, rfl, _⟩ := h
    rfl
  · obtain ⟨s, l, d, m, ts, xs, ps, i, v, p, rfl, S, hnd, hl, hd, few, hv, hp, bad, good, q⟩ := h
    have hu := hu_of hr
    refine ⟨_, (pss_cons (ps_for (passes_of rfl) rfl (pi_list (pv 1)) (pg_name (i := 2) sc_System_without.nd rfl (by first | exact Or.inl rfl | exact Or.inr rfl))
    (pss_one (ps_expr (pe_cN x_check_read hr (by decide) (by rfl) (L2N.takes_of rfl rfl rfl rfl) (pa_cons (pv 0) (pa_cons (pv 2) pa_nil))))))
  (pss_cons (ps_set (i := 3) sc_System_without.nd rfl (by first | exact Or.inl rfl | exact Or.inr rfl) pe_dnewK)
  (pss_cons (ps_lock (ps_for (passes_of rfl) rfl (pi_items (pe_fld (pv 0) rfl)) (pg_tup rfl (pgs_cons (pg_name (i := 4) sc_System_without.nd rfl (by first | exact Or.inl rfl | exact Or.inr rfl)) (pgs_cons (pg_tup rfl (pgs_cons (pg_name (i := 5) sc_System_without.nd rfl (by first | exact Or.inl rfl | exact Or.inr rfl)) (pgs_cons (pg_name (i := 6) sc_System_without.nd rfl (by first | exact Or.inl rfl | exact Or.inr rfl)) pgs_nil))) pgs_nil)))
    (pss_cons (ps_setLc (i := 7) (own := [("number", 8), ("read", 2)]) (g := gTup K 2 (gCons (gName 8) (gCons (gName 2) gNil))) (by rfl) sc_System_without.nd rfl rfl (sw_true rfl rfl rfl (by decide +kernel)) (pi_enumT (by rfl) T.b_enumerate (pa_cons (pv 6) pa_nil)) (blkOk_by (N := ["self", "reads", "read", "tables", "name", "constant", "own", "kept", "number"]) (sc := defScope s_System_without) (by decide +kernel)) (fun _ _ _ _ _ => (pg_tup rfl (pgs_cons (pg_name (i := 8) sc_System_without.nd rfl (by first | exact Or.inl rfl | exact Or.inr rfl)) (pgs_cons (pg_name (i := 2) sc_System_without.nd rfl (by first | exact Or.inl rfl | exact Or.inr rfl)) pgs_nil)))) (fun _ _ _ _ _ => (pts_one (pt_cmpR (r := rNotInD K) (op_notInD hr.units1) (pe_tup (pa_cons (pv 4) (pa_cons (pv 8) pa_nil))) (pv 1) (by rfl)))) (fun _ _ _ _ _ => (pv 2)))
    (pss_one (ps_dput hu (pv 3) (pv 4) (pe_tup (pa_cons (pv 5) (pa_cons (pe_callTy call_tuple_of (by rfl) T.b_tuple (by decide +kernel) (pa_cons (pv 7) pa_nil)) pa_nil))) rfl)))))
  (pss_one (ps_ret (C8.pe_mt t__with_tables hr (by decide) (pv 0) (pa_cons (pv 3) pa_nil))))))), ?_⟩
    have hi := (List.getElem?_eq_some_iff.mp hv).1
    refine ⟨_, rfl, l, rfl, ⟨xs, Or.inl (Or.inl hl)⟩, for_it (walk_list (K := K) (a := l) (xs := xs)) (fun j σ H' => ∃ y2, σ = [some (.ref s), some (.ref l), y2, none, none, none, none, none, none] ∧ Same H H' ∧ j ≤ i) ⟨none, rfl, same_refl, Nat.zero_le _⟩ (fun j σ H' _ ⟨_, _, b, _⟩ => sql b (Or.inl (Or.inl hl))) ?_ ?_⟩
    · rintro j y σ _ H1 hj ⟨y2, rfl, b1, ji⟩ ⟨rfl, hy⟩
      obtain ⟨dd, e1, e2⟩ := dps_get hd hy
      rw [List.getElem?_map] at e1
      obtain ⟨x, hx, rfl⟩ := Option.map_eq_some_iff.mp e1
      refine ⟨_, rfl, _, rfl, s, d, m, ts, y, x.1, x.2, rfl, S.mono b1, dpm b1 _ _ e2, hnd, fun r H2 s2 => ⟨_, rfl, same_tr b1 s2, ?_⟩, fun nr e H2 s2 he => ?_⟩
      · refine Nat.lt_of_le_of_ne ji fun z => ?_
        subst z
        rw [hp] at hx
        cases hx
        exact bad r
      · have z : j = i := Decidable.byContradiction fun ne => nr (good j x (by omega) hx)
        subst z
        rw [hv] at hy
        cases hy
        exact q e H2 (same_tr b1 s2) he
    · rintro σ H1 ⟨y2, rfl, b1, ji⟩
      omega
end
end Fr

namespace Fr
open PySem PySem.Spec PyProof.Rows L2
theorem eqvAll_ints : ∀ l m : List Int, PyData.eqvAll (l.map .int) (m.map .int) = decide (l = m)
  | [], [] => by simp [PyData.eqvAll]
  | [], _ :: _ => by simp [PyData.eqvAll]
  | _ :: _, [] => by simp [PyData.eqvAll]
  | a :: l, b :: m => by
    rw [List.map_cons, List.map_cons]
    show (PyData.eqv (.int a) (.int b) && PyData.eqvAll (l.map .int) (m.map .int)) = _
    rw [eqvAll_ints l m]
    simp only [PyData.eqv, List.cons.injEq, Bool.decide_and]
    rfl
theorem eqv_ints (l m : List Int) : PyData.eqv (.list (l.map .int)) (.list (m.map .int)) = decide (l = m) := eqvAll_ints l m
section
variable {P : Program} {w : World} {K : PySem.W.Frag} {mg : Str → Option Value} {base : Heap}
def spExchX (K : PySem.W.Frag) (C CA : Addr) : Sp := fun vs H Q E => ∃ (s g : Addr) (d m : Int) (ts : List Tb) (ax : List Int), vs = [.ref s, .ref g] ∧ SysAt K C H s d m ts ∧ 1 ≤ d ∧ d ≤ 3 ∧ SqT K H g (ax.map V.int) ∧ ax.length ≤ 100 ∧ ¬ ax.Perm ((List.range d.toNat).map fun i : Nat => (i : Int)) ∧ OutsV CA H E (.ref g)
theorem ok_exchX {f C CA : Addr} {fd : FuncData} {TT : List (Addr × Str)} (F : Fun K "exchanged" "System.exchanged" s_System_exchanged f fd) (T : Txt mg) (TC : TxtC K mg C) (t__with_tables : C8.Met P w K mg base 7 C "_with_tables" (spWith K C TT) []) (r_InvalidAxes : MkR P w K mg base 1 "InvalidAxes" CA) : FnOk P w K mg base (L2N.CX P w) 8 f fd ["self", "axes"] (spExchX K C CA) := by
  refine fun_okN F sc_System_exchanged (fun vs H Q E h => ?_) (fun cdv A outer sh H vs Q E hr h => ?_)
  · obtain ⟨s, g, d, m, ts, ax, rfl, _⟩ := h
    rfl
  · obtain ⟨s, g, d, m, ts, ax, rfl, S, hd1, hd3, hg, hal, bad, q⟩ := h
    have hu := hu_of hr
    refine ⟨_, (pss_cons (ps_if (pt_cmpR (op_neD hr.units) (pe_callB cr_sortedIT (by rfl) T.b_sorted (by decide +kernel) (pa_cons (pv 1) pa_nil)) (pe_listRg rfl (by rfl) T.b_list (prg_1 (by rfl) T.b_range (pe_fld (pv 0) rfl))) (nomark _))
    (pss_one (ps_errN r_InvalidAxes rfl (L2N.takes_of rfl rfl rfl rfl) hr (by decide) (by rfl) (pa_cons (pv 1) pa_nil)))
    pss_nil)
  (pss_cons (ps_set (i := 2) sc_System_exchanged.nd rfl (by first | exact Or.inl rfl | exact Or.inr rfl) pe_dnewK)
  (pss_cons (ps_lock (ps_for (passes_of rfl) rfl (pi_items (pe_fld (pv 0) rfl)) (pg_tup rfl (pgs_cons (pg_name (i := 3) sc_System_exchanged.nd rfl (by first | exact Or.inl rfl | exact Or.inr rfl)) (pgs_cons (pg_tup rfl (pgs_cons (pg_name (i := 4) sc_System_exchanged.nd rfl (by first | exact Or.inl rfl | exact Or.inr rfl)) (pgs_cons (pg_name (i := 5) sc_System_exchanged.nd rfl (by first | exact Or.inl rfl | exact Or.inr rfl)) pgs_nil))) pgs_nil)))
    (pss_cons (ps_setLc (i := 6) (own := [("table", 8), ("vector", 9), ("factor", 10)]) (g := gTup K 3 (gCons (gName 8) (gCons (gName 9) (gCons (gName 10) gNil)))) (tt := tYes) (by rfl) sc_System_exchanged.nd rfl rfl (sw_true rfl rfl rfl (by decide +kernel)) (pi_tup (pv 5)) (blkOk_by (N := ["self", "axes", "tables", "name", "constant", "own", "reads", "axis", "table", "vector", "factor"]) (sc := defScope s_System_exchanged) (by decide +kernel)) (fun _ _ _ _ _ => (pg_tup rfl (pgs_cons (pg_name (i := 8) sc_System_exchanged.nd rfl (by first | exact Or.inl rfl | exact Or.inr rfl)) (pgs_cons (pg_name (i := 9) sc_System_exchanged.nd rfl (by first | exact Or.inl rfl | exact Or.inr rfl)) (pgs_cons (pg_name (i := 10) sc_System_exchanged.nd rfl (by first | exact Or.inl rfl | exact Or.inr rfl)) pgs_nil))))) (fun _ _ _ _ _ => pts_nil) (fun _ _ _ _ _ => (pe_tup (pa_cons (pv 8) (pa_cons (pe_callTy (r := rTupS K) call_tuple_of (by rfl) T.b_tuple (by decide +kernel) (pa_cons (pe_lc (own := [("axis", 7)]) (g := gName 7) (tt := tYes) (by rfl) sc_System_exchanged.nd (pi_tupK (K' := K) (pv 1)) (blkOk_by (N := ["self", "axes", "tables", "name", "constant", "own", "reads", "axis", "table", "vector", "factor"]) (sc := { kind := .function, names := [(".0", .local), ("table", .local), ("vector", .cell), ("factor", .local), ("tuple", .globalImplicit), ("axes", .cell)], isGenerator := false, isCoroutine := false }) (by decide +kernel)) (fun _ _ _ _ _ => (pg_name (i := 7) sc_System_exchanged.nd rfl (by first | exact Or.inl rfl | exact Or.inr rfl))) (fun _ _ _ _ _ => pts_nil) (fun _ _ _ _ _ => (pe_ix (r := rIxT K) ix_tup (pv 9) (pv 7) (fun _ _ => rfl)))) pa_nil)) (pa_cons (pv 10) pa_nil))))))
    (pss_one (ps_dput hu (pv 2) (pv 3) (pe_tup (pa_cons (pv 4) (pa_cons (pe_callTy call_tuple_of (by rfl) T.b_tuple (by decide +kernel) (pa_cons (pv 6) pa_nil)) pa_nil))) rfl)))))
  (pss_one (ps_ret (C8.pe_mt t__with_tables hr (by decide) (pv 0) (pa_cons (pv 2) pa_nil))))))), ?_⟩
    obtain ⟨dx, tt, kvs, h1, h2, h3⟩ := S.ob
    refine ⟨_, rfl, g, _, rfl, hg, fun ns p perm so hp => ?_⟩
    have sp1 : Same H (upd H p (.lst (ns.map V.int))) := snew hp
    refine ⟨_, rfl, s, C, dx, _, _, rfl, sp1 _ _ h1, TC.cl, TC.nD, flds_d _ _ _, d, rfl, RgOk.of_le (by omega) (by omega) (by omega) (by omega), fun q2 hq2 => ?_⟩
    have sp2 := same_tr sp1 (snew (o := .lst (rgV 0 d)) hq2)
    have shp : ∀ l : List Int, SeqAt.shaped (.list (l.map PyData.int)) = true := fun l => (Lay.list (k := 0) (.map fun x _ => Lay.int)).shaped (by decide)
    have erg : rgV 0 d = (((List.range d.toNat).map fun i : Nat => (i : Int)).map V.int) := rgV0 d
    refine ⟨.list (ns.map .int), .list (((List.range d.toNat).map fun i : Nat => (i : Int)).map .int), .lst (Or.inl (Or.inl (snew hq2 _ _ upd_same))) (ints_dps ns), .lst (Or.inl (Or.inl (by rw [← erg]; exact upd_same))) (ints_dps _), shp ns, shp _, _, rfl, ?_⟩
    have ne : PyData.eqv (.list (ns.map .int)) (.list (((List.range d.toNat).map fun i : Nat => (i : Int)).map .int)) = false := by
      rw [eqv_ints]
      refine decide_eq_false fun z => bad ?_
      rw [← z]
      exact perm.symm
    rw [ne]
    exact iteT ⟨_, rfl, err_raise rfl r_InvalidAxes.err.oex r_InvalidAxes.no fun e he => q e _ (same_tr sp2 (snew he)) upd_same⟩
end
end Fr

namespace Fr
open PySem PySem.Spec PyProof.Rows L2
section
variable {P : Program} {w : World} {K : PySem.W.Frag} {mg : Str → Option Value} {base : Heap}
/-- what is raised while a dict is locked: the lock is off behind the call -/
theorem cx_unlock {outer : List Env} {H : Hp} {s s' : Shared} {E : XK} {u : Value} {t : Addr} {o : HO} (ht : H t = some o) (nf : ∀ o' u', o ≠ .frz o' u') (c : L2N.CX P w outer H s (fun cls d H' => ∃ od, H' t = some (.frz od o) ∧ E cls d (upd H' t o)) u s') : L2N.CX P w outer H s E u s' := by
  obtain ⟨a, B, H', cls, d, rfl, fl, hok, ub, na, os, ag, od, hd, q⟩ := c
  have neH : ∀ b x, H' b = some x → (∀ o' u', x ≠ .frz o' u') → b ≠ t := fun b x e hne z => by
    rw [z, hd] at e
    cases e
    exact hne _ _ rfl
  have neN : ∀ b, H' b = none → b ≠ t := fun b e z => by rw [z, hd] at e; cases e
  refine ⟨a, B, _, cls, d, rfl, fl, fun b x e => ?_, ⟨ub.keep, ub.slot, fun b x e n => ?_, ub.there, fun b xs e => ?_, fun b x xs e => ?_, fun b ps e => ?_⟩, by rw [upd_ne (neN a na)]; exact na, os, ag, q⟩
  · by_cases hb : b = t
    · rw [hb, upd_same] at e
      cases e
      rw [hb]
      obtain ⟨_, z⟩ := hok t _ hd
      exact z.stay (fun c v _ q => q) (fun c q => by rw [upd_ne (neH c _ q (fun _ _ z => nomatch z))]; exact q) fun c xs q => by rw [upd_ne (neH c _ q (fun _ _ z => nomatch z))]; exact q
    · rw [upd_ne hb] at e
      exact (hok b x e).stay (fun c v _ q => q) (fun c q => by rw [upd_ne (neH c _ q (fun _ _ z => nomatch z))]; exact q) fun c xs q => by rw [upd_ne (neH c _ q (fun _ _ z => nomatch z))]; exact q
  · have := ub.free b x e n
    rw [upd_ne (neN b this)]
    exact this
  · have := ub.tups b xs e
    rw [upd_ne (neH b _ this (fun _ _ z => nomatch z))]
    exact this
  · have := ub.frzs b x xs e
    rw [upd_ne (fun z => by rw [z, ht] at e; cases e; exact nf _ _ rfl)]
    exact this
  · obtain ⟨m, this⟩ := ub.tbls b ps e
    exact ⟨m, by rw [upd_ne (neH b _ this (fun _ _ z => nomatch z))]; exact this⟩
theorem FnOk.unlock {k : Nat} {f : Addr} {fd : FuncData} {ps : List Str} {sp sp' : Sp} (F : FnOk P w K mg base (L2N.CX P w) k f fd ps sp') (len : ∀ vs H Q E, sp vs H Q E → vs.length = ps.length)
    (h : ∀ vs H Q E, sp vs H Q E → ∃ t o, H t = some o ∧ (∀ o' u', o ≠ .frz o' u') ∧ sp' vs H Q (fun cls d H' => ∃ od, H' t = some (.frz od o) ∧ E cls d (upd H' t o))) : FnOk P w K mg base (L2N.CX P w) k f fd ps sp :=
  ⟨len, fun A outer s H args us vs Q E hr e0 hb r hs => by
    obtain ⟨t, o, ht, nf, q⟩ := h _ _ _ _ hs
    refine codeAny_mono (F.run A outer s H args us vs Q _ hr e0 hb r q) fun rs s' z => ?_
    cases rs with
    | error e => exact cx_unlock ht nf z
    | ok fl => cases fl <;> exact z⟩
theorem KvAt.find {H : Hp} {x : Str} {kvs : List (Key × V)} {ts : List Tb} (h : KvAt K H kvs ts) (hx : x ∈ ts.map (·.n)) : ∃ v, valV kvs (Sum.inr x) = some v := by
  obtain ⟨t, ht, e⟩ := List.mem_map.mp hx
  cases hf : ts.find? (fun t => decide (t.n = x)) with
  | none => exact absurd (decide_eq_true e) (List.find?_eq_none.mp hf t ht)
  | some tb =>
    obtain ⟨v, hv, _⟩ := h.get hf
    exact ⟨v, hv⟩
def spBesideL (K : PySem.W.Frag) (C CN : Addr) : Sp := fun vs H Q E => ∃ (s o dx tt : Addr) (d m : Int) (ts us : List Tb) (kvs : List (Key × V)) (i : Nat) (tb : Tb), vs = [.ref s, .ref o] ∧ H s = some (.ins C dx (flds d m tt)) ∧ H tt = some (.dK kvs) ∧ KvAt K H kvs ts ∧ SysAt K C H o d m us ∧
  ts[i]? = some tb ∧ tb.n ∈ us.map (·.n) ∧ (∀ (j : Nat) (t : Tb), j < i → ts[j]? = some t → t.n ∉ us.map (·.n)) ∧ (∀ od e H', Same (upd H tt (.frz od (.dK kvs))) H' → H' e = some (.xd [(("value" : Str), .str tb.n)]) → E (.ref CN) (some e) H')
theorem ok_besideL {f C CN : Addr} {fd : FuncData} {TT : List (Addr × Str)} (F : Fun K "beside" "System.beside" s_System_beside f fd) (T : Txt mg) (TC : TxtC K mg C) (t__with_tables : C8.Met P w K mg base 7 C "_with_tables" (spWith K C TT) []) (r_InvalidName : MkR P w K mg base 1 "InvalidName" CN) : FnOk P w K mg base (L2N.CX P w) 8 f fd ["self", "other"] (spBesideL K C CN) := by
  refine fun_okN F sc_System_beside (fun vs H Q E h => ?_) (fun cdv A outer sh H vs Q E hr h => ?_)
  · obtain ⟨s, o, dx, tt, d, m, ts, us, kvs, i, tb, rfl, _⟩ := h
    rfl
  · obtain ⟨s, o, dx, tt, d, m, ts, us, kvs, i, tb, rfl, h1, h2, h3, S', hi, hin, hno, q⟩ := h
    have hu := hu_of hr
    refine ⟨_, (pss_cons (ps_lock (ps_for (passes_of rfl) rfl (pi_keys (pe_fld (pv 0) rfl)) (pg_name (i := 2) sc_System_beside.nd rfl (by first | exact Or.inl rfl | exact Or.inr rfl))
    (pss_one (ps_if (pt_cmp (pc_din hu (pv 2) (pe_fld (pv 1) rfl)))
      (pss_one (ps_errN r_InvalidName rfl (L2N.takes_of rfl rfl rfl rfl) hr (by decide) (by rfl) (pa_cons (pv 2) pa_nil)))
      pss_nil))))
  (pss_one (ps_ret (C8.pe_mt t__with_tables hr (by decide) (pv 0) (pa_cons (pe_mrg (pe_fld (pv 0) rfl) (pe_fld (pv 1) rfl)) pa_nil))))), ?_⟩
    obtain ⟨dx', tt', kvs', h1', h2', h3'⟩ := S'.ob
    have nst : s ≠ tt := fun z => by
      rw [z, h2] at h1
      cases h1
    have nst' : o ≠ tt := fun z => by
      rw [z, h2] at h1'
      cases h1'
    refine ⟨tt, .dK kvs, h2, True.intro, fun od => ?_⟩
    have q' := q od
    have l1 : (upd H tt (.frz od (.dK kvs))) s = some (.ins C dx (flds d m tt)) := by rw [upd_ne nst]; exact h1
    have l1' : (upd H tt (.frz od (.dK kvs))) o = some (.ins C dx' (flds d m tt')) := by rw [upd_ne nst']; exact h1'
    have l2 : (upd H tt (.frz od (.dK kvs))) tt = some (.frz od (.dK kvs)) := upd_same
    have l2' : Rd (upd H tt (.frz od (.dK kvs))) tt' (.dK kvs') := by
      by_cases hb : tt' = tt
      · rw [hb, h2] at h2'
        cases h2'
        exact .inr ⟨od, by rw [hb]; exact l2⟩
      · exact .inl (by rw [upd_ne hb]; exact h2')
    generalize upd H tt (.frz od (.dK kvs)) = HL at l1 l1' l2 l2' q' ⊢
    have il : i < kvs.length := by
      rw [h3.len]
      exact (List.getElem?_eq_some_iff.mp hi).1
    refine ⟨_, rfl, s, C, dx, _, _, rfl, l1, TC.cl, TC.nT, flds_t _ _ _, tt, od, rfl, Or.inl ⟨kvs, l2, for_it (walk_keys (o := od) (d := tt) (kvs := kvs)) (fun j σ H' => ∃ y2, σ = [some (.ref s), some (.ref o), y2] ∧ H' = HL ∧ j ≤ i) ⟨none, rfl, rfl, Nat.zero_le _⟩ (fun i σ H' _ ⟨_, _, e, _⟩ => by rw [e]; exact l2) ?_ ?_⟩⟩
    · rintro j x σ _ _ hj ⟨y2, rfl, rfl, ji⟩ ⟨rfl, k, v, hk, rfl⟩
      obtain ⟨tb', ht, rfl, hv⟩ := kv_at h3 hk
      refine ⟨_, rfl, _, rfl, o, C, dx', _, _, rfl, l1', TC.cl, TC.nT, flds_t _ _ _, tt', valV kvs' (Sum.inr tb'.n), rfl, .inl ⟨kvs', Sum.inr tb'.n, l2', rfl, rfl⟩, _, rfl, ?_⟩
      by_cases hm : tb'.n ∈ us.map (·.n)
      · have z : j = i := Decidable.byContradiction fun ne => hno j tb' (by omega) ht hm
        subst z
        rw [hi] at ht
        cases ht
        obtain ⟨v', hv'⟩ := h3'.find hm
        rw [hv']
        exact iteT ⟨_, rfl, err_raise rfl r_InvalidName.err.oex r_InvalidName.no fun e he => q' e _ (snew he) upd_same⟩
      · rw [h3'.noVal hm]
        refine iteF ⟨_, rfl, rfl, ?_⟩
        refine Nat.lt_of_le_of_ne ji fun z => ?_
        subst z
        rw [hi] at ht
        cases ht
        exact hm hin
    · rintro σ H1 ⟨y2, rfl, rfl, ji⟩
      omega
def spBesideX (K : PySem.W.Frag) (C CN : Addr) : Sp := fun vs H Q E => ∃ (s o : Addr) (d m : Int) (ts us : List Tb) (i : Nat) (tb : Tb), vs = [.ref s, .ref o] ∧ SysAt K C H s d m ts ∧ SysAt K C H o d m us ∧
  ts[i]? = some tb ∧ tb.n ∈ us.map (·.n) ∧ (∀ (j : Nat) (t : Tb), j < i → ts[j]? = some t → t.n ∉ us.map (·.n)) ∧ OutsV CN H E (.str tb.n)
theorem ok_besideX {f C CN : Addr} {fd : FuncData} (F : FnOk P w K mg base (L2N.CX P w) 8 f fd ["self", "other"] (spBesideL K C CN)) : FnOk P w K mg base (L2N.CX P w) 8 f fd ["self", "other"] (spBesideX K C CN) :=
  FnOk.unlock F (fun vs H Q E h => by
    obtain ⟨s, o, d, m, ts, us, i, tb, rfl, _⟩ := h
    rfl) fun vs H Q E h => by
    obtain ⟨s, o, d, m, ts, us, i, tb, rfl, S, S', hi, hin, hno, q⟩ := h
    obtain ⟨dx, tt, kvs, h1, h2, h3⟩ := S.ob
    refine ⟨tt, .dK kvs, h2, (fun _ _ z => nomatch z), s, o, dx, tt, d, m, ts, us, kvs, i, tb, rfl, h1, h2, h3, S', hi, hin, hno, fun od e H' sm he => ⟨od, sm _ _ upd_same, q e _ (unlock h2 sm) ?_⟩⟩
    rw [upd_ne (fun z => by rw [z, sm _ _ upd_same] at he; cases he)]
    exact he
end
end Fr

namespace Fr
open PySem PySem.Spec PyProof.Rows L2
theorem sortedS_unique {xs ys zs : List Str} (p : xs.Perm zs) (q : ys.Perm zs) (h : sortedS xs = true) (k : sortedS ys = true) : xs = ys :=
  (p.trans q.symm).eq_of_pairwise (fun _ _ _ _ a b => str_antisymm a b) (sorted_pw h) (sorted_pw k)
section
variable {P : Program} {w : World} {K : PySem.W.Frag} {mg : Str → Option Value} {base : Heap}
/-- a new name that is none, or that two tables would have -/
def BadN (all : List Str) (nw : Str) : Prop := isName nw = false ∨ 1 < all.count nw
def spNewNamesX (K : PySem.W.Frag) (CN : Addr) : Sp := fun vs H Q E => ∃ (s l dd : Addr) (ks : List Str) (nn : List (Str × Str)) (i : Nat) (k nw : Str), vs = [.ref s, .ref l, .ref dd] ∧ SqL K H l (ks.map V.str) ∧ H dd = some (.dK (dictS nn)) ∧ (∀ k ∈ ks, k ∈ nn.map (·.1)) ∧ (∀ p ∈ nn, p.2.length ≤ 100000) ∧
  ks[i]? = some k ∧ nn.lookup k = some nw ∧ BadN (nn.map (·.2)) nw ∧ (∀ (j : Nat) (k' nw' : Str), j < i → ks[j]? = some k' → nn.lookup k' = some nw' → ¬ BadN (nn.map (·.2)) nw') ∧ OutsV CN H E (.str nw)
theorem ok_newnamesX {f CN : Addr} {fd : FuncData} (F : Fun K "_check_new_names" "System._check_new_names" s_Systemcheck_new_names f fd) (T : Txt mg) (c_is_name : C8.Cal P w K mg base 1 "is_name" spIsName []) (r_InvalidName : MkR P w K mg base 1 "InvalidName" CN) : FnOk P w K mg base (L2N.CX P w) 3 f fd ["self", "changed", "new_names"] (spNewNamesX K CN) := by
  refine fun_okN F sc_Systemcheck_new_names (fun vs H Q E h => ?_) (fun cdv A outer sh H vs Q E hr h => ?_)
  · obtain ⟨s, l, dd, ks, nn, i, k, nw, rfl, _⟩ := h
    rfl
  · obtain ⟨s, l, dd, ks, nn, i, k, nw, rfl, hl, hd, hk, hlen, hi, hlk, hbad, hgood, q⟩ := h
    have hu := hu_of hr
    refine ⟨_, (pss_cons (ps_set (i := 3) sc_Systemcheck_new_names.nd rfl (by first | exact Or.inl rfl | exact Or.inr rfl) (pe_listVals rfl (by rfl) T.b_list (pv 2)))
  (pss_one (ps_for (passes_of rfl) rfl (pi_list (pv 1)) (pg_name (i := 4) sc_Systemcheck_new_names.nd rfl (by first | exact Or.inl rfl | exact Or.inr rfl))
    (pss_one (ps_if (PW.pt (pw_or (pt_not (pt_val (C8.pe_c c_is_name hr (by decide) (by rfl) (pa_cons (pe_dget hu (pv 2) (pv 4) (fun _ _ => rfl)) pa_nil)))) (pw_or1 (pt_cmpR op_gt (pe_bm PySem.F.plainAttrs_list PySem.F.slot_list_count PySem.F.type_list_count mt_count (pv 3) (pa_cons (pe_dget hu (pv 2) (pv 4) (fun _ _ => rfl)) pa_nil)) pe_int (nomark _)))))
      (pss_one (ps_errN r_InvalidName rfl (L2N.takes_of rfl rfl rfl rfl) hr (by decide) (by rfl) (pa_cons (pe_dget hu (pv 2) (pv 4) (fun _ _ => rfl)) pa_nil)))
      pss_nil))))), ?_⟩
    have ev : (dictS nn).map (·.2) = (nn.map (·.2)).map V.str := by
      unfold dictS
      rw [List.map_map, List.map_map]
      rfl
    refine ⟨_, rfl, dd, _, rfl, hd, fun p hp => ?_⟩
    rw [ev]
    have s1 : Same H (upd H p (.lst ((nn.map (·.2)).map V.str))) := snew hp
    have hp1 : (upd H p (.lst ((nn.map (·.2)).map V.str))) p = some (.lst ((nn.map (·.2)).map V.str)) := upd_same
    generalize upd H p (.lst ((nn.map (·.2)).map V.str)) = H1 at s1 hp1
    have il := (List.getElem?_eq_some_iff.mp hi).1
    refine ⟨_, rfl, l, rfl, ⟨_, sql s1 hl⟩, for_it (walk_list (K := K) (a := l) (xs := ks.map V.str)) (fun j σ H' => ∃ y4, σ = [some (.ref s), some (.ref l), some (.ref dd), some (.ref p), y4] ∧ Same H1 H' ∧ j ≤ i) ⟨none, rfl, same_refl, Nat.zero_le _⟩ (fun i σ H' _ ⟨_, _, b, _⟩ => sql b (sql s1 hl)) ?_ ?_⟩
    · rintro j y σ _ H2 hj ⟨y4, rfl, b, ji⟩ ⟨rfl, hy⟩
      rw [List.getElem?_map] at hy
      obtain ⟨k', hki, rfl⟩ := Option.map_eq_some_iff.mp hy
      obtain ⟨nw', hlk', hmem⟩ := look_mem (hk k' (List.mem_of_getElem? hki))
      have hdg : ∀ {H' : Hp}, Same H2 H' → DGet H' dd (.str k') (some (.str nw')) := fun sm => by
        have g := DGet.k (k := Sum.inr k') (sm _ _ (b _ _ (s1 _ _ hd)))
        rw [valS, hlk'] at g
        exact g
      have here : BadN (nn.map (·.2)) nw' → nw' = nw := fun z => by
        have e : j = i := Decidable.byContradiction fun ne => hgood j k' nw' (by omega) hki hlk' z
        subst e
        rw [hi] at hki
        cases hki
        rw [hlk] at hlk'
        cases hlk'
        rfl
      refine ⟨_, rfl, _, rfl, dd, _, rfl, hdg same_refl, nw', rfl, hlen _ hmem, fun H3 s3 => ⟨_, rfl, ?_⟩⟩
      have out : BadN (nn.map (·.2)) nw' → ∀ e H4, Same H3 H4 → H4 e = some (.xd [(("value" : Str), .str nw')]) → E (.ref CN) (some e) H4 := fun z e H4 sm he => by
        rw [here z] at he
        exact q e H4 (same_tr s1 (same_tr b (same_tr s3 sm))) he
      cases hok : isName nw' with
      | false =>
        exact iteT ⟨_, rfl, _, rfl, dd, _, rfl, hdg s3, err_raise rfl r_InvalidName.err.oex r_InvalidName.no fun e he => out (.inl hok) e _ (snew he) upd_same⟩
      | true =>
        refine iteF ?_
        have hp3 := s3 _ _ (b _ _ hp1)
        refine ⟨_, rfl, Or.inl ⟨rfl, _, Or.inl (Or.inl hp3)⟩, _, rfl, _, rfl, dd, _, rfl, hdg s3, p, _, nw', rfl, rfl, Or.inl (Or.inl hp3), _, _, rfl, rfl, _, rfl, ?_⟩
        by_cases hc : 1 < (nn.map (·.2)).count nw'
        · rw [decide_eq_true (by omega)]
          exact iteT ⟨_, rfl, _, rfl, dd, _, rfl, hdg s3, err_raise rfl r_InvalidName.err.oex r_InvalidName.no fun e he => out (.inr hc) e _ (snew he) upd_same⟩
        · rw [decide_eq_false (by omega)]
          refine iteF ⟨_, rfl, same_tr b s3, ?_⟩
          refine Nat.lt_of_le_of_ne ji fun z => ?_
          subst z
          rw [hi] at hki
          cases hki
          rw [hlk] at hlk'
          cases hlk'
          rcases hbad with z | z
          · rw [hok] at z
            cases z
          · exact hc z
    · rintro σ H2 ⟨y4, rfl, b, ji⟩
      rw [List.length_map] at ji
      omega
/-- keys that stand in the system's names, each with a good new name -/
def RenBad (ts : List Tb) (nn : List (Str × Str)) (CT CN : Addr) (H : Hp) (E : XK) (ys : List Str) : Prop :=
  (∃ (i : Nat) (k : Str), ys[i]? = some k ∧ k ∉ ts.map (·.n) ∧ (∀ (j : Nat) (k' : Str), j < i → ys[j]? = some k' → k' ∈ ts.map (·.n)) ∧ OutsV CT H E (.str k)) ∨
  ((∀ k ∈ ys, k ∈ ts.map (·.n)) ∧ ∃ (i : Nat) (k : Str), ys[i]? = some k ∧ BadN ((ts.map (rnT nn)).map (·.n)) (rnm nn k) ∧ (∀ (j : Nat) (k' : Str), j < i → ys[j]? = some k' → ¬ BadN ((ts.map (rnT nn)).map (·.n)) (rnm nn k')) ∧ OutsV CN H E (.str (rnm nn k)))
def spRenX (K : PySem.W.Frag) (C CT CN : Addr) : Sp := fun vs H Q E => ∃ (s g : Addr) (d m : Int) (ts : List Tb) (nn : List (Str × Str)), vs = [.ref s, .ref g] ∧ SysAt K C H s d m ts ∧ (ts.map (·.n)).Nodup ∧ ts.length ≤ 12 ∧ H g = some (.dK (dictS nn)) ∧ nn.length ≤ 12 ∧ (∀ t ∈ ts, (rnm nn t.n).length ≤ 100000) ∧
  ∀ ys, ys.Perm (nn.map (·.1)) → sortedS ys = true → RenBad ts nn CT CN H E ys
theorem ok_renX {f C CT CN : Addr} {fd : FuncData} {TT : List (Addr × Str)} (F : Fun K "renamed" "System.renamed" s_System_renamed f fd) (T : Txt mg) (TC : TxtC K mg C) (x_check_table : CalN P w K mg base 3 "check_table" (spCheckTableB K C CT))
    (n__check_new_names : MetN P w K mg base 3 C "_check_new_names" (spNewNamesX K CN)) (t__with_tables : C8.Met P w K mg base 7 C "_with_tables" (spWith K C TT) []) : FnOk P w K mg base (L2N.CX P w) 8 f fd ["self", "names"] (spRenX K C CT CN) := by
  refine fun_okN F sc_System_renamed (fun vs H Q E h => ?_) (fun cdv A outer sh H vs Q E hr h => ?_)
  · obtain ⟨s, g, d, m, ts, nn, rfl, _⟩ := h
    rfl
  · obtain ⟨s, g, d, m, ts, nn, rfl, S, O, hlen, hg, hnl, hsm, hq⟩ := h
    have hu := hu_of hr
    refine ⟨_, (pss_cons (ps_for (passes_of rfl) rfl (pi_list (pe_callB (call_sortedD rfl) (by rfl) T.b_sorted (by decide +kernel) (pa_cons (pv 1) pa_nil))) (pg_name (i := 2) sc_System_renamed.nd rfl (by first | exact Or.inl rfl | exact Or.inr rfl))
    (pss_one (ps_expr (pe_cN x_check_table hr (by decide) (by rfl) (L2N.takes_of rfl rfl rfl rfl) (pa_cons (pv 0) (pa_cons (pv 2) pa_nil))))))
  (pss_cons (ps_set (i := 3) sc_System_renamed.nd rfl (by first | exact Or.inl rfl | exact Or.inr rfl) (pe_lock (pe_dc (own := [("name", 2)]) (g := gName 2) (tt := tYes) (by rfl) sc_System_renamed.nd (pi_keys (pe_fld (pv 0) rfl)) (blkOk_by (N := ["self", "names", "name", "new_names", "tables", "constant", "own", "reads", "table", "vector", "factor"]) (sc := defScope s_System_renamed) (by decide +kernel)) (fun _ _ _ _ _ => (pg_name (i := 2) sc_System_renamed.nd rfl (by first | exact Or.inl rfl | exact Or.inr rfl))) (fun _ _ _ _ _ => pts_nil) (fun _ _ _ _ _ => (pv 2)) (fun _ _ _ _ _ => (pe_dget2 hu (pv 1) (pv 2) (pv 2) ⟨by rfl, by rfl, by rfl, by rfl⟩)))))
  (pss_cons (ps_expr (pe_mtN n__check_new_names hr (by decide) (pv 0) (L2N.takes_of rfl rfl rfl rfl) (pa_cons (pe_callB (call_sortedD rfl) (by rfl) T.b_sorted (by decide +kernel) (pa_cons (pv 1) pa_nil)) (pa_cons (pv 3) pa_nil))))
  (pss_cons (ps_set (i := 4) sc_System_renamed.nd rfl (by first | exact Or.inl rfl | exact Or.inr rfl) pe_dnewK)
  (pss_cons (ps_lock (ps_for (passes_of rfl) rfl (pi_items (pe_fld (pv 0) rfl)) (pg_tup rfl (pgs_cons (pg_name (i := 2) sc_System_renamed.nd rfl (by first | exact Or.inl rfl | exact Or.inr rfl)) (pgs_cons (pg_tup rfl (pgs_cons (pg_name (i := 5) sc_System_renamed.nd rfl (by first | exact Or.inl rfl | exact Or.inr rfl)) (pgs_cons (pg_name (i := 6) sc_System_renamed.nd rfl (by first | exact Or.inl rfl | exact Or.inr rfl)) pgs_nil))) pgs_nil)))
    (pss_cons (ps_setLc (i := 7) (own := [("table", 8), ("vector", 9), ("factor", 10)]) (g := gTup K 3 (gCons (gName 8) (gCons (gName 9) (gCons (gName 10) gNil)))) (tt := tYes) (by rfl) sc_System_renamed.nd rfl rfl (sw_true rfl rfl rfl (by decide +kernel)) (pi_tup (pv 6)) (blkOk_by (N := ["self", "names", "name", "new_names", "tables", "constant", "own", "reads", "table", "vector", "factor"]) (sc := defScope s_System_renamed) (by decide +kernel)) (fun _ _ _ _ _ => (pg_tup rfl (pgs_cons (pg_name (i := 8) sc_System_renamed.nd rfl (by first | exact Or.inl rfl | exact Or.inr rfl)) (pgs_cons (pg_name (i := 9) sc_System_renamed.nd rfl (by first | exact Or.inl rfl | exact Or.inr rfl)) (pgs_cons (pg_name (i := 10) sc_System_renamed.nd rfl (by first | exact Or.inl rfl | exact Or.inr rfl)) pgs_nil))))) (fun _ _ _ _ _ => pts_nil) (fun _ _ _ _ _ => (pe_tup (pa_cons (pe_dget hu (pv 3) (pv 8) (fun _ _ => rfl)) (pa_cons (pv 9) (pa_cons (pv 10) pa_nil))))))
    (pss_one (ps_dput hu (pv 4) (pe_dget hu (pv 3) (pv 2) (fun _ _ => rfl)) (pe_tup (pa_cons (pv 5) (pa_cons (pe_callTy call_tuple_of (by rfl) T.b_tuple (by decide +kernel) (pa_cons (pv 7) pa_nil)) pa_nil))) rfl)))))
  (pss_one (ps_ret (C8.pe_mt t__with_tables hr (by decide) (pv 0) (pa_cons (pv 4) pa_nil))))))))), ?_⟩
    have hkeys : (dictS nn).map (·.1) = (nn.map (·.1)).map Sum.inr := by
      unfold dictS
      rw [List.map_map, List.map_map]
      rfl
    have hkl : (nn.map (·.1)).length < 64 := by rw [List.length_map]; omega
    refine ⟨_, rfl, g, dictS nn, nn.map (·.1), rfl, Or.inl hg, hkeys, hkl, fun ys p perm so hp => ?_⟩
    have hb := hq ys perm so
    have s1 : Same H (upd H p (.lst (ys.map V.str))) := snew hp
    have hp1 : (upd H p (.lst (ys.map V.str))) p = some (.lst (ys.map V.str)) := upd_same
    generalize upd H p (.lst (ys.map V.str)) = H1 at s1 hp1
    rcases hb with ⟨i, k, hi, hk, hgood, q⟩ | ⟨hall, i, k, hi, hbad, hgood, q⟩
    · have il := (List.getElem?_eq_some_iff.mp hi).1
      refine ⟨p, rfl, ⟨_, Or.inl (Or.inl hp1)⟩, for_it (walk_list (K := K) (a := p) (xs := ys.map V.str)) (fun j σ H' => ∃ y2, σ = [some (.ref s), some (.ref g), y2, none, none, none, none, none, none, none, none] ∧ Same H1 H' ∧ j ≤ i) ⟨none, rfl, same_refl, Nat.zero_le _⟩ (fun i σ H' _ ⟨_, _, b, _⟩ => Or.inl (Or.inl (b _ _ hp1))) ?_ ?_⟩
      · rintro j y σ _ H2 hj ⟨y2, rfl, b, ji⟩ ⟨rfl, hy⟩
        rw [List.getElem?_map] at hy
        obtain ⟨k', hki, rfl⟩ := Option.map_eq_some_iff.mp hy
        by_cases hm : k' ∈ ts.map (·.n)
        · refine ⟨_, rfl, _, rfl, Or.inl ⟨s, d, m, ts, k', rfl, (S.mono s1).mono b, hm, fun H3 s3 => ⟨_, rfl, same_tr b s3, ?_⟩⟩⟩
          refine Nat.lt_of_le_of_ne ji fun z => ?_
          subst z
          rw [hi] at hki
          cases hki
          exact hk hm
        · have z : j = i := Decidable.byContradiction fun ne => hm (hgood j k' (by omega) hki)
          subst z
          rw [hi] at hki
          cases hki
          exact ⟨_, rfl, _, rfl, Or.inr ⟨s, d, m, ts, k, rfl, (S.mono s1).mono b, hk, fun e H3 s3 he => q e H3 (same_tr s1 (same_tr b s3)) he⟩⟩
      · rintro σ H2 ⟨y2, rfl, b, ji⟩
        rw [List.length_map] at ji
        omega
    refine ⟨p, rfl, ⟨_, Or.inl (Or.inl hp1)⟩, for_it (walk_list (K := K) (a := p) (xs := ys.map V.str)) (fun i σ H' => ∃ y2, σ = [some (.ref s), some (.ref g), y2, none, none, none, none, none, none, none, none] ∧ Same H1 H') ⟨none, rfl, same_refl⟩ (fun i σ H' _ ⟨_, _, b⟩ => Or.inl (Or.inl (b _ _ hp1))) ?_ ?_⟩
    · rintro i y σ _ H2 hi ⟨y2, rfl, b⟩ ⟨rfl, hy⟩
      rw [List.getElem?_map] at hy
      obtain ⟨k, hki, rfl⟩ := Option.map_eq_some_iff.mp hy
      exact ⟨_, rfl, _, rfl, Or.inl ⟨s, d, m, ts, k, rfl, (S.mono s1).mono b, hall k (List.mem_of_getElem? hki), fun H3 s3 => ⟨_, rfl, same_tr b s3⟩⟩⟩
    · rintro σ H2 ⟨y2, rfl, b⟩
      have b2 := same_tr s1 b
      have S2 := S.mono b2
      have hg2 := b2 _ _ hg
      obtain ⟨dx, t, kvs, h1, h2, h3⟩ := id S2.ob
      have hlt : kvs.length = ts.length := h3.len
      -- new_names
      have nst : s ≠ t := fun z => by
        rw [z, h2] at h1
        cases h1
      refine ⟨t, .dK kvs, h2, True.intro, fun od => ?_⟩
      have l1 : (upd H2 t (.frz od (.dK kvs))) s = some (.ins C dx (flds d m t)) := by rw [upd_ne nst]; exact h1
      have l2 : (upd H2 t (.frz od (.dK kvs))) t = some (.frz od (.dK kvs)) := upd_same
      have lg : Rd (upd H2 t (.frz od (.dK kvs))) g (.dK (dictS nn)) := by
        by_cases hb : g = t
        · rw [hb]
          rw [hb, h2] at hg2
          cases hg2
          exact Or.inr ⟨od, upd_same⟩
        · exact Or.inl (by rw [upd_ne hb]; exact hg2)
      have l3 : KvAt K (upd H2 t (.frz od (.dK kvs))) kvs ts := kvt (st_upd h2 rfl) h3
      have back : ∀ H', Same (upd H2 t (.frz od (.dK kvs))) H' → Same H2 (upd H' t (.dK kvs)) := fun H' e => unlock h2 e
      generalize hLq : upd H2 t (.frz od (.dK kvs)) = HL at l1 l2 l3 lg back
      refine ⟨_, rfl, s, C, dx, _, _, rfl, l1, TC.cl, TC.nT, flds_t _ _ _, t, od, rfl, Or.inl ⟨kvs, l2, fun D hD => ?_⟩⟩
      refine dc_it (walk_keys (o := od) (d := t) (kvs := kvs)) (fun i H' => ∃ kvs', Same HL H' ∧ H' D = some (.dK kvs') ∧ kvs' = dictS ((ts.take i).map fun t => (t.n, rnm nn t.n)) ∧ kvs'.length ≤ 12)
        ⟨[], snew hD, upd_same, rfl, Nat.zero_le _⟩ (fun i H' _ ⟨_, b1, _⟩ => b1 _ _ l2) ?_ ?_
      · rintro i x _ Hi hi ⟨kvs', c1, c2, c3, c4⟩ ⟨rfl, k, v, hk, rfl⟩
        obtain ⟨tb, ht, rfl, hv⟩ := kv_at l3 hk
        refine ⟨rfl, yes_if ?_⟩
        have lgi : Rd Hi g (.dK (dictS nn)) := by
          rcases lg with z | ⟨o, z⟩
          · exact Or.inl (c1 _ _ z)
          · exact Or.inr ⟨o, c1 _ _ z⟩
        refine ⟨_, rfl, _, rfl, g, rfl, Or.inl ⟨_, lgi⟩, _, rfl, _, rfl, _, Or.inl ⟨dictS nn, Sum.inr tb.n, lgi, rfl, rfl⟩, ?_⟩
        have hval : ((valV (dictS nn) (Sum.inr tb.n)).getD (kV (Sum.inr tb.n))) = V.str (rnm nn tb.n) := by
          rw [valS]
          unfold rnm
          cases nn.lookup tb.n <;> rfl
        rw [hval]
        have hn1 : tb.n ∉ ((ts.take i).map fun t => (t.n, rnm nn t.n)).map (·.1) := by
          rw [List.map_map]
          show tb.n ∉ (ts.take i).map (·.n)
          rw [List.map_take]
          exact notin_take O (by rw [List.getElem?_map, ht]; rfl)
        have hno : valV kvs' (Sum.inr tb.n) = none := by
          rw [c3, valS]
          have : ((ts.take i).map fun t => (t.n, rnm nn t.n)).lookup tb.n = none := by
            cases e : ((ts.take i).map fun t => (t.n, rnm nn t.n)).lookup tb.n with
            | none => rfl
            | some z =>
              exfalso
              have := List.lookup_eq_some_iff.mp e
              obtain ⟨l1', l2', e1, _⟩ := this
              exact hn1 (by rw [e1]; simp)
          rw [this]
          rfl
        refine ⟨kvs', Sum.inr tb.n, rfl, c2, Nat.lt_of_le_of_lt c4 (by rw [sizeLine_eq]; decide), _, swrite c1 hD, upd_same, ?_, ?_⟩
        · rw [putK_new _ hno, c3, List.take_add_one, ht]
          unfold dictS
          rw [List.map_append, List.map_append]
          rfl
        · rw [putK_new _ hno, c3]
          unfold dictS
          rw [List.length_append, List.length_map, List.length_map, List.length_take]
          show _ + 1 ≤ 12
          omega
      · rintro H3 ⟨kvs', c1, c2, c3, c4⟩
        have el : ts.take kvs.length = ts := by rw [hlt, List.take_length]
        rw [el] at c3
        subst c3
        have nDt : D ≠ t := fun z => by rw [z, l2] at hD; cases hD
        have sb := back H3 c1
        refine ⟨c1 _ _ l2, ?_⟩
        have D4 : (upd H3 t (.dK kvs)) D = some (.dK (dictS (ts.map fun t => (t.n, rnm nn t.n)))) := by rw [upd_ne nDt]; exact c2
        have S4 := S2.mono sb
        have g4 := sb _ _ hg2
        have b4 := same_tr b2 sb
        clear c2 c4 l3 lg hLq
        generalize upd H3 t (.dK kvs) = H4 at sb D4 S4 g4 b4 ⊢
        clear h1 h2 h3 l1 l2 back
        obtain ⟨dx, t, kvs, h1, h2, h3⟩ := id S4.ob
        -- the new names are not all good
        refine ⟨_, rfl, s, dx, _, rfl, h1, flds_no _ _ _ (by decide +kernel) (by decide +kernel) (by decide +kernel), _, rfl, g, dictS nn, nn.map (·.1), rfl, Or.inl g4, hkeys, hkl, fun ys2 p2 perm2 so2 hp2 => ⟨_, rfl, ?_⟩⟩
        have s5 : Same H4 (upd H4 p2 (.lst (ys2.map V.str))) := snew hp2
        have n1 : (ts.map fun t => (t.n, rnm nn t.n)).map (·.1) = ts.map (·.n) := by rw [List.map_map]; rfl
        have n2 : (ts.map fun t => (t.n, rnm nn t.n)).map (·.2) = (ts.map (rnT nn)).map (·.n) := by rw [List.map_map, List.map_map]; rfl
        have lk : ∀ x : Str, x ∈ ts.map (·.n) → (ts.map fun t => (t.n, rnm nn t.n)).lookup x = some (rnm nn x) := fun x hx => by
          obtain ⟨y, e1, e2⟩ := look_mem (nn := ts.map fun t => (t.n, rnm nn t.n)) (by rw [n1]; exact hx)
          rw [e1]
          obtain ⟨t', _, e3⟩ := List.mem_map.mp e2
          cases e3
          rfl
        have ey : ys2 = ys := sortedS_unique perm2 perm so2 so
        subst ey
        refine ⟨s, p2, D, ys2, _, i, k, rnm nn k, rfl, Or.inl (Or.inl upd_same), s5 _ _ D4, fun k hk => by rw [n1]; exact hall k hk, ?_, hi, lk k (hall k (List.mem_of_getElem? hi)), by rw [n2]; exact hbad, fun j k' nw' hj hk' hl' => ?_, fun e H5 s6 he => q e H5 (same_tr b4 (same_tr s5 s6)) he⟩
        · intro p hp'
          obtain ⟨t', ht', rfl⟩ := List.mem_map.mp hp'
          exact hsm t' ht'
        · rw [lk k' (hall k' (List.mem_of_getElem? hk'))] at hl'
          cases hl'
          rw [n2]
          exact hgood j k' hj hk'
end
end Fr

namespace Fr
open PySem PySem.Spec PyProof.Rows L2 HotX L2H
abbrev s_Lraised : Stmt := topS 37
theorem sc_Lraised : FnScope ["_law_door", "_law_made", "_law_given", "_law_e"] ["_law_door", "_law_made", "_law_given"] (defScope s_Lraised) := ⟨rfl, rfl, rfl, by decide +kernel, rfl, by decide +kernel, by decide +kernel⟩
-- slots: 0 _law_door, 1 _law_made, 2 _law_given, 3 _law_e
section
variable {P : Program} {w : World} {K : PySem.W.Frag} {mg : Str → Option Value} {base : Heap} {c : Nat → Addr}
/-- the error that is due of a door, or none -/
inductive Due (K : PySem.W.Frag) (C : Addr) (H : Hp) (d m : Int) (ts : List Tb) : Int → V → Option (Nat × V) → Prop
  | kon (i : Int) (x : Str) : i = 0 ∨ i = 1 → x ∈ ts.map (·.n) → Due K C H d m ts i (.str x) none
  | konX (i : Int) (x : Str) : i = 0 ∨ i = 1 → x ∉ ts.map (·.n) → Due K C H d m ts i (.str x) (some (3, .str x))
  | wo (g : Addr) (gs : List (Str × Nat)) : Dp K H (.ref g) (.list (gs.map nrD)) → (∀ x ∈ gs, x ∈ named ts) → Due K C H d m ts 2 (.ref g) none
  | woX (l : Addr) (xs : List V) (ps : List (Str × Int)) (i : Nat) (v : V) (p : Str × Int) : H l = some (.lst xs) → DpAll K H xs (ps.map fun p => .tuple [.str p.1, .int p.2]) → xs.length ≤ 1000 →
      xs[i]? = some v → ps[i]? = some p → ¬ RdIn ts p.1 p.2 → (∀ (j : Nat) (q : Str × Int), j < i → ps[j]? = some q → RdIn ts q.1 q.2) → Due K C H d m ts 2 (.ref l) (some (5, v))
  | be (o : Addr) (us : List Tb) : SysAt K C H o d m us → ((ts ++ us).map (·.n)).Nodup → us.length ≤ 12 → Due K C H d m ts 3 (.ref o) none
  | beX (o : Addr) (us : List Tb) (i : Nat) (tb : Tb) : SysAt K C H o d m us → ts[i]? = some tb → tb.n ∈ us.map (·.n) → (∀ (j : Nat) (t : Tb), j < i → ts[j]? = some t → t.n ∉ us.map (·.n)) → Due K C H d m ts 3 (.ref o) (some (1, .str tb.n))
  | re (g : Addr) (nn : List (Str × Str)) : H g = some (.dK (dictS nn)) → nn.length ≤ 12 → (∀ p ∈ nn, p.1 ∈ ts.map (·.n)) → ((ts.map (rnT nn)).map (·.n)).Nodup → (∀ t ∈ ts, isName (rnm nn t.n) = true) → Due K C H d m ts 4 (.ref g) none
  | reX (g : Addr) (nn : List (Str × Str)) (e : Nat × V) : H g = some (.dK (dictS nn)) → nn.length ≤ 12 → (∀ t ∈ ts, (rnm nn t.n).length ≤ 100000) → (∀ ys, ys.Perm (nn.map (·.1)) → sortedS ys = true →
      (∃ (i : Nat) (k : Str), ys[i]? = some k ∧ k ∉ ts.map (·.n) ∧ (∀ (j : Nat) (k' : Str), j < i → ys[j]? = some k' → k' ∈ ts.map (·.n)) ∧ e = (3, .str k)) ∨
      ((∀ k ∈ ys, k ∈ ts.map (·.n)) ∧ ∃ (i : Nat) (k : Str), ys[i]? = some k ∧ BadN ((ts.map (rnT nn)).map (·.n)) (rnm nn k) ∧ (∀ (j : Nat) (k' : Str), j < i → ys[j]? = some k' → ¬ BadN ((ts.map (rnT nn)).map (·.n)) (rnm nn k')) ∧ e = (1, .str (rnm nn k)))) → Due K C H d m ts 4 (.ref g) (some e)
  | ex (g : Addr) (ax : List Nat) : SqT K H g ((ax.map fun a : Nat => (a : Int)).map V.int) → AxOk d ax → Due K C H d m ts 5 (.ref g) none
  | exX (g : Addr) (ax : List Int) : SqT K H g (ax.map V.int) → ax.length ≤ 100 → ¬ ax.Perm ((List.range d.toNat).map fun i : Nat => (i : Int)) → Due K C H d m ts 5 (.ref g) (some (2, .ref g))
def DueV (H : Hp) : V → Option (Nat × V) → Prop
  | v, none => v = .str "fine"
  | v, some (k, y) => ∃ l, v = .ref l ∧ H l = some (.tup [.str (wordC k), y])
def spRaised5 (K : PySem.W.Frag) (C : Addr) (TT : List (Addr × Str)) : Sp := fun vs H Q _ => ∃ (i : Int) (s : Addr) (g : V) (d m : Int) (ts : List Tb) (due : Option (Nat × V)), vs = [.int i, .ref s, g] ∧ SysAt K C H s d m ts ∧ Sys1 d m ts ∧ LamX.Tabs TT H ∧ Due K C H d m ts i g due ∧
  ∀ v H', LamX.ExtN H H' → LamX.Tabs TT H' → DueV H' v due → Q v H'
def ERS5 : List Nat := [1, 2, 3, 5]
def orSp (a b : Sp) : Sp := fun vs H Q E => a vs H Q E ∨ b vs H Q E
theorem ok_raised5 {f C : Addr} {fd : FuncData} {TT : List (Addr × Str)} (F : Fun K "_law_raised" "_law_raised" s_Lraised f fd) (T : Txt mg) (TC : TxtC K mg C) (TE : TxX mg c)
    (n_constant : MetN P w K mg base 4 C "constant" (orSp (spConst K C) (spCheckTableX K C (c 3)))) (n_reads : MetN P w K mg base 4 C "reads" (orSp (spReads K C) (spCheckTableX K C (c 3))))
    (n_without : MetN P w K mg base 8 C "without" (orSp (spWithout K C TT) (spWithoutX K C (c 5)))) (n_beside : MetN P w K mg base 8 C "beside" (orSp (spBeside K C TT) (spBesideX K C (c 1))))
    (n_renamed : MetN P w K mg base 8 C "renamed" (orSp (spRen K C TT) (spRenX K C (c 3) (c 1)))) (n_exchanged : MetN P w K mg base 8 C "exchanged" (orSp (spExch K C TT) (spExchX K C (c 2))))
    (y_Lcaught : CalE P w K mg base 1 "_law_caught" (spCaught K c))
    (er : ∀ i, i ∈ ERS5 → ErrC K (c i) ∧ KitE K c i ∧ PySem.W.findIn K (.ref (c i)) "value" = some none ∧ PySem.W.exmOne K (.ref (c i)) (.ref (c 12)) = some true) : FnOk P w K mg base CX0 9 f fd ["_law_door", "_law_made", "_law_given"] (spRaised5 K C TT) := by
  refine F.ok sc_Lraised (fun vs H Q E h => ?_) (fun cdv A outer sh H vs Q E hr h => ?_)
  · obtain ⟨i, s, g, d, m, ts, due, rfl, _⟩ := h
    rfl
  · obtain ⟨i, s, g, d, m, ts, due, rfl, S, O, hT, hd, q⟩ := h
    have q0 : due = none → ∀ H', LamX.ExtN H H' → LamX.Tabs TT H' → Q (.str "fine") H' := fun e H' x t => q _ H' x t (by rw [e]; rfl)
    have q1 : ∀ k y, due = some (k, y) → ∀ l H', LamX.ExtN H H' → LamX.Tabs TT H' → H' l = some (.tup [.str (wordC k), y]) → Q (.ref l) H' := fun k y e l H' x t hl => q _ H' x t (by rw [e]; exact ⟨l, rfl, hl⟩)
    refine ⟨_, (pss_cons (ps_try_retE (i := 3) rfl rfl sc_Lraised.nd rfl rfl ⟨by rfl, by decide, .inl TE.g_ReadError⟩ y_Lcaught hr (by decide) (by rfl) (fun W pn xe tk pas => (pss_one (ps_if (pt_cmpR op_eq (pv 0) pe_int (nomark _))
      (pss_one (ps_expr (pe_mtN n_constant hr (by decide) (pv 1) tk (pa_cons (pv 2) pa_nil))))
      (pss_one (ps_if (pt_cmpR op_eq (pv 0) pe_int (nomark _))
        (pss_one (ps_expr (pe_mtN n_reads hr (by decide) (pv 1) tk (pa_cons (pv 2) pa_nil))))
        (pss_one (ps_if (pt_cmpR op_eq (pv 0) pe_int (nomark _))
          (pss_one (ps_expr (pe_mtN n_without hr (by decide) (pv 1) tk (pa_cons (pv 2) pa_nil))))
          (pss_one (ps_if (pt_cmpR op_eq (pv 0) pe_int (nomark _))
            (pss_one (ps_expr (pe_mtN n_beside hr (by decide) (pv 1) tk (pa_cons (pv 2) pa_nil))))
            (pss_one (ps_if (pt_cmpR op_eq (pv 0) pe_int (nomark _))
              (pss_one (ps_expr (pe_mtN n_renamed hr (by decide) (pv 1) tk (pa_cons (pv 2) pa_nil))))
              (pss_one (ps_expr (pe_mtN n_exchanged hr (by decide) (pv 1) tk (pa_cons (pv 2) pa_nil))))))))))))))))
  (pss_one (ps_ret pe_str))), ?_⟩
    obtain ⟨dx, tt, kvs, o1, o2, o3⟩ := id S.ob
    have nf : ∀ {y : Str}, decide (y = "_dimensions" ∨ y = "_modulus" ∨ y = "_tables") = false → (flds d m tt).lookup y = none := fun h => no_fld h
    have fin : ∀ (k : Nat) (y : V) (e : Addr) (H' : Hp), k ∈ ERS5 → due = some (k, y) → Same H H' → H' e = some (.xd [(("value" : Str), y)]) → wAs K (.ref (c 12)) 3 (tRetE (spCaught K c) 3) wNo { nx := fun σ H => Q (.str "fine") H, rt := Q } (.ref (c k)) (some e) (start ["_law_door", "_law_made", "_law_given", "_law_e"] [.int i, .ref s, g]) H' := fun k y e H' hk hdue sm he => by
      obtain ⟨EC, KE, no, ex⟩ := er k hk
      refine ⟨true, ex, fun _ a ha => ⟨_, rfl, rfl, k, e, y, (show ∀ i ∈ ERS5, i < 12 by decide) k hk, rfl, rfl, he, EC, KE, no, fun l H2 s2 hl => ?_⟩, fun z => by cases z⟩
      have sall : Same H H2 := same_tr sm s2
      exact q1 k y hdue l H2 (.of sall) (hT.ext sall) hl
    have ext : ∀ {H' : Hp}, Same H H' → LamX.ExtN H H' := fun sm => .of sm
    have go : ∀ {H' : Hp}, due = none → LamX.ExtN H H' → LamX.Tabs TT H' → Q (.str "fine") H' := fun h1 h2 h3 => q0 h1 _ h2 h3
    have l1 := O.l1
    have l6 := O.l6
    cases hd with
    | kon _ x hi hx =>
      obtain ⟨tb, htb, hxe⟩ := List.mem_map.mp hx
      have hf : ts.find? (fun t => decide (t.n = x)) = some tb := by
        rw [← hxe]
        exact find_nodup' O.ok.nodup htb
      rcases hi with rfl | rfl
      · exact ⟨_, rfl, rfl, _, rfl, iteT ⟨_, rfl, s, dx, _, rfl, o1, nf (by decide +kernel), _, rfl, Or.inl ⟨s, d, m, ts, x, tb, rfl, S, hx, hf, fun H' sm => go rfl (ext sm) (hT.ext sm)⟩⟩⟩
      · exact ⟨_, rfl, rfl, _, rfl, iteF ⟨_, rfl, rfl, _, rfl, iteT ⟨_, rfl, s, dx, _, rfl, o1, nf (by decide +kernel), _, rfl, Or.inl ⟨H, s, d, m, ts, x, tb, rfl, same_refl, S, hx, hf, fun l H' ys _ sm _ _ => go rfl (ext sm) (hT.ext sm)⟩⟩⟩⟩
    | konX _ x hi hx =>
      rcases hi with rfl | rfl
      · exact ⟨_, rfl, rfl, _, rfl, iteT ⟨_, rfl, s, dx, _, rfl, o1, nf (by decide +kernel), _, rfl, Or.inr ⟨s, d, m, ts, x, rfl, S, hx, fun e H' sm he => fin 3 _ e H' (by decide) rfl sm he⟩⟩⟩
      · exact ⟨_, rfl, rfl, _, rfl, iteF ⟨_, rfl, rfl, _, rfl, iteT ⟨_, rfl, s, dx, _, rfl, o1, nf (by decide +kernel), _, rfl, Or.inr ⟨s, d, m, ts, x, rfl, S, hx, fun e H' sm he => fin 3 _ e H' (by decide) rfl sm he⟩⟩⟩⟩
    | wo g gs h1 h2 => exact ⟨_, rfl, rfl, _, rfl, iteF ⟨_, rfl, rfl, _, rfl, iteF ⟨_, rfl, rfl, _, rfl, iteT ⟨_, rfl, s, dx, _, rfl, o1, nf (by decide +kernel), _, rfl, Or.inl ⟨s, g, d, m, ts, gs, rfl, S, O.d1, O.d3, O.m2, O.ok, by omega, h1, h2, hT, fun x H' _ e hT' _ => go rfl e hT'⟩⟩⟩⟩⟩
    | woX l xs ps i v p h1 h2 h3 h4 h5 h6 h7 => exact ⟨_, rfl, rfl, _, rfl, iteF ⟨_, rfl, rfl, _, rfl, iteF ⟨_, rfl, rfl, _, rfl, iteT ⟨_, rfl, s, dx, _, rfl, o1, nf (by decide +kernel), _, rfl, Or.inr ⟨s, l, d, m, ts, xs, ps, i, v, p, rfl, S, O.ok.nodup, h1, h2, h3, h4, h5, h6, h7, fun e H' sm he => fin 5 _ e H' (by decide) rfl sm he⟩⟩⟩⟩⟩
    | be o us h1 h2 h3 => exact ⟨_, rfl, rfl, _, rfl, iteF ⟨_, rfl, rfl, _, rfl, iteF ⟨_, rfl, rfl, _, rfl, iteF ⟨_, rfl, rfl, _, rfl, iteT ⟨_, rfl, s, dx, _, rfl, o1, nf (by decide +kernel), _, rfl, Or.inl ⟨s, o, d, m, ts, us, rfl, S, h1, O.d1, O.d3, O.m2, h2, by omega, h3, hT, fun x H' _ e hT' _ => go rfl e hT'⟩⟩⟩⟩⟩⟩
    | beX o us i tb h1 h2 h3 h4 => exact ⟨_, rfl, rfl, _, rfl, iteF ⟨_, rfl, rfl, _, rfl, iteF ⟨_, rfl, rfl, _, rfl, iteF ⟨_, rfl, rfl, _, rfl, iteT ⟨_, rfl, s, dx, _, rfl, o1, nf (by decide +kernel), _, rfl, Or.inr ⟨s, o, d, m, ts, us, i, tb, rfl, S, h1, h2, h3, h4, fun e H' sm he => fin 1 _ e H' (by decide) rfl sm he⟩⟩⟩⟩⟩⟩
    | re g nn h1 h2 h3 h4 h5 => exact ⟨_, rfl, rfl, _, rfl, iteF ⟨_, rfl, rfl, _, rfl, iteF ⟨_, rfl, rfl, _, rfl, iteF ⟨_, rfl, rfl, _, rfl, iteF ⟨_, rfl, rfl, _, rfl, iteT ⟨_, rfl, s, dx, _, rfl, o1, nf (by decide +kernel), _, rfl, Or.inl ⟨s, g, d, m, ts, nn, rfl, S, O.d1, O.d3, O.m2, O.ok, by omega, h1, h2, h3, h4, h5, hT, fun x H' _ e hT' _ => go rfl e hT'⟩⟩⟩⟩⟩⟩⟩
    | reX g nn e h1 h2 h3 h4 =>
      refine ⟨_, rfl, rfl, _, rfl, iteF ⟨_, rfl, rfl, _, rfl, iteF ⟨_, rfl, rfl, _, rfl, iteF ⟨_, rfl, rfl, _, rfl, iteF ⟨_, rfl, rfl, _, rfl, iteT ⟨_, rfl, s, dx, _, rfl, o1, nf (by decide +kernel), _, rfl, Or.inr ⟨s, g, d, m, ts, nn, rfl, S, O.ok.nodup, by omega, h1, h2, h3, fun ys perm so => ?_⟩⟩⟩⟩⟩⟩⟩
      rcases h4 ys perm so with ⟨i, k, e1, e2, e3, rfl⟩ | ⟨ha, i, k, e1, e2, e3, rfl⟩
      · exact Or.inl ⟨i, k, e1, e2, e3, fun e H' sm he => fin 3 _ e H' (by decide) rfl sm he⟩
      · exact Or.inr ⟨ha, i, k, e1, e2, e3, fun e H' sm he => fin 1 _ e H' (by decide) rfl sm he⟩
    | ex g ax h1 h2 => exact ⟨_, rfl, rfl, _, rfl, iteF ⟨_, rfl, rfl, _, rfl, iteF ⟨_, rfl, rfl, _, rfl, iteF ⟨_, rfl, rfl, _, rfl, iteF ⟨_, rfl, rfl, _, rfl, iteF ⟨_, rfl, s, dx, _, rfl, o1, nf (by decide +kernel), _, rfl, Or.inl ⟨s, g, d, m, ts, ax, rfl, S, O.d1, O.d3, O.m2, O.ok, by omega, h1, h2, hT, fun x H' _ e hT' _ => go rfl e hT'⟩⟩⟩⟩⟩⟩⟩
    | exX g ax h1 h2 h3 => exact ⟨_, rfl, rfl, _, rfl, iteF ⟨_, rfl, rfl, _, rfl, iteF ⟨_, rfl, rfl, _, rfl, iteF ⟨_, rfl, rfl, _, rfl, iteF ⟨_, rfl, rfl, _, rfl, iteF ⟨_, rfl, s, dx, _, rfl, o1, nf (by decide +kernel), _, rfl, Or.inr ⟨s, g, d, m, ts, ax, rfl, S, O.d1, O.d3, h1, h2, h3, fun e H' sm he => fin 2 _ e H' (by decide) rfl sm he⟩⟩⟩⟩⟩⟩⟩
end
end Fr

namespace Fr
open PySem PySem.Spec PyProof.Rows L2
abbrev s_Lrenamed_due : Stmt := topS 38
theorem sc_Lrenamed_due : FnScope ["_law_words", "_law_turned", "_law_old", "_law_later", "_law_word", "_law_new", "_law_odd", "_law_sign"] ["_law_words", "_law_turned"] (defScope s_Lrenamed_due) := ⟨rfl, rfl, rfl, by decide +kernel, rfl, by decide +kernel, by decide +kernel⟩
-- slots: 0 _law_words, 1 _law_turned, 2 _law_old, 3 _law_later, 4 _law_word, 5 _law_new, 6 _law_odd, 7 _law_sign
theorem dps_snoc1 {K : PySem.W.Frag} {H : Hp} : ∀ {xs : List V} {ds : List PyData} {x : V} {d : PyData}, DpAll K H xs ds → Dp K H x d → DpAll K H (xs ++ [x]) (ds ++ [d])
  | [], _, _, _, h, k => by cases h; exact .cons k .nil
  | _ :: xs, _, _, _, h, k => by
    cases h with
    | cons h1 h2 => exact .cons h1 (dps_snoc1 h2 k)
def filtD (p : Nat → Bool) (n : Nat) (ds : List PyData) : List PyData := ((List.range n).filter p).map fun i => ds.getD i .none
/-- the items of a list that a test keeps -/
theorem lc_filt {K : PySem.W.Frag} {J : It} {n : Nat} {G : Hp → Prop} {Y : Nat → Hp → V → Hp → Prop} (w : Walk J n G Y) {g : TG} {tt : TT} {te : TE} {vs : List Nat} {σ : L2.St} {H1 : Hp} {D : Addr} {Qd : Hp → Prop} {xs : List V} {ds : List PyData} (p : Nat → Bool)
    (h : DpAll K H1 xs ds) (hl : xs.length = n) (hn : n ≤ 1000000) (hD : H1 D = none) (hG : ∀ H, Same H1 H → G H) (hY : ∀ i H x H', Y i H x H' → H' = H ∧ xs[i]? = some x)
    (hs : ∀ i x H, xs[i]? = some x → Same H1 H → ∀ (R : V → Hp → Prop) (N : Hp → Prop), (p i = true → ∀ H3, Same H H3 → R x H3) → (p i = false → ∀ H3, Same H H3 → N H3) → g x (wipe σ vs) H fun σ2 H2 => wipe σ2 vs = wipe σ vs ∧ tt σ2 H2 fun b H3 => if b = true then te σ2 H3 R else N H3)
    (hd : ∀ H bs, Same H1 H → H D = some (.lst bs) → DpAll K H1 bs (filtD p n ds) → Qd H) :
    ∃ W : Nat → Nat → Hp → Prop, (∃ m, W 0 m (upd H1 D (.lst []))) ∧ ∀ i m H, W i m H →
      (J.stop i H ∧ Qd H) ∨ (J.go i H ∧ ∃ Nx : Hp → Prop, (∀ H', Nx H' → ∃ m', m' < m ∧ W (i + 1) m' H') ∧ ∀ x H', J.yld i H x H' → g x (wipe σ vs) H' fun σ2 H2 => wipe σ2 vs = wipe σ vs ∧ tt σ2 H2 fun b H3 =>
        if b = true then te σ2 H3 fun y H4 => ∃ acc, H4 D = some (.lst acc) ∧ acc.length < sizeLine ∧ Nx (upd H4 D (.lst (acc ++ [y]))) else Nx H3) := by
  have key : ∀ i, filtD p (i + 1) ds = filtD p i ds ++ (if p i = true then [ds.getD i .none] else []) := fun i => by
    unfold filtD
    rw [List.range_succ, List.filter_append, List.map_append]
    congr 1
    by_cases z : p i = true
    · rw [if_pos z, List.filter_cons_of_pos z]
      rfl
    · rw [if_neg z, List.filter_cons_of_neg z]
      rfl
  refine lc_it w (fun i H => ∃ bs, Same H1 H ∧ H D = some (.lst bs) ∧ DpAll K H1 bs (filtD p i ds) ∧ bs.length ≤ i) ⟨[], snew hD, upd_same, .nil, Nat.le_refl _⟩ (fun i H _ ⟨_, s, _⟩ => hG H s) ?_ (fun H ⟨bs, s, e, d, _⟩ => hd H bs s e d)
  rintro i x H H' hi ⟨bs, s1, e1, d1, l1⟩ y
  obtain ⟨rfl, hx⟩ := hY i H x H' y
  obtain ⟨dd, hdd, dx⟩ := dps_get h hx
  have eg : ds.getD i .none = dd := by rw [List.getD_eq_getElem?_getD, hdd]; rfl
  refine hs i x H' hx s1 _ _ (fun hp H3 s3 => ⟨bs, s3 _ _ e1, ?_, bs ++ [x], ?_, upd_same, ?_, ?_⟩) (fun hp H3 s3 => ⟨bs, same_tr s1 s3, s3 _ _ e1, ?_, by omega⟩)
  · have : 1000000 < sizeLine := by decide
    omega
  · intro b o hb
    rw [upd_ne fun z => by rw [z, hD] at hb; cases hb]
    exact s3 _ _ (s1 _ _ hb)
  · rw [key, if_pos hp, eg]
    exact dps_snoc1 d1 dx
  · rw [List.length_append]
    exact Nat.succ_le_succ l1
  · rw [key, if_neg (by rw [hp]; exact Bool.false_ne_true), List.append_nil]
    exact d1
theorem filtD_nil {p : Nat → Bool} {n : Nat} {ds : List PyData} : (filtD p n ds).isEmpty = (List.range n).all fun i => !p i := by
  unfold filtD
  rw [List.isEmpty_map]
  cases e : (List.range n).all fun i => !p i with
  | true =>
    rw [List.all_eq_true] at e
    rw [List.isEmpty_iff, List.filter_eq_nil_iff]
    intro i hi z
    have := e i hi
    rw [z] at this
    cases this
  | false =>
    rw [List.all_eq_false] at e
    obtain ⟨i, hi, z⟩ := e
    cases f : (List.range n).filter p with
    | cons a r => rfl
    | nil =>
      rw [List.filter_eq_nil_iff] at f
      exact absurd (by simpa using z) (f i hi)
theorem filtD_mem {p : Nat → Bool} {n : Nat} {ds : List PyData} {d : PyData} (hn : n ≤ ds.length) (h : d ∈ filtD p n ds) : d ∈ ds := by
  unfold filtD at h
  obtain ⟨i, hi, rfl⟩ := List.mem_map.mp h
  have lt := List.mem_range.mp (List.mem_filter.mp hi).1
  rw [List.getD_eq_getElem?_getD, List.getElem?_eq_getElem (by omega)]
  exact List.getElem_mem _
def abc : Str := "abcdefghijklmnopqrstuvwxyz"
theorem abc_list : abc.cps.toList = (List.range 26).map (· + 97) := by decide +kernel
theorem abc_sign (c : Nat) : decide (c ∈ abc.cps.toList) = okSign c := by
  have e1 : okSign c = decide (97 ≤ c ∧ c ≤ 122) := by
    unfold okSign
    have a1 : decide ([c] < [97]) = decide (c < 97) := decide_eq_decide.mpr (by simp [List.cons_lt_cons_iff])
    have a2 : decide ([122] < [c]) = decide (122 < c) := decide_eq_decide.mpr (by simp [List.cons_lt_cons_iff])
    rw [a1, a2]
    by_cases h1 : c < 97
    · rw [decide_eq_true h1, decide_eq_false (fun z : 97 ≤ c ∧ c ≤ 122 => by omega)]
      rfl
    · by_cases h2 : 122 < c
      · rw [decide_eq_true h2, decide_eq_false (fun z : 97 ≤ c ∧ c ≤ 122 => by omega), Bool.not_true, Bool.and_false]
      · rw [decide_eq_false h1, decide_eq_false h2, decide_eq_true (by omega : 97 ≤ c ∧ c ≤ 122)]
        rfl
  rw [e1, abc_list]
  refine decide_eq_decide.mpr ⟨fun h => ?_, fun h => List.mem_map.mpr ⟨c - 97, List.mem_range.mpr (by omega), by omega⟩⟩
  obtain ⟨k, hk, rfl⟩ := List.mem_map.mp h
  have := List.mem_range.mp hk
  omega
theorem find_at {α : Type} {p : α → Bool} : ∀ {ys : List α} {j : Nat} {k : α}, ys[j]? = some k → p k = true → (∀ (i : Nat) (x : α), i < j → ys[i]? = some x → p x = false) → ys.find? p = some k
  | [], _, _, h, _, _ => by cases h
  | y :: ys, 0, k, h, hp, _ => by
    cases h
    rw [List.find?_cons_of_pos hp]
  | y :: ys, j + 1, k, h, hp, hn => by
    rw [List.find?_cons_of_neg (by rw [hn 0 y (by omega) rfl]; exact Bool.false_ne_true)]
    exact find_at (j := j) h hp fun i x hi hx => hn (i + 1) x (by omega) hx
theorem at_find {α : Type} {p : α → Bool} : ∀ {ys : List α} {k : α}, ys.find? p = some k → ∃ j : Nat, ys[j]? = some k ∧ p k = true ∧ ∀ (i : Nat) (x : α), i < j → ys[i]? = some x → p x = false
  | [], _, h => by cases h
  | y :: ys, k, h => by
    cases e : p y with
    | true =>
      rw [List.find?_cons_of_pos e] at h
      cases h
      exact ⟨0, rfl, e, fun i x hi => by omega⟩
    | false =>
      rw [List.find?_cons_of_neg (by rw [e]; exact Bool.false_ne_true)] at h
      obtain ⟨j, h1, h2, h3⟩ := at_find h
      refine ⟨j + 1, h1, h2, fun i x hi hx => ?_⟩
      cases i with
      | zero => cases hx; exact e
      | succ i => exact h3 i x (by omega) hx
def badB (all : List Str) (nw : Str) : Bool := !isName nw || decide (1 < all.count nw)
theorem badB_iff {all : List Str} {nw : Str} : badB all nw = true ↔ BadN all nw := by
  unfold badB BadN
  rw [Bool.or_eq_true, Bool.not_eq_true', decide_eq_true_iff]
/-- the error that is due of new names, by the sorted keys -/
def renDue (N : List Str) (nn : List (Str × Str)) (ys : List Str) : Option (Nat × Str) :=
  match ys.find? (fun k => !decide (k ∈ N)) with
  | some k => some (3, k)
  | none => (ys.find? fun k => badB (N.map (rnm nn)) (rnm nn k)).map fun k => (1, rnm nn k)
def dueD : Option (Nat × PyData) → PyData
  | none => .str "fine"
  | some (k, d) => .tuple [.str (wordC k), d]
def dueS (o : Option (Nat × Str)) : PyData := dueD (o.map fun p => (p.1, .str p.2))
section
variable {P : Program} {w : World} {K : PySem.W.Frag} {mg : Str → Option Value} {base : Heap} {c : Nat → Addr}
def spRenDue (K : PySem.W.Frag) : Sp := fun vs H Q _ => ∃ (l g : Addr) (N ys : List Str) (nn : List (Str × Str)), vs = [.ref l, .ref g] ∧ SqL K H l (N.map V.str) ∧ H g = some (.dK (dictS nn)) ∧ N.length ≤ 60 ∧ nn.length ≤ 12 ∧ (∀ p ∈ nn, p.2.length ≤ 100000 ∧ PyData.strOk p.2 = true) ∧
  ys.Perm (nn.map (·.1)) ∧ sortedS ys = true ∧ ∀ v H', Same H H' → Dp K H' v (dueS (renDue N nn ys)) → Q v H'
theorem ok_rendue {f : Addr} {fd : FuncData} (F : Fun K "_law_renamed_due" "_law_renamed_due" s_Lrenamed_due f fd) (T : Txt mg) : FnOk P w K mg base CX0 1 f fd ["_law_words", "_law_turned"] (spRenDue K) := by
  refine F.ok sc_Lrenamed_due (fun vs H Q E h => ?_) (fun cdv A outer s H vs Q E hr h => ?_)
  · obtain ⟨l, g, N, ys, nn, rfl, _⟩ := h
    rfl
  · obtain ⟨l, g, N, ys, nn, rfl, hl, hg, hN, hnl, hst, hperm, hsort, q⟩ := h
    have hu := hu_of hr
    refine ⟨_, (pss_cons (ps_for PassesOwn.never rfl (pi_list (pe_callB (call_sortedD rfl) (by rfl) T.b_sorted (by decide +kernel) (pa_cons (pv 1) pa_nil))) (pg_name (i := 2) sc_Lrenamed_due.nd rfl (by first | exact Or.inl rfl | exact Or.inr rfl))
    (pss_one (ps_if (pt_cmpR op_notIn_seq (pv 2) (pv 0) (by rfl))
      (pss_one (ps_ret (pe_tup (pa_cons pe_str (pa_cons (pv 2) pa_nil)))))
      pss_nil)))
  (pss_cons (ps_setLc (i := 3) (own := [("_law_word", 4)]) (g := gName 4) (tt := tYes) (by rfl) sc_Lrenamed_due.nd rfl rfl (sw_true rfl rfl rfl (by decide +kernel)) (pi_list (pv 0)) (blkOk_by (N := ["_law_words", "_law_turned", "_law_old", "_law_later", "_law_word", "_law_new", "_law_odd", "_law_sign"]) (sc := defScope s_Lrenamed_due) (by decide +kernel)) (fun _ _ _ _ _ => (pg_name (i := 4) sc_Lrenamed_due.nd rfl (by first | exact Or.inl rfl | exact Or.inr rfl))) (fun _ _ _ _ _ => pts_nil) (fun _ _ _ _ _ => (pe_dget2 hu (pv 1) (pv 4) (pv 4) ⟨by rfl, by rfl, by rfl, by rfl⟩)))
  (pss_cons (ps_for PassesOwn.never rfl (pi_list (pe_callB (call_sortedD rfl) (by rfl) T.b_sorted (by decide +kernel) (pa_cons (pv 1) pa_nil))) (pg_name (i := 2) sc_Lrenamed_due.nd rfl (by first | exact Or.inl rfl | exact Or.inr rfl))
    (pss_cons (ps_set (i := 5) sc_Lrenamed_due.nd rfl (by first | exact Or.inl rfl | exact Or.inr rfl) (pe_dget hu (pv 1) (pv 2) (fun _ _ => rfl)))
    (pss_cons (ps_setLc (i := 6) (own := [("_law_sign", 7)]) (g := gName 7) (by rfl) sc_Lrenamed_due.nd rfl rfl (sw_true rfl rfl rfl (by decide +kernel)) (pi_str (pv 5)) (blkOk_by (N := ["_law_words", "_law_turned", "_law_old", "_law_later", "_law_word", "_law_new", "_law_odd", "_law_sign"]) (sc := defScope s_Lrenamed_due) (by decide +kernel)) (fun _ _ _ _ _ => (pg_name (i := 7) sc_Lrenamed_due.nd rfl (by first | exact Or.inl rfl | exact Or.inr rfl))) (fun _ _ _ _ _ => (pts_one (pt_cmpR op_notIn_sign (pv 7) pe_str rfl))) (fun _ _ _ _ _ => (pv 7)))
    (pss_one (ps_if (PW.pt (pw_or (pt_cmpR (op_neD hr.units) (pv 6) (pe_lst pa_nil) (nomark _)) (pw_or (pt_not (pt_chain op_le op_le pe_int (pe_callB call_len_str (by rfl) T.b_len PySem.boot_len (pa_cons (pv 5) pa_nil)) pe_int)) (pw_or1 (pt_cmpR op_gt (pe_bm PySem.F.plainAttrs_list PySem.F.slot_list_count PySem.F.type_list_count mt_count (pv 3) (pa_cons (pv 5) pa_nil)) pe_int (nomark _))))))
      (pss_one (ps_ret (pe_tup (pa_cons pe_str (pa_cons (pv 5) pa_nil)))))
      pss_nil)))))
  (pss_one (ps_ret pe_str))))), ?_⟩
    have hkeys : (dictS nn).map (·.1) = (nn.map (·.1)).map Sum.inr := by
      unfold dictS
      rw [List.map_map, List.map_map]
      rfl
    have hkl : (nn.map (·.1)).length < 64 := by rw [List.length_map]; omega
    refine ⟨_, rfl, g, dictS nn, nn.map (·.1), rfl, Or.inl hg, hkeys, hkl, fun ys' p perm so hp => ?_⟩
    obtain rfl : ys' = ys := sortedS_unique perm hperm so hsort
    have s1 : Same H (upd H p (.lst (ys'.map V.str))) := snew hp
    have hp1 : (upd H p (.lst (ys'.map V.str))) p = some (.lst (ys'.map V.str)) := upd_same
    generalize upd H p (.lst (ys'.map V.str)) = H1 at s1 hp1
    refine ⟨p, rfl, ⟨_, Or.inl (Or.inl hp1)⟩, for_it (walk_list (K := K) (a := p) (xs := ys'.map V.str)) (fun j σ H' => ∃ y2, σ = [some (.ref l), some (.ref g), y2, none, none, none, none, none] ∧ Same H1 H' ∧ ∀ (i : Nat) (x : Str), i < j → ys'[i]? = some x → x ∈ N) ⟨none, rfl, same_refl, fun i x hi => by omega⟩ (fun i σ H' _ ⟨_, _, b, _⟩ => Or.inl (Or.inl (b _ _ hp1))) ?_ ?_⟩
    · rintro j y σ _ H2 hj ⟨y2, rfl, b, hin⟩ ⟨rfl, hy⟩
      rw [List.getElem?_map] at hy
      obtain ⟨k, hki, rfl⟩ := Option.map_eq_some_iff.mp hy
      refine ⟨_, rfl, _, rfl, l, _, rfl, Or.inl (sql b (sql s1 hl)), rfl, flat_strs _, ?_⟩
      by_cases hm : k ∈ N
      · rw [inV_str hm]
        refine ⟨_, rfl, iteF ⟨_, rfl, b, fun i x hi hx => ?_⟩⟩
        rcases Nat.lt_succ_iff_lt_or_eq.mp hi with h | h
        · exact hin i x h hx
        · subst h
          rw [hki] at hx
          cases hx
          exact hm
      · rw [inV_no hm]
        refine ⟨_, rfl, iteT ⟨_, rfl, (by show 2 ≤ sizeLine; decide), fun t ht => q _ _ (same_tr s1 (same_tr b (snew ht))) ?_⟩⟩
        have e : renDue N nn ys' = some (3, k) := by
          unfold renDue
          rw [find_at (p := fun k => !decide (k ∈ N)) hki (by rw [decide_eq_false hm]; rfl) fun i x hi hx => by rw [decide_eq_true (hin i x hi hx)]; rfl]
        rw [e]
        exact .tup (Or.inl (Or.inl upd_same)) (.cons (.str _) (.cons (.str _) .nil))
    · rintro σ H2 ⟨y2, rfl, b, hin⟩
      rw [List.length_map] at hin
      have hall : ∀ k ∈ ys', k ∈ N := fun k hk => by
        obtain ⟨i, hi, e⟩ := List.getElem_of_mem hk
        exact hin i k hi (by rw [List.getElem?_eq_getElem hi, e])
      have e0 : ys'.find? (fun k => !decide (k ∈ N)) = none := List.find?_eq_none.mpr fun k hk => by
        rw [decide_eq_true (hall k hk)]
        exact Bool.false_ne_true
      have e1 : renDue N nn ys' = (ys'.find? fun k => badB (N.map (rnm nn)) (rnm nn k)).map fun k => (1, rnm nn k) := by
        unfold renDue
        rw [e0]
      have b2 := same_tr s1 b
      -- later
      refine ⟨_, rfl, l, rfl, ⟨_, sql b2 hl⟩, fun D hD => lc_flat (walk_list (K := K) (a := l) (xs := N.map V.str)) (fun j => .str (rnm nn (N.getD j Str.empty))) (by rw [List.length_map]; omega) hD (fun H' sm => sql sm (sql b2 hl)) (fun i H x H' y => yat_same y) ?_ ?_⟩
      · rintro j z _ Ha hj sm ⟨rfl, hz⟩ R hR
        rw [List.getElem?_map] at hz
        obtain ⟨x, hx, rfl⟩ := Option.map_eq_some_iff.mp hz
        have ev : N.getD j Str.empty = x := by rw [List.getD_eq_getElem?_getD, hx]; rfl
        have r' := hR _ same_refl
        have hval : ((valV (dictS nn) (Sum.inr x)).getD (kV (Sum.inr x))) = V.str (rnm nn x) := by
          rw [valS]
          unfold rnm
          cases nn.lookup x <;> rfl
        have lg : Rd Ha g (.dK (dictS nn)) := Or.inl (sm _ _ (b2 _ _ hg))
        refine ⟨rfl, _, rfl, g, rfl, Or.inl ⟨_, lg⟩, _, rfl, _, rfl, _, Or.inl ⟨dictS nn, Sum.inr x, lg, rfl, rfl⟩, ?_⟩
        rw [show (valV (dictS nn) (Sum.inr x)).getD (V.str x) = V.str (rnm nn x) from hval, ← ev]
        exact r'
      · intro H4 s4 hD4
        have el : (List.range (N.map V.str).length).map (fun j => V.str (rnm nn (N.getD j Str.empty))) = (N.map (rnm nn)).map V.str := by
          refine List.ext_getElem (by simp) fun i h1 h2 => ?_
          simp only [List.length_map] at h2
          simp [List.getD_eq_getElem?_getD, h2]
        rw [el] at hD4
        have b4 := same_tr b2 s4
        -- the second walk
        refine ⟨_, rfl, g, dictS nn, nn.map (·.1), rfl, Or.inl (b4 _ _ hg), hkeys, hkl, fun zs p2 perm2 so2 hp2 => ?_⟩
        obtain rfl : zs = ys' := sortedS_unique perm2 hperm so2 hsort
        have s5 : Same H4 (upd H4 p2 (.lst (zs.map V.str))) := snew hp2
        have hp5 : (upd H4 p2 (.lst (zs.map V.str))) p2 = some (.lst (zs.map V.str)) := upd_same
        have D5 := s5 _ _ hD4
        have b5 := same_tr b4 s5
        generalize upd H4 p2 (.lst (zs.map V.str)) = H5 at hp5 D5 b5
        clear s5 hp2 hD4 b4 s4
        refine ⟨p2, rfl, ⟨_, Or.inl (Or.inl hp5)⟩, for_it (walk_list (K := K) (a := p2) (xs := zs.map V.str)) (fun j σ H' => ∃ y2 y5 y6, σ = [some (.ref l), some (.ref g), y2, some (.ref D), none, y5, y6, none] ∧ Same H5 H' ∧ ∀ (i : Nat) (x : Str), i < j → zs[i]? = some x → badB (N.map (rnm nn)) (rnm nn x) = false) ⟨_, none, none, rfl, same_refl, fun i x hi => by omega⟩ (fun i σ H' _ ⟨_, _, _, _, b, _⟩ => Or.inl (Or.inl (b _ _ hp5))) ?_ ?_⟩
        · rintro j y σ _ H6 hj ⟨y2, y5, y6, rfl, b6, hgood⟩ ⟨rfl, hy⟩
          rw [List.getElem?_map] at hy
          obtain ⟨k, hki, rfl⟩ := Option.map_eq_some_iff.mp hy
          obtain ⟨x, hlk, hmem⟩ := look_mem (nn := nn) (k := k) (hperm.mem_iff.mp (List.mem_of_getElem? hki))
          have hrn : rnm nn k = x := by
            unfold rnm
            rw [hlk]
            rfl
          obtain ⟨hx, hok⟩ : x.length ≤ 100000 ∧ PyData.strOk x = true := hst _ hmem
          have b56 := same_tr b5 b6
          have hdg : DGet H6 g (.str k) (some (.str x)) := by
            have g1 := DGet.k (k := Sum.inr k) (b56 _ _ hg)
            rw [valS, hlk] at g1
            exact g1
          have hs : x.length ≤ sizeLine := Nat.le_trans hx (by rw [sizeLine_eq]; decide)
          refine ⟨_, rfl, _, rfl, g, _, rfl, hdg, ?_⟩
          obtain ⟨ss, hss⟩ : ∃ ss : List Str, ss = x.cps.toList.map fun c => ⟨#[c]⟩ := ⟨_, rfl⟩
          have lss : ss.length = x.cps.size := by rw [hss, List.length_map, Array.length_toList]
          refine ⟨.str x, rfl, x, rfl, fun D2 hD2 => lc_filt (K := K) (walk_str (z := x)) (fun i => !decide (x.cps.toList.getD i 0 ∈ abc.cps.toList)) (strs_dps ss) (by rw [List.length_map, lss]) (by have e : x.cps.size = x.length := rfl; omega) hD2 (fun _ _ => True.intro) (fun i H1 y H2 h => ?_) ?_ ?_⟩
          · obtain ⟨rfl, c, hc, rfl⟩ := h
            refine ⟨rfl, ?_⟩
            rw [List.getElem?_map, hss, List.getElem?_map, Array.getElem?_toList, hc]
            rfl
          · intro i y H1 hy s1 R N hR hN
            rw [List.getElem?_map, hss, List.getElem?_map] at hy
            obtain ⟨z1, hz1, rfl⟩ := Option.map_eq_some_iff.mp hy
            obtain ⟨c, hc, rfl⟩ := Option.map_eq_some_iff.mp hz1
            have ec : x.cps.toList.getD i 0 = c := by rw [List.getD_eq_getElem?_getD, hc]; rfl
            rw [ec] at hR hN
            refine ⟨rfl, _, rfl, c, abc, rfl, rfl, _, rfl, ite2 (fun h => ⟨_, rfl, hR h H1 same_refl⟩) (fun h => hN (by simpa using h) H1 same_refl)⟩
          · intro H7 bs s7 e7 d7
            have b7 := same_tr b6 s7
            have D7 := b7 _ _ D5
            have out : badB (N.map (rnm nn)) x = true → ∀ t H8, Same H7 H8 → H8 t = some (.tup [.str "name", .str x]) → Q (.ref t) H8 := fun hb t H8 s8 ht => by
              have e : renDue N nn zs = some (1, x) := by
                rw [e1, find_at (p := fun k => badB (N.map (rnm nn)) (rnm nn k)) hki (by rw [hrn]; exact hb) hgood, ← hrn]
                rfl
              refine q _ _ (same_tr b5 (same_tr b7 s8)) ?_
              rw [e]
              exact .tup (Or.inl (Or.inl ht)) (.cons (.str _) (.cons (.str _) .nil))
            have emp : (filtD (fun i => !decide (x.cps.toList.getD i 0 ∈ abc.cps.toList)) x.cps.size (ss.map PyData.str)).isEmpty = x.cps.toList.all okSign := by
              rw [filtD_nil]
              have z := range_map_get (x.cps.toList.map okSign) (fun i => okSign (x.cps.toList.getD i 0)) (fun i b hb => by
                rw [List.getElem?_map] at hb
                obtain ⟨c, h1, h2⟩ := Option.map_eq_some_iff.mp hb
                rw [List.getD_eq_getElem?_getD, h1]
                exact h2)
              rw [List.length_map, Array.length_toList] at z
              have z2 := congrArg (fun l : List Bool => l.all id) z
              simp only [List.all_map] at z2
              refine Eq.trans ?_ z2
              refine List.all_congr rfl fun i => ?_
              rw [Bool.not_not, abc_sign]
              rfl
            have sh1 : SeqAt.shaped (.list (filtD (fun i => !decide (x.cps.toList.getD i 0 ∈ abc.cps.toList)) x.cps.size (ss.map PyData.str))) = true := by
              refine shaped_list fun d hd => ?_
              obtain ⟨z, hz, rfl⟩ := List.mem_map.mp (filtD_mem (by rw [List.length_map, lss]; exact Nat.le_refl _) hd)
              rw [hss] at hz
              obtain ⟨c, hc, rfl⟩ := List.mem_map.mp hz
              refine ⟨?_, by simp [PyData.depth]⟩
              have z := hok
              unfold PyData.strOk at z
              rw [Array.all_eq_true'] at z
              have z1 := z c (by rw [← Array.mem_toList_iff]; exact hc)
              simp only [PyData.canLay0, PyData.strOk]
              simpa using z1
            refine ⟨_, rfl, (by show 0 ≤ sizeLine; decide), fun l0 hl0 => ⟨_, .list [], .lst (Or.inl (Or.inl (snew hl0 _ _ e7))) (dpsm (same_tr s7 (snew hl0)) _ _ d7), .lst (Or.inl (Or.inl upd_same)) .nil, sh1, by decide, _, rfl, ?_⟩⟩
            rw [eqv_nil, emp]
            have s8 : Same H7 (upd H7 l0 (.lst [])) := snew hl0
            have D8 := s8 _ _ D7
            generalize upd H7 l0 (.lst []) = H8 at s8 D8
            have nameU : isName x = (decide (1 ≤ (x.length : Int)) && decide ((x.length : Int) ≤ 8) && x.cps.toList.all okSign) := rfl
            have bad1 : isName x = false → badB (N.map (rnm nn)) x = true := fun z => by
              unfold badB
              rw [z]
              rfl
            cases ho : x.cps.toList.all okSign with
            | false =>
              exact iteT (iteT ⟨_, rfl, (by show 2 ≤ sizeLine; decide), fun t ht => out (bad1 (by rw [nameU, ho, Bool.and_false])) t _ (same_tr s8 (snew ht)) upd_same⟩)
            | true =>
              refine iteF ?_
              refine ⟨.str x, rfl, x, rfl, hs, 1, x.length, rfl, rfl, decide (1 ≤ (x.length : Int)), rfl, ite2 (fun h1 => ⟨x.length, 8, rfl, rfl, decide ((x.length : Int) ≤ 8), rfl, ?_⟩) (fun h1 => ?_)⟩
              · cases h2 : decide ((x.length : Int) ≤ 8) with
                | false => exact iteT (iteT ⟨_, rfl, (by show 2 ≤ sizeLine; decide), fun t ht => out (bad1 (by rw [nameU, h2, Bool.and_false, Bool.false_and])) t _ (same_tr s8 (snew ht)) upd_same⟩)
                | true =>
                  refine iteF ⟨_, rfl, Or.inl ⟨rfl, _, Or.inl (Or.inl D8)⟩, _, rfl, D, _, x, rfl, rfl, Or.inl (Or.inl D8), _, _, rfl, rfl, _, rfl, ?_⟩
                  have hn : isName x = true := by rw [nameU, h1, h2, ho]; rfl
                  by_cases hc : 1 < (N.map (rnm nn)).count x
                  · rw [decide_eq_true (by omega)]
                    exact iteT ⟨_, rfl, (by show 2 ≤ sizeLine; decide), fun t ht => out (by unfold badB; rw [decide_eq_true hc, Bool.or_true]) t _ (same_tr s8 (snew ht)) upd_same⟩
                  · rw [decide_eq_false (by omega)]
                    refine iteF ⟨_, _, _, rfl, same_tr b7 s8, fun i x' hi hx' => ?_⟩
                    rcases Nat.lt_succ_iff_lt_or_eq.mp hi with h | h
                    · exact hgood i x' h hx'
                    · subst h
                      rw [hki] at hx'
                      cases hx'
                      rw [hrn]
                      unfold badB
                      rw [hn, decide_eq_false hc]
                      rfl
              · exact ⟨false, rfl, iteT (iteT ⟨_, rfl, (by show 2 ≤ sizeLine; decide), fun t ht => out (bad1 (by rw [nameU, show decide (1 ≤ (x.length : Int)) = false by simpa using h1]; rfl)) t _ (same_tr s8 (snew ht)) upd_same⟩)⟩
        · rintro σ H6 ⟨y2, y5, y6, rfl, b6, hgood⟩
          rw [List.length_map] at hgood
          have e : renDue N nn zs = none := by
            rw [e1, List.find?_eq_none.mpr fun k hk => by
              obtain ⟨i, hi, e⟩ := List.getElem_of_mem hk
              rw [hgood i k hi (by rw [List.getElem?_eq_getElem hi, e])]
              exact Bool.false_ne_true]
            rfl
          refine q _ _ (same_tr b5 b6) ?_
          rw [e]
          exact .str _
end
end Fr

namespace Fr
open PySem PySem.Spec PyProof.Rows L2
abbrev s_Lreads_right : Stmt := topS 39
theorem sc_Lreads_right : FnScope ["_law_rng_here", "_law_made", "_law_words", "_law_some", "_law_word", "_law_due", "_law_odd", "_law_gone", "_law_wrong", "_law_one"] ["_law_rng_here", "_law_made"] (defScope s_Lreads_right) := ⟨rfl, rfl, rfl, by decide +kernel, rfl, by decide +kernel, by decide +kernel⟩
-- slots: 0 _law_rng_here, 1 _law_made, 2 _law_words, 3 _law_some, 4 _law_word, 5 _law_due, 6 _law_odd, 7 _law_gone, 8 _law_wrong, 9 _law_one
section
variable {P : Program} {w : World} {K : PySem.W.Frag} {mg : Str → Option Value} {base : Heap}
theorem due_dp {H : Hp} {v : V} {o : Option (Nat × PyData)} {due : Option (Nat × V)} (h : DueV H v due) (e : ∀ k y, due = some (k, y) → ∃ d, o = some (k, d) ∧ Dp K H y d) (n : due = none → o = none) : Dp K H v (dueD o) := by
  cases due with
  | none =>
    rw [n rfl, show v = V.str "fine" from h]
    exact .str _
  | some p =>
    obtain ⟨k, y⟩ := p
    obtain ⟨d, ho, hd⟩ := e k y rfl
    obtain ⟨l, rfl, hl⟩ := h
    rw [ho]
    exact .tup (Or.inl (Or.inl hl)) (.cons (.str _) (.cons hd .nil))
theorem wordC_ok : ∀ k ∈ List.range 12, PyData.strOk (wordC k) = true := by decide +kernel
theorem lay_due {o : Option (Nat × PyData)} (h : ∀ k d, o = some (k, d) → k < 12 ∧ Lay d 9) : Lay (dueD o) 10 := by
  cases o with
  | none => exact Lay.str (k := 10) (by decide +kernel)
  | some p =>
    obtain ⟨k, d⟩ := p
    obtain ⟨h1, h2⟩ := h k d rfl
    exact Lay.tup (.cons (.str (wordC_ok k (List.mem_range.mpr h1))) (.cons h2 .nil))
theorem eqv_refl_due {d : PyData} (h : SeqAt.shaped d = true) : PyData.eqv d d = true := SeqAt.eqv_refl _ (SeqAt.canLay_of_shaped h)
theorem LS.down {TT : List (Addr × Str)} {r : Addr} {k k' : Nat} {B B3 H H' : Hp} (L0 : LS TT r k B H) (up : Same B B3) (z : LS TT r k' B3 H') : LS TT r k' B H' := ⟨⟨same_tr up z.rs.s, L0.rs.n, z.rs.ok⟩, z.tb, L0.nt⟩
theorem DueV.ext {H H' : Hp} {v : V} {o : Option (Nat × V)} (x : LamX.ExtN H H') (h : DueV H v o) : DueV H' v o := by
  cases o with
  | none => exact h
  | some p =>
    obtain ⟨l, e, hl⟩ := h
    exact ⟨l, e, x _ _ hl (fun ps z => by cases z)⟩
theorem ok_app {x y : Str} (h : PyData.strOk x = true) (k : PyData.strOk y = true) : PyData.strOk (x ++ y) = true := by
  have e : (x ++ y).cps = x.cps ++ y.cps := rfl
  unfold PyData.strOk at *
  rw [e, Array.all_append, h, k]
  rfl
/-- a pair of a text and an int -/
def prD (p : Str × Int) : PyData := .tuple [.str p.1, .int p.2]
def nmI (ts : List Tb) : List (Str × Int) := (named ts).map fun x => (x.1, (x.2 : Int))
theorem nm_prD (ts : List Tb) : (named ts).map nrD = (nmI ts).map prD := by
  unfold nmI
  rw [List.map_map]
  rfl
theorem noL_pr (p : Str × Int) : noL (prD p) = true := rfl
theorem eqv_pr (a b : Str × Int) : PyData.eqv (prD a) (prD b) = decide (a = b) := by
  obtain ⟨x, i⟩ := a
  obtain ⟨y, j⟩ := b
  unfold prD
  simp only [PyData.eqv, PyData.eqvAll, Bool.and_true]
  by_cases h1 : x = y
  · by_cases h2 : i = j
    · subst h1 h2
      simp
    · simp [h2]
  · simp [h1]
theorem any_pr (gs : List (Str × Int)) (a : Str × Int) : ((gs.map prD).any fun z => PyData.eqv z (prD a)) = decide (a ∈ gs) := by
  rw [List.any_map]
  induction gs with
  | nil => simp
  | cons g gs ih =>
    rw [List.any_cons, ih, Bool.eq_iff_iff]
    simp only [Function.comp_apply, eqv_pr, Bool.or_eq_true, decide_eq_true_eq, List.mem_cons]
    constructor
    · rintro (h | h)
      · exact .inl h.symm
      · exact .inr h
    · rintro (h | h)
      · exact .inl h.symm
      · exact .inr h
theorem perm_pr {N : List (Str × Int)} {es : List PyData} (h : List.Perm (N.map prD) es) : ∃ S : List (Str × Int), es = S.map prD ∧ N.Perm S := by
  let un : PyData → Str × Int := fun d => match d with
    | .tuple [.str x, .int y] => (x, y)
    | _ => (Str.empty, 0)
  refine ⟨es.map un, ?_, ?_⟩
  · rw [List.map_map]
    refine (List.map_id es).symm.trans (List.map_congr_left fun e he => ?_)
    obtain ⟨x, _, rfl⟩ := List.mem_map.mp (h.mem_iff.mpr he)
    rfl
  · have z := h.map un
    rw [List.map_map] at z
    have e : N.map (un ∘ prD) = N := (List.map_congr_left fun e _ => rfl).trans (List.map_id N)
    rw [e] at z
    exact z
theorem lay_pr {p : Str × Int} (h : PyData.strOk p.1 = true) : Lay (prD p) 1 := .tup (.cons (.str h) (.cons .int .nil))
theorem rdIn_iff {ts : List Tb} {p : Str × Int} : RdIn ts p.1 p.2 ↔ p ∈ nmI ts := by
  obtain ⟨x, n⟩ := p
  unfold RdIn nmI
  rw [List.mem_map]
  constructor
  · rintro ⟨tb, h1, h2, h3, h4⟩
    refine ⟨(x, n.toNat), mem_named.mpr ⟨tb, h1, h2, by omega⟩, ?_⟩
    show (x, ((n.toNat : Nat) : Int)) = (x, n)
    rw [Int.toNat_of_nonneg h3]
  · rintro ⟨⟨y, i⟩, h1, h2⟩
    cases h2
    obtain ⟨tb, a, b, c⟩ := mem_named.mp h1
    exact ⟨tb, a, b, by show (0 : Int) ≤ (i : Int); omega, by show (i : Int) < _; omega⟩
theorem filt_pr {GS : List (Str × Int)} {q : Str × Int → Bool} {n : Nat} (hn : n = GS.length) : filtD (fun i => q (GS.getD i (Str.empty, 0))) n (GS.map prD) = (GS.filter q).map prD := by
  have e1 : (List.range n).map (fun i => GS.getD i (Str.empty, 0)) = GS := by
    subst hn
    refine List.ext_getElem (by simp) fun i h1 h2 => ?_
    simp [List.getD_eq_getElem?_getD, h2]
  unfold filtD
  have e2 : ((List.range n).filter fun i => q (GS.getD i (Str.empty, 0))).map (fun i => (GS.map prD).getD i .none) = ((List.range n).filter fun i => q (GS.getD i (Str.empty, 0))).map fun i => prD (GS.getD i (Str.empty, 0)) := by
    refine List.map_congr_left fun i hi => ?_
    have lt := List.mem_range.mp (List.mem_filter.mp hi).1
    rw [hn] at lt
    simp [List.getD_eq_getElem?_getD, lt]
  rw [e2]
  have e3 := congrArg (fun l : List (Str × Int) => (l.filter q).map prD) e1
  simp only [List.filter_map, List.map_map] at e3
  exact e3
theorem lay_prs {GS : List (Str × Int)} (h : ∀ p ∈ GS, PyData.strOk p.1 = true) : Lay (.list (GS.map prD)) 2 := .list (.map fun p hp => lay_pr (h p hp))
def X5 (t0 : Str) : List Str := ["", "x", "A", t0 ++ "a", t0]
def spReadsR (K : PySem.W.Frag) (C : Addr) (TT : List (Addr × Str)) : Sp := fun vs H Q _ => ∃ (r s : Addr) (k : Nat) (B : Hp) (d m : Int) (ts : List Tb), vs = [.ref r, .ref s] ∧ LS TT r k B H ∧ SysAt K C B s d m ts ∧ Sys1 d m ts ∧ k ≤ 1000000 ∧
  ∀ H', LS TT r (k + 30) B H' → Q (.bl true) H'
theorem ok_readsR {f C : Addr} {fd : FuncData} {TT : List (Addr × Str)} (F : Fun K "_law_reads_right" "_law_reads_right" s_Lreads_right f fd) (T : Txt mg) (TC : TxtC K mg C) (c_Ldraw : C8.Cal P w K mg base 1 "_law_draw" spDraw []) (c_Lmixed : C8.Cal P w K mg base 2 "_law_mixed" (spMixed K) []) (p_names : Prp P w K mg base 1 C "names" (spNames K C))
    (t_reads : C8.Met P w K mg base 4 C "reads" (spReads K C) []) (t_all_reads : C8.Met P w K mg base 1 C "all_reads" (spAll K C) []) (c_Lraised : C8.Cal P w K mg base 9 "_law_raised" (spRaised5 K C TT) []) :
    FnOk P w K mg base CX0 10 f fd ["_law_rng_here", "_law_made"] (spReadsR K C TT) := by
  refine F.ok sc_Lreads_right (fun vs H Q E h => ?_) (fun cdv A outer sh H vs Q E hr h => ?_)
  · obtain ⟨r, s, k, B, d, m, ts, rfl, _⟩ := h
    rfl
  · obtain ⟨r, s, k, B, d, m, ts, rfl, L, S, O, hk, q⟩ := h
    refine ⟨_, (pss_cons (ps_asg (pe_tup (pa_cons (pe_pr (pv 1) p_names hr (by decide) rfl) (pa_cons (C8.pe_mt0 t_all_reads hr (by decide) (pv 1)) pa_nil))) (pg_tup rfl (pgs_cons (pg_name (i := 2) sc_Lreads_right.nd rfl (by first | exact Or.inl rfl | exact Or.inr rfl)) (pgs_cons (pg_name (i := 3) sc_Lreads_right.nd rfl (by first | exact Or.inl rfl | exact Or.inr rfl)) pgs_nil))))
  (pss_cons (ps_for PassesOwn.never rfl (pi_list (pe_lst (pa_cons pe_str (pa_cons pe_str (pa_cons pe_str (pa_cons (pe_op op_add_str (pe_ix ix_list (pv 2) pe_int (fun _ _ => rfl)) pe_str) (pa_cons (pe_ix ix_list (pv 2) pe_int (fun _ _ => rfl)) pa_nil))))))) (pg_name (i := 4) sc_Lreads_right.nd rfl (by first | exact Or.inl rfl | exact Or.inr rfl))
    (pss_cons (ps_set (i := 5) sc_Lreads_right.nd rfl (by first | exact Or.inl rfl | exact Or.inr rfl) (pe_csqE (pe_ifExp (pt_cmpR op_in_seq (pv 4) (pv 2) (by rfl)) pe_str (pe_tup (pa_cons pe_str (pa_cons (pv 4) pa_nil))))))
    (pss_one (ps_if (pt_cmpR (op_neD hr.units) (pe_lst (pa_cons (C8.pe_c c_Lraised hr (by decide) (by rfl) (pa_cons pe_int (pa_cons (pv 1) (pa_cons (pv 4) pa_nil)))) (pa_cons (C8.pe_c c_Lraised hr (by decide) (by rfl) (pa_cons pe_int (pa_cons (pv 1) (pa_cons (pv 4) pa_nil)))) pa_nil))) (pe_lst (pa_cons (pv 5) (pa_cons (pv 5) pa_nil))) (nomark _))
      (pss_one (ps_ret pe_bl))
      pss_nil))))
  (pss_cons (ps_set (i := 6) sc_Lreads_right.nd rfl (by first | exact Or.inl rfl | exact Or.inr rfl) (pe_op op_cat (pe_lst (pa_cons (pe_tup (pa_cons (pe_ix ix_list (pv 2) pe_int (fun _ _ => rfl)) (pa_cons (pe_callB call_len_seq (by rfl) T.b_len PySem.boot_len (pa_cons (C8.pe_mt t_reads hr (by decide) (pv 1) (pa_cons (pe_ix ix_list (pv 2) pe_int (fun _ _ => rfl)) pa_nil)) pa_nil)) pa_nil))) (pa_cons (pe_tup (pa_cons pe_str (pa_cons pe_int pa_nil))) (pa_cons (pe_tup (pa_cons (pe_ix ix_list (pv 2) (pe_un un_neg pe_int) (fun _ _ => rfl)) (pa_cons (pe_un un_neg pe_int) pa_nil))) (pa_cons (pe_tup (pa_cons (pe_ix ix_list (pv 2) pe_int (fun _ _ => rfl)) (pa_cons (pe_op op_pow pe_int pe_int) pa_nil))) pa_nil))))) (pe_slice sl_list (pv 3) po_none (po_some pe_int))))
  (pss_cons (ps_set (i := 7) sc_Lreads_right.nd rfl (by first | exact Or.inl rfl | exact Or.inr rfl) (C8.pe_c c_Lmixed hr (by decide) (by rfl) (pa_cons (pv 0) (pa_cons (pe_op op_cat (pe_slice sl_list (pv 3) po_none (po_some pe_int)) (pe_slice sl_list (pv 6) po_none (po_some (C8.pe_c c_Ldraw hr (by decide) (by rfl) (pa_cons (pv 0) (pa_cons pe_int pa_nil)))))) pa_nil))))
  (pss_cons (ps_setLc (i := 8) (own := [("_law_one", 9)]) (g := gName 9) (by rfl) sc_Lreads_right.nd rfl rfl (sw_true rfl rfl rfl (by decide +kernel)) (pi_list (pv 7)) (blkOk_by (N := ["_law_rng_here", "_law_made", "_law_words", "_law_some", "_law_word", "_law_due", "_law_odd", "_law_gone", "_law_wrong", "_law_one"]) (sc := defScope s_Lreads_right) (by decide +kernel)) (fun _ _ _ _ _ => (pg_name (i := 9) sc_Lreads_right.nd rfl (by first | exact Or.inl rfl | exact Or.inr rfl))) (fun _ _ _ _ _ => (pts_one (pt_cmpR (r := rNotInD K) (op_notInD hr.units1) (pv 9) (pv 3) (by rfl)))) (fun _ _ _ _ _ => (pv 9)))
  (pss_one (ps_ret (pe_cmpR (op_eqD hr.units) (C8.pe_c c_Lraised hr (by decide) (by rfl) (pa_cons pe_int (pa_cons (pv 1) (pa_cons (pv 7) pa_nil)))) (pe_ifExp (pt_cmpR (op_neD hr.units) (pv 8) (pe_lst pa_nil) (nomark _)) (pe_tup (pa_cons pe_str (pa_cons (pe_ix ix_list (pv 8) pe_int (fun _ _ => rfl)) pa_nil))) pe_str) (nomark _))))))))), ?_⟩
    obtain ⟨sdx, stt, skv, o1, _⟩ := id S.ob
    have l1 := O.l1
    have l6 := O.l6
    have few := O.ok.few
    -- words, some
    refine ⟨_, rfl, s, sdx, _, rfl, L.rs.s _ _ o1, s, d, m, ts, rfl, S.mono L.rs.s, fun wl H1 hwl s1 wat => ?_⟩
    have L1 := L.grow s1
    have rwl := L.rs.ne hwl
    refine ⟨_, rfl, s, sdx, _, rfl, L1.rs.s _ _ o1, no_fld (by decide +kernel), s, d, m, ts, rfl, S.mono L1.rs.s, O.ok.nodup, by omega, fun sl H2 hsl s2 sld => ⟨(by show 2 ≤ sizeLine; decide), fun tp htp => ?_⟩⟩
    have s3 := snew (o := .tup [.ref wl, .ref sl]) htp
    have L2' := (L1.grow s2).grow s3
    have rsl := L1.rs.ne hsl
    have wat2 : (upd H2 tp (.tup [.ref wl, .ref sl])) wl = some (.lst ((ts.map (·.n)).map V.str)) := by
      rw [List.map_map]
      exact s3 _ _ (s2 _ _ wat)
    have WB : bs (upd H2 tp (.tup [.ref wl, .ref sl])) r wl = some (.lst ((ts.map (·.n)).map V.str)) := bs_of wat2 rwl.symm (fun ps z => by cases z)
    have SL := (sld.grow s3).bs (noLs_map noL_nr _) L2'.rs.ok rsl
    have SB := S.mono L2'.up
    have oB := L2'.up _ _ o1
    have L3 := L2'.re
    have back : ∀ {k' : Nat} {H' : Hp}, LS TT r k' (bs (upd H2 tp (.tup [.ref wl, .ref sl])) r) H' → LS TT r k' B H' := fun z => L.down L2'.up z
    refine ⟨tp, _, rfl, Or.inl (Or.inl upd_same), rfl, _, _, rfl, _, _, rfl, rfl, ?_⟩
    generalize bs (upd H2 tp (.tup [.ref wl, .ref sl])) r = B3 at WB SL SB oB L3 back
    generalize upd H2 tp (.tup [.ref wl, .ref sl]) = H3 at L3 ⊢
    clear L1 L2' s1 s2 s3 wat wat2 sld hwl hsl htp
    obtain ⟨t0, ts', rfl⟩ : ∃ t0 ts', ts = t0 :: ts' := by
      cases ts with
      | nil => exact absurd l1 (by show ¬ 1 ≤ 0; decide)
      | cons a b => exact ⟨a, b, rfl⟩
    have w3 := L3.rs.s _ _ WB
    have hn0 := name_ok (O.ok.names t0 (List.mem_cons_self ..))
    have at0 : atI (((t0 :: ts').map (·.n)).map V.str) 0 = some (V.str t0.n) := atI_nat (j := 0) rfl
    refine ⟨_, rfl, wl, _, 0, _, rfl, rfl, Or.inl (Or.inl w3), at0, t0.n, "a", rfl, rfl, by
      have := hn0.2
      rw [sizeLine_eq]
      show t0.n.length + 1 ≤ _
      omega, ?_⟩
    refine ⟨_, rfl, wl, _, 0, _, rfl, rfl, Or.inl (Or.inl w3), at0, (by show 5 ≤ sizeLine; decide), fun l5 h5 => ?_⟩
    have ex : [V.str "", V.str "x", V.str "A", V.str (t0.n ++ "a"), V.str t0.n] = (X5 t0.n).map V.str := rfl
    rw [ex]
    have xok : ∀ x ∈ X5 t0.n, PyData.strOk x = true := fun x hx => by
      unfold X5 at hx
      simp only [List.mem_cons, List.not_mem_nil, or_false] at hx
      rcases hx with rfl | rfl | rfl | rfl | rfl
      · decide +kernel
      · decide +kernel
      · decide +kernel
      · exact ok_app hn0.1 (by decide +kernel)
      · exact hn0.1
    have L4 := L3.new (o := .lst ((X5 t0.n).map V.str)) h5
    have r5 := L3.rs.ne h5
    have at5 : (upd H3 l5 (.lst ((X5 t0.n).map V.str))) l5 = some (.lst ((X5 t0.n).map V.str)) := upd_same
    have B5 : bs (upd H3 l5 (.lst ((X5 t0.n).map V.str))) r l5 = some (.lst ((X5 t0.n).map V.str)) := bs_of at5 r5.symm (fun ps z => by cases z)
    have L5 := L4.re
    have up5 := L4.up
    generalize bs (upd H3 l5 (.lst ((X5 t0.n).map V.str))) r = Bq at B5 L5 up5
    generalize upd H3 l5 (.lst ((X5 t0.n).map V.str)) = H4 at L5 at5 ⊢
    clear L4 h5
    have WQ := up5 _ _ WB
    have SQ := SB.mono up5
    have oQ := up5 _ _ oB
    refine ⟨l5, rfl, ⟨_, Or.inl (Or.inl at5)⟩, for_it (walk_list (K := K) (a := l5) (xs := (X5 t0.n).map V.str)) (fun j σ H' => ∃ y4 y5, σ = [some (.ref r), some (.ref s), some (.ref wl), some (.ref sl), y4, y5, none, none, none, none] ∧ LS TT r k Bq H') ⟨none, none, rfl, L5⟩ (fun i σ H' _ ⟨_, _, _, z⟩ => Or.inl (Or.inl (z.rs.s _ _ B5))) ?_ ?_⟩
    · rintro j y σ _ Hj hj ⟨y4, y5, rfl, Lj⟩ ⟨rfl, hy⟩
      rw [List.getElem?_map] at hy
      obtain ⟨x, hx, rfl⟩ := Option.map_eq_some_iff.mp hy
      have hok := xok x (List.mem_of_getElem? hx)
      obtain ⟨o, ho⟩ : ∃ o : Option (Nat × PyData), o = if x ∈ (t0 :: ts').map (·.n) then none else some (3, .str x) := ⟨_, rfl⟩
      have olay : ∀ k d, o = some (k, d) → k < 12 ∧ Lay d 9 := fun k d e => by
        rw [ho] at e
        split at e
        · cases e
        · cases e
          exact ⟨by decide, .str hok⟩
      refine ⟨fun v H' => LS TT r k Bq H' ∧ Dp K H' v (dueD o), ?_, ?_⟩
      · rintro v H6 ⟨L6, D6⟩
        have hdue : ∃ due, Due K C H6 d m (t0 :: ts') 0 (.str x) due ∧ (∀ i, i = 0 ∨ i = 1 → ∀ H', Due K C H' d m (t0 :: ts') i (.str x) due) ∧ ∀ v H', DueV H' v due → Dp K H' v (dueD o) := by
          by_cases hm : x ∈ (t0 :: ts').map (·.n)
          · rw [if_pos hm] at ho
            exact ⟨none, .kon 0 x (.inl rfl) hm, fun i hi H' => .kon i x hi hm, fun v H' h => due_dp h (fun k y z => by cases z) fun _ => ho⟩
          · rw [if_neg hm] at ho
            refine ⟨_, .konX 0 x (.inl rfl) hm, fun i hi H' => .konX i x hi hm, fun v H' h => due_dp h (fun k y z => ?_) fun z => by cases z⟩
            cases z
            exact ⟨.str x, ho, .str _⟩
        obtain ⟨due, _, hdue, hdp⟩ := hdue
        refine ⟨_, rfl, _, rfl, 0, s, .str x, d, m, _, due, rfl, SQ.mono L6.rs.s, O, L6.tb, hdue 0 (.inl rfl) _, fun v0 H7 x7 t7 d7 => ?_⟩
        have L7 := L6.ext x7 t7
        refine ⟨_, rfl, _, rfl, 1, s, .str x, d, m, _, due, rfl, SQ.mono L7.rs.s, O, L7.tb, hdue 1 (.inr rfl) _, fun v1 H8 x8 t8 d8 => ?_⟩
        have L8 := L7.ext x8 t8
        have p0 := hdp _ _ (d7.ext x8)
        have p1 := hdp _ _ d8
        have pv := dpd (SD.ext x8) _ _ (dpd (SD.ext x7) _ _ D6)
        refine ⟨(by show 2 ≤ sizeLine; decide), fun a1 n1 => ⟨_, rfl, _, rfl, (by show 2 ≤ sizeLine; decide), fun a2 n2 => ?_⟩⟩
        have s9 := snew (o := .lst [v0, v1]) n1
        have s10 := snew (o := .lst [v, v]) n2
        have sh : SeqAt.shaped (.list [dueD o, dueD o]) = true := (Lay.list (k := 10) (.cons (lay_due olay) (.cons (lay_due olay) .nil))).shaped (by decide)
        refine ⟨.list [dueD o, dueD o], .list [dueD o, dueD o], .lst (Or.inl (Or.inl (s10 _ _ upd_same))) (.cons (dpm (same_tr s9 s10) _ _ p0) (.cons (dpm (same_tr s9 s10) _ _ p1) .nil)), .lst (Or.inl (Or.inl upd_same)) (.cons (dpm (same_tr s9 s10) _ _ pv) (.cons (dpm (same_tr s9 s10) _ _ pv) .nil)), sh, sh, _, rfl, ?_⟩
        rw [eqv_refl_due sh]
        exact iteF ⟨_, _, rfl, L8.grow (same_tr s9 s10)⟩
      · refine ⟨_, rfl, _, rfl, wl, _, rfl, Or.inl (Or.inl (Or.inl (Lj.rs.s _ _ WQ))), rfl, flat_strs _, ?_⟩
        by_cases hm : x ∈ (t0 :: ts').map (·.n)
        · rw [if_pos hm] at ho
          rw [inV_str hm, ho]
          exact ⟨_, rfl, iteT ⟨Lj, .str _⟩⟩
        · rw [if_neg hm] at ho
          rw [inV_no hm, ho]
          exact ⟨_, rfl, iteF ⟨_, rfl, (by show 2 ≤ sizeLine; decide), fun t ht => ⟨Lj.new ht, .tup (Or.inl (Or.inl upd_same)) (.cons (.str _) (.cons (.str _) .nil))⟩⟩⟩
    · rintro σ H5 ⟨y4, y5, rfl, L6⟩
      have B5' := L6.re
      have w6 := L6.rs.s _ _ WQ
      have hls : ∃ tl, (t0 :: ts').getLast? = some tl ∧ tl ∈ t0 :: ts' := by
        refine ⟨(t0 :: ts').getLast (by simp), by rw [List.getLast?_eq_some_getLast (by simp)], List.getLast_mem _⟩
      obtain ⟨tl, htl, htm⟩ := hls
      have atl : atI (((t0 :: ts').map (·.n)).map V.str) (-1) = some (V.str tl.n) := by
        rw [List.getLast?_eq_getElem?] at htl
        have e : ixN (((t0 :: ts').map (·.n)).map V.str).length (-1) = some ((t0 :: ts').length - 1) := by
          unfold ixN
          simp only [List.length_map, List.length_cons]
          rw [if_neg (by decide), if_pos (by omega)]
          exact congrArg some (by omega)
        unfold atI
        rw [e]
        show (((t0 :: ts').map (·.n)).map V.str)[(t0 :: ts').length - 1]? = _
        rw [List.getElem?_map, List.getElem?_map, htl]
        rfl
      refine ⟨_, rfl, wl, _, 0, _, rfl, rfl, Or.inl (Or.inl w6), at0, ?_⟩
      refine ⟨_, rfl, s, sdx, _, rfl, L6.rs.s _ _ oQ, no_fld (by decide +kernel), _, rfl, wl, _, 0, _, rfl, rfl, Or.inl (Or.inl w6), at0, H5, s, d, m, t0 :: ts', t0.n, t0, rfl, same_refl, SQ.mono L6.rs.s, List.mem_map.mpr ⟨t0, List.mem_cons_self .., rfl⟩, find_nodup' O.ok.nodup (List.mem_cons_self ..), fun l H7 ys hl s7 hl7 hys => ?_⟩
      have hyl : ys.length = t0.rs.length := by rw [dps_len hys, List.length_map]
      have L7 := L6.grow s7
      refine ⟨l, ys, rfl, Or.inl (Or.inl (Or.inl hl7)), (by show 2 ≤ sizeLine; decide), fun p1 n1 => ?_⟩
      rw [hyl]
      have L8 := L7.new (o := .tup [.str t0.n, .int (t0.rs.length : Nat)]) n1
      have P1 : (upd H7 p1 (.tup [.str t0.n, .int (t0.rs.length : Nat)])) p1 = some (.tup [.str t0.n, .int (t0.rs.length : Nat)]) := upd_same
      generalize upd H7 p1 (.tup [.str t0.n, .int (t0.rs.length : Nat)]) = H8 at L8 P1 ⊢
      refine ⟨(by show 2 ≤ sizeLine; decide), fun p2 n2 => ?_⟩
      have L9 := L8.new (o := .tup [.str "x", .int 0]) n2
      have s9 := snew (o := .tup [.str "x", .int 0]) n2
      have P2 : (upd H8 p2 (.tup [.str "x", .int 0])) p2 = some (.tup [.str "x", .int 0]) := upd_same
      have P1 := s9 _ _ P1
      generalize upd H8 p2 (.tup [.str "x", .int 0]) = H9 at L9 P1 P2 ⊢
      refine ⟨_, rfl, 1, rfl, wl, _, -1, _, rfl, rfl, Or.inl (Or.inl (L9.rs.s _ _ WQ)), atl, 1, rfl, (by show 2 ≤ sizeLine; decide), fun p3 n3 => ?_⟩
      have L10 := L9.new (o := .tup [.str tl.n, .int (-1)]) n3
      have s10 := snew (o := .tup [.str tl.n, .int (-1)]) n3
      have P3 : (upd H9 p3 (.tup [.str tl.n, .int (-1)])) p3 = some (.tup [.str tl.n, .int (-1)]) := upd_same
      have P1 := s10 _ _ P1
      have P2 := s10 _ _ P2
      generalize upd H9 p3 (.tup [.str tl.n, .int (-1)]) = H10 at L10 P1 P2 P3 ⊢
      refine ⟨_, rfl, wl, _, 0, _, rfl, rfl, Or.inl (Or.inl (L10.rs.s _ _ WQ)), at0, 10, 30, rfl, rfl, ⟨by decide, by decide, by decide⟩, (by show 2 ≤ sizeLine; decide), fun p4 n4 => ?_⟩
      have L11 := L10.new (o := .tup [.str t0.n, .int (10 ^ (30 : Int).toNat)]) n4
      have s11 := snew (o := .tup [.str t0.n, .int (10 ^ (30 : Int).toNat)]) n4
      have P4 : (upd H10 p4 (.tup [.str t0.n, .int (10 ^ (30 : Int).toNat)])) p4 = some (.tup [.str t0.n, .int (10 ^ (30 : Int).toNat)]) := upd_same
      have P1 := s11 _ _ P1
      have P2 := s11 _ _ P2
      have P3 := s11 _ _ P3
      generalize upd H10 p4 (.tup [.str t0.n, .int (10 ^ (30 : Int).toNat)]) = H11 at L11 P1 P2 P3 P4 ⊢
      refine ⟨(by show 4 ≤ sizeLine; decide), fun q1 m1 => ?_⟩
      have L12 := L11.new (o := .lst [.ref p1, .ref p2, .ref p3, .ref p4]) m1
      have s12 := snew (o := .lst [.ref p1, .ref p2, .ref p3, .ref p4]) m1
      obtain ⟨od, hod⟩ : ∃ od : List (Str × Int), od = [(t0.n, (t0.rs.length : Int)), ("x", 0), (tl.n, -1), (t0.n, 10 ^ (30 : Int).toNat)] := ⟨_, rfl⟩
      have D12 : DpAll K (upd H11 q1 (.lst [.ref p1, .ref p2, .ref p3, .ref p4])) [V.ref p1, .ref p2, .ref p3, .ref p4] (od.map prD) := by
        rw [hod]
        exact .cons (.tup (Or.inl (Or.inl (s12 _ _ P1))) (.cons (.str _) (.cons (.int _) .nil))) (.cons (.tup (Or.inl (Or.inl (s12 _ _ P2))) (.cons (.str _) (.cons (.int _) .nil))) (.cons (.tup (Or.inl (Or.inl (s12 _ _ P3))) (.cons (.str _) (.cons (.int _) .nil))) (.cons (.tup (Or.inl (Or.inl (s12 _ _ P4))) (.cons (.str _) (.cons (.int _) .nil))) .nil)))
      have Q12 : (upd H11 q1 (.lst [.ref p1, .ref p2, .ref p3, .ref p4])) q1 = some (.lst [.ref p1, .ref p2, .ref p3, .ref p4]) := upd_same
      generalize upd H11 q1 (.lst [.ref p1, .ref p2, .ref p3, .ref p4]) = H12 at L12 D12 Q12 ⊢
      obtain ⟨vs4, hvs4⟩ : ∃ vs4, vs4 = [V.ref p1, .ref p2, .ref p3, .ref p4] := ⟨_, rfl⟩
      rw [← hvs4] at D12 Q12
      have hv4 : vs4.length = 4 := by rw [hvs4]; rfl
      -- + some[:2]
      obtain ⟨sx, sat, sdp⟩ := id SL
      have sat12 := L12.rs.s _ _ (up5 _ _ sat)
      have sdp12 := dpsm (same_tr up5 L12.rs.s) _ _ sdp
      rw [nm_prD] at sdp12
      refine ⟨_, rfl, 2, rfl, sl, _, rfl, Or.inl (Or.inl sat12), fun u hu => ?_⟩
      rw [show cutV sx none (some (2 : Int)) = sx.take 2 from cut_any sx 2]
      have L13 := L12.new (o := .lst (sx.take 2)) hu
      have s13 := snew (o := .lst (sx.take 2)) hu
      have hsx : sx.length = (nmI (t0 :: ts')).length := by rw [dps_len sdp12, List.length_map]
      have hnl : (nmI (t0 :: ts')).length ≤ 12 := by
        unfold nmI
        rw [List.length_map, named_len]
        exact few
      refine ⟨q1, u, _, _, rfl, rfl, s13 _ _ Q12, upd_same, by rw [List.length_take, hv4, sizeLine_eq]; omega, fun ol hol => ?_⟩
      have s14 := snew (o := .lst (vs4 ++ sx.take 2)) hol
      have D14 := dps_app (dpsm (same_tr s13 s14) _ _ D12) (dps_take 2 (dpsm (same_tr s13 s14) _ _ sdp12))
      rw [← List.map_take, ← List.map_append] at D14
      have L14 := L13.new (o := .lst (vs4 ++ sx.take 2)) hol
      have rol := L13.rs.ne hol
      have O14 : LD K (upd (upd H12 u (.lst (sx.take 2))) ol (.lst (vs4 ++ sx.take 2))) ol ((od ++ (nmI (t0 :: ts')).take 2).map prD) := ⟨_, upd_same, D14⟩
      have OB := O14.bs (noLs_map noL_pr _) L14.rs.ok rol
      have L15 := L14.re
      have up6 := L14.up
      generalize bs (upd (upd H12 u (.lst (sx.take 2))) ol (.lst (vs4 ++ sx.take 2))) r = B6 at OB L15 up6
      generalize upd (upd H12 u (.lst (sx.take 2))) ol (.lst (vs4 ++ sx.take 2)) = H15 at L15 ⊢
      clear O14 L14 D14 s14 L13 s13 sdp12 sat12 D12 Q12 L12 P1 P2 P3 P4 L11 L10 L9 L8 L7
      have bounds : ∀ p ∈ od ++ (nmI (t0 :: ts')).take 2, PyData.strOk p.1 = true := fun p hp => by
        rcases List.mem_append.mp hp with h | h
        · rw [hod] at h
          simp only [List.mem_cons, List.not_mem_nil, or_false] at h
          rcases h with rfl | rfl | rfl | rfl
          · exact hn0.1
          · exact (show PyData.strOk "x" = true by decide +kernel)
          · exact (name_ok (O.ok.names tl htm)).1
          · exact hn0.1
        · have := List.mem_of_mem_take h
          unfold nmI at this
          obtain ⟨⟨x, i⟩, h1, rfl⟩ := List.mem_map.mp this
          obtain ⟨tb, a, b, _⟩ := mem_named.mp h1
          show PyData.strOk x = true
          rw [← b]
          exact (name_ok (O.ok.names tb a)).1
      have nbounds : ∀ p ∈ nmI (t0 :: ts'), PyData.strOk p.1 = true := fun p hp => by
        unfold nmI at hp
        obtain ⟨⟨x, i⟩, h1, rfl⟩ := List.mem_map.mp hp
        obtain ⟨tb, a, b, _⟩ := mem_named.mp h1
        show PyData.strOk x = true
        rw [← b]
        exact (name_ok (O.ok.names tb a)).1
      have odl : (od ++ (nmI (t0 :: ts')).take 2).length ≤ 6 := by
        rw [List.length_append, hod, List.length_take]
        show 4 + _ ≤ 6
        omega
      generalize od ++ (nmI (t0 :: ts')).take 2 = OD at OB bounds odl
      obtain ⟨ox, oat, odp⟩ := id OB
      have sB6 : LD K B6 sl ((nmI (t0 :: ts')).map prD) := ⟨sx, up6 _ _ (up5 _ _ sat), by rw [← nm_prD]; exact dpsm (same_tr up5 up6) _ _ sdp⟩
      obtain ⟨sx', sat', sdp'⟩ := id sB6
      -- gone
      refine ⟨_, rfl, _, rfl, 3, rfl, sl, _, rfl, Or.inl (Or.inl (L15.rs.s _ _ sat')), fun u1 hu1 => ?_⟩
      rw [show cutV sx' none (some (3 : Int)) = sx'.take 3 from cut_any sx' 3]
      have L16 := L15.new (o := .lst (sx'.take 3)) hu1
      have ru1 := L15.rs.ne hu1
      have U1 : (upd H15 u1 (.lst (sx'.take 3))) u1 = some (.lst (sx'.take 3)) := upd_same
      generalize upd H15 u1 (.lst (sx'.take 3)) = H16 at L16 U1 ⊢
      refine ⟨_, rfl, _, rfl, r, 7, _, rfl, L16.rs.ok, by omega, by decide, by decide, fun k7 H17 k70 k71 D7 => ?_⟩
      have L17 := L16.dr D7
      have U17 : H17 u1 = some (.lst (sx'.take 3)) := by rw [D7.ne _ ru1.symm]; exact U1
      refine ⟨k7, rfl, ol, _, rfl, Or.inl (Or.inl (L17.rs.s _ _ oat)), fun u2 hu2 => ?_⟩
      obtain ⟨n7, rfl⟩ : ∃ n : Nat, k7 = (n : Int) := ⟨k7.toNat, by omega⟩
      rw [cut_any ox n7]
      have s18 := snew (o := .lst (ox.take n7)) hu2
      have L18 := L17.new (o := .lst (ox.take n7)) hu2
      have hsl3 : sx'.length = (nmI (t0 :: ts')).length := by rw [dps_len sdp', List.length_map]
      have hox : ox.length = OD.length := by rw [dps_len odp, List.length_map]
      refine ⟨u1, u2, _, _, rfl, rfl, s18 _ _ U17, upd_same, by rw [List.length_take, List.length_take, sizeLine_eq]; omega, fun cl hcl => ?_⟩
      have L19 := L18.new (o := .lst (sx'.take 3 ++ ox.take n7)) hcl
      have rcl := L18.rs.ne hcl
      have upc := L19.rs.s
      have d19 := dps_app (dps_take 3 (dpsm upc _ _ sdp')) (dps_take n7 (dpsm upc _ _ odp))
      rw [← List.map_take, ← List.map_take, ← List.map_append] at d19
      have C19 : LD K (upd (upd H17 u2 (.lst (ox.take n7))) cl (.lst (sx'.take 3 ++ ox.take n7))) cl (((nmI (t0 :: ts')).take 3 ++ OD.take n7).map prD) := ⟨_, upd_same, d19⟩
      generalize upd (upd H17 u2 (.lst (ox.take n7))) cl (.lst (sx'.take 3 ++ ox.take n7)) = H19 at L19 C19 ⊢
      have gb : ∀ p ∈ (nmI (t0 :: ts')).take 3 ++ OD.take n7, PyData.strOk p.1 = true := fun p hp => by
        rcases List.mem_append.mp hp with h | h
        · exact nbounds p (List.mem_of_mem_take h)
        · exact bounds p (List.mem_of_mem_take h)
      have gl : ((nmI (t0 :: ts')).take 3 ++ OD.take n7).length ≤ 9 := by
        rw [List.length_append, List.length_take, List.length_take]
        omega
      generalize (nmI (t0 :: ts')).take 3 ++ OD.take n7 = G0 at C19 gb gl
      obtain ⟨cx, cat, cdp⟩ := id C19
      have cutc : SqL K (cutr H19 r) cl cx := Or.inl (Or.inl (by rw [cutr_ne rcl.symm]; exact cat))
      refine ⟨r, cl, _, cutr H19 r, cx, G0.map prD, rfl, RS.cut L19.rs.ok, cutc, dpst (ST.cut L19.rs.ok) _ _ (noLs_map noL_pr _) cdp, ?_, by rw [List.length_map]; omega, by omega, fun gp H20 gx es b1 rn1 perm1 dd1 R1 => ?_⟩
      · intro e he
        obtain ⟨p, hp, rfl⟩ := List.mem_map.mp he
        have z := lay_pr (gb p hp)
        exact ⟨z.lay, Nat.le_trans z.dep (by decide)⟩
      obtain ⟨GS, rfl, hGS⟩ := perm_pr perm1
      have L20 := (L19.call R1 (snew b1)).mono (m' := k + 30) (by rw [List.length_map]; omega)
      have gat := R1.s _ _ upd_same
      have gdp := dpsm (same_tr (snew b1) R1.s) _ _ dd1
      have GB : ∀ p ∈ GS, PyData.strOk p.1 = true := fun p hp => gb p (hGS.mem_iff.mpr hp)
      have gxl : gx.length = GS.length := by rw [dps_len gdp, List.length_map]
      have gsl : GS.length ≤ 9 := by rw [← hGS.length_eq]; exact gl
      have N20 : Dp K H20 (.ref sl) (.list ((nmI (t0 :: ts')).map prD)) := .lst (Or.inl (Or.inl (L20.rs.s _ _ sat'))) (dpsm L20.rs.s _ _ sdp')
      have oq : ∀ {H' : Hp} {n : Nat}, LS TT r n B6 H' → H' s = some (.ins C sdx (flds d m stt)) := fun z => z.rs.s _ _ (up6 _ _ oQ)
      have S20 : ∀ {H' : Hp} {n : Nat}, LS TT r n B6 H' → SysAt K C H' s d m (t0 :: ts') := fun z => (SQ.mono up6).mono z.rs.s
      have fin : ∀ {H' : Hp}, LS TT r (k + 30) B6 H' → Q (.bl true) H' := fun z => q _ (back (L3.down up5 (L5.down up6 z)))
      clear dd1 R1 cdp cat C19 L19 L18 L17 L16 U1 U17 D7
      -- wrong
      refine ⟨_, rfl, gp, rfl, ⟨gx, Or.inl (Or.inl gat)⟩, fun D hD => lc_filt (K := K) (walk_list (K := K) (a := gp) (xs := gx)) (fun i => !decide (GS.getD i (Str.empty, 0) ∈ nmI (t0 :: ts'))) gdp rfl (by omega) hD (fun H' sm => Or.inl (Or.inl (sm _ _ gat))) (fun i H1 y H2 h => by obtain ⟨rfl, z⟩ := h; exact ⟨rfl, z⟩) ?_ ?_⟩
      · intro i y H1 hy s1 R N hR hN
        obtain ⟨dd, e1, e2⟩ := dps_get gdp hy
        rw [List.getElem?_map] at e1
        obtain ⟨p, hp, rfl⟩ := Option.map_eq_some_iff.mp e1
        have ep : GS.getD i (Str.empty, 0) = p := by rw [List.getD_eq_getElem?_getD, hp]; rfl
        rw [ep] at hR hN
        refine ⟨rfl, _, rfl, _, rfl, prD p, (nmI (t0 :: ts')).map prD, dpm s1 _ _ e2, dpm s1 _ _ N20, (lay_pr (GB p (List.mem_of_getElem? hp))).shaped (by decide), (lay_prs nbounds).shaped (by decide), _, rfl, ?_⟩
        rw [any_pr]
        exact ite2 (fun h => ⟨_, rfl, hR h H1 same_refl⟩) (fun h => hN (by simpa using h) H1 same_refl)
      · intro H21 bs s21 D21 d21
        rw [filt_pr (q := fun p => !decide (p ∈ nmI (t0 :: ts'))) gxl] at d21
        have L21 := L20.grow s21
        have g21 := s21 _ _ gat
        have gd21 := dpsm s21 _ _ gdp
        have d22 := dpsm s21 _ _ d21
        clear d21
        cases hf : GS.find? (fun p => !decide (p ∈ nmI (t0 :: ts'))) with
        | none =>
          have hall : ∀ p ∈ GS, p ∈ nmI (t0 :: ts') := fun p hp => by
            have z := List.find?_eq_none.mp hf p hp
            simpa using z
          have hfe : GS.filter (fun p => !decide (p ∈ nmI (t0 :: ts'))) = [] := List.filter_eq_nil_iff.mpr fun p hp => by simpa using hall p hp
          rw [hfe] at d22
          have hgs : GS.map prD = (GS.map fun p => (p.1, p.2.toNat)).map nrD := by
            rw [List.map_map]
            refine List.map_congr_left fun p hp => ?_
            obtain ⟨⟨x, i⟩, _, rfl⟩ := List.mem_map.mp (hall p hp)
            rfl
          refine ⟨_, rfl, _, rfl, 2, s, .ref gp, d, m, _, none, rfl, S20 L21, O, L21.tb, .wo gp (GS.map fun p => (p.1, p.2.toNat)) (by rw [← hgs]; exact .lst (Or.inl (Or.inl g21)) gd21) (fun x hx => ?_), fun v0 H22 x22 t22 e22 => ?_⟩
          · obtain ⟨p, hp, rfl⟩ := List.mem_map.mp hx
            obtain ⟨⟨x, i⟩, h1, rfl⟩ := List.mem_map.mp (hall p hp)
            exact h1
          have L22 := L21.ext x22 t22
          rw [show v0 = V.str "fine" from e22]
          have D22 := x22 _ _ D21 (fun ps z => by cases z)
          refine ⟨_, rfl, (by show 0 ≤ sizeLine; decide), fun l0 hl0 => ⟨.list [], .list [], .lst (Or.inl (Or.inl (snew hl0 _ _ D22))) (by cases d22; exact .nil), .lst (Or.inl (Or.inl upd_same)) .nil, by decide, by decide, _, rfl, iteF ?_⟩⟩
          have shf : SeqAt.shaped (PyData.str "fine") = true := (Lay.str (k := 0) (by decide +kernel)).shaped (by decide)
          refine ⟨.str "fine", .str "fine", .str _, .str _, shf, shf, ?_⟩
          rw [eqv_refl_due shf]
          exact fin (L22.new hl0)
        | some p =>
          obtain ⟨j, hj, hp, hbef⟩ := at_find hf
          have hpm := List.mem_of_getElem? hj
          have hh := List.head?_filter (p := fun p => !decide (p ∈ nmI (t0 :: ts'))) (l := GS)
          rw [hf] at hh
          obtain ⟨rest, hfe⟩ : ∃ rest, GS.filter (fun p => !decide (p ∈ nmI (t0 :: ts'))) = p :: rest := by
            cases e : GS.filter (fun p => !decide (p ∈ nmI (t0 :: ts'))) with
            | nil => rw [e] at hh; cases hh
            | cons a b => rw [e] at hh; cases hh; exact ⟨b, rfl⟩
          rw [hfe] at d22
          obtain ⟨v, hv, dv⟩ := dps_get' gd21 (by rw [List.getElem?_map, hj]; rfl : (GS.map prD)[j]? = some (prD p))
          refine ⟨_, rfl, _, rfl, 2, s, .ref gp, d, m, _, some (5, v), rfl, S20 L21, O, L21.tb, .woX gp gx GS j v p g21 gd21 (by omega) hv hj (fun z => ?_) (fun i q hi hq => ?_), fun v0 H22 x22 t22 e22 => ?_⟩
          · rw [decide_eq_true (rdIn_iff.mp z)] at hp
            cases hp
          · have z := hbef i q hi hq
            exact rdIn_iff.mpr (by simpa using z)
          have L22 := L21.ext x22 t22
          have D22 := x22 _ _ D21 (fun ps z => by cases z)
          cases d22 with
          | cons dh dt =>
          rename_i b0 bs'
          have e22' := due_dp (o := some (5, prD p)) e22 (fun k y z => by cases z; exact ⟨prD p, rfl, dpd (SD.ext x22) _ _ dv⟩) (fun z => by cases z)
          have restok : ∀ x ∈ p :: rest, PyData.strOk x.1 = true := fun x hx => GB x (by
            rw [← hfe] at hx
            exact (List.mem_filter.mp hx).1)
          refine ⟨_, rfl, (by show 0 ≤ sizeLine; decide), fun l0 hl0 => ?_⟩
          have s23 := snew (o := .lst []) hl0
          have dd22 : DpAll K H22 (b0 :: bs') ((p :: rest).map prD) := dpsd (SD.ext x22) _ _ (.cons dh dt)
          refine ⟨.list ((p :: rest).map prD), .list [], .lst (Or.inl (Or.inl (s23 _ _ D22))) (dpsm s23 _ _ dd22), .lst (Or.inl (Or.inl upd_same)) .nil, (lay_prs restok).shaped (by decide), by decide, _, rfl, ?_⟩
          rw [eqv_nil]
          refine iteT ⟨_, rfl, D, _, 0, b0, rfl, rfl, Or.inl (Or.inl (s23 _ _ D22)), atI_nat (j := 0) rfl, (by show 2 ≤ sizeLine; decide), fun tq htq => ?_⟩
          have s24 := snew (o := .tup [.str "read", b0]) htq
          have hd0 : Dp K H22 b0 (prD p) := by
            cases dd22 with
            | cons a _ => exact a
          have shd : SeqAt.shaped (dueD (some (5, prD p))) = true := (lay_due fun k d z => by cases z; exact ⟨by decide, ⟨(lay_pr (GB p hpm)).lay, Nat.le_trans (lay_pr (GB p hpm)).dep (by decide)⟩⟩).shaped (by decide)
          have w5 : wordC 5 = "read" := by decide +kernel
          refine ⟨dueD (some (5, prD p)), dueD (some (5, prD p)), dpm (same_tr s23 s24) _ _ e22', ?_, shd, shd, ?_⟩
          · show Dp K _ _ (.tuple [.str (wordC 5), prD p])
            rw [w5]
            exact .tup (Or.inl (Or.inl upd_same)) (.cons (.str _) (.cons (dpm (same_tr s23 s24) _ _ hd0) .nil))
          rw [eqv_refl_due shd]
          exact fin ((L22.new hl0).new htq)
end
end Fr

namespace Fr
open PySem PySem.Spec PyProof.Rows L2
abbrev s_Lbeside_right : Stmt := topS 40
theorem sc_Lbeside_right : FnScope ["_law_rng_here", "_law_made", "_law_free", "_law_words", "_law_others", "_law_second", "_law_word", "_law_common"] ["_law_rng_here", "_law_made"] (defScope s_Lbeside_right) := ⟨rfl, rfl, rfl, by decide +kernel, rfl, by decide +kernel, by decide +kernel⟩
-- slots: 0 _law_rng_here, 1 _law_made, 2 _law_free, 3 _law_words, 4 _law_others, 5 _law_second, 6 _law_word, 7 _law_common
theorem perm_strs {N : List Str} {es : List PyData} (h : List.Perm (N.map PyData.str) es) : ∃ S : List Str, es = S.map PyData.str ∧ N.Perm S := by
  let un : PyData → Str := fun d => match d with
    | .str x => x
    | _ => Str.empty
  refine ⟨es.map un, ?_, ?_⟩
  · rw [List.map_map]
    refine (List.map_id es).symm.trans (List.map_congr_left fun e he => ?_)
    obtain ⟨x, _, rfl⟩ := List.mem_map.mp (h.mem_iff.mpr he)
    rfl
  · have z := h.map un
    rw [List.map_map] at z
    have e : N.map (un ∘ PyData.str) = N := (List.map_congr_left fun e _ => rfl).trans (List.map_id N)
    rw [e] at z
    exact z
theorem good_names {N : List Str} (h : ∀ x ∈ N, isName x = true) : ∀ d ∈ N.map PyData.str, Good d := fun d hd => by
  obtain ⟨x, hx, rfl⟩ := List.mem_map.mp hd
  exact ⟨by simpa [PyData.canLay0] using (name_ok (h x hx)).1, by simp [PyData.depth]⟩
def FREE : List Str := ["m", "n", "o"]
theorem FREE_facts : FREE.Nodup ∧ ∀ x ∈ FREE, isName x = true := by decide +kernel
/-- the bare table -/
def bareT (x : Str) : Tb := ⟨x, 0, []⟩
theorem filt_str {GS : List Str} {q : Str → Bool} {n : Nat} (hn : n = GS.length) : filtD (fun i => q (GS.getD i Str.empty)) n (GS.map PyData.str) = (GS.filter q).map PyData.str := by
  have e1 : (List.range n).map (fun i => GS.getD i Str.empty) = GS := by
    subst hn
    refine List.ext_getElem (by simp) fun i h1 h2 => ?_
    simp [List.getD_eq_getElem?_getD, h2]
  unfold filtD
  have e2 : ((List.range n).filter fun i => q (GS.getD i Str.empty)).map (fun i => (GS.map PyData.str).getD i .none) = ((List.range n).filter fun i => q (GS.getD i Str.empty)).map fun i => PyData.str (GS.getD i Str.empty) := by
    refine List.map_congr_left fun i hi => ?_
    have lt := List.mem_range.mp (List.mem_filter.mp hi).1
    rw [hn] at lt
    simp [List.getD_eq_getElem?_getD, lt]
  rw [e2]
  have e3 := congrArg (fun l : List Str => (l.filter q).map PyData.str) e1
  simp only [List.filter_map, List.map_map] at e3
  exact e3
theorem bare_names (G : List Str) : (G.map bareT).map (·.n) = G := by
  rw [List.map_map]
  exact List.map_id G
theorem bareT_ok {G : List Str} {d : Int} (h : ∀ x ∈ G, isName x = true) (n : G.Nodup) : OkT d (G.map bareT) := by
  refine ⟨fun t ht => ?_, by rw [bare_names]; exact n, ?_, fun t ht r hr => ?_, fun t ht r hr => ?_⟩
  · obtain ⟨x, hx, rfl⟩ := List.mem_map.mp ht
    exact h x hx
  · have e : (G.map bareT).map (fun t => t.rs.length) = G.map fun _ => 0 := by
      rw [List.map_map]
      rfl
    rw [e]
    have z : ∀ G : List Str, (G.map fun _ => 0).sum = 0 := fun G => by
      induction G with
      | nil => rfl
      | cons a b ih => rw [List.map_cons, List.sum_cons, ih]
    rw [z]
    decide
  · obtain ⟨x, hx, rfl⟩ := List.mem_map.mp ht
    cases hr
  · obtain ⟨x, hx, rfl⟩ := List.mem_map.mp ht
    cases hr
section
variable {P : Program} {w : World} {K : PySem.W.Frag} {mg : Str → Option Value} {base : Heap}
def spBesR (K : PySem.W.Frag) (C : Addr) (TT : List (Addr × Str)) : Sp := fun vs H Q _ => ∃ (r s : Addr) (k : Nat) (B : Hp) (d m : Int) (ts : List Tb), vs = [.ref r, .ref s] ∧ LS TT r k B H ∧ SysAt K C B s d m (srt ts) ∧ Sys1 d m ts ∧ (∀ t ∈ ts, t.n ∉ FREE) ∧ k ≤ 1000000 ∧
  ∀ H', LS TT r (k + 30) B H' → Q (.bl true) H'
theorem ok_besR {f C : Addr} {fd : FuncData} {TT : List (Addr × Str)} (F : Fun K "_law_beside_right" "_law_beside_right" s_Lbeside_right f fd) (T : Txt mg) (TC : TxtC K mg C) (c_Ldraw : C8.Cal P w K mg base 1 "_law_draw" spDraw []) (c_Lmixed : C8.Cal P w K mg base 2 "_law_mixed" (spMixed K) []) (p_names : Prp P w K mg base 1 C "names" (spNames K C))
    (p_dimensions : Prp P w K mg base 1 C "dimensions" (spDims K C)) (p_modulus : Prp P w K mg base 1 C "modulus" (spMod K C)) (m_System3 : C8.Mak P w K mg base 5 "System" C (spInit K C TT) []) (c_Lraised : C8.Cal P w K mg base 9 "_law_raised" (spRaised5 K C TT) []) :
    FnOk P w K mg base CX0 10 f fd ["_law_rng_here", "_law_made"] (spBesR K C TT) := by
  refine F.ok sc_Lbeside_right (fun vs H Q E h => ?_) (fun cdv A outer sh H vs Q E hr h => ?_)
  · obtain ⟨r, s, k, B, d, m, ts, rfl, _⟩ := h
    rfl
  · obtain ⟨r, s, k, B, d, m, ts, rfl, L, S, O, hfree, hk, q⟩ := h
    refine ⟨_, (pss_cons (ps_asg (pe_tup (pa_cons (pe_lst (pa_cons pe_str (pa_cons pe_str (pa_cons pe_str pa_nil)))) (pa_cons (pe_pr (pv 1) p_names hr (by decide) rfl) pa_nil))) (pg_tup rfl (pgs_cons (pg_name (i := 2) sc_Lbeside_right.nd rfl (by first | exact Or.inl rfl | exact Or.inr rfl)) (pgs_cons (pg_name (i := 3) sc_Lbeside_right.nd rfl (by first | exact Or.inl rfl | exact Or.inr rfl)) pgs_nil))))
  (pss_cons (ps_set (i := 4) sc_Lbeside_right.nd rfl (by first | exact Or.inl rfl | exact Or.inr rfl) (C8.pe_c c_Lmixed hr (by decide) (by rfl) (pa_cons (pv 0) (pa_cons (pe_op op_cat (pe_slice sl_list (pv 2) po_none (po_some (pe_op op_add pe_int (C8.pe_c c_Ldraw hr (by decide) (by rfl) (pa_cons (pv 0) (pa_cons pe_int pa_nil)))))) (pe_slice sl_list (C8.pe_c c_Lmixed hr (by decide) (by rfl) (pa_cons (pv 0) (pa_cons (pv 3) pa_nil))) po_none (po_some (C8.pe_c c_Ldraw hr (by decide) (by rfl) (pa_cons (pv 0) (pa_cons pe_int pa_nil)))))) pa_nil))))
  (pss_cons (ps_set (i := 5) sc_Lbeside_right.nd rfl (by first | exact Or.inl rfl | exact Or.inr rfl) (C8.pe_mk m_System3 hr (by decide) (by rfl) (pa_cons (pe_pr (pv 1) p_dimensions hr (by decide) rfl) (pa_cons (pe_lc (own := [("_law_word", 6)]) (g := gName 6) (tt := tYes) (by rfl) sc_Lbeside_right.nd (pi_list (pv 4)) (blkOk_by (N := ["_law_rng_here", "_law_made", "_law_free", "_law_words", "_law_others", "_law_second", "_law_word", "_law_common"]) (sc := defScope s_Lbeside_right) (by decide +kernel)) (fun _ _ _ _ _ => (pg_name (i := 6) sc_Lbeside_right.nd rfl (by first | exact Or.inl rfl | exact Or.inr rfl))) (fun _ _ _ _ _ => pts_nil) (fun _ _ _ _ _ => (pe_tup (pa_cons (pv 6) (pa_cons pe_int (pa_cons (pe_lst pa_nil) pa_nil)))))) (pa_cons (pe_pr (pv 1) p_modulus hr (by decide) rfl) pa_nil)))))
  (pss_cons (ps_set (i := 7) sc_Lbeside_right.nd rfl (by first | exact Or.inl rfl | exact Or.inr rfl) (pe_callB cr_sortedS (by rfl) T.b_sorted (by decide +kernel) (pa_cons (pe_lc (own := [("_law_word", 6)]) (g := gName 6) (by rfl) sc_Lbeside_right.nd (pi_list (pv 4)) (blkOk_by (N := ["_law_rng_here", "_law_made", "_law_free", "_law_words", "_law_others", "_law_second", "_law_word", "_law_common"]) (sc := defScope s_Lbeside_right) (by decide +kernel)) (fun _ _ _ _ _ => (pg_name (i := 6) sc_Lbeside_right.nd rfl (by first | exact Or.inl rfl | exact Or.inr rfl))) (fun _ _ _ _ _ => (pts_one (pt_cmpR (r := rIn K false) op_in_seq (pv 6) (pv 3) (by rfl)))) (fun _ _ _ _ _ => (pv 6))) pa_nil)))
  (pss_cons (ps_if (pt_cmpR op_gt (pe_op op_add (pe_callB call_len_seq (by rfl) T.b_len PySem.boot_len (pa_cons (pv 3) pa_nil)) (pe_callB call_len_seq (by rfl) T.b_len PySem.boot_len (pa_cons (pv 4) pa_nil))) pe_int (nomark _))
    (pss_one (ps_ret pe_bl))
    pss_nil)
  (pss_one (ps_ret (pe_cmpR (op_eqD hr.units) (C8.pe_c c_Lraised hr (by decide) (by rfl) (pa_cons pe_int (pa_cons (pv 1) (pa_cons (pv 5) pa_nil)))) (pe_ifExp (pt_cmpR (op_neD hr.units) (pv 7) (pe_lst pa_nil) (nomark _)) (pe_tup (pa_cons pe_str (pa_cons (pe_ix ix_list (pv 7) pe_int (fun _ _ => rfl)) pa_nil))) pe_str) (nomark _))))))))), ?_⟩
    obtain ⟨sdx, stt, skv, o1, _⟩ := id S.ob
    have l1 := O.l1
    have l6 := O.l6
    have Os := O.srt
    have srl : (srt ts).length = ts.length := List.length_mergeSort _
    obtain ⟨N, hN⟩ : ∃ N, N = (srt ts).map (·.n) := ⟨_, rfl⟩
    have Nl : N.length = ts.length := by rw [hN, List.length_map, srl]
    have Nnm : ∀ x ∈ N, isName x = true := fun x hx => by
      rw [hN] at hx
      obtain ⟨t, ht, rfl⟩ := List.mem_map.mp hx
      exact Os.ok.names t ht
    have Nnd : N.Nodup := by rw [hN]; exact Os.ok.nodup
    have Nfr : ∀ x ∈ N, x ∉ FREE := fun x hx => by
      rw [hN] at hx
      obtain ⟨t, ht, rfl⟩ := List.mem_map.mp hx
      exact hfree t ((srt_perm ts).mem_iff.mp ht)
    have Npw : N.Pairwise fun a b => a.cps.toList ≤ b.cps.toList := by rw [hN]; exact srt_pw ts
    -- free, words
    refine ⟨(by show 3 ≤ sizeLine; decide), fun fl hfl => ?_⟩
    have L1 := L.new (o := .lst [.str "m", .str "n", .str "o"]) hfl
    have rfl1 := L.rs.ne hfl
    have fat : (upd H fl (.lst [.str "m", .str "n", .str "o"])) fl = some (.lst (FREE.map V.str)) := upd_same
    generalize upd H fl (.lst [.str "m", .str "n", .str "o"]) = H1 at L1 fat ⊢
    refine ⟨_, rfl, s, sdx, _, rfl, L1.rs.s _ _ o1, s, d, m, srt ts, rfl, S.mono L1.rs.s, fun wl H2 hwl s2 wat => ⟨(by show 2 ≤ sizeLine; decide), fun tp htp => ?_⟩⟩
    have wat : H2 wl = some (.lst (N.map V.str)) := by rw [hN, List.map_map]; exact wat
    have s3 := snew (o := .tup [.ref fl, .ref wl]) htp
    have L2' := (L1.grow s2).grow s3
    have rwl := L1.rs.ne hwl
    have WB := bs_of (r := r) (s3 _ _ wat) rwl.symm (fun ps z => by cases z)
    have FB := bs_of (r := r) (s3 _ _ (s2 _ _ fat)) rfl1.symm (fun ps z => by cases z)
    refine ⟨tp, _, rfl, Or.inl (Or.inl upd_same), rfl, _, _, rfl, _, _, rfl, rfl, ?_⟩
    have L3 := L2'.re
    have up3 := L2'.up
    generalize bs (upd H2 tp (.tup [.ref fl, .ref wl])) r = B3 at WB FB L3 up3
    generalize upd H2 tp (.tup [.ref fl, .ref wl]) = H3 at L3 ⊢
    clear L1 L2' s2 s3 wat fat hwl hfl htp
    -- others
    refine ⟨_, rfl, _, rfl, _, rfl, r, 2, _, rfl, L3.rs.ok, by omega, by decide, by decide, fun k1 H4 k10 k11 D4 => ⟨_, _, rfl, rfl, ?_⟩⟩
    have L4 := L3.dr D4
    obtain ⟨n1, hn1⟩ : ∃ n : Nat, 1 + k1 = (n : Int) := ⟨(1 + k1).toNat, by omega⟩
    refine ⟨1 + k1, rfl, fl, _, rfl, Or.inl (Or.inl (L4.rs.s _ _ FB)), fun u1 hu1 => ?_⟩
    rw [hn1, cut_any, ← List.map_take]
    have L5 := L4.new (o := .lst ((FREE.take n1).map V.str)) hu1
    have ru1 := L4.rs.ne hu1
    have U5 : (upd H4 u1 (.lst ((FREE.take n1).map V.str))) u1 = some (.lst ((FREE.take n1).map V.str)) := upd_same
    have UB := bs_of (r := r) U5 ru1.symm (fun ps z => by cases z)
    have up5 := L5.up
    have L5 := L5.re
    generalize bs (upd H4 u1 (.lst ((FREE.take n1).map V.str))) r = B5 at UB L5 up5
    generalize upd H4 u1 (.lst ((FREE.take n1).map V.str)) = H5 at L5 ⊢
    clear L4 U5 D4
    have W5 := up5 _ _ WB
    refine ⟨_, rfl, _, rfl, r, wl, _, cutr H5 r, _, N.map .str, rfl, RS.cut L5.rs.ok, Or.inl (Or.inl (by rw [cutr_ne rwl.symm]; exact L5.rs.s _ _ W5)), strs_dps _, good_names Nnm, by rw [List.length_map]; omega, by omega, fun p2 H6 ys2 es2 b2 rn2 perm2 dd2 R2 => ?_⟩
    obtain ⟨S0, rfl, hS0⟩ := perm_strs perm2
    obtain rfl := dps_strs dd2
    have L6 := (L5.call R2 (snew b2)).mono (m' := k + 7) (by rw [List.length_map]; omega)
    have p2at := R2.s _ _ upd_same
    refine ⟨_, rfl, r, 3, _, rfl, L6.rs.ok, by omega, by decide, by decide, fun k2 H7 k20 k21 D7 => ?_⟩
    have L7 := L6.dr D7
    have p27 : H7 p2 = some (.lst (S0.map V.str)) := by rw [D7.ne _ rn2.symm]; exact p2at
    obtain ⟨n2, rfl⟩ : ∃ n : Nat, k2 = (n : Int) := ⟨k2.toNat, by omega⟩
    refine ⟨(n2 : Int), rfl, p2, _, rfl, Or.inl (Or.inl p27), fun u2 hu2 => ?_⟩
    rw [cut_any, ← List.map_take]
    have s8 := snew (o := .lst ((S0.take n2).map V.str)) hu2
    have L8 := L7.new (o := .lst ((S0.take n2).map V.str)) hu2
    have sl0 : S0.length = ts.length := by rw [← hS0.length_eq, Nl]
    refine ⟨u1, u2, _, _, rfl, rfl, s8 _ _ (L7.rs.s _ _ UB), upd_same, by rw [List.length_map, List.length_map, List.length_take, List.length_take, sizeLine_eq, show FREE.length = 3 from rfl]; omega, fun cl hcl => ?_⟩
    rw [← List.map_append]
    have L9 := L8.new (o := .lst ((FREE.take n1 ++ S0.take n2).map V.str)) hcl
    have rcl := L8.rs.ne hcl
    have cat : (upd (upd H7 u2 (.lst ((S0.take n2).map V.str))) cl (.lst ((FREE.take n1 ++ S0.take n2).map V.str))) cl = some (.lst ((FREE.take n1 ++ S0.take n2).map V.str)) := upd_same
    generalize upd (upd H7 u2 (.lst ((S0.take n2).map V.str))) cl (.lst ((FREE.take n1 ++ S0.take n2).map V.str)) = H9 at L9 cat ⊢
    have ol1 : 1 ≤ (FREE.take n1 ++ S0.take n2).length := by
      rw [List.length_append, List.length_take, show FREE.length = 3 from rfl]
      omega
    have ol6 : (FREE.take n1 ++ S0.take n2).length ≤ 5 := by
      rw [List.length_append, List.length_take, List.length_take, show FREE.length = 3 from rfl]
      omega
    have ond : (FREE.take n1 ++ S0.take n2).Nodup := List.nodup_append.mpr ⟨FREE_facts.1.sublist (List.take_sublist _ _), (hS0.nodup_iff.mp Nnd).sublist (List.take_sublist _ _), fun a ha b hb e => by
      subst e
      exact Nfr a (hS0.mem_iff.mpr (List.mem_of_mem_take hb)) (List.mem_of_mem_take ha)⟩
    have onm : ∀ x ∈ FREE.take n1 ++ S0.take n2, isName x = true := fun x hx => by
      rcases List.mem_append.mp hx with h | h
      · exact FREE_facts.2 x (List.mem_of_mem_take h)
      · exact Nnm x (hS0.mem_iff.mpr (List.mem_of_mem_take h))
    generalize FREE.take n1 ++ S0.take n2 = G0 at cat ol1 ol6 ond onm
    refine ⟨r, cl, _, cutr H9 r, _, G0.map .str, rfl, RS.cut L9.rs.ok, Or.inl (Or.inl (by rw [cutr_ne rcl.symm]; exact cat)), strs_dps _, good_names onm, by rw [List.length_map]; omega, by omega, fun ol H10 ys3 es3 b3 rn3 perm3 dd3 R3 => ?_⟩
    obtain ⟨G, rfl, hG⟩ := perm_strs perm3
    obtain rfl := dps_strs dd3
    have L10 := (L9.call R3 (snew b3)).mono (m' := k + 30) (by rw [List.length_map]; omega)
    have oat := R3.s _ _ upd_same
    have Gl : G.length = G0.length := hG.length_eq.symm
    have Gnd : G.Nodup := hG.nodup_iff.mp ond
    have Gnm : ∀ x ∈ G, isName x = true := fun x hx => onm x (hG.mem_iff.mpr hx)
    have OB := bs_of (r := r) oat rn3.symm (fun ps z => by cases z)
    have up10 := L10.up
    have L10 := L10.re
    generalize bs H10 r = B10 at OB L10 up10
    clear R3 cat L9 L8 L7 p27 D7 L6 p2at R2 oat
    have W10 := up10 _ _ W5
    have S10 := ((S.mono up3).mono up5).mono up10
    have o10 := up10 _ _ (up5 _ _ (up3 _ _ o1))
    have fin : ∀ {H' : Hp}, LS TT r (k + 30) B10 H' → Q (.bl true) H' := fun z => q _ (L.down up3 (L3.down up5 (L5.down up10 z)))
    -- second
    refine ⟨_, rfl, s, sdx, _, rfl, L10.rs.s _ _ o10, s, d, m, srt ts, rfl, S10.mono L10.rs.s, ?_⟩
    refine ⟨_, rfl, ol, rfl, ⟨_, Or.inl (Or.inl (L10.rs.s _ _ OB))⟩, fun D hD => ?_⟩
    refine lc_it (walk_list (K := K) (a := ol) (xs := G.map V.str)) (fun i H' => ∃ (B2 : Hp) (xs : List V), Same H10 B2 ∧ B2 D = none ∧ Same B2 H' ∧ H' D = some (.lst xs) ∧ DpAll K B2 xs (((G.take i).map bareT).map Tb.d))
      ⟨H10, [], same_refl, hD, snew hD, upd_same, .nil⟩ (fun i H' _ ⟨B2, xs, b1, _, b3, _⟩ => Or.inl (Or.inl (b3 _ _ (b1 _ _ (L10.rs.s _ _ OB))))) ?_ ?_
    · rintro i y _ Hi hi ⟨B2, xs, b1, b2, b3, b4, b5⟩ ⟨rfl, hy⟩
      rw [List.getElem?_map] at hy
      obtain ⟨x, hx, rfl⟩ := Option.map_eq_some_iff.mp hy
      refine ⟨rfl, yes_if ⟨_, rfl, (by show 0 ≤ sizeLine; decide), fun l hl => ⟨(by show 3 ≤ sizeLine; decide), fun u hu => ?_⟩⟩⟩
      have bl := free_of b3 hl
      have c1 : Same (upd B2 l (.lst [])) (upd Hi l (.lst [])) := sgrow b3
      have bu := free_of c1 hu
      have c2 : Same (upd (upd B2 l (.lst [])) u (.tup [.str x, .int 0, .ref l])) (upd (upd Hi l (.lst [])) u (.tup [.str x, .int 0, .ref l])) := sgrow c1
      have nlD : D ≠ l := ne_of_none b4 hl
      have D2 : (upd Hi l (.lst [])) D = some (.lst xs) := by rw [upd_ne nlD]; exact b4
      have nuD : D ≠ u := ne_of_none D2 hu
      have sBB : Same B2 (upd (upd B2 l (.lst [])) u (.tup [.str x, .int 0, .ref l])) := same_tr (snew bl) (snew bu)
      have bD : (upd (upd B2 l (.lst [])) u (.tup [.str x, .int 0, .ref l])) D = none := by rw [upd_ne nuD, upd_ne nlD]; exact b2
      have ul : (upd (upd B2 l (.lst [])) u (.tup [.str x, .int 0, .ref l])) l = some (.lst []) := by
        rw [upd_ne (ne_of_none (upd_same (H := B2) (o := HO.lst [])) bu)]
        exact upd_same
      refine ⟨xs, by rw [upd_ne nuD]; exact D2, small1000 (by rw [dps_len b5, List.length_map, List.length_map, List.length_take]; omega), _, xs ++ [.ref u], same_tr b1 sBB, bD, swrite c2 bD, upd_same, ?_⟩
      rw [List.take_add_one, hx, List.map_append, List.map_append]
      exact dps_snoc (dpsm sBB _ _ b5) (.tup (Or.inl (Or.inl upd_same)) (.cons (.str _) (.cons (.int _) (.cons (.lst (Or.inl (Or.inl ul)) .nil) .nil))))
    · rintro H11 ⟨B2, xs, b1, b2, b3, b4, b5⟩
      rw [List.length_map, List.take_length] at b5
      have s11 := same_tr b1 b3
      have L11 := L10.grow s11
      have LM : LD K H11 D ((G.map bareT).map Tb.d) := ⟨xs, b4, dpsm b3 _ _ b5⟩
      have OA : OkSys d m (G.map bareT) := ⟨O.d1, O.d3, O.m2, by rw [List.length_map]; omega, by rw [List.length_map]; omega, bareT_ok Gnm Gnd⟩
      refine ⟨_, rfl, s, sdx, _, rfl, L11.rs.s _ _ o10, s, d, m, srt ts, rfl, S10.mono L11.rs.s, fun x z2 nx z4 z5 => mk_sys L11.tb OA LM.dp nx z4 z5 fun H12 X12 T12 S12 => ?_⟩
      have L12 := L11.ext X12 T12
      clear b1 b2 b3 b4 b5 s11 LM L11 hD L10
      have O12 := L12.rs.s _ _ OB
      have W12 := L12.rs.s _ _ W10
      -- common
      refine ⟨_, rfl, ol, rfl, ⟨_, Or.inl (Or.inl O12)⟩, fun D2 hD2 => lc_filt (K := K) (walk_list (K := K) (a := ol) (xs := G.map V.str)) (fun i => decide (G.getD i Str.empty ∈ N)) (strs_dps G) rfl (by rw [List.length_map]; omega) hD2 (fun H' sm => Or.inl (Or.inl (sm _ _ O12))) (fun i H1 y H2 h => by obtain ⟨rfl, z⟩ := h; exact ⟨rfl, z⟩) ?_ ?_⟩
      · intro i y H1 hy s1 R Nn hR hN
        rw [List.getElem?_map] at hy
        obtain ⟨z, hz, rfl⟩ := Option.map_eq_some_iff.mp hy
        have ep : G.getD i Str.empty = z := by rw [List.getD_eq_getElem?_getD, hz]; rfl
        rw [ep] at hR hN
        refine ⟨rfl, _, rfl, _, rfl, wl, _, rfl, Or.inl (Or.inl (Or.inl (s1 _ _ W12))), rfl, flat_strs _, ?_⟩
        by_cases hm : z ∈ N
        · rw [if_neg Bool.false_ne_true, inV_str hm]
          exact ⟨_, rfl, iteT ⟨_, rfl, hR (decide_eq_true hm) H1 same_refl⟩⟩
        · rw [if_neg Bool.false_ne_true, inV_no hm]
          exact ⟨_, rfl, iteF (hN (decide_eq_false hm) H1 same_refl)⟩
      · intro H13 bs s13 D13 d13
        rw [List.length_map, filt_str (q := fun x => decide (x ∈ N)) rfl] at d13
        obtain rfl := dps_strs d13
        have L13 := L12.grow s13
        refine ⟨D2, G.filter (fun x => decide (x ∈ N)), rfl, Or.inl (Or.inl D13), Nat.lt_of_le_of_lt (List.length_filter_le _ _) (by omega), fun ys pc perm so hpc => ?_⟩
        have eys : ys = N.filter fun x => decide (x ∈ G) := by
          refine List.Perm.eq_of_pairwise (fun _ _ _ _ a b => str_antisymm a b) (sorted_pw so) (Npw.sublist List.filter_sublist) (perm.trans ?_)
          refine (List.perm_ext_iff_of_nodup (Gnd.sublist List.filter_sublist) (Nnd.sublist List.filter_sublist)).mpr fun a => ?_
          rw [List.mem_filter, List.mem_filter, decide_eq_true_iff, decide_eq_true_iff]
          exact And.comm
        subst eys
        have s14 := snew (o := .lst ((N.filter fun x => decide (x ∈ G)).map V.str)) hpc
        have L14 := L13.new (o := .lst ((N.filter fun x => decide (x ∈ G)).map V.str)) hpc
        have C14 : (upd H13 pc (.lst ((N.filter fun x => decide (x ∈ G)).map V.str))) pc = some (.lst ((N.filter fun x => decide (x ∈ G)).map V.str)) := upd_same
        have S14 := (S12.mono s13).mono s14
        generalize upd H13 pc (.lst ((N.filter fun x => decide (x ∈ G)).map V.str)) = H14 at L14 C14 S14 ⊢
        clear s14 L13 D13 d13 s13 L12
        have W14 := L14.rs.s _ _ W10
        have O14 := L14.rs.s _ _ OB
        -- too many
        refine ⟨_, rfl, wl, _, rfl, Or.inl (Or.inl (Or.inl W14)), _, rfl, ol, _, rfl, Or.inl (Or.inl (Or.inl O14)), _, _, rfl, rfl, ?_⟩
        refine ⟨_, _, rfl, rfl, _, rfl, ?_⟩
        rw [List.length_map, List.length_map]
        by_cases hmany : 6 < N.length + G.length
        · rw [decide_eq_true (by omega)]
          exact iteT (fin L14)
        · rw [decide_eq_false (by omega)]
          refine iteF ?_
          have Us : (srt (G.map bareT)).length ≤ 12 := by
            rw [show (srt (G.map bareT)).length = (G.map bareT).length from List.length_mergeSort _, List.length_map]
            omega
          have umem : ∀ y, y ∈ (srt (G.map bareT)).map (·.n) ↔ y ∈ G := fun y => by
            rw [((srt_perm (G.map bareT)).map (·.n)).mem_iff, bare_names]
          cases hf : (srt ts).find? (fun t => decide (t.n ∈ G)) with
          | none =>
            have hall : ∀ t ∈ srt ts, t.n ∉ G := fun t ht => by
              have z := List.find?_eq_none.mp hf t ht
              simpa using z
            have hfe : N.filter (fun x => decide (x ∈ G)) = [] := List.filter_eq_nil_iff.mpr fun y hy => by
              rw [hN] at hy
              obtain ⟨t, ht, rfl⟩ := List.mem_map.mp hy
              simpa using hall t ht
            rw [hfe] at C14
            have nd2 : ((srt ts ++ srt (G.map bareT)).map (·.n)).Nodup := by
              rw [List.map_append]
              refine List.nodup_append.mpr ⟨Os.ok.nodup, ((srt_perm (G.map bareT)).map (·.n)).nodup_iff.mpr (by rw [bare_names]; exact Gnd), fun a ha b hb e => ?_⟩
              subst e
              obtain ⟨t, ht, rfl⟩ := List.mem_map.mp ha
              exact hall t ht ((umem _).mp hb)
            refine ⟨_, rfl, _, rfl, 3, s, .ref x, d, m, srt ts, none, rfl, S10.mono L14.rs.s, Os, L14.tb, .be x _ S14 nd2 Us, fun v0 H15 x15 t15 e15 => ?_⟩
            have L15 := L14.ext x15 t15
            rw [show v0 = V.str "fine" from e15]
            have C15 := x15 _ _ C14 (fun ps z => by cases z)
            refine ⟨_, rfl, (by show 0 ≤ sizeLine; decide), fun l0 hl0 => ⟨.list [], .list [], .lst (Or.inl (Or.inl (snew hl0 _ _ C15))) .nil, .lst (Or.inl (Or.inl upd_same)) .nil, by decide, by decide, _, rfl, iteF ?_⟩⟩
            have shf : SeqAt.shaped (PyData.str "fine") = true := (Lay.str (k := 0) (by decide +kernel)).shaped (by decide)
            refine ⟨.str "fine", .str "fine", .str _, .str _, shf, shf, ?_⟩
            rw [eqv_refl_due shf]
            exact fin (L15.new hl0)
          | some tb =>
            obtain ⟨j, hj, hp, hbef⟩ := at_find hf
            have hpm := List.mem_of_getElem? hj
            have hh := List.head?_filter (p := fun x => decide (x ∈ G)) (l := N)
            have hfN : N.find? (fun x => decide (x ∈ G)) = some tb.n := find_at (j := j) (by rw [hN, List.getElem?_map, hj]; rfl) hp fun i y hi hy => by
              rw [hN, List.getElem?_map] at hy
              obtain ⟨t, ht, rfl⟩ := Option.map_eq_some_iff.mp hy
              exact hbef i t hi ht
            rw [hfN] at hh
            obtain ⟨rest, hfe⟩ : ∃ rest, N.filter (fun x => decide (x ∈ G)) = tb.n :: rest := by
              cases e : N.filter (fun x => decide (x ∈ G)) with
              | nil => rw [e] at hh; cases hh
              | cons a b => rw [e] at hh; cases hh; exact ⟨b, rfl⟩
            rw [hfe] at C14
            have restok : ∀ y ∈ tb.n :: rest, isName y = true := fun y hy => Nnm y (by
              rw [← hfe] at hy
              exact (List.mem_filter.mp hy).1)
            refine ⟨_, rfl, _, rfl, 3, s, .ref x, d, m, srt ts, some (1, .str tb.n), rfl, S10.mono L14.rs.s, Os, L14.tb, .beX x _ j tb S14 hj ((umem _).mpr (of_decide_eq_true hp)) (fun i t hi ht z => ?_), fun v0 H15 x15 t15 e15 => ?_⟩
            · have z2 := hbef i t hi ht
              rw [decide_eq_true ((umem _).mp z)] at z2
              cases z2
            have L15 := L14.ext x15 t15
            have C15 := x15 _ _ C14 (fun ps z => by cases z)
            have e15' := due_dp (K := K) (o := some (1, .str tb.n)) e15 (fun k y z => by cases z; exact ⟨.str tb.n, rfl, .str _⟩) (fun z => by cases z)
            refine ⟨_, rfl, (by show 0 ≤ sizeLine; decide), fun l0 hl0 => ?_⟩
            have s16 := snew (o := .lst []) hl0
            refine ⟨.list ((tb.n :: rest).map PyData.str), .list [], .lst (Or.inl (Or.inl (s16 _ _ C15))) (strs_dps _), .lst (Or.inl (Or.inl upd_same)) .nil, shaped_list (good_names restok), by decide, _, rfl, ?_⟩
            rw [eqv_nil]
            refine iteT ⟨_, rfl, pc, _, 0, .str tb.n, rfl, rfl, Or.inl (Or.inl (s16 _ _ C15)), atI_nat (j := 0) rfl, (by show 2 ≤ sizeLine; decide), fun tq htq => ?_⟩
            have s17 := snew (o := .tup [.str "name", .str tb.n]) htq
            have shd : SeqAt.shaped (dueD (some (1, .str tb.n))) = true := (lay_due fun k d z => by cases z; exact ⟨by decide, .str (name_ok (restok _ (List.mem_cons_self ..))).1⟩).shaped (by decide)
            have w1 : wordC 1 = "name" := by decide +kernel
            refine ⟨dueD (some (1, .str tb.n)), dueD (some (1, .str tb.n)), dpm (same_tr s16 s17) _ _ e15', ?_, shd, shd, ?_⟩
            · show Dp K _ _ (.tuple [.str (wordC 1), .str tb.n])
              rw [w1]
              exact .tup (Or.inl (Or.inl upd_same)) (.cons (.str _) (.cons (.str _) .nil))
            rw [eqv_refl_due shd]
            exact fin ((L15.new hl0).new htq)
end
end Fr

namespace Fr
open PySem PySem.Spec PyProof.Rows L2
abbrev s_law : Stmt := topS 41
theorem sc_law : FnScope ["_law_script", "_law_rng_here", "_law_lap", "_law_dims", "_law_made", "_law_kept", "_law_words", "_law_turn", "_law_turned", "_law_old", "_law_due"] ["_law_script"] (defScope s_law) := ⟨rfl, rfl, rfl, by decide +kernel, rfl, by decide +kernel, by decide +kernel⟩
-- slots: 0 _law_script, 1 _law_rng_here, 2 _law_lap, 3 _law_dims, 4 _law_made, 5 _law_kept, 6 _law_words, 7 _law_turn, 8 _law_turned, 9 _law_old, 10 _law_due
theorem W0_facts : ∀ x ∈ W0 ++ W0.map row5, x ∉ FREE ∧ x ≠ "x" ∧ x ≠ "zzz" := by decide +kernel
def XZ : List Str := ["x", "zzz"]
def NEWS : List Str := ["q", "B", "", "abcdefghi", "abcdefgh"]
theorem NEWS_facts : ∀ x ∈ NEWS, x.length ≤ 100 ∧ PyData.strOk x = true := by decide +kernel
def AXS (d : Int) : List (List Int) := [[], [0, 0, 0].take d.toNat, [1, 0], [0, 1], [0, 2, 1], [-1, 0], [0], [1, 2, 3], [2, 1, 0, 3]]
def axD (a : List Int) : PyData := .tuple (a.map .int)
section
variable {K : PySem.W.Frag} {TT : List (Addr × Str)} {r p : Addr} {m : Nat} {B H : Hp}
theorem LS.putD {o : HO} {kvs : List (Key × V)} (h : LS TT r m B H) (e : B p = none) (n : r ≠ p) (l : H p = some (.dK kvs)) : LS TT r m B (upd H p o) := ⟨h.rs.put e n, tabs_upd h.tb l (fun ps z => by cases z) (fun c q z => by unfold LamX.CodeO at z; cases z), h.nt⟩
theorem slA_ans {a : Addr} {xs : List V} {lo hi : Option Int} {Q : VK} (h : SqT K H a xs) (q : ∀ p H', Same H H' → SqT K H' p (cutV xs lo hi) → Q (.ref p) H') : rSlA K (.ref a) lo hi H Q :=
  ⟨a, xs, rfl, h, fun ⟨h1, h2⟩ => q a H same_refl (by
    have e : cutV xs lo hi = xs := by
      unfold cutV
      rw [h1, h2, List.drop_zero, Nat.sub_zero, List.take_length]
    rw [e]
    exact h), fun _ p hp => q p _ (snew hp) (Or.inl (Or.inl upd_same))⟩
end
theorem rising_of : ∀ (l : List Str) (p : Str), (p :: l).Pairwise (fun a b => a.cps.toList ≤ b.cps.toList) → risingS p l = true
  | [], p, _ => rfl
  | x :: l, p, h => by
    have h2 := List.pairwise_cons.mp h
    unfold risingS
    rw [rising_of l x h2.2, Bool.and_true, Bool.not_eq_true']
    cases e : ltCps x.cps.toList p.cps.toList with
    | false => rfl
    | true => exact absurd ((ltCps_iff _ _).mp e) (h2.1 x (List.mem_cons_self ..))
theorem sorted_of {l : List Str} (h : l.Pairwise (fun a b => a.cps.toList ≤ b.cps.toList)) : sortedS l = true := by
  cases l with
  | nil => rfl
  | cons x l => exact rising_of l x h
theorem sorted_ex (l : List Str) : ∃ ys : List Str, ys.Perm l ∧ sortedS ys = true :=
  ⟨(srt (l.map bareT)).map (·.n), by
    have z := (srt_perm (l.map bareT)).map (·.n)
    rw [bare_names] at z
    exact z, sorted_of (srt_pw _)⟩
theorem look_none {k : Str} {nn : List (Str × Str)} (h : k ∉ nn.map (·.1)) : nn.lookup k = none := by
  cases e : nn.lookup k with
  | none => rfl
  | some z =>
    obtain ⟨l1, l2, e1, _⟩ := List.lookup_eq_some_iff.mp e
    exact absurd (by rw [e1]; simp) h
theorem rnm_mem {nn : List (Str × Str)} {x : Str} : rnm nn x = x ∨ ∃ q ∈ nn, q.2 = rnm nn x := by
  unfold rnm
  cases e : nn.lookup x with
  | none => exact .inl rfl
  | some z =>
    obtain ⟨l1, l2, e1, _⟩ := List.lookup_eq_some_iff.mp e
    exact .inr ⟨(x, z), by rw [e1]; simp, rfl⟩
theorem AXS_len {d : Int} {ax : List Int} (h : ax ∈ AXS d) : ax.length ≤ 4 := by
  unfold AXS at h
  simp only [List.mem_cons, List.not_mem_nil, or_false] at h
  rcases h with rfl | rfl | rfl | rfl | rfl | rfl | rfl | rfl | rfl
  all_goals first | decide | (rw [List.length_take]; show min _ 3 ≤ 4; omega)
theorem noL_ax (a : List Int) : noL (axD a) = true := noLs_map (g := PyData.int) (fun _ => rfl) a
theorem lay_ax (a : List Int) : Lay (axD a) 9 := ⟨(Lay.tup (k := 0) (.map fun x _ => .int) : Lay (axD a) 1).lay, Nat.le_trans (Lay.tup (k := 0) (.map fun x _ => .int) : Lay (axD a) 1).dep (by decide)⟩
def rgI (d : Int) : List Int := (List.range d.toNat).map fun i : Nat => (i : Int)
theorem rgI_sorted (d : Int) : (rgI d).Pairwise (· ≤ ·) := List.pairwise_map.mpr (List.pairwise_lt_range.imp fun h => by omega)
theorem ax_nat {d : Int} {ax : List Int} (p : ax.Perm (rgI d)) : ∃ an : List Nat, ax = an.map (fun a : Nat => (a : Int)) ∧ AxOk d an := by
  have e : (ax.map Int.toNat).map (fun a : Nat => (a : Int)) = ax := by
    rw [List.map_map]
    refine (List.map_congr_left fun x hx => ?_).trans (List.map_id ax)
    obtain ⟨n, _, rfl⟩ := List.mem_map.mp (p.mem_iff.mp hx)
    rfl
  refine ⟨ax.map Int.toNat, e.symm, ?_⟩
  have z := p.map Int.toNat
  unfold rgI at z
  rw [List.map_map] at z
  have e2 : (List.range d.toNat).map (Int.toNat ∘ fun i : Nat => (i : Int)) = List.range d.toNat := (List.map_congr_left fun i _ => rfl).trans (List.map_id _)
  rw [e2] at z
  exact z
/-- new names without a fault -/
theorem ren_fine {N : List Str} {nn : List (Str × Str)} {ys : List Str} (hn : N.Nodup) (hN : ∀ x ∈ N, isName x = true) (p : ys.Perm (nn.map (·.1))) (h : renDue N nn ys = none) : (∀ q ∈ nn, q.1 ∈ N) ∧ (N.map (rnm nn)).Nodup ∧ ∀ x ∈ N, isName (rnm nn x) = true := by
  unfold renDue at h
  cases e0 : ys.find? (fun k => !decide (k ∈ N)) with
  | some k => rw [e0] at h; cases h
  | none =>
    rw [e0] at h
    have h1 : ∀ k ∈ ys, k ∈ N := fun k hk => by
      have z := List.find?_eq_none.mp e0 k hk
      simpa using z
    have h2 : ∀ k ∈ ys, badB (N.map (rnm nn)) (rnm nn k) = false := fun k hk => by
      have z := List.find?_eq_none.mp (Option.map_eq_none_iff.mp h) k hk
      simpa using z
    have keys : ∀ q ∈ nn, q.1 ∈ ys := fun q hq => p.mem_iff.mpr (List.mem_map.mpr ⟨q, hq, rfl⟩)
    have same : ∀ x, x ∉ ys → rnm nn x = x := fun x hx => by
      unfold rnm
      cases e : nn.lookup x with
      | none => rfl
      | some z =>
        obtain ⟨l1, l2, e1, _⟩ := List.lookup_eq_some_iff.mp e
        exact absurd (keys (x, z) (by rw [e1]; simp)) hx
    have good : ∀ k ∈ ys, isName (rnm nn k) = true ∧ (N.map (rnm nn)).count (rnm nn k) ≤ 1 := fun k hk => by
      have z := h2 k hk
      unfold badB at z
      rw [Bool.or_eq_false_iff] at z
      refine ⟨by simpa using z.1, ?_⟩
      have := of_decide_eq_false z.2
      omega
    refine ⟨fun q hq => h1 _ (keys q hq), List.nodup_iff_count.mpr fun a => ?_, fun x hx => ?_⟩
    · by_cases ha : ∃ k ∈ ys, rnm nn k = a
      · obtain ⟨k, hk, rfl⟩ := ha
        exact (good k hk).2
      · have e : (N.map (rnm nn)).count a ≤ N.count a := by
          unfold List.count
          rw [List.countP_map]
          refine List.countP_mono_left fun x hx z => ?_
          have z1 : rnm nn x = a := by simpa using z
          have z2 := same x fun q => ha ⟨x, q, z1⟩
          rw [z2] at z1
          simpa using z1
        exact Nat.le_trans e (List.nodup_iff_count.mp hn a)
    · by_cases hy : x ∈ ys
      · exact (good x hy).1
      · rw [same x hy]
        exact hN x hx
section
variable {P : Program} {w : World} {K : PySem.W.Frag} {mg : Str → Option Value} {base : Heap}
/-- what is due of new names is what the call answers -/
theorem ren_due {C : Addr} {H : Hp} {d m : Int} {ts : List Tb} {g : Addr} {nn : List (Str × Str)} {ys : List Str} (O : Sys1 d m ts) (hg : H g = some (.dK (dictS nn))) (hl : nn.length ≤ 12) (hs : ∀ t ∈ ts, (rnm nn t.n).length ≤ 100000) (hp : ys.Perm (nn.map (·.1))) (so : sortedS ys = true) :
    Due K C H d m ts 4 (.ref g) ((renDue (ts.map (·.n)) nn ys).map fun p => (p.1, .str p.2)) := by
  have n2 : (ts.map (rnT nn)).map (·.n) = (ts.map (·.n)).map (rnm nn) := by rw [List.map_map, List.map_map]; rfl
  cases e : renDue (ts.map (·.n)) nn ys with
  | none =>
    have z := ren_fine O.ok.nodup (fun x hx => by
      obtain ⟨t, ht, rfl⟩ := List.mem_map.mp hx
      exact O.ok.names t ht) hp e
    exact .re g nn hg hl z.1 (by rw [n2]; exact z.2.1) fun t ht => z.2.2 _ (List.mem_map.mpr ⟨t, ht, rfl⟩)
  | some q =>
    refine .reX g nn _ hg hl hs fun zs pz sz => ?_
    obtain rfl : zs = ys := sortedS_unique pz hp sz so
    unfold renDue at e
    cases e0 : zs.find? (fun k => !decide (k ∈ ts.map (·.n))) with
    | some k =>
      rw [e0] at e
      cases e
      obtain ⟨j, h1, h2, h3⟩ := at_find e0
      exact Or.inl ⟨j, k, h1, by simpa using h2, fun i k' hi hk' => by simpa using h3 i k' hi hk', rfl⟩
    | none =>
      rw [e0] at e
      obtain ⟨k, hk, e2⟩ := Option.map_eq_some_iff.mp e
      obtain ⟨j, h1, h2, h3⟩ := at_find hk
      refine Or.inr ⟨fun k hk => ?_, j, k, h1, by rw [n2]; exact badB_iff.mp h2, fun i k' hi hk' z => ?_, by rw [← e2]⟩
      · have z := List.find?_eq_none.mp e0 k hk
        simpa using z
      · rw [n2] at z
        have := h3 i k' hi hk'
        rw [badB_iff.mpr z] at this
        cases this
theorem axD_at {H : Hp} {v : V} {a : List Int} (h : Dp K H v (axD a)) : ∃ g, v = .ref g ∧ SqT K H g (a.map V.int) := by
  obtain ⟨g, xs, e, h1, h2⟩ := dtup h
  have z := dps_ints h2
  subst z
  exact ⟨g, e, h1⟩
def spLaw5 (K : PySem.W.Frag) (TT : List (Addr × Str)) : Sp := fun vs H Q _ => ∃ (a : Addr) (ns : List Int), vs = [.ref a] ∧ SqL K H a (ns.map V.int) ∧ ns.length ≤ 63 ∧ LamX.Tabs TT H ∧ ∀ H', Q (.bl true) H'
theorem ok_law5 {f C : Addr} {fd : FuncData} {TT : List (Addr × Str)} (F : Fun K "law" "law" s_law f fd) (T : Txt mg) (TC : TxtC K mg C) (c_Lrng : C8.Cal P w K mg base 1 "_law_rng" (spRng K) []) (c_Ldraw : C8.Cal P w K mg base 1 "_law_draw" spDraw []) (c_Lmixed : C8.Cal P w K mg base 2 "_law_mixed" (spMixed K) [])
    (c_Lmade_rows : C8.Cal P w K mg base 3 "_law_made_rows" (spRows K) []) (p_names : Prp P w K mg base 1 C "names" (spNames K C)) (m_System3 : C8.Mak P w K mg base 5 "System" C (spInit K C TT) []) (c_Lshown : CalG P w K mg base 5 "_law_shown" (spShown K C))
    (c_Lraised : C8.Cal P w K mg base 9 "_law_raised" (spRaised5 K C TT) []) (c_Lrenamed_due : C8.Cal P w K mg base 1 "_law_renamed_due" (spRenDue K) []) (c_Lreads_right : C8.Cal P w K mg base 10 "_law_reads_right" (spReadsR K C TT) []) (c_Lbeside_right : C8.Cal P w K mg base 10 "_law_beside_right" (spBesR K C TT) []) :
    FnG P w K mg base 11 f fd ["_law_script"] (spLaw5 K TT) := by
  refine Fun_okG F sc_law (fun vs H Q E h => ?_) (fun cdv A outer sh H vs Q E hr h => ?_)
  · obtain ⟨a, ns, rfl, _⟩ := h
    rfl
  · obtain ⟨a, ns, rfl, ha, hl, hT, q⟩ := h
    have hu := hu_of hr.room
    refine ⟨_, (pss_cons (ps_set (i := 1) sc_law.nd rfl (by first | exact Or.inl rfl | exact Or.inr rfl) (C8.pe_c c_Lrng hr.room (by decide) (by rfl) (pa_cons (pv 0) pa_nil)))
  (pss_cons (ps_for PassesOwn.never rfl (pi_range1 (by rfl) T.b_range (pa_cons (pe_op op_add pe_int (pe_callB (call_min2 rfl) (by rfl) T.b_min (by decide +kernel) (pa_cons pe_int (pa_cons (pe_callB call_len_seq (by rfl) T.b_len PySem.boot_len (pa_cons (pv 0) pa_nil)) pa_nil)))) pa_nil)) (pg_name (i := 2) sc_law.nd rfl (by first | exact Or.inl rfl | exact Or.inr rfl))
    (pss_cons (ps_set (i := 3) sc_law.nd rfl (by first | exact Or.inl rfl | exact Or.inr rfl) (pe_op op_add pe_int (C8.pe_c c_Ldraw hr.room (by decide) (by rfl) (pa_cons (pv 1) (pa_cons pe_int pa_nil)))))
    (pss_cons (ps_set (i := 4) sc_law.nd rfl (by first | exact Or.inl rfl | exact Or.inr rfl) (C8.pe_mk m_System3 hr.room (by decide) (by rfl) (pa_cons (pv 3) (pa_cons (C8.pe_c c_Lmade_rows hr.room (by decide) (by rfl) (pa_cons (pv 1) (pa_cons (pv 3) (pa_cons (pe_op op_add pe_int (C8.pe_c c_Ldraw hr.room (by decide) (by rfl) (pa_cons (pv 1) (pa_cons pe_int pa_nil)))) (pa_cons pe_int (pa_cons pe_int pa_nil)))))) (pa_cons pe_int pa_nil)))))
    (pss_cons (ps_par (i := 5) (j := 6) (by rfl) sc_law.nd rfl rfl (by decide) rfl rfl (pa_cons (pe_cG c_Lshown hr (by decide) (by rfl) (pa_cons (pv 4) pa_nil)) (pa_cons (pe_pr (pv 4) p_names hr.room (by decide) rfl) pa_nil)) (by rfl))
    (pss_cons (ps_if (PW.pt (pw_or (pt_not (pt_val (C8.pe_c c_Lreads_right hr.room (by decide) (by rfl) (pa_cons (pv 1) (pa_cons (pv 4) pa_nil))))) (pw_or1 (pt_not (pt_val (C8.pe_c c_Lbeside_right hr.room (by decide) (by rfl) (pa_cons (pv 1) (pa_cons (pv 4) pa_nil))))))))
      (pss_one (ps_ret pe_bl))
      pss_nil)
    (pss_cons (ps_for PassesOwn.never rfl (pi_range1 (by rfl) T.b_range (pa_cons pe_int pa_nil)) (pg_name (i := 7) sc_law.nd rfl (by first | exact Or.inl rfl | exact Or.inr rfl))
      (pss_cons (ps_set (i := 8) sc_law.nd rfl (by first | exact Or.inl rfl | exact Or.inr rfl) pe_dnewK)
      (pss_cons (ps_for PassesOwn.never rfl (pi_list (pe_slice sl_list (C8.pe_c c_Lmixed hr.room (by decide) (by rfl) (pa_cons (pv 1) (pa_cons (pe_op op_cat (pv 6) (pe_lst (pa_cons pe_str (pa_cons pe_str pa_nil)))) pa_nil))) po_none (po_some (pe_op op_add pe_int (C8.pe_c c_Ldraw hr.room (by decide) (by rfl) (pa_cons (pv 1) (pa_cons pe_int pa_nil))))))) (pg_name (i := 9) sc_law.nd rfl (by first | exact Or.inl rfl | exact Or.inr rfl))
        (pss_one (ps_dput hu (pv 8) (pv 9) (pe_ix ix_list (pe_op op_cat (pe_lst (pa_cons pe_str (pa_cons pe_str (pa_cons pe_str (pa_cons pe_str (pa_cons pe_str pa_nil)))))) (pv 6)) (C8.pe_c c_Ldraw hr.room (by decide) (by rfl) (pa_cons (pv 1) (pa_cons (pe_op op_add pe_int (pe_callB call_len_seq (by rfl) T.b_len PySem.boot_len (pa_cons (pv 6) pa_nil))) pa_nil))) (fun _ _ => rfl)) rfl)))
      (pss_one (ps_if (pt_cmpR (op_neD hr.room.units) (C8.pe_c c_Lraised hr.room (by decide) (by rfl) (pa_cons pe_int (pa_cons (pv 4) (pa_cons (pv 8) pa_nil)))) (C8.pe_c c_Lrenamed_due hr.room (by decide) (by rfl) (pa_cons (pv 6) (pa_cons (pv 8) pa_nil))) (nomark _))
        (pss_one (ps_ret pe_bl))
        pss_nil)))))
    (pss_cons (ps_for PassesOwn.never rfl (pi_list (pe_lst (pa_cons (pe_tup pa_nil) (pa_cons (pe_slice sl_tupA (pe_tup (pa_cons pe_int (pa_cons pe_int (pa_cons pe_int pa_nil)))) po_none (po_some (pv 3))) (pa_cons (pe_tup (pa_cons pe_int (pa_cons pe_int pa_nil))) (pa_cons (pe_tup (pa_cons pe_int (pa_cons pe_int pa_nil))) (pa_cons (pe_tup (pa_cons pe_int (pa_cons pe_int (pa_cons pe_int pa_nil)))) (pa_cons (pe_tup (pa_cons (pe_un un_neg pe_int) (pa_cons pe_int pa_nil))) (pa_cons (pe_tup (pa_cons pe_int pa_nil)) (pa_cons (pe_tup (pa_cons pe_int (pa_cons pe_int (pa_cons pe_int pa_nil)))) (pa_cons (pe_tup (pa_cons pe_int (pa_cons pe_int (pa_cons pe_int (pa_cons pe_int pa_nil))))) pa_nil))))))))))) (pg_name (i := 7) sc_law.nd rfl (by first | exact Or.inl rfl | exact Or.inr rfl))
      (pss_cons (ps_set (i := 10) sc_law.nd rfl (by first | exact Or.inl rfl | exact Or.inr rfl) (pe_csqE (pe_ifExp (pt_cmpR (op_eqD hr.room.units) (pe_callB cr_sortedIT (by rfl) T.b_sorted (by decide +kernel) (pa_cons (pv 7) pa_nil)) (pe_listRg rfl (by rfl) T.b_list (prg_1 (by rfl) T.b_range (pv 3))) (nomark _)) pe_str (pe_tup (pa_cons pe_str (pa_cons (pv 7) pa_nil))))))
      (pss_one (ps_if (pt_cmpR (op_neD hr.room.units) (C8.pe_c c_Lraised hr.room (by decide) (by rfl) (pa_cons pe_int (pa_cons (pv 4) (pa_cons (pv 7) pa_nil)))) (pv 10) (nomark _))
        (pss_one (ps_ret pe_bl))
        pss_nil))))
    (pss_one (ps_if (pt_cmpR op_ne (pe_cG c_Lshown hr (by decide) (by rfl) (pa_cons (pv 4) pa_nil)) (pv 5) (nomark _))
      (pss_one (ps_ret pe_bl))
      pss_nil)))))))))
  (pss_one (ps_ret pe_bl)))), ?_⟩
    refine ⟨_, rfl, a, ns, rfl, ha, hl, fun r H1 hr1 s1 rok => ?_⟩
    have hT1 := hT.ext s1
    refine ⟨_, rfl, a, _, rfl, Or.inl (sql s1 ha), ?_⟩
    have hlap : (8 + (if ((ns.map V.int).length : Int) < 10 then ((ns.map V.int).length : Int) else 10)) ≤ 18 ∧ 0 ≤ (8 + (if ((ns.map V.int).length : Int) < 10 then ((ns.map V.int).length : Int) else 10)) := by
      split <;> omega
    refine ⟨10, _, rfl, _, _, rfl, rfl, _, rfl, by omega, by omega, ?_⟩
    generalize (8 + (if ((ns.map V.int).length : Int) < 10 then ((ns.map V.int).length : Int) else 10)) = laps at hlap
    refine for_range (fun i σ H' => ∃ (y2 y3 y4 y5 y6 y7 y8 y9 y10 : Option V), σ = [some (.ref a), some (.ref r), y2, y3, y4, y5, y6, y7, y8, y9, y10] ∧ RngOk H' r (3000 * i) ∧ LamX.Tabs TT H')
      ⟨none, none, none, none, none, none, none, none, none, rfl, rok, hT1⟩ ?_ ?_
    · rintro i σ H2 hi ⟨y2, y3, y4, y5, y6, y7, y8, y9, y10, rfl, rok2, hT2⟩
      have hi16 : i < 18 := by omega
      -- dims
      refine ⟨_, rfl, r, 3, _, rfl, rok2, by omega, by decide, by decide, fun k1 H3 k10 k11 D3 => ⟨_, _, rfl, rfl, ?_⟩⟩
      have hT3 := tabs_dr hT2 rok2 D3
      -- made
      refine ⟨_, rfl, _, rfl, _, rfl, _, rfl, r, 6, _, rfl, D3.ok, by omega, by decide, by decide, fun k3 H5 k30 k31 D5 => ⟨_, _, rfl, rfl, ?_⟩⟩
      have hT5 := tabs_dr hT3 D3.ok D5
      refine ⟨r, 1 + k1, 1 + k3, 10, 5, _, cutr H5 r, rfl, RS.cut D5.ok, by omega, by omega, by omega, by omega, by decide, by decide, by decide, by decide, by omega, fun rp B6 H6 ts s6 R6 Lr6 hlen O6 ok6 sm6 src6 few6 => ?_⟩
      have hT6 := tabs_cut hT5 D5.ok (same_tr s6 R6.s)
      have O : Sys1 (1 + k1) 97 ts := ⟨by omega, by omega, by omega, by omega, by omega, by omega, O6, sm6⟩
      have hww : ∀ t ∈ ts, t.n ∈ W0 ++ W0.map row5 := fun t ht => List.mem_append.mpr (src6.imp (fun h => h t ht) fun h => h t ht)
      refine fun x z2 nx z4 z5 => mk_sys hT6 O.sys (Lr6.grow R6.s).dp nx z4 z5 fun H7 X7 T7 S7 => ?_
      obtain ⟨c1, c2, c3, ce, cn⟩ := id R6.ok
      have rok7 : RngOk H7 r (3000 * i + 1 + 1 + 1000) := ⟨c1, c2, c3, X7 _ _ ce (fun ps z => by cases z), cn⟩
      have L7 := LS.own rok7 T7
      have SB := S7.re rok7
      generalize bs H7 r = B7 at L7 SB
      clear R6 Lr6 S7 rok7 X7 T7 D5 D3 s6 hT6 hT5 hT3
      have Os := O.srt
      have srl : (srt ts).length = ts.length := List.length_mergeSort _
      obtain ⟨sdx, stt, skv, o1, o2, o3⟩ := id SB.ob
      obtain ⟨N, hN⟩ : ∃ N, N = (srt ts).map (·.n) := ⟨_, rfl⟩
      have Nl : N.length = ts.length := by rw [hN, List.length_map, srl]
      have Nnm : ∀ x ∈ N, isName x = true := fun x hx => by
        rw [hN] at hx
        obtain ⟨t, ht, rfl⟩ := List.mem_map.mp hx
        exact Os.ok.names t ht
      have Nnd : N.Nodup := by rw [hN]; exact Os.ok.nodup
      have Nw : ∀ x ∈ N, x ∈ W0 ++ W0.map row5 := fun x hx => by
        rw [hN] at hx
        obtain ⟨t, ht, rfl⟩ := List.mem_map.mp hx
        exact hww t ((srt_perm ts).mem_iff.mp ht)
      have hl6 := O.l6
      have hl1 := O.l1
      -- kept, words
      refine ⟨_, rfl, x, 1 + k1, 97, srt ts, rfl, SB.mono L7.rs.s, Os, fun H8 s8 => ?_⟩
      have L8 := L7.grow s8
      refine ⟨_, rfl, x, sdx, _, rfl, L8.rs.s _ _ o1, x, 1 + k1, 97, srt ts, rfl, SB.mono L8.rs.s, fun wl H9 hwl s9 wat => ?_⟩
      have wat : H9 wl = some (.lst (N.map V.str)) := by rw [hN, List.map_map]; exact wat
      have L9 := L8.grow s9
      have rwl := L8.rs.ne hwl
      have WB := bs_of (r := r) wat rwl.symm (fun ps z => by cases z)
      have up9 := L9.up
      have L9 := L9.re
      have SB := SB.mono up9
      have o1 := up9 _ _ o1
      generalize bs H9 r = B9 at WB L9 SB o1
      clear L8 L7 s8 s9 wat up9 o2 o3
      -- reads, names in common
      refine ⟨_, _, rfl, _, rfl, _, rfl, r, x, _, B9, 1 + k1, 97, srt ts, rfl, L9, SB, Os, by omega, fun H10 L10 => ?_⟩
      refine ⟨_, rfl, iteF ?_⟩
      refine ⟨_, rfl, _, rfl, r, x, _, B9, 1 + k1, 97, ts, rfl, L10, SB, O, fun t ht => (W0_facts _ (hww t ht)).1, by omega, fun H11 L11 => ?_⟩
      refine ⟨_, rfl, iteF ?_⟩
      clear L10
      have hx1 : ∀ y ∈ N, y ≠ "x" ∧ y ≠ "zzz" := fun y hy => (W0_facts y (Nw y hy)).2
      have L11 := L11.mono (m' := 3000 * i + 1062) (by omega)
      -- new names
      refine ⟨4, rfl, by decide, by decide, ?_⟩
      refine for_range (fun t σ H' => ∃ (y7 y8 y9 : Option V), σ = [some (.ref a), some (.ref r), some (.int (0 + (i : Nat))), some (.int (1 + k1)), some (.ref x), some (.str (sysS (1 + k1) 97 (srt ts))), some (.ref wl), y7, y8, y9, y10] ∧ LS TT r (3000 * i + 1062 + 40 * t) B9 H')
        ⟨y7, y8, y9, rfl, L11⟩ ?_ ?_
      · rintro t σ H12 ht ⟨y7, y8, y9, rfl, L12⟩
        have ht4 : t < 4 := by omega
        intro Tt hTt
        have L13 := L12.new (o := .dK []) hTt
        have rTt := L12.rs.ne hTt
        have bTt : B9 Tt = none := free_of L12.rs.s hTt
        have T13 : (upd H12 Tt (.dK [])) Tt = some (.dK []) := upd_same
        generalize upd H12 Tt (.dK []) = H13 at L13 T13 ⊢
        clear L12
        -- olds
        refine ⟨_, rfl, _, rfl, (by show 2 ≤ sizeLine; decide), fun l2 hl2 => ?_⟩
        have s14 := snew (o := .lst [.str "x", .str "zzz"]) hl2
        have L14 := L13.new (o := .lst [.str "x", .str "zzz"]) hl2
        have T14 := s14 _ _ T13
        have l2at : (upd H13 l2 (.lst [.str "x", .str "zzz"])) l2 = some (.lst (XZ.map V.str)) := upd_same
        generalize upd H13 l2 (.lst [.str "x", .str "zzz"]) = H14 at L14 T14 l2at ⊢
        refine ⟨wl, l2, _, _, rfl, rfl, L14.rs.s _ _ WB, l2at, by rw [List.length_map, Nl, sizeLine_eq]; show _ + 2 ≤ _; omega, fun cl hcl => ?_⟩
        rw [← List.map_append]
        have s15 := snew (o := .lst ((N ++ XZ).map V.str)) hcl
        have L15 := L14.new (o := .lst ((N ++ XZ).map V.str)) hcl
        have rcl := L14.rs.ne hcl
        have T15 := s15 _ _ T14
        have cat : (upd H14 cl (.lst ((N ++ XZ).map V.str))) cl = some (.lst ((N ++ XZ).map V.str)) := upd_same
        generalize upd H14 cl (.lst ((N ++ XZ).map V.str)) = H15 at L15 T15 cat ⊢
        clear s14 s15 L13 L14 T13 T14 l2at
        have ond : (N ++ XZ).Nodup := List.nodup_append.mpr ⟨Nnd, by decide +kernel, fun y hy z hz e => by
          subst e
          simp only [XZ, List.mem_cons, List.not_mem_nil, or_false] at hz
          rcases hz with h | h
          · exact (hx1 y hy).1 h
          · exact (hx1 y hy).2 h⟩
        have onm : ∀ y ∈ N ++ XZ, isName y = true := fun y hy => by
          rcases List.mem_append.mp hy with h | h
          · exact Nnm y h
          · simp only [XZ, List.mem_cons, List.not_mem_nil, or_false] at h
            rcases h with rfl | rfl <;> decide +kernel
        have onl : (N ++ XZ).length ≤ 8 := by rw [List.length_append, Nl]; show _ + 2 ≤ 8; omega
        generalize N ++ XZ = OL at cat ond onm onl
        refine ⟨r, cl, _, cutr H15 r, _, OL.map .str, rfl, RS.cut L15.rs.ok, Or.inl (Or.inl (by rw [cutr_ne rcl.symm]; exact cat)), strs_dps _, good_names onm, by rw [List.length_map]; omega, by omega, fun p1 H16 ys1 es1 b1 rn1 perm1 dd1 R1 => ?_⟩
        obtain ⟨OS, rfl, hOS⟩ := perm_strs perm1
        obtain rfl := dps_strs dd1
        have L16 := (L15.call R1 (snew b1)).mono (m' := 3000 * i + 1062 + 40 * t + 8) (by rw [List.length_map]; omega)
        have p1at := R1.s _ _ upd_same
        have T16 := R1.s _ _ (snew b1 _ _ (by rw [cutr_ne rTt.symm]; exact T15))
        clear L15 cat R1 T15
        refine ⟨_, rfl, r, 3, _, rfl, L16.rs.ok, by omega, by decide, by decide, fun k4 H17 k40 k41 D17 => ⟨_, _, rfl, rfl, ?_⟩⟩
        have L17 := L16.dr D17
        have T17 : H17 Tt = some (.dK []) := by rw [D17.ne _ rTt.symm]; exact T16
        have p17 : H17 p1 = some (.lst (OS.map V.str)) := by rw [D17.ne _ rn1.symm]; exact p1at
        clear L16 T16 p1at D17
        obtain ⟨n4, hn4⟩ : ∃ n : Nat, 1 + k4 = (n : Int) := ⟨(1 + k4).toNat, by omega⟩
        refine ⟨1 + k4, rfl, p1, _, rfl, Or.inl (Or.inl p17), fun u hu1 => ?_⟩
        rw [hn4, cut_any, ← List.map_take]
        have s18 := snew (o := .lst ((OS.take n4).map V.str)) hu1
        have L18 := L17.new (o := .lst ((OS.take n4).map V.str)) hu1
        have ru := L17.rs.ne hu1
        have T18 := s18 _ _ T17
        have uat : (upd H17 u (.lst ((OS.take n4).map V.str))) u = some (.lst ((OS.take n4).map V.str)) := upd_same
        have bu : B9 u = none := free_of L17.rs.s hu1
        have nTu : Tt ≠ u := ne_of_none T17 hu1
        generalize upd H17 u (.lst ((OS.take n4).map V.str)) = H18 at L18 T18 uat ⊢
        clear L17 T17 p17 s18
        have OTnd : (OS.take n4).Nodup := (hOS.nodup_iff.mp ond).sublist (List.take_sublist _ _)
        have OTnm : ∀ y ∈ OS.take n4, isName y = true := fun y hy => onm y (hOS.mem_iff.mpr (List.mem_of_mem_take hy))
        have OTl : (OS.take n4).length ≤ 3 := by rw [List.length_take]; omega
        generalize OS.take n4 = OT at uat OTnd OTnm OTl L18
        have L19 := L18.keep uat bu ru (fun ps z => by cases z)
        have bT : (upd B9 u (.lst (OT.map V.str))) Tt = none := by rw [upd_ne nTu]; exact bTt
        have up19 : Same B9 (upd B9 u (.lst (OT.map V.str))) := snew bu
        have UB : (upd B9 u (.lst (OT.map V.str))) u = some (.lst (OT.map V.str)) := upd_same
        generalize upd B9 u (.lst (OT.map V.str)) = Bu at L19 bT up19 UB
        refine ⟨u, rfl, ⟨_, Or.inl (Or.inl uat)⟩, for_it (walk_list (K := K) (a := u) (xs := OT.map V.str)) (fun j σ H' => ∃ (y9 : Option V) (nn : List (Str × Str)), σ = [some (.ref a), some (.ref r), some (.int (0 + (i : Nat))), some (.int (1 + k1)), some (.ref x), some (.str (sysS (1 + k1) 97 (srt ts))), some (.ref wl), some (.int (0 + (t : Nat))), some (.ref Tt), y9, y10] ∧ LS TT r (3000 * i + 1062 + 40 * t + 9 + j) Bu H' ∧
          H' Tt = some (.dK (dictS nn)) ∧ nn.map (·.1) = OT.take j ∧ ∀ p ∈ nn, p.2 ∈ NEWS ++ N) ⟨y9, [], rfl, L19, T18, rfl, fun p hp => by cases hp⟩ (fun j σ H' _ ⟨_, _, _, z, _⟩ => Or.inl (Or.inl (z.rs.s _ _ UB))) ?_ ?_⟩
        · rintro j y σ _ H20 hj ⟨y9, nn, rfl, L20, T20, hkeys, hnews⟩ ⟨rfl, hy⟩
          rw [List.getElem?_map] at hy
          obtain ⟨old, hold, rfl⟩ := Option.map_eq_some_iff.mp hy
          have hj3 : j < 3 := by
            have := (List.getElem?_eq_some_iff.mp hold).1
            omega
          refine ⟨(by show 5 ≤ sizeLine; decide), fun l5 h5 => ?_⟩
          have s21 := snew (o := .lst [.str "q", .str "B", .str "", .str "abcdefghi", .str "abcdefgh"]) h5
          have L21 := L20.new (o := .lst [.str "q", .str "B", .str "", .str "abcdefghi", .str "abcdefgh"]) h5
          have T21 := s21 _ _ T20
          have l5at : (upd H20 l5 (.lst [.str "q", .str "B", .str "", .str "abcdefghi", .str "abcdefgh"])) l5 = some (.lst (NEWS.map V.str)) := upd_same
          generalize upd H20 l5 (.lst [.str "q", .str "B", .str "", .str "abcdefghi", .str "abcdefgh"]) = H21 at L21 T21 l5at ⊢
          have W21 := L21.rs.s _ _ (up19 _ _ WB)
          refine ⟨_, rfl, l5, wl, _, _, rfl, rfl, l5at, W21, by show 5 + (N.map V.str).length ≤ _; rw [List.length_map, Nl, sizeLine_eq]; omega, fun c hc => ?_⟩
          rw [← List.map_append]
          have s22 := snew (o := .lst ((NEWS ++ N).map V.str)) hc
          have L22 := L21.new (o := .lst ((NEWS ++ N).map V.str)) hc
          have rc := L21.rs.ne hc
          have T22 := s22 _ _ T21
          have c22 : (upd H21 c (.lst ((NEWS ++ N).map V.str))) c = some (.lst ((NEWS ++ N).map V.str)) := upd_same
          have W22 := s22 _ _ W21
          generalize upd H21 c (.lst ((NEWS ++ N).map V.str)) = H22 at L22 T22 c22 W22 ⊢
          clear s21 s22 L21 T21 l5at W21
          refine ⟨_, rfl, _, rfl, wl, _, rfl, Or.inl (Or.inl (Or.inl W22)), _, _, rfl, rfl, r, 5 + ((N.map V.str).length : Nat), _, rfl, L22.rs.ok, by omega, by omega, by rw [List.length_map, Nl]; omega, fun k5 H23 k50 k51 D23 => ?_⟩
          have L23 := L22.dr D23
          have T23 : H23 Tt = some (.dK (dictS nn)) := by rw [D23.ne _ rTt.symm]; exact T22
          have c23 : H23 c = some (.lst ((NEWS ++ N).map V.str)) := by rw [D23.ne _ rc.symm]; exact c22
          obtain ⟨gv, a1, a2, _⟩ := atI_in (xs := (NEWS ++ N).map V.str) k50 (by rw [List.length_map] at k51 ⊢; rw [List.length_append]; show _ < ((5 + N.length : Nat) : Int); omega)
          obtain ⟨new, hnew, rfl⟩ := List.mem_map.mp a2
          refine ⟨c, _, _, _, rfl, rfl, Or.inl (Or.inl c23), a1, ?_⟩
          have hnl : (dictS nn).length ≤ 3 := by
            unfold dictS
            rw [List.length_map, ← List.length_map (f := (·.1)), hkeys, List.length_take]
            omega
          refine ⟨_, rfl, _, rfl, Tt, _, rfl, DPut.k (k := Sum.inr old) T23 (Nat.lt_of_le_of_lt hnl (by rw [sizeLine_eq]; decide)), ?_⟩
          have hno : valV (dictS nn) (Sum.inr old) = none := by
            rw [valS, look_none (by rw [hkeys]; exact notin_take OTnd hold)]
            rfl
          refine ⟨_, nn ++ [(old, new)], rfl, L23.putD bT rTt T23, ?_, ?_, fun p hp => ?_⟩
          · rw [upd_same, putK_new _ hno]
            unfold dictS
            rw [List.map_append]
            rfl
          · rw [List.map_append, hkeys, List.take_add_one, hold]
            rfl
          · rcases List.mem_append.mp hp with h | h
            · exact hnews p h
            · simp only [List.mem_cons, List.not_mem_nil, or_false] at h
              subst h
              exact hnew
        · rintro σ H20 ⟨y9, nn, rfl, L20, T20, hkeys, hnews⟩
          rw [List.length_map, List.take_length] at hkeys
          rw [List.length_map] at L20
          have nl : nn.length ≤ 3 := by
            rw [← List.length_map (f := (·.1)), hkeys]
            exact OTl
          have nok : ∀ p ∈ nn, p.2.length ≤ 100000 ∧ PyData.strOk p.2 = true := fun p hp => by
            rcases List.mem_append.mp (hnews p hp) with h | h
            · have z := NEWS_facts _ h
              exact ⟨by omega, z.2⟩
            · have z := name_ok (Nnm _ h)
              exact ⟨by omega, z.1⟩
          obtain ⟨ys, hp, so⟩ := sorted_ex (nn.map (·.1))
          have hsm : ∀ t ∈ srt ts, (rnm nn t.n).length ≤ 100000 := fun t ht => by
            rcases rnm_mem (nn := nn) (x := t.n) with h | ⟨q, hq, h⟩
            · rw [h]
              have := (name_ok (Os.ok.names t ht)).2
              omega
            · rw [← h]
              exact (nok q hq).1
          refine ⟨_, rfl, _, rfl, 4, x, .ref Tt, 1 + k1, 97, srt ts, _, rfl, (SB.mono up19).mono L20.rs.s, Os, L20.tb, ren_due Os T20 (by omega) hsm hp so, fun v0 H21 x21 t21 e21 => ?_⟩
          rw [← hN] at e21
          have L21 := L20.ext x21 t21
          have T21 := x21 _ _ T20 (fun ps z => by cases z)
          have D21 : Dp K H21 v0 (dueS (renDue N nn ys)) := due_dp e21 (fun k y z => by
            obtain ⟨p, hp, e⟩ := Option.map_eq_some_iff.mp z
            cases e
            exact ⟨_, by rw [hp]; rfl, .str _⟩) (fun z => by rw [Option.map_eq_none_iff] at z; rw [z]; rfl)
          refine ⟨_, rfl, _, rfl, wl, Tt, N, ys, nn, rfl, Or.inl (Or.inl (L21.rs.s _ _ (up19 _ _ WB))), T21, by omega, by omega, nok, hp, so, fun v1 H22 s22 e22 => ?_⟩
          have L22 := L21.grow s22
          have lay : SeqAt.shaped (dueS (renDue N nn ys)) = true := (lay_due fun k d z => by
            obtain ⟨p, hpq, e⟩ := Option.map_eq_some_iff.mp z
            cases e
            unfold renDue at hpq
            cases e0 : ys.find? (fun k => !decide (k ∈ N)) with
            | some k =>
              rw [e0] at hpq
              cases hpq
              have hk : k ∈ OT := by rw [← hkeys]; exact hp.mem_iff.mp (List.mem_of_find?_eq_some e0)
              exact ⟨by show (3 : Nat) < 12; decide, .str (name_ok (OTnm _ hk)).1⟩
            | none =>
              rw [e0] at hpq
              obtain ⟨k, hk, rfl⟩ := Option.map_eq_some_iff.mp hpq
              refine ⟨by show (1 : Nat) < 12; decide, .str ?_⟩
              show PyData.strOk (rnm nn k) = true
              rcases rnm_mem (nn := nn) (x := k) with h | ⟨q, hq, h⟩
              · have hk2 : k ∈ OT := by rw [← hkeys]; exact hp.mem_iff.mp (List.mem_of_find?_eq_some hk)
                rw [h]
                exact (name_ok (OTnm _ hk2)).1
              · rw [← h]
                exact (nok q hq).2).shaped (by decide)
          refine ⟨_, _, dpm s22 _ _ D21, e22, lay, lay, _, rfl, ?_⟩
          rw [eqv_refl_due lay]
          refine iteF ⟨_, _, _, rfl, (L11.down up19 L22).mono (by omega)⟩
      · rintro σ H12 ⟨y7, y8, y9, rfl, L12⟩
        have L12 : LS TT r (3000 * i + 1222) B9 H12 := L12
        -- axes
        refine ⟨(by show 0 ≤ sizeLine; decide), fun g0 n0 => ?_⟩
        have La := L12.new (o := .tup []) n0
        have f0 : SqT K (upd H12 g0 (.tup [])) g0 (([] : List Int).map V.int) := Or.inl (Or.inl upd_same)
        generalize upd H12 g0 (.tup []) = Ha at La f0 ⊢
        refine ⟨(by show 3 ≤ sizeLine; decide), fun t3 n3 => ?_⟩
        have Lb := La.new (o := .tup [.int 0, .int 0, .int 0]) n3
        have sb := snew (o := .tup [.int 0, .int 0, .int 0]) n3
        have f0 := sqt sb f0
        have f3 : SqT K (upd Ha t3 (.tup [.int 0, .int 0, .int 0])) t3 [.int 0, .int 0, .int 0] := Or.inl (Or.inl upd_same)
        generalize upd Ha t3 (.tup [.int 0, .int 0, .int 0]) = Hb at Lb f0 f3 ⊢
        refine ⟨_, rfl, 1 + k1, rfl, slA_ans f3 fun g1 Hc sc f1 => ?_⟩
        have Lc := Lb.grow sc
        have f0 := sqt sc f0
        have f1 : SqT K Hc g1 (([0, 0, 0].take (1 + k1).toNat).map V.int) := by
          rw [show (1 + k1) = (((1 + k1).toNat : Nat) : Int) by omega, cut_any] at f1
          rw [List.map_take]
          exact f1
        refine ⟨(by show 2 ≤ sizeLine; decide), fun g2 n2 => ?_⟩
        have Lx2 := Lc.new (o := .tup [.int 1, .int 0]) n2
        have s2 := snew (o := .tup [.int 1, .int 0]) n2
        have f0 := sqt s2 f0
        have f1 := sqt s2 f1
        have f2 : SqT K (upd Hc g2 (.tup [.int 1, .int 0])) g2 (([1, 0] : List Int).map V.int) := Or.inl (Or.inl upd_same)
        generalize upd Hc g2 (.tup [.int 1, .int 0]) = Hx2 at Lx2 f0 f1 f2 ⊢
        clear Lc s2
        refine ⟨(by show 2 ≤ sizeLine; decide), fun g3 n3 => ?_⟩
        have Lx3 := Lx2.new (o := .tup [.int 0, .int 1]) n3
        have s3 := snew (o := .tup [.int 0, .int 1]) n3
        have f0 := sqt s3 f0
        have f1 := sqt s3 f1
        have f2 := sqt s3 f2
        have f3 : SqT K (upd Hx2 g3 (.tup [.int 0, .int 1])) g3 (([0, 1] : List Int).map V.int) := Or.inl (Or.inl upd_same)
        generalize upd Hx2 g3 (.tup [.int 0, .int 1]) = Hx3 at Lx3 f0 f1 f2 f3 ⊢
        clear Lx2 s3
        refine ⟨(by show 3 ≤ sizeLine; decide), fun g4 n4 => ?_⟩
        have Lx4 := Lx3.new (o := .tup [.int 0, .int 2, .int 1]) n4
        have s4 := snew (o := .tup [.int 0, .int 2, .int 1]) n4
        have f0 := sqt s4 f0
        have f1 := sqt s4 f1
        have f2 := sqt s4 f2
        have f3 := sqt s4 f3
        have f4 : SqT K (upd Hx3 g4 (.tup [.int 0, .int 2, .int 1])) g4 (([0, 2, 1] : List Int).map V.int) := Or.inl (Or.inl upd_same)
        generalize upd Hx3 g4 (.tup [.int 0, .int 2, .int 1]) = Hx4 at Lx4 f0 f1 f2 f3 f4 ⊢
        clear Lx3 s4
        refine ⟨1, rfl, (by show 2 ≤ sizeLine; decide), fun g5 n5 => ?_⟩
        have Lx5 := Lx4.new (o := .tup [.int (-1), .int 0]) n5
        have s5 := snew (o := .tup [.int (-1), .int 0]) n5
        have f0 := sqt s5 f0
        have f1 := sqt s5 f1
        have f2 := sqt s5 f2
        have f3 := sqt s5 f3
        have f4 := sqt s5 f4
        have f5 : SqT K (upd Hx4 g5 (.tup [.int (-1), .int 0])) g5 (([-1, 0] : List Int).map V.int) := Or.inl (Or.inl upd_same)
        generalize upd Hx4 g5 (.tup [.int (-1), .int 0]) = Hx5 at Lx5 f0 f1 f2 f3 f4 f5 ⊢
        clear Lx4 s5
        refine ⟨(by show 1 ≤ sizeLine; decide), fun g6 n6 => ?_⟩
        have Lx6 := Lx5.new (o := .tup [.int 0]) n6
        have s6 := snew (o := .tup [.int 0]) n6
        have f0 := sqt s6 f0
        have f1 := sqt s6 f1
        have f2 := sqt s6 f2
        have f3 := sqt s6 f3
        have f4 := sqt s6 f4
        have f5 := sqt s6 f5
        have f6 : SqT K (upd Hx5 g6 (.tup [.int 0])) g6 (([0] : List Int).map V.int) := Or.inl (Or.inl upd_same)
        generalize upd Hx5 g6 (.tup [.int 0]) = Hx6 at Lx6 f0 f1 f2 f3 f4 f5 f6 ⊢
        clear Lx5 s6
        refine ⟨(by show 3 ≤ sizeLine; decide), fun g7 n7 => ?_⟩
        have Lx7 := Lx6.new (o := .tup [.int 1, .int 2, .int 3]) n7
        have s7 := snew (o := .tup [.int 1, .int 2, .int 3]) n7
        have f0 := sqt s7 f0
        have f1 := sqt s7 f1
        have f2 := sqt s7 f2
        have f3 := sqt s7 f3
        have f4 := sqt s7 f4
        have f5 := sqt s7 f5
        have f6 := sqt s7 f6
        have f7 : SqT K (upd Hx6 g7 (.tup [.int 1, .int 2, .int 3])) g7 (([1, 2, 3] : List Int).map V.int) := Or.inl (Or.inl upd_same)
        generalize upd Hx6 g7 (.tup [.int 1, .int 2, .int 3]) = Hx7 at Lx7 f0 f1 f2 f3 f4 f5 f6 f7 ⊢
        clear Lx6 s7
        refine ⟨(by show 4 ≤ sizeLine; decide), fun g8 n8 => ?_⟩
        have Lx8 := Lx7.new (o := .tup [.int 2, .int 1, .int 0, .int 3]) n8
        have s8 := snew (o := .tup [.int 2, .int 1, .int 0, .int 3]) n8
        have f0 := sqt s8 f0
        have f1 := sqt s8 f1
        have f2 := sqt s8 f2
        have f3 := sqt s8 f3
        have f4 := sqt s8 f4
        have f5 := sqt s8 f5
        have f6 := sqt s8 f6
        have f7 := sqt s8 f7
        have f8 : SqT K (upd Hx7 g8 (.tup [.int 2, .int 1, .int 0, .int 3])) g8 (([2, 1, 0, 3] : List Int).map V.int) := Or.inl (Or.inl upd_same)
        generalize upd Hx7 g8 (.tup [.int 2, .int 1, .int 0, .int 3]) = Hx8 at Lx8 f0 f1 f2 f3 f4 f5 f6 f7 f8 ⊢
        clear Lx7 s8
        refine ⟨(by show 9 ≤ sizeLine; decide), fun gl ngl => ?_⟩
        have dps9 : DpAll K Hx8 [V.ref g0, .ref g1, .ref g2, .ref g3, .ref g4, .ref g5, .ref g6, .ref g7, .ref g8] ((AXS (1 + k1)).map axD) := .cons (.tup f0 (ints_dps _)) (.cons (.tup f1 (ints_dps _)) (.cons (.tup f2 (ints_dps _)) (.cons (.tup f3 (ints_dps _)) (.cons (.tup f4 (ints_dps _)) (.cons (.tup f5 (ints_dps _)) (.cons (.tup f6 (ints_dps _)) (.cons (.tup f7 (ints_dps _)) (.cons (.tup f8 (ints_dps _)) .nil))))))))
        have Ld := Lx8.new (o := .lst [.ref g0, .ref g1, .ref g2, .ref g3, .ref g4, .ref g5, .ref g6, .ref g7, .ref g8]) ngl
        have rgl := Lx8.rs.ne ngl
        have dps9 := dpsm (snew (o := .lst [.ref g0, .ref g1, .ref g2, .ref g3, .ref g4, .ref g5, .ref g6, .ref g7, .ref g8]) ngl) _ _ dps9
        have glat : (upd Hx8 gl (.lst [.ref g0, .ref g1, .ref g2, .ref g3, .ref g4, .ref g5, .ref g6, .ref g7, .ref g8])) gl = some (.lst [.ref g0, .ref g1, .ref g2, .ref g3, .ref g4, .ref g5, .ref g6, .ref g7, .ref g8]) := upd_same
        generalize upd Hx8 gl (.lst [.ref g0, .ref g1, .ref g2, .ref g3, .ref g4, .ref g5, .ref g6, .ref g7, .ref g8]) = He at Ld dps9 glat ⊢
        clear f0 f1 f2 f3 f4 f5 f6 f7 f8 Lx8
        generalize [V.ref g0, V.ref g1, V.ref g2, V.ref g3, V.ref g4, V.ref g5, V.ref g6, V.ref g7, V.ref g8] = gs at dps9 glat ⊢
        have GD : LD K He gl ((AXS (1 + k1)).map axD) := ⟨gs, glat, dps9⟩
        obtain ⟨gs', gat', gdp'⟩ := GD.bs (noLs_map noL_ax _) Ld.rs.ok rgl
        have egs : gs' = gs := by
          have z := (of_bs gat').1
          rw [glat] at z
          cases z
          rfl
        subst egs
        have upd' := Ld.up
        have Ld := Ld.re
        generalize bs He r = Bd at Ld gat' gdp' upd'
        have Sd := SB.mono upd'
        have fin : ∀ {k' : Nat} {H' : Hp}, LS TT r k' Bd H' → LS TT r k' B9 H' := fun z => L11.down upd' z
        refine ⟨gl, rfl, ⟨_, Or.inl (Or.inl glat)⟩, for_it (walk_list (K := K) (a := gl) (xs := gs')) (fun j σ H' => ∃ (y7 y8 y9 y10 : Option V), σ = [some (.ref a), some (.ref r), some (.int (0 + (i : Nat))), some (.int (1 + k1)), some (.ref x), some (.str (sysS (1 + k1) 97 (srt ts))), some (.ref wl), y7, y8, y9, y10] ∧ LS TT r (3000 * i + 1222) Bd H') ⟨_, _, _, _, rfl, Ld⟩ (fun j σ H' _ ⟨_, _, _, _, _, z⟩ => Or.inl (Or.inl (z.rs.s _ _ gat'))) ?_ ?_⟩
        · rintro j y σ _ Hj hj ⟨y7, y8, y9, y10, rfl, Lj⟩ ⟨rfl, hy⟩
          obtain ⟨dd, e1, e2⟩ := dps_get gdp' hy
          rw [List.getElem?_map] at e1
          obtain ⟨ax, hax, rfl⟩ := Option.map_eq_some_iff.mp e1
          have axl := AXS_len (List.mem_of_getElem? hax)
          obtain ⟨g, rfl, hg⟩ := axD_at e2
          obtain ⟨o, ho⟩ : ∃ o : Option (Nat × PyData), o = if ax.Perm (rgI (1 + k1)) then none else some (2, axD ax) := ⟨_, rfl⟩
          have olay : ∀ k d, o = some (k, d) → k < 12 ∧ Lay d 9 := fun k d e => by
            rw [ho] at e
            split at e
            · cases e
            · cases e
              exact ⟨by decide, lay_ax ax⟩
          refine ⟨fun v H' => LS TT r (3000 * i + 1222) Bd H' ∧ Dp K H' v (dueD o), ?_, ?_⟩
          · rintro v H6 ⟨L6, D6⟩
            have g6 := sqt L6.rs.s hg
            have hdue : ∃ due, Due K C H6 (1 + k1) 97 (srt ts) 5 (.ref g) due ∧ ∀ v H', SD Bd H' → DueV H' v due → Dp K H' v (dueD o) := by
              by_cases hm : ax.Perm (rgI (1 + k1))
              · rw [if_pos hm] at ho
                obtain ⟨an, rfl, han⟩ := ax_nat hm
                exact ⟨none, .ex g an g6 han, fun v H' _ h => due_dp h (fun k y z => by cases z) fun _ => ho⟩
              · rw [if_neg hm] at ho
                refine ⟨_, .exX g ax g6 (by omega) hm, fun v H' sd h => due_dp h (fun k y z => ?_) fun z => by cases z⟩
                cases z
                exact ⟨axD ax, ho, dpd sd _ _ e2⟩
            obtain ⟨due, hdue, hdp⟩ := hdue
            refine ⟨_, rfl, _, rfl, 5, x, .ref g, 1 + k1, 97, srt ts, due, rfl, Sd.mono L6.rs.s, Os, L6.tb, hdue, fun v0 H7 x7 t7 d7 => ?_⟩
            have L7 := L6.ext x7 t7
            have sh := (lay_due olay).shaped (by decide)
            refine ⟨_, rfl, _, _, hdp _ _ (SD.of L7.rs.s) d7, dpd (SD.ext x7) _ _ D6, sh, sh, _, rfl, ?_⟩
            rw [eqv_refl_due sh]
            exact iteF ⟨_, _, _, _, rfl, L7⟩
          · refine ⟨_, rfl, g, _, rfl, sqt Lj.rs.s hg, fun ns' p perm so hp => ?_⟩
            have sp1 : Same Hj (upd Hj p (.lst (ns'.map V.int))) := snew hp
            have rgok : RgOk 0 (1 + k1) := RgOk.of_le (by omega) (by omega) (by omega) (by omega)
            refine ⟨_, rfl, 1 + k1, rfl, rgok, fun q2 hq2 => ?_⟩
            have sp2 := snew (o := .lst (rgV 0 (1 + k1))) hq2
            have Lq := (Lj.new (o := .lst (ns'.map V.int)) hp).new (o := .lst (rgV 0 (1 + k1))) hq2
            have shp : ∀ l : List Int, SeqAt.shaped (.list (l.map PyData.int)) = true := fun l => (Lay.list (k := 0) (.map fun x _ => Lay.int)).shaped (by decide)
            have erg : rgV 0 (1 + k1) = (rgI (1 + k1)).map V.int := rgV0 (1 + k1)
            refine ⟨.list (ns'.map .int), .list ((rgI (1 + k1)).map .int), .lst (Or.inl (Or.inl (sp2 _ _ upd_same))) (ints_dps ns'), .lst (Or.inl (Or.inl (by rw [← erg]; exact upd_same))) (ints_dps _), shp ns', shp _, _, rfl, ?_⟩
            rw [eqv_ints]
            by_cases hm : ax.Perm (rgI (1 + k1))
            · have e : ns' = rgI (1 + k1) := List.Perm.eq_of_pairwise (fun _ _ _ _ h k => Int.le_antisymm h k) so (rgI_sorted _) (perm.trans hm)
              rw [if_pos hm] at ho
              rw [decide_eq_true e, ho]
              exact iteT ⟨Lq, .str _⟩
            · have e : ns' ≠ rgI (1 + k1) := fun z => hm (by rw [← z]; exact perm.symm)
              rw [if_neg hm] at ho
              rw [decide_eq_false e, ho]
              refine iteF ⟨_, rfl, (by show 2 ≤ sizeLine; decide), fun tq htq => ⟨Lq.new htq, ?_⟩⟩
              have w2 : wordC 2 = "axes" := by decide +kernel
              show Dp K _ _ (.tuple [.str (wordC 2), axD ax])
              rw [w2]
              exact .tup (Or.inl (Or.inl upd_same)) (.cons (.str _) (.cons (dpm (Lq.new (o := .tup [.str "axes", .ref g]) htq).rs.s _ _ e2) .nil))
        · rintro σ H20 ⟨y7, y8, y9, y10, rfl, L20⟩
          -- the system stays
          refine ⟨_, rfl, x, 1 + k1, 97, srt ts, rfl, Sd.mono L20.rs.s, Os, fun H21 s21 => ?_⟩
          refine ⟨_, rfl, rfl, _, rfl, ?_⟩
          rw [decide_eq_true rfl]
          have L21 := L20.grow s21
          refine iteF ⟨_, _, _, _, _, _, _, _, _, rfl, L21.rs.ok.mono (by omega), L21.tb⟩
    · rintro σ H' ⟨y2, y3, y4, y5, y6, y7, y8, y9, y10, rfl, _⟩
      exact q _
end
end Fr

namespace Fr
open PySem PySem.Spec PyProof.Rows L2
section
variable {P : Program} {w : World} {K : PySem.W.Frag} {mg mb : Str → Option Value} {a : Addr} {cs : List (Addr × Addr)} {s : Shared} {vs : List Value} {ns : List Int}
/-- what is tracked when the law is called: the tables, and the script unless it is written down -/
structure Begin (K : PySem.W.Frag) (cs : List (Addr × Addr)) (a : Addr) (so : Obj) (ns : List Int) (H : Hp) : Prop where
  tab : ∀ p ∈ cs, H p.2 = some (.tbl #[])
  scr : SqL K H a (ns.map V.int)
  only : ∀ b u, H b = some u → (u = .tbl #[] ∧ ∃ p ∈ cs, p.2 = b) ∨ (b = a ∧ u = .frz so (.lst (ns.map V.int)) ∧ K.lookup a = none)
theorem begin_ex (inK : K.In s.heap) (ha : s.heap.get? a = some { cls := .type "list", data := .seq vs.toArray }) (hi : IntsAre vs ns) (hl : ns.length ≤ sizeLine) (hT : ∀ p ∈ cs, s.heap.get? p.2 = some { cls := .none, data := .fields #[] }) :
    ∃ H, Begin K cs a { cls := .type "list", data := .seq vs.toArray } ns H := by
  have na : ¬ ∃ p ∈ cs, p.2 = a := by
    rintro ⟨p, hp, e⟩
    have z := hT p hp
    rw [e, ha] at z
    have z2 : Data.seq vs.toArray _ = Data.fields #[] := congrArg Obj.data (Option.some.inj z)
    cases z2
  haveI : DecidablePred fun b => ∃ p ∈ cs, p.2 = b := fun b => Classical.propDecidable _
  refine ⟨fun b => if ∃ p ∈ cs, p.2 = b then some (.tbl #[]) else if b = a then (match K.lookup a with | none => some (.frz { cls := .type "list", data := .seq vs.toArray } (.lst (ns.map V.int))) | some _ => none) else none, ⟨fun p hp => if_pos ⟨p, hp, rfl⟩, ?_, ?_⟩⟩
  · cases hk : K.lookup a with
    | none =>
      refine .inl (.inr ⟨{ cls := .type "list", data := .seq vs.toArray }, ?_⟩)
      exact (if_neg na).trans (if_pos rfl)
    | some o =>
      have e := inK a o hk
      rw [ha] at e
      cases e
      exact .inr ⟨_, vs.toArray, _, hk, rfl, rfl, rfl, by rw [List.size_toArray, hi.length]; exact hl, by simpa using vals_ints hi⟩
  · intro b u h
    by_cases h1 : ∃ p ∈ cs, p.2 = b
    · rw [if_pos h1] at h
      cases h
      exact .inl ⟨rfl, h1⟩
    · rw [if_neg h1] at h
      by_cases h2 : b = a
      · rw [if_pos h2] at h
        cases hk : K.lookup a with
        | none =>
          rw [hk] at h
          cases h
          exact .inr ⟨h2, rfl, rfl⟩
        | some o =>
          rw [hk] at h
          cases h
      · rw [if_neg h2] at h
        cases h
theorem law_callG {k : Nat} {fa : Addr} {fd : FuncData} {x : Str} {sp : Sp} (inK : K.In s.heap) (hns : s.heap.Ns mainGlobals mg) (hb : s.heap.Ns builtinsNs mb) (hbb : ∀ x : Str, x ≠ "__name__" → mb x = bootBuiltins x) (hlim : s.heap.NoLimit) (hg : s.gens = #[])
    (hT : ∀ p ∈ cs, s.heap.get? p.2 = some { cls := .none, data := .fields #[] }) (nT : ∀ p ∈ cs, K.lookup p.2 = none) (hC : ∀ p ∈ cs, PySem.W.CodeHd s.heap p.1 p.2)
    (hbm : ∃ (bm : Addr) (ob : Obj), mg "__builtins__" = some (.ref bm) ∧ bm ≠ builtinsNs ∧ s.heap.get? bm = some ob ∧ ob.cls = .type "module" ∧ ob.dict = some builtinsNs ∧ ob.data = .plain)
    (ha : s.heap.get? a = some { cls := .type "list", data := .seq vs.toArray }) (hi : IntsAre vs ns) (hl : ns.length ≤ sizeLine) (hr : Room k callerA)
    (F : ∀ base : Heap, K.In base → base.Ns mainGlobals mg → (∀ p ∈ cs, LamX.TabB base mg p.1 p.2) → FnG P w K mg base k fa fd [x] sp) (bind : ∀ (s : Shared) (u : Value), BindsTo s fd ⟨[u], []⟩ [(x, u)])
    (hsp : ∀ H : Hp, (∀ p ∈ cs, H p.2 = some (.tbl #[])) → SqL K H a (ns.map V.int) → sp [.ref a] H (fun v _ => v = .bl true) fun _ _ _ => False) :
    codeAny (model P w) callerA (.call (.ref fa) ⟨[.ref a], []⟩) (fun r s' => r = .ok (.ret (.bool true)) ∧ OldK s.heap s'.heap ∧ s'.os = s.os ∧ AllBare s'.gens) s := by
  obtain ⟨H, B⟩ := begin_ex inK ha hi hl hT
  have hok : HOk P w H s.heap := by
    intro b u h
    rcases B.only b u h with ⟨rfl, p, hp, rfl⟩ | ⟨rfl, rfl, _⟩
    · exact hT p hp
    · exact ⟨ha, by rw [List.length_map]; exact hl, vs, _, vals_ints hi, ha⟩
  -- what is no list and no empty table is not tracked
  have out : ∀ {b : Addr} {o : Obj}, s.heap.get? b = some o → (∀ ys n, o.data ≠ .seq ys n) → o.data ≠ .fields #[] → H b = none := by
    intro b o h1 h2 h3
    cases hb : H b with
    | none => rfl
    | some u =>
      rcases B.only b u hb with ⟨_, p, hp, rfl⟩ | ⟨rfl, _, _⟩
      · rw [hT p hp] at h1
        cases h1
        exact (h3 rfl).elim
      · rw [ha] at h1
        cases h1
        exact (h2 _ _ rfl).elim
  have low : ∀ {b : Addr} {o : Obj}, s.heap.get? b = some o → (∀ ys n, o.data ≠ .seq ys n) → o.data ≠ .fields #[] → (hidT s.heap H).get? b = some o := fun h1 h2 h3 => hidT_get h1 (out h1 h2 h3)
  have nsB : ∀ {b : Addr} {m : Str → Option Value}, s.heap.Ns b m → (hidT s.heap H).Ns b m := by
    rintro b m ⟨o, es, ep, h1, h2, h3⟩
    exact ⟨o, es, ep, low h1 (fun ys n z => by rw [h2] at z; cases z) (fun z => by rw [h2] at z; cases z), h2, h3⟩
  have inB : K.In (hidT s.heap H) := by
    intro b o h
    refine hidT_get (inK b o h) ?_
    cases hb : H b with
    | none => rfl
    | some u =>
      rcases B.only b u hb with ⟨_, p, hp, rfl⟩ | ⟨rfl, _, z⟩
      · rw [nT p hp] at h
        cases h
      · rw [z] at h
        cases h
  have md : L2.Mod K mg (hidT s.heap H) := by
    obtain ⟨mc, l1, l2⟩ := hlim
    exact ⟨inB, nsB hns, ⟨mb, nsB hb, hbb⟩, ⟨mc, nsB l1, l2⟩⟩
  have tb : ∀ p ∈ cs, LamX.TabB (hidT s.heap H) mg p.1 p.2 := by
    intro p hp
    have hp0 := hT p hp
    constructor
    · obtain ⟨o, us, f1, f2, f3, f4, f5, f6, f7, g, r1, r2, r3, r4, r5, r6, r7, r8, ne⟩ := hC p hp
      refine ⟨o, us, f1, f2, f3, f4, f5, f6, f7, low g (fun ys n z => by rw [r2] at z; cases z) (fun z => ?_), r1, r2, r3, r4, r5, r6, r7, r8, ne⟩
      rw [r2] at z
      cases z
      simp at r3
    · obtain ⟨bm, ob, b1, b2, b3, b4, b5, b6⟩ := hbm
      refine ⟨bm, ob, b1, b2, fun z => ?_, fun z => ?_, low b3 (fun ys n z => by rw [b6] at z; cases z) (fun z => by rw [b6] at z; cases z), b4, b5, b6⟩
      · obtain ⟨o, es, ep, e1, e2, _⟩ := hns
        rw [z, e1] at b3
        cases b3
        rw [e2] at b6
        cases b6
      · rw [z, hp0] at b3
        cases b3
        cases b6
    · intro z
      obtain ⟨o, es, ep, e1, e2, _⟩ := hns
      rw [z, hp0] at e1
      cases e1
      cases e2
  have env : Env0 P w K mg (hidT s.heap H) callerA [] s H :=
    { frames := rfl, mod := md, bs := fun _ _ z => of_hidT z, bsz := Nat.le_of_eq (hidT_size _ _), funs := trivial, frf := fun b z => absurd (show b ∈ ([] : List Addr) from z) (List.not_mem_nil), hok := hok, bare := .of_eq hg }
  refine codeAny_mono ((F _ inB (nsB hns) tb).go callerA [] s H ⟨[.ref a], []⟩ [.ref a] [.ref a] _ _ ⟨hr, rfl⟩ env (bind s (.ref a)) (.cons rfl .nil) (hsp H B.tab B.scr)) ?_
  intro rs s2 z
  match rs, z with
  | .error e, z => exact (show False from z).elim
  | .ok .next, z => exact z.elim
  | .ok .brk, z => exact z.elim
  | .ok .cont, z => exact z.elim
  | .ok (.ret u), z =>
    obtain ⟨v, H2, os, bare, un, hok2, ru, rfl⟩ := z
    obtain rfl : u = Value.bool true := ru
    have grow : ∀ p ∈ cs, ∃ more : Array Value, s2.heap.get? p.2 = some { cls := .none, data := .fields more } := fun p hp => by
      obtain ⟨more, e⟩ := un.tbls p.2 #[] (B.tab p hp)
      exact ⟨_, hok2 _ _ e⟩
    have keep : ∀ b o, (¬ ∃ p ∈ cs, p.2 = b) → s.heap.get? b = some o → s2.heap.get? b = some o := by
      intro b o nb h
      cases hb : H b with
      | none => exact un.keep b o h hb (fun z => absurd (show b ∈ ([] : List Addr) from z) List.not_mem_nil) List.not_mem_nil
      | some u =>
        rcases B.only b u hb with ⟨_, z⟩ | ⟨rfl, rfl, _⟩
        · exact (nb z).elim
        · have h1 := (hok _ _ hb).1
          rw [h] at h1
          cases h1
          exact (hok2 _ _ (un.frzs _ _ _ hb)).1
    refine ⟨rfl, ⟨fun b o h => ?_, fun b o h => ?_⟩, os, bare⟩
    · by_cases hb : ∃ p ∈ cs, p.2 = b
      · obtain ⟨p, hp, rfl⟩ := hb
        obtain ⟨more, e⟩ := grow p hp
        have h0 := hT p hp
        rw [h] at h0
        cases h0
        refine .inr (.inl ⟨((hC p hp).tab (hT p hp)).isCodeTable, rfl, #[], more, rfl, ?_⟩)
        rw [Array.empty_append]
        exact e
      · exact .inl (keep b o hb h)
    · by_cases hb : ∃ p ∈ cs, p.2 = b
      · obtain ⟨p, hp, rfl⟩ := hb
        obtain ⟨more, e⟩ := grow p hp
        exact ⟨_, e⟩
      · exact ⟨o, keep b o hb h⟩
/-- what is to be known of a law's def, at the heap behind its program's top -/
def LawAtG (l : PySem.W.OpenLaw) (w : World) (K : PySem.W.Frag) (k n : Nat) (x : Str) (mg : Str → Option Value) (fa : Addr) (h : Heap) : Prop :=
  ∃ (fd : FuncData) (cs : List (Addr × Addr)) (sp : Sp), ((∀ p ∈ cs, h.get? p.2 = some { cls := .none, data := .fields #[] }) ∧ (∀ p ∈ cs, K.lookup p.2 = none) ∧ ∀ p ∈ cs, PySem.W.CodeHd h p.1 p.2) ∧ (∀ (s : Shared) (u : Value), BindsTo s fd ⟨[u], []⟩ [(x, u)]) ∧
    (∀ (H : Hp) (a : Addr) (ns : List Int), ns.length ≤ n → (∀ p ∈ cs, H p.2 = some (.tbl #[])) → SqL K H a (ns.map V.int) → sp [.ref a] H (fun v _ => v = .bl true) fun _ _ _ => False) ∧
    ∀ base : Heap, K.In base → base.Ns mainGlobals mg → (∀ p ∈ cs, LamX.TabB base mg p.1 p.2) → FnG l.prog w K mg base k fa fd [x] sp
theorem walk_ofG {l : PySem.W.OpenLaw} {n k : Nat} {q : Program} {loose : List Str} {XP : (Str → Option Value) → Heap → Prop} {YP : World → Heap → Prop} {d : DefRec} {K : Params → PySem.W.Frag} {x : Str}
    (hn : l.most = some n) (hz : n ≤ sizeLine) (hdf : d.params.defaults = []) (hr : Room k callerA) (hY : ∀ (w : World) (h : Heap), YP w h → (K w.params).In h)
    (F : ∀ (w : World) (mg : Str → Option Value) (fa : Addr) (h : Heap), YP w h → (K w.params).In h → h.Ns mainGlobals mg → mg d.name = some (.ref fa) → LawAtG l w (K w.params) k n x mg fa h) : PySem.W.WalkO q loose XP YP l.row.toRowW d [] (fun f vs => PySem.call f vs) := by
  refine Att.attach_callB hn hdf ?_
  intro w _ s mg mb fa _ _ _ _ a vs ns G Y _ _ _ hmg hobj hints hlen _ hg
  have inK := hY w _ Y
  obtain ⟨fd, cs, sp, ⟨h1, h2, h3⟩, hb, hsp, hF⟩ := F w mg fa _ Y inK G.T.g hmg
  exact law_callG inK G.T.g G.T.b G.T.builtins G.T.nolimit hg h1 h2 h3 G.T.bmain hobj hints (Nat.le_trans hlen hz) hr hF hb fun H t => hsp H a ns hlen t
end
end Fr

namespace Fr
open PySem PySem.Spec PyProof.Rows L2
theorem kb1 {K : PySem.W.Frag} {fd : FuncData} {a b : Str} (h : ∀ (s : Shared) (u v : Value), BindsTo s fd ⟨[u], [(b, v)]⟩ [(a, u), (b, v)]) : L2.KBinds K fd [a, b] [b] kw1 kw1 :=
  ⟨fun s us ws _ hlen => (match us, ws, hlen with
    | [u], [v], _ => h s u v
    | [], _, h => absurd h (by simp [kw1])
    | [_], [], h => absurd h (by simp [kw1])
    | [_], _ :: _ :: _, h => absurd h (by simp [kw1])
    | _ :: _ :: _, _, h => absurd h (by simp [kw1])), fun hv hz => by
    cases hv with
    | nil => exact .nil
    | cons h1 h2 =>
      cases h2 with
      | nil =>
        cases hz with
        | nil => exact .nil
        | cons h3 h4 =>
          cases h4 with
          | nil => exact .cons h1 (.cons h3 .nil)
          | cons _ _ => exact .nil
      | cons _ _ => exact .nil⟩
def cOf (l : List Addr) (i : Nat) : Addr := l.getD i 0
def ExcRow (K : PySem.W.Frag) (C : Addr) : Prop := ∃ nm q N bs bm sn sub ab col dd k0 k1 k2 k3 k5, K.lookup C = some (excClassObj nm q C N bs bm true sn sub ab col dd k0 k1 k2 k3 k5 "ValueError.__new__") ∧ PySem.HandSPX.refsVE bm = true
theorem excRow_of {K : PySem.W.Frag} {C N : Addr} {nm q : Str} {bs bm sub : List Value} {sn : List Str} {ab : Bool} {col : Option Bool} {dd : Option Addr} {k0 k1 k2 k3 k5 : Option Value} (l : K.lookup C = some (excClassObj nm q C N bs bm true sn sub ab col dd k0 k1 k2 k3 k5 "ValueError.__new__")) (r : PySem.HandSPX.refsVE bm = true) : ExcRow K C := ⟨_, _, _, _, _, _, _, _, _, _, _, _, _, _, _, l, r⟩
theorem all_mk {l : PySem.W.OpenLaw} {w : World} {K : PySem.W.Frag} {h : Heap} {mg : Str → Option Value} {fa : Addr} (X : K.In h) (G : h.Ns mainGlobals mg) (hfa : mg "law" = some (.ref fa))
    {C c0 Pt T0 fI f1 f2 f3 f4 f5 f6 f7 f8 f9 f10 f11 f12 f13 f14 f15 f16 f17 f18 f19 pPdimensions gPdimensions pPmodulus gPmodulus pPnames gPnames fMreads fMconstant fMall_reads fMwith_tables fMcheck_new_names fMwithout fMbeside fMexchanged fMrenamed fMlen fMeq D0 D1 D2 D3 D4 D5 D6 D7 D8 D9 D10 D11 D12 fE : Addr} {od1 an1 od2 an2 od3 an3 od4 an4 od5 an5 od6 an6 od7 an7 od8 an8 od9 an9 od10 an10 od11 an11 od12 an12 od13 an13 od14 an14 od15 an15 od16 an16 od17 an17 od18 an18 od19 an19 odPdimensions anPdimensions odPmodulus anPmodulus odPnames anPnames odMreads anMreads odMconstant anMconstant odMall_reads anMall_reads odMwith_tables anMwith_tables odMcheck_new_names anMcheck_new_names odMwithout anMwithout odMbeside anMbeside odMexchanged anMexchanged odMrenamed anMrenamed odMlen anMlen odMeq anMeq odI anI odT odE anE : Option Addr} {sl1 sl2 sl3 sl4 sl5 sl6 sl7 sl8 sl9 sl10 sl11 sl12 sl13 sl14 sl15 sl16 sl17 sl18 sl19 slPdimensions slPmodulus slPnames slMreads slMconstant slMall_reads slMwith_tables slMcheck_new_names slMwithout slMbeside slMexchanged slMrenamed slMlen slMeq slI slT slE : Array (Option Value)} {oc1 kV1 dc1 pm1 ct1 cd1 oc2 kV2 dc2 pm2 ct2 cd2 oc3 kV3 dc3 pm3 ct3 cd3 oc4 kV4 dc4 pm4 ct4 cd4 oc5 kV5 dc5 pm5 ct5 cd5 oc6 kV6 dc6 pm6 ct6 cd6 oc7 kV7 dc7 pm7 ct7 cd7 oc8 kV8 dc8 pm8 ct8 cd8 oc9 kV9 dc9 pm9 ct9 cd9 oc10 kV10 dc10 pm10 ct10 cd10 oc11 kV11 dc11 pm11 ct11 cd11 oc12 kV12 dc12 pm12 ct12 cd12 oc13 kV13 dc13 pm13 ct13 cd13 oc14 kV14 dc14 pm14 ct14 cd14 oc15 kV15 dc15 pm15 ct15 cd15 oc16 kV16 dc16 pm16 ct16 cd16 oc17 kV17 dc17 pm17 ct17 cd17 oc18 kV18 dc18 pm18 ct18 cd18 oc19 kV19 dc19 pm19 ct19 cd19 ocPdimensions kVPdimensions dcPdimensions pmPdimensions ctPdimensions cdPdimensions ocPmodulus kVPmodulus dcPmodulus pmPmodulus ctPmodulus cdPmodulus ocPnames kVPnames dcPnames pmPnames ctPnames cdPnames ocMreads kVMreads dcMreads pmMreads ctMreads cdMreads ocMconstant kVMconstant dcMconstant pmMconstant ctMconstant cdMconstant ocMall_reads kVMall_reads dcMall_reads pmMall_reads ctMall_reads cdMall_reads ocMwith_tables kVMwith_tables dcMwith_tables pmMwith_tables ctMwith_tables cdMwith_tables ocMcheck_new_names kVMcheck_new_names dcMcheck_new_names pmMcheck_new_names ctMcheck_new_names cdMcheck_new_names ocMwithout kVMwithout dcMwithout pmMwithout ctMwithout cdMwithout ocMbeside kVMbeside dcMbeside pmMbeside ctMbeside cdMbeside ocMexchanged kVMexchanged dcMexchanged pmMexchanged ctMexchanged cdMexchanged ocMrenamed kVMrenamed dcMrenamed pmMrenamed ctMrenamed cdMrenamed ocMlen kVMlen dcMlen pmMlen ctMlen cdMlen ocMeq kVMeq dcMeq pmMeq ctMeq cdMeq ocI kVI dcI pmI ctI ocT ocE kVE dcE pmE ctE cdE : Value} {restPdimensions restPmodulus restPnames : List Value} {tT t_MOST_DIMENSIONS t_MOST_TABLES t_MOST_READS t_MOST_LETTERS : Tok} {nT : Nat}
    (a1 : PySem.W.nsIn K mainGlobals "is_name" = some (some (.ref f1)))
    (l1 : K.lookup f1 = some ⟨oc1, od1, .func (PySem.W.fnOf "is_name" "is_name" (defArgs s_is_name) (defBody s_is_name) (defScope s_is_name) .none kV1 dc1 pm1 an1 cd1 ct1), sl1⟩)
    (e1 : PySem.W.codeIn K cd1 "is_name" = true)
    (k1 : PySem.W.keepIn K (.ref f1) = true)
    (a2 : PySem.W.nsIn K mainGlobals "is_read" = some (some (.ref f2)))
    (l2 : K.lookup f2 = some ⟨oc2, od2, .func (PySem.W.fnOf "is_read" "is_read" (defArgs s_is_read) (defBody s_is_read) (defScope s_is_read) .none kV2 dc2 pm2 an2 cd2 ct2), sl2⟩)
    (e2 : PySem.W.codeIn K cd2 "is_read" = true)
    (k2 : PySem.W.keepIn K (.ref f2) = true)
    (a3 : PySem.W.nsIn K mainGlobals "check_table" = some (some (.ref f3)))
    (l3 : K.lookup f3 = some ⟨oc3, od3, .func (PySem.W.fnOf "check_table" "check_table" (defArgs s_check_table) (defBody s_check_table) (defScope s_check_table) .none kV3 dc3 pm3 an3 cd3 ct3), sl3⟩)
    (e3 : PySem.W.codeIn K cd3 "check_table" = true)
    (k3 : PySem.W.keepIn K (.ref f3) = true)
    (a4 : PySem.W.nsIn K mainGlobals "check_tables" = some (some (.ref f4)))
    (l4 : K.lookup f4 = some ⟨oc4, od4, .func (PySem.W.fnOf "check_tables" "check_tables" (defArgs s_check_tables) (defBody s_check_tables) (defScope s_check_tables) .none kV4 dc4 pm4 an4 cd4 ct4), sl4⟩)
    (e4 : PySem.W.codeIn K cd4 "check_tables" = true)
    (k4 : PySem.W.keepIn K (.ref f4) = true)
    (a5 : PySem.W.nsIn K mainGlobals "check_tables_that_are_read" = some (some (.ref f5)))
    (l5 : K.lookup f5 = some ⟨oc5, od5, .func (PySem.W.fnOf "check_tables_that_are_read" "check_tables_that_are_read" (defArgs s_check_tables_that_are_read) (defBody s_check_tables_that_are_read) (defScope s_check_tables_that_are_read) .none kV5 dc5 pm5 an5 cd5 ct5), sl5⟩)
    (e5 : PySem.W.codeIn K cd5 "check_tables_that_are_read" = true)
    (k5 : PySem.W.keepIn K (.ref f5) = true)
    (a6 : PySem.W.nsIn K mainGlobals "check_system" = some (some (.ref f6)))
    (l6 : K.lookup f6 = some ⟨oc6, od6, .func (PySem.W.fnOf "check_system" "check_system" (defArgs s_check_system) (defBody s_check_system) (defScope s_check_system) .none kV6 dc6 pm6 an6 cd6 ct6), sl6⟩)
    (e6 : PySem.W.codeIn K cd6 "check_system" = true)
    (k6 : PySem.W.keepIn K (.ref f6) = true)
    (a7 : PySem.W.nsIn K mainGlobals "check_read" = some (some (.ref f7)))
    (l7 : K.lookup f7 = some ⟨oc7, od7, .func (PySem.W.fnOf "check_read" "check_read" (defArgs s_check_read) (defBody s_check_read) (defScope s_check_read) .none kV7 dc7 pm7 an7 cd7 ct7), sl7⟩)
    (e7 : PySem.W.codeIn K cd7 "check_read" = true)
    (k7 : PySem.W.keepIn K (.ref f7) = true)
    (a8 : PySem.W.nsIn K mainGlobals "_law_rng" = some (some (.ref f8)))
    (l8 : K.lookup f8 = some ⟨oc8, od8, .func (PySem.W.fnOf "_law_rng" "_law_rng" (defArgs s_Lrng) (defBody s_Lrng) (defScope s_Lrng) .none kV8 dc8 pm8 an8 cd8 ct8), sl8⟩)
    (e8 : PySem.W.codeIn K cd8 "_law_rng" = true)
    (k8 : PySem.W.keepIn K (.ref f8) = true)
    (a9 : PySem.W.nsIn K mainGlobals "_law_draw" = some (some (.ref f9)))
    (l9 : K.lookup f9 = some ⟨oc9, od9, .func (PySem.W.fnOf "_law_draw" "_law_draw" (defArgs s_Ldraw) (defBody s_Ldraw) (defScope s_Ldraw) .none kV9 dc9 pm9 an9 cd9 ct9), sl9⟩)
    (e9 : PySem.W.codeIn K cd9 "_law_draw" = true)
    (k9 : PySem.W.keepIn K (.ref f9) = true)
    (a10 : PySem.W.nsIn K mainGlobals "_law_mixed" = some (some (.ref f10)))
    (l10 : K.lookup f10 = some ⟨oc10, od10, .func (PySem.W.fnOf "_law_mixed" "_law_mixed" (defArgs s_Lmixed) (defBody s_Lmixed) (defScope s_Lmixed) .none kV10 dc10 pm10 an10 cd10 ct10), sl10⟩)
    (e10 : PySem.W.codeIn K cd10 "_law_mixed" = true)
    (k10 : PySem.W.keepIn K (.ref f10) = true)
    (a11 : PySem.W.nsIn K mainGlobals "_law_vector" = some (some (.ref f11)))
    (l11 : K.lookup f11 = some ⟨oc11, od11, .func (PySem.W.fnOf "_law_vector" "_law_vector" (defArgs s_Lvector) (defBody s_Lvector) (defScope s_Lvector) .none kV11 dc11 pm11 an11 cd11 ct11), sl11⟩)
    (e11 : PySem.W.codeIn K cd11 "_law_vector" = true)
    (k11 : PySem.W.keepIn K (.ref f11) = true)
    (a12 : PySem.W.nsIn K mainGlobals "_law_made_rows" = some (some (.ref f12)))
    (l12 : K.lookup f12 = some ⟨oc12, od12, .func (PySem.W.fnOf "_law_made_rows" "_law_made_rows" (defArgs s_Lmade_rows) (defBody s_Lmade_rows) (defScope s_Lmade_rows) .none kV12 dc12 pm12 an12 cd12 ct12), sl12⟩)
    (e12 : PySem.W.codeIn K cd12 "_law_made_rows" = true)
    (k12 : PySem.W.keepIn K (.ref f12) = true)
    (a13 : PySem.W.nsIn K mainGlobals "_law_shown" = some (some (.ref f13)))
    (l13 : K.lookup f13 = some ⟨oc13, od13, .func (PySem.W.fnOf "_law_shown" "_law_shown" (defArgs s_Lshown) (defBody s_Lshown) (defScope s_Lshown) .none kV13 dc13 pm13 an13 cd13 ct13), sl13⟩)
    (e13 : PySem.W.codeIn K cd13 "_law_shown" = true)
    (k13 : PySem.W.keepIn K (.ref f13) = true)
    (a14 : PySem.W.nsIn K mainGlobals "_law_caught" = some (some (.ref f14)))
    (l14 : K.lookup f14 = some ⟨oc14, od14, .func (PySem.W.fnOf "_law_caught" "_law_caught" (defArgs s_Lcaught) (defBody s_Lcaught) (defScope s_Lcaught) .none kV14 dc14 pm14 an14 cd14 ct14), sl14⟩)
    (e14 : PySem.W.codeIn K cd14 "_law_caught" = true)
    (k14 : PySem.W.keepIn K (.ref f14) = true)
    (a15 : PySem.W.nsIn K mainGlobals "_law_raised" = some (some (.ref f15)))
    (l15 : K.lookup f15 = some ⟨oc15, od15, .func (PySem.W.fnOf "_law_raised" "_law_raised" (defArgs s_Lraised) (defBody s_Lraised) (defScope s_Lraised) .none kV15 dc15 pm15 an15 cd15 ct15), sl15⟩)
    (e15 : PySem.W.codeIn K cd15 "_law_raised" = true)
    (k15 : PySem.W.keepIn K (.ref f15) = true)
    (a16 : PySem.W.nsIn K mainGlobals "_law_renamed_due" = some (some (.ref f16)))
    (l16 : K.lookup f16 = some ⟨oc16, od16, .func (PySem.W.fnOf "_law_renamed_due" "_law_renamed_due" (defArgs s_Lrenamed_due) (defBody s_Lrenamed_due) (defScope s_Lrenamed_due) .none kV16 dc16 pm16 an16 cd16 ct16), sl16⟩)
    (e16 : PySem.W.codeIn K cd16 "_law_renamed_due" = true)
    (k16 : PySem.W.keepIn K (.ref f16) = true)
    (a17 : PySem.W.nsIn K mainGlobals "_law_reads_right" = some (some (.ref f17)))
    (l17 : K.lookup f17 = some ⟨oc17, od17, .func (PySem.W.fnOf "_law_reads_right" "_law_reads_right" (defArgs s_Lreads_right) (defBody s_Lreads_right) (defScope s_Lreads_right) .none kV17 dc17 pm17 an17 cd17 ct17), sl17⟩)
    (e17 : PySem.W.codeIn K cd17 "_law_reads_right" = true)
    (k17 : PySem.W.keepIn K (.ref f17) = true)
    (a18 : PySem.W.nsIn K mainGlobals "_law_beside_right" = some (some (.ref f18)))
    (l18 : K.lookup f18 = some ⟨oc18, od18, .func (PySem.W.fnOf "_law_beside_right" "_law_beside_right" (defArgs s_Lbeside_right) (defBody s_Lbeside_right) (defScope s_Lbeside_right) .none kV18 dc18 pm18 an18 cd18 ct18), sl18⟩)
    (e18 : PySem.W.codeIn K cd18 "_law_beside_right" = true)
    (k18 : PySem.W.keepIn K (.ref f18) = true)
    (a19 : PySem.W.nsIn K mainGlobals "law" = some (some (.ref f19)))
    (l19 : K.lookup f19 = some ⟨oc19, od19, .func (PySem.W.fnOf "law" "law" (defArgs s_law) (defBody s_law) (defScope s_law) .none kV19 dc19 pm19 an19 cd19 ct19), sl19⟩)
    (e19 : PySem.W.codeIn K cd19 "law" = true)
    (k19 : PySem.W.keepIn K (.ref f19) = true)
    (aC : PySem.W.nsIn K mainGlobals "System" = some (some (.ref C)))
    (atPdimensions : PySem.W.findIn K (.ref C) "dimensions" = some (some (.ref pPdimensions)))
    (gePdimensions : PySem.W.specialIn K (.ref pPdimensions) "__get__" = some (some (.builtin "property.__get__")))
    (taPdimensions : PySem.W.takesIn K (.ref pPdimensions) = some true)
    (rePdimensions : PySem.W.recIn K pPdimensions "property" = some (.ref gPdimensions :: restPdimensions))
    (lPdimensions : K.lookup gPdimensions = some ⟨ocPdimensions, odPdimensions, .func (PySem.W.fnOf "dimensions" "System.dimensions" (defArgs s_System_dimensions) (defBody s_System_dimensions) (defScope s_System_dimensions) .none kVPdimensions dcPdimensions pmPdimensions anPdimensions cdPdimensions ctPdimensions), slPdimensions⟩)
    (ePdimensions : PySem.W.codeIn K cdPdimensions "System.dimensions" = true)
    (kPdimensions : PySem.W.keepIn K (.ref gPdimensions) = true)
    (atPmodulus : PySem.W.findIn K (.ref C) "modulus" = some (some (.ref pPmodulus)))
    (gePmodulus : PySem.W.specialIn K (.ref pPmodulus) "__get__" = some (some (.builtin "property.__get__")))
    (taPmodulus : PySem.W.takesIn K (.ref pPmodulus) = some true)
    (rePmodulus : PySem.W.recIn K pPmodulus "property" = some (.ref gPmodulus :: restPmodulus))
    (lPmodulus : K.lookup gPmodulus = some ⟨ocPmodulus, odPmodulus, .func (PySem.W.fnOf "modulus" "System.modulus" (defArgs s_System_modulus) (defBody s_System_modulus) (defScope s_System_modulus) .none kVPmodulus dcPmodulus pmPmodulus anPmodulus cdPmodulus ctPmodulus), slPmodulus⟩)
    (ePmodulus : PySem.W.codeIn K cdPmodulus "System.modulus" = true)
    (kPmodulus : PySem.W.keepIn K (.ref gPmodulus) = true)
    (atPnames : PySem.W.findIn K (.ref C) "names" = some (some (.ref pPnames)))
    (gePnames : PySem.W.specialIn K (.ref pPnames) "__get__" = some (some (.builtin "property.__get__")))
    (taPnames : PySem.W.takesIn K (.ref pPnames) = some true)
    (rePnames : PySem.W.recIn K pPnames "property" = some (.ref gPnames :: restPnames))
    (lPnames : K.lookup gPnames = some ⟨ocPnames, odPnames, .func (PySem.W.fnOf "names" "System.names" (defArgs s_System_names) (defBody s_System_names) (defScope s_System_names) .none kVPnames dcPnames pmPnames anPnames cdPnames ctPnames), slPnames⟩)
    (ePnames : PySem.W.codeIn K cdPnames "System.names" = true)
    (kPnames : PySem.W.keepIn K (.ref gPnames) = true)
    (atMreads : PySem.W.findIn K (.ref C) "reads" = some (some (.ref fMreads)))
    (isMreads : PySem.W.isFn K (.ref fMreads) = true)
    (lMreads : K.lookup fMreads = some ⟨ocMreads, odMreads, .func (PySem.W.fnOf "reads" "System.reads" (defArgs s_System_reads) (defBody s_System_reads) (defScope s_System_reads) .none kVMreads dcMreads pmMreads anMreads cdMreads ctMreads), slMreads⟩)
    (eMreads : PySem.W.codeIn K cdMreads "System.reads" = true)
    (kMreads : PySem.W.keepIn K (.ref fMreads) = true)
    (atMconstant : PySem.W.findIn K (.ref C) "constant" = some (some (.ref fMconstant)))
    (isMconstant : PySem.W.isFn K (.ref fMconstant) = true)
    (lMconstant : K.lookup fMconstant = some ⟨ocMconstant, odMconstant, .func (PySem.W.fnOf "constant" "System.constant" (defArgs s_System_constant) (defBody s_System_constant) (defScope s_System_constant) .none kVMconstant dcMconstant pmMconstant anMconstant cdMconstant ctMconstant), slMconstant⟩)
    (eMconstant : PySem.W.codeIn K cdMconstant "System.constant" = true)
    (kMconstant : PySem.W.keepIn K (.ref fMconstant) = true)
    (atMall_reads : PySem.W.findIn K (.ref C) "all_reads" = some (some (.ref fMall_reads)))
    (isMall_reads : PySem.W.isFn K (.ref fMall_reads) = true)
    (lMall_reads : K.lookup fMall_reads = some ⟨ocMall_reads, odMall_reads, .func (PySem.W.fnOf "all_reads" "System.all_reads" (defArgs s_System_all_reads) (defBody s_System_all_reads) (defScope s_System_all_reads) .none kVMall_reads dcMall_reads pmMall_reads anMall_reads cdMall_reads ctMall_reads), slMall_reads⟩)
    (eMall_reads : PySem.W.codeIn K cdMall_reads "System.all_reads" = true)
    (kMall_reads : PySem.W.keepIn K (.ref fMall_reads) = true)
    (atMwith_tables : PySem.W.findIn K (.ref C) "_with_tables" = some (some (.ref fMwith_tables)))
    (isMwith_tables : PySem.W.isFn K (.ref fMwith_tables) = true)
    (lMwith_tables : K.lookup fMwith_tables = some ⟨ocMwith_tables, odMwith_tables, .func (PySem.W.fnOf "_with_tables" "System._with_tables" (defArgs s_Systemwith_tables) (defBody s_Systemwith_tables) (defScope s_Systemwith_tables) .none kVMwith_tables dcMwith_tables pmMwith_tables anMwith_tables cdMwith_tables ctMwith_tables), slMwith_tables⟩)
    (eMwith_tables : PySem.W.codeIn K cdMwith_tables "System._with_tables" = true)
    (kMwith_tables : PySem.W.keepIn K (.ref fMwith_tables) = true)
    (atMcheck_new_names : PySem.W.findIn K (.ref C) "_check_new_names" = some (some (.ref fMcheck_new_names)))
    (isMcheck_new_names : PySem.W.isFn K (.ref fMcheck_new_names) = true)
    (lMcheck_new_names : K.lookup fMcheck_new_names = some ⟨ocMcheck_new_names, odMcheck_new_names, .func (PySem.W.fnOf "_check_new_names" "System._check_new_names" (defArgs s_Systemcheck_new_names) (defBody s_Systemcheck_new_names) (defScope s_Systemcheck_new_names) .none kVMcheck_new_names dcMcheck_new_names pmMcheck_new_names anMcheck_new_names cdMcheck_new_names ctMcheck_new_names), slMcheck_new_names⟩)
    (eMcheck_new_names : PySem.W.codeIn K cdMcheck_new_names "System._check_new_names" = true)
    (kMcheck_new_names : PySem.W.keepIn K (.ref fMcheck_new_names) = true)
    (atMwithout : PySem.W.findIn K (.ref C) "without" = some (some (.ref fMwithout)))
    (isMwithout : PySem.W.isFn K (.ref fMwithout) = true)
    (lMwithout : K.lookup fMwithout = some ⟨ocMwithout, odMwithout, .func (PySem.W.fnOf "without" "System.without" (defArgs s_System_without) (defBody s_System_without) (defScope s_System_without) .none kVMwithout dcMwithout pmMwithout anMwithout cdMwithout ctMwithout), slMwithout⟩)
    (eMwithout : PySem.W.codeIn K cdMwithout "System.without" = true)
    (kMwithout : PySem.W.keepIn K (.ref fMwithout) = true)
    (atMbeside : PySem.W.findIn K (.ref C) "beside" = some (some (.ref fMbeside)))
    (isMbeside : PySem.W.isFn K (.ref fMbeside) = true)
    (lMbeside : K.lookup fMbeside = some ⟨ocMbeside, odMbeside, .func (PySem.W.fnOf "beside" "System.beside" (defArgs s_System_beside) (defBody s_System_beside) (defScope s_System_beside) .none kVMbeside dcMbeside pmMbeside anMbeside cdMbeside ctMbeside), slMbeside⟩)
    (eMbeside : PySem.W.codeIn K cdMbeside "System.beside" = true)
    (kMbeside : PySem.W.keepIn K (.ref fMbeside) = true)
    (atMexchanged : PySem.W.findIn K (.ref C) "exchanged" = some (some (.ref fMexchanged)))
    (isMexchanged : PySem.W.isFn K (.ref fMexchanged) = true)
    (lMexchanged : K.lookup fMexchanged = some ⟨ocMexchanged, odMexchanged, .func (PySem.W.fnOf "exchanged" "System.exchanged" (defArgs s_System_exchanged) (defBody s_System_exchanged) (defScope s_System_exchanged) .none kVMexchanged dcMexchanged pmMexchanged anMexchanged cdMexchanged ctMexchanged), slMexchanged⟩)
    (eMexchanged : PySem.W.codeIn K cdMexchanged "System.exchanged" = true)
    (kMexchanged : PySem.W.keepIn K (.ref fMexchanged) = true)
    (atMrenamed : PySem.W.findIn K (.ref C) "renamed" = some (some (.ref fMrenamed)))
    (isMrenamed : PySem.W.isFn K (.ref fMrenamed) = true)
    (lMrenamed : K.lookup fMrenamed = some ⟨ocMrenamed, odMrenamed, .func (PySem.W.fnOf "renamed" "System.renamed" (defArgs s_System_renamed) (defBody s_System_renamed) (defScope s_System_renamed) .none kVMrenamed dcMrenamed pmMrenamed anMrenamed cdMrenamed ctMrenamed), slMrenamed⟩)
    (eMrenamed : PySem.W.codeIn K cdMrenamed "System.renamed" = true)
    (kMrenamed : PySem.W.keepIn K (.ref fMrenamed) = true)
    (atMlen : PySem.W.findIn K (.ref C) "__len__" = some (some (.ref fMlen)))
    (isMlen : PySem.W.isFn K (.ref fMlen) = true)
    (lMlen : K.lookup fMlen = some ⟨ocMlen, odMlen, .func (PySem.W.fnOf "__len__" "System.__len__" (defArgs s_System_len) (defBody s_System_len) (defScope s_System_len) .none kVMlen dcMlen pmMlen anMlen cdMlen ctMlen), slMlen⟩)
    (eMlen : PySem.W.codeIn K cdMlen "System.__len__" = true)
    (kMlen : PySem.W.keepIn K (.ref fMlen) = true)
    (atMeq : PySem.W.findIn K (.ref C) "__eq__" = some (some (.ref fMeq)))
    (isMeq : PySem.W.isFn K (.ref fMeq) = true)
    (lMeq : K.lookup fMeq = some ⟨ocMeq, odMeq, .func (PySem.W.fnOf "__eq__" "System.__eq__" (defArgs s_System_eq) (defBody s_System_eq) (defScope s_System_eq) .none kVMeq dcMeq pmMeq anMeq cdMeq ctMeq), slMeq⟩)
    (eMeq : PySem.W.codeIn K cdMeq "System.__eq__" = true)
    (kMeq : PySem.W.keepIn K (.ref fMeq) = true)
    (atI : PySem.W.findIn K (.ref C) "__init__" = some (some (.ref fI)))
    (isI : PySem.W.isFn K (.ref fI) = true)
    (lI : K.lookup fI = some ⟨ocI, odI, .func (PySem.W.fnOf "__init__" "System.__init__" (defArgs s_System_init) (defBody s_System_init) (defScope s_System_init) (.ref T0) kVI dcI pmI anI (.ref c0) ctI), slI⟩)
    (eI : PySem.W.codeIn K (.ref c0) "System.__init__" = true)
    (kI : PySem.W.keepIn K (.ref fI) = true)
    (lT : K.lookup T0 = some ⟨ocT, odT, .seq [Value.int 1000003 tT].toArray nT, slT⟩)
    (pg : PySem.W.plainGet K C Str.empty = true)
    (hd : PySem.W.hasDictIn K C = true)
    (po : PySem.W.plainOver K C = true)
    (sa : PySem.W.findIn K (.ref C) "__setattr__" = some (some (.builtin "object.__setattr__")))
    (mk : PySem.W.makesIn K C = true)
    (kc : PySem.W.keepIn K (.ref C) = true)
    (haC : PySem.W.findIn K (.ref C) "__class__" = some (some (.builtin "object.__class__")))
    (hnC : PySem.W.specialIn K (.builtin "object.__class__") "__get__" = some (some (.builtin "getset_descriptor.__get__")))
    (htC : PySem.W.takesIn K (.builtin "object.__class__") = some true)
    (hmC : PySem.W.mroIn K C (.type "object") = some true)
    (n_dimensions : PySem.W.findIn K (.ref C) "_dimensions" = some none)
    (n_modulus : PySem.W.findIn K (.ref C) "_modulus" = some none)
    (n_tables : PySem.W.findIn K (.ref C) "_tables" = some none)
    (z_len : PySem.W.nsIn K mainGlobals "len" = some none)
    (z_all : PySem.W.nsIn K mainGlobals "all" = some none)
    (z_min : PySem.W.nsIn K mainGlobals "min" = some none)
    (z_abs : PySem.W.nsIn K mainGlobals "abs" = some none)
    (z_int : PySem.W.nsIn K mainGlobals "int" = some none)
    (z_list : PySem.W.nsIn K mainGlobals "list" = some none)
    (z_tuple : PySem.W.nsIn K mainGlobals "tuple" = some none)
    (z_range : PySem.W.nsIn K mainGlobals "range" = some none)
    (z_zip : PySem.W.nsIn K mainGlobals "zip" = some none)
    (z_enumerate : PySem.W.nsIn K mainGlobals "enumerate" = some none)
    (z_sorted : PySem.W.nsIn K mainGlobals "sorted" = some none)
    (z_repr : PySem.W.nsIn K mainGlobals "repr" = some none)
    (z_isinstance : PySem.W.nsIn K mainGlobals "isinstance" = some none)
    (v_MOST_DIMENSIONS : PySem.W.nsIn K mainGlobals "MOST_DIMENSIONS" = some (some (.int 3 t_MOST_DIMENSIONS)))
    (v_MOST_TABLES : PySem.W.nsIn K mainGlobals "MOST_TABLES" = some (some (.int 6 t_MOST_TABLES)))
    (v_MOST_READS : PySem.W.nsIn K mainGlobals "MOST_READS" = some (some (.int 12 t_MOST_READS)))
    (v_MOST_LETTERS : PySem.W.nsIn K mainGlobals "MOST_LETTERS" = some (some (.int 8 t_MOST_LETTERS)))
    (cg0 : PySem.W.nsIn K mainGlobals "InvalidSystem" = some (some (.ref D0)))
    (cg1 : PySem.W.nsIn K mainGlobals "InvalidName" = some (some (.ref D1)))
    (cg2 : PySem.W.nsIn K mainGlobals "InvalidAxes" = some (some (.ref D2)))
    (cg3 : PySem.W.nsIn K mainGlobals "UnknownTable" = some (some (.ref D3)))
    (cg4 : PySem.W.nsIn K mainGlobals "InvalidCell" = some (some (.ref D4)))
    (cg5 : PySem.W.nsIn K mainGlobals "InvalidRead" = some (some (.ref D5)))
    (cg6 : PySem.W.nsIn K mainGlobals "InvalidShifts" = some (some (.ref D6)))
    (cg7 : PySem.W.nsIn K mainGlobals "InvalidNumber" = some (some (.ref D7)))
    (cg8 : PySem.W.nsIn K mainGlobals "NotReady" = some (some (.ref D8)))
    (cg9 : PySem.W.nsIn K mainGlobals "NoFar" = some (some (.ref D9)))
    (cg10 : PySem.W.nsIn K mainGlobals "NothingToUndo" = some (some (.ref D10)))
    (cg11 : PySem.W.nsIn K mainGlobals "Unreadable" = some (some (.ref D11)))
    (cg12 : PySem.W.nsIn K mainGlobals "ReadError" = some (some (.ref D12)))
    (x1 : ExcRow K D1)
    (sa1 : PySem.W.findIn K (.ref D1) "__setattr__" = some (some (.builtin "object.__setattr__")))
    (ex1 : PySem.W.subIn K (.ref D1) (.type "BaseException") = some true)
    (ty1 : PySem.W.typeIn K (.ref D1) = some (.type "type"))
    (kp1 : PySem.W.keepIn K (.ref D1) = true)
    (ga1 : PySem.W.findIn K (.ref D1) "__getattribute__" = some (some (.builtin "BaseException.__getattribute__")))
    (gg1 : PySem.W.findIn K (.ref D1) "__getattr__" = some none)
    (hd1 : PySem.W.hasDictIn K D1 = true)
    (kc1 : PySem.W.findIn K (.ref D1) "__class__" = some (some (.builtin "object.__class__")))
    (km1 : PySem.W.mroIn K D1 (.type "object") = some true)
    (in1 : PySem.W.findIn K (.ref D1) "__init__" = some (some (.ref fE)))
    (no1 : PySem.W.findIn K (.ref D1) "value" = some none)
    (sub1 : ((List.range 13).all fun j => PySem.W.kitOne K (.ref D1) (.ref ((cOf [D0, D1, D2, D3, D4, D5, D6, D7, D8, D9, D10, D11, D12]) j)) == some (decide (j = 1) || decide (j = 12))) = true)
    (vv1 : PySem.W.kitOne K (.ref D1) (.type "ValueError") = some true)
    (hx1 : PySem.W.exmOne K (.ref D1) (.ref D12) = some true)
    (x2 : ExcRow K D2)
    (sa2 : PySem.W.findIn K (.ref D2) "__setattr__" = some (some (.builtin "object.__setattr__")))
    (ex2 : PySem.W.subIn K (.ref D2) (.type "BaseException") = some true)
    (ty2 : PySem.W.typeIn K (.ref D2) = some (.type "type"))
    (kp2 : PySem.W.keepIn K (.ref D2) = true)
    (ga2 : PySem.W.findIn K (.ref D2) "__getattribute__" = some (some (.builtin "BaseException.__getattribute__")))
    (gg2 : PySem.W.findIn K (.ref D2) "__getattr__" = some none)
    (hd2 : PySem.W.hasDictIn K D2 = true)
    (kc2 : PySem.W.findIn K (.ref D2) "__class__" = some (some (.builtin "object.__class__")))
    (km2 : PySem.W.mroIn K D2 (.type "object") = some true)
    (in2 : PySem.W.findIn K (.ref D2) "__init__" = some (some (.ref fE)))
    (no2 : PySem.W.findIn K (.ref D2) "value" = some none)
    (sub2 : ((List.range 13).all fun j => PySem.W.kitOne K (.ref D2) (.ref ((cOf [D0, D1, D2, D3, D4, D5, D6, D7, D8, D9, D10, D11, D12]) j)) == some (decide (j = 2) || decide (j = 12))) = true)
    (vv2 : PySem.W.kitOne K (.ref D2) (.type "ValueError") = some true)
    (hx2 : PySem.W.exmOne K (.ref D2) (.ref D12) = some true)
    (x3 : ExcRow K D3)
    (sa3 : PySem.W.findIn K (.ref D3) "__setattr__" = some (some (.builtin "object.__setattr__")))
    (ex3 : PySem.W.subIn K (.ref D3) (.type "BaseException") = some true)
    (ty3 : PySem.W.typeIn K (.ref D3) = some (.type "type"))
    (kp3 : PySem.W.keepIn K (.ref D3) = true)
    (ga3 : PySem.W.findIn K (.ref D3) "__getattribute__" = some (some (.builtin "BaseException.__getattribute__")))
    (gg3 : PySem.W.findIn K (.ref D3) "__getattr__" = some none)
    (hd3 : PySem.W.hasDictIn K D3 = true)
    (kc3 : PySem.W.findIn K (.ref D3) "__class__" = some (some (.builtin "object.__class__")))
    (km3 : PySem.W.mroIn K D3 (.type "object") = some true)
    (in3 : PySem.W.findIn K (.ref D3) "__init__" = some (some (.ref fE)))
    (no3 : PySem.W.findIn K (.ref D3) "value" = some none)
    (sub3 : ((List.range 13).all fun j => PySem.W.kitOne K (.ref D3) (.ref ((cOf [D0, D1, D2, D3, D4, D5, D6, D7, D8, D9, D10, D11, D12]) j)) == some (decide (j = 3) || decide (j = 12))) = true)
    (vv3 : PySem.W.kitOne K (.ref D3) (.type "ValueError") = some true)
    (hx3 : PySem.W.exmOne K (.ref D3) (.ref D12) = some true)
    (x5 : ExcRow K D5)
    (sa5 : PySem.W.findIn K (.ref D5) "__setattr__" = some (some (.builtin "object.__setattr__")))
    (ex5 : PySem.W.subIn K (.ref D5) (.type "BaseException") = some true)
    (ty5 : PySem.W.typeIn K (.ref D5) = some (.type "type"))
    (kp5 : PySem.W.keepIn K (.ref D5) = true)
    (ga5 : PySem.W.findIn K (.ref D5) "__getattribute__" = some (some (.builtin "BaseException.__getattribute__")))
    (gg5 : PySem.W.findIn K (.ref D5) "__getattr__" = some none)
    (hd5 : PySem.W.hasDictIn K D5 = true)
    (kc5 : PySem.W.findIn K (.ref D5) "__class__" = some (some (.builtin "object.__class__")))
    (km5 : PySem.W.mroIn K D5 (.type "object") = some true)
    (in5 : PySem.W.findIn K (.ref D5) "__init__" = some (some (.ref fE)))
    (no5 : PySem.W.findIn K (.ref D5) "value" = some none)
    (sub5 : ((List.range 13).all fun j => PySem.W.kitOne K (.ref D5) (.ref ((cOf [D0, D1, D2, D3, D4, D5, D6, D7, D8, D9, D10, D11, D12]) j)) == some (decide (j = 5) || decide (j = 12))) = true)
    (vv5 : PySem.W.kitOne K (.ref D5) (.type "ValueError") = some true)
    (hx5 : PySem.W.exmOne K (.ref D5) (.ref D12) = some true)
    (lE : K.lookup fE = some ⟨ocE, odE, .func (PySem.W.fnOf "__init__" "ReadError.__init__" (defArgs s_ReadError_init) (defBody s_ReadError_init) (defScope s_ReadError_init) .none kVE dcE pmE anE cdE ctE), slE⟩)
    (eE : PySem.W.codeIn K cdE "ReadError.__init__" = true)
    (kE : PySem.W.keepIn K (.ref fE) = true)
    (tyE : PySem.W.typeIn K (.ref fE) = some (.type "function"))
    (z_ValueError : PySem.W.nsIn K mainGlobals "ValueError" = some none)
    (hPt : h.get? Pt = some { cls := .none, data := .fields #[] })
    (nPt : K.lookup Pt = none)
    (hc0 : PySem.W.codeHdIn K c0 Pt = true)
    : LawAtG l w K 11 63 "_law_script" mg fa h := by
  have e := hfa.symm.trans (PySem.W.mg_of X G a19)
  cases e
  have T : Txt mg := ⟨PySem.W.mg_none_of X G z_len, PySem.W.mg_none_of X G z_all, PySem.W.mg_none_of X G z_min, PySem.W.mg_none_of X G z_abs, PySem.W.mg_none_of X G z_int, PySem.W.mg_none_of X G z_list, PySem.W.mg_none_of X G z_tuple, PySem.W.mg_none_of X G z_range, PySem.W.mg_none_of X G z_zip, PySem.W.mg_none_of X G z_enumerate, PySem.W.mg_none_of X G z_sorted, ⟨_, PySem.W.mg_of X G v_MOST_DIMENSIONS, ⟨_, rfl⟩⟩, ⟨_, PySem.W.mg_of X G v_MOST_TABLES, ⟨_, rfl⟩⟩, ⟨_, PySem.W.mg_of X G v_MOST_READS, ⟨_, rfl⟩⟩, ⟨_, PySem.W.mg_of X G v_MOST_LETTERS, ⟨_, rfl⟩⟩⟩
  have zr := PySem.W.mg_none_of X G z_repr
  have zi := PySem.W.mg_none_of X G z_isinstance
  have cl : Cls K C := ⟨pg, hd, po, sa⟩
  have TC : TxtC K mg C := ⟨cl, n_dimensions, n_modulus, n_tables, PySem.W.mg_of X G aC⟩
  have isC : C8.InsC K C := ⟨cl, haC, hnC, htC, hmC, if_pos (beq_self_eq_true _)⟩
  have F1 := fun_mk (st := s_is_name) l1 e1 k1
  have b1 := F1.binds (ps := ["text"]) fun _ _ _ _ _ _ us hl => match us, hl with | [_], _ => rfl
  have F2 := fun_mk (st := s_is_read) l2 e2 k2
  have b2 := F2.binds (ps := ["read", "dimensions"]) fun _ _ _ _ _ _ us hl => match us, hl with | [_, _], _ => rfl
  have F3 := fun_mk (st := s_check_table) l3 e3 k3
  have b3 := F3.binds (ps := ["system", "name"]) fun _ _ _ _ _ _ us hl => match us, hl with | [_, _], _ => rfl
  have F4 := fun_mk (st := s_check_tables) l4 e4 k4
  have b4 := F4.binds (ps := ["dimensions", "tables"]) fun _ _ _ _ _ _ us hl => match us, hl with | [_, _], _ => rfl
  have F5 := fun_mk (st := s_check_tables_that_are_read) l5 e5 k5
  have b5 := F5.binds (ps := ["tables"]) fun _ _ _ _ _ _ us hl => match us, hl with | [_], _ => rfl
  have F6 := fun_mk (st := s_check_system) l6 e6 k6
  have b6 := F6.binds (ps := ["dimensions", "tables", "modulus"]) fun _ _ _ _ _ _ us hl => match us, hl with | [_, _, _], _ => rfl
  have F7 := fun_mk (st := s_check_read) l7 e7 k7
  have b7 := F7.binds (ps := ["system", "read"]) fun _ _ _ _ _ _ us hl => match us, hl with | [_, _], _ => rfl
  have F8 := fun_mk (st := s_Lrng) l8 e8 k8
  have b8 := F8.binds (ps := ["_law_script"]) fun _ _ _ _ _ _ us hl => match us, hl with | [_], _ => rfl
  have F9 := fun_mk (st := s_Ldraw) l9 e9 k9
  have b9 := F9.binds (ps := ["_law_rng_here", "_law_limit"]) fun _ _ _ _ _ _ us hl => match us, hl with | [_, _], _ => rfl
  have F10 := fun_mk (st := s_Lmixed) l10 e10 k10
  have b10 := F10.binds (ps := ["_law_rng_here", "_law_some"]) fun _ _ _ _ _ _ us hl => match us, hl with | [_, _], _ => rfl
  have F11 := fun_mk (st := s_Lvector) l11 e11 k11
  have b11 := F11.binds (ps := ["_law_rng_here", "_law_dims", "_law_wide"]) fun _ _ _ _ _ _ us hl => match us, hl with | [_, _, _], _ => rfl
  have F12 := fun_mk (st := s_Lmade_rows) l12 e12 k12
  have b12 := F12.binds (ps := ["_law_rng_here", "_law_dims", "_law_many", "_law_most", "_law_wide"]) fun _ _ _ _ _ _ us hl => match us, hl with | [_, _, _, _, _], _ => rfl
  have F13 := fun_mk (st := s_Lshown) l13 e13 k13
  have b13 := F13.binds (ps := ["_law_made"]) fun _ _ _ _ _ _ us hl => match us, hl with | [_], _ => rfl
  have F14 := fun_mk (st := s_Lcaught) l14 e14 k14
  have b14 := F14.binds (ps := ["_law_e"]) fun _ _ _ _ _ _ us hl => match us, hl with | [_], _ => rfl
  have F15 := fun_mk (st := s_Lraised) l15 e15 k15
  have b15 := F15.binds (ps := ["_law_door", "_law_made", "_law_given"]) fun _ _ _ _ _ _ us hl => match us, hl with | [_, _, _], _ => rfl
  have F16 := fun_mk (st := s_Lrenamed_due) l16 e16 k16
  have b16 := F16.binds (ps := ["_law_words", "_law_turned"]) fun _ _ _ _ _ _ us hl => match us, hl with | [_, _], _ => rfl
  have F17 := fun_mk (st := s_Lreads_right) l17 e17 k17
  have b17 := F17.binds (ps := ["_law_rng_here", "_law_made"]) fun _ _ _ _ _ _ us hl => match us, hl with | [_, _], _ => rfl
  have F18 := fun_mk (st := s_Lbeside_right) l18 e18 k18
  have b18 := F18.binds (ps := ["_law_rng_here", "_law_made"]) fun _ _ _ _ _ _ us hl => match us, hl with | [_, _], _ => rfl
  have F19 := fun_mk (st := s_law) l19 e19 k19
  have FPdimensions := fun_mk (st := s_System_dimensions) lPdimensions ePdimensions kPdimensions
  have bPdimensions := FPdimensions.binds (ps := ["self"]) fun _ _ _ _ _ _ us hl => match us, hl with | [_], _ => rfl
  have FPmodulus := fun_mk (st := s_System_modulus) lPmodulus ePmodulus kPmodulus
  have bPmodulus := FPmodulus.binds (ps := ["self"]) fun _ _ _ _ _ _ us hl => match us, hl with | [_], _ => rfl
  have FPnames := fun_mk (st := s_System_names) lPnames ePnames kPnames
  have bPnames := FPnames.binds (ps := ["self"]) fun _ _ _ _ _ _ us hl => match us, hl with | [_], _ => rfl
  have FMreads := fun_mk (st := s_System_reads) lMreads eMreads kMreads
  have bMreads := FMreads.binds (ps := ["self", "name"]) fun _ _ _ _ _ _ us hl => match us, hl with | [_, _], _ => rfl
  have FMconstant := fun_mk (st := s_System_constant) lMconstant eMconstant kMconstant
  have bMconstant := FMconstant.binds (ps := ["self", "name"]) fun _ _ _ _ _ _ us hl => match us, hl with | [_, _], _ => rfl
  have FMall_reads := fun_mk (st := s_System_all_reads) lMall_reads eMall_reads kMall_reads
  have bMall_reads := FMall_reads.binds (ps := ["self"]) fun _ _ _ _ _ _ us hl => match us, hl with | [_], _ => rfl
  have FMwith_tables := fun_mk (st := s_Systemwith_tables) lMwith_tables eMwith_tables kMwith_tables
  have bMwith_tables := FMwith_tables.binds (ps := ["self", "tables"]) fun _ _ _ _ _ _ us hl => match us, hl with | [_, _], _ => rfl
  have FMcheck_new_names := fun_mk (st := s_Systemcheck_new_names) lMcheck_new_names eMcheck_new_names kMcheck_new_names
  have bMcheck_new_names := FMcheck_new_names.binds (ps := ["self", "changed", "new_names"]) fun _ _ _ _ _ _ us hl => match us, hl with | [_, _, _], _ => rfl
  have FMwithout := fun_mk (st := s_System_without) lMwithout eMwithout kMwithout
  have bMwithout := FMwithout.binds (ps := ["self", "reads"]) fun _ _ _ _ _ _ us hl => match us, hl with | [_, _], _ => rfl
  have FMbeside := fun_mk (st := s_System_beside) lMbeside eMbeside kMbeside
  have bMbeside := FMbeside.binds (ps := ["self", "other"]) fun _ _ _ _ _ _ us hl => match us, hl with | [_, _], _ => rfl
  have FMexchanged := fun_mk (st := s_System_exchanged) lMexchanged eMexchanged kMexchanged
  have bMexchanged := FMexchanged.binds (ps := ["self", "axes"]) fun _ _ _ _ _ _ us hl => match us, hl with | [_, _], _ => rfl
  have FMrenamed := fun_mk (st := s_System_renamed) lMrenamed eMrenamed kMrenamed
  have bMrenamed := FMrenamed.binds (ps := ["self", "names"]) fun _ _ _ _ _ _ us hl => match us, hl with | [_, _], _ => rfl
  have FMlen := fun_mk (st := s_System_len) lMlen eMlen kMlen
  have bMlen := FMlen.binds (ps := ["self"]) fun _ _ _ _ _ _ us hl => match us, hl with | [_], _ => rfl
  have FMeq := fun_mk (st := s_System_eq) lMeq eMeq kMeq
  have bMeq := FMeq.binds (ps := ["self", "other"]) fun _ _ _ _ _ _ us hl => match us, hl with | [_, _], _ => rfl
  have FI : FunC K "__init__" "System.__init__" s_System_init fI _ c0 := ⟨_, _, _, _, _, _, _, _, _, rfl, lI, eI⟩
  have FID : FunD K "__init__" "System.__init__" (defArgs s_System_init) (defBody s_System_init) (defScope s_System_init) [.int 1000003] [] fI _ := ⟨⟨_, _, _, _, _, _, _, _, _, _, rfl, lI, eI, .inr ⟨by simp, T0, _, _, _, rfl, lT, rfl, .cons ⟨_, rfl⟩ .nil⟩, .inl rfl⟩, kI⟩
  obtain ⟨ds, hds, bI⟩ := FID.binds1 (ps := ["self", "dimensions", "tables", "modulus"]) 3 0 (by simp) rfl fun _ _ _ _ _ _ _ us its h1 h2 => match us, its, h1, h2 with | [_, _, _], [_], _, _ => ⟨_, rfl, rfl⟩
  obtain ⟨ds3, hds3, bI3⟩ := FID.binds1 (ps := ["self", "dimensions", "tables", "modulus"]) 4 1 (by simp) rfl fun _ _ _ _ _ _ _ us its h1 h2 => match us, its, h1, h2 with | [_, _, _, _], [_], _, _ => ⟨_, rfl, rfl⟩
  obtain ⟨TT, hTT⟩ : ∃ TT : List (Addr × Str), TT = [(Pt, ("System.__init__.<locals>.<lambda>" : Str))] := ⟨_, rfl⟩
  have hmT : (Pt, ("System.__init__.<locals>.<lambda>" : Str)) ∈ TT := by rw [hTT]; exact List.mem_singleton.mpr rfl
  have huT : ∀ p ∈ TT, p.1 = Pt → p.2 = ("System.__init__.<locals>.<lambda>" : Str) := fun p hp _ => by rw [hTT] at hp; rw [List.mem_singleton.mp hp]
  refine ⟨PySem.W.fnOf "law" "law" (defArgs s_law) (defBody s_law) (defScope s_law) .none kV19 dc19 pm19 an19 cd19 ct19, [(c0, Pt)], spLaw5 K TT, ⟨?_, ?_, ?_⟩, fun s v => .of_eq rfl, ?_, fun base KB GB TB => ?_⟩
  · intro p hp
    rw [List.mem_singleton.mp hp]
    exact hPt
  · intro p hp
    rw [List.mem_singleton.mp hp]
    exact nPt
  · intro p hp
    rw [List.mem_singleton.mp hp]
    exact PySem.W.codeHd_of_K X hc0
  · intro H a ns hl hT hS
    refine ⟨a, ns, rfl, hS, hl, fun p hp => ?_, fun _ => rfl⟩
    rw [hTT] at hp
    rw [List.mem_singleton.mp hp]
    exact LamX.TabS.nil (hT _ (List.mem_singleton.mpr rfl))
  have TBc := TB _ (List.mem_singleton.mpr rfl)
  have TE : TxX mg (cOf [D0, D1, D2, D3, D4, D5, D6, D7, D8, D9, D10, D11, D12]) := ⟨PySem.W.mg_none_of X G z_ValueError, PySem.W.mg_of X G cg0, PySem.W.mg_of X G cg1, PySem.W.mg_of X G cg2, PySem.W.mg_of X G cg3, PySem.W.mg_of X G cg4, PySem.W.mg_of X G cg5, PySem.W.mg_of X G cg6, PySem.W.mg_of X G cg7, PySem.W.mg_of X G cg8, PySem.W.mg_of X G cg9, PySem.W.mg_of X G cg10, PySem.W.mg_of X G cg11, PySem.W.mg_of X G cg12⟩
  have FE := fun_mk (st := s_ReadError_init) lE eE kE
  have bE := FE.binds (ps := ["self", "value"]) fun _ _ _ _ _ _ us hl => match us, hl with | [_, _], _ => rfl
  have EC1 : ErrC K ((cOf [D0, D1, D2, D3, D4, D5, D6, D7, D8, D9, D10, D11, D12]) 1) := ⟨⟨x1, sa1, ex1, ty1, kp1⟩, ga1, gg1, hd1, kc1, hnC, htC, km1⟩
  have KE1 : KitE K (cOf [D0, D1, D2, D3, D4, D5, D6, D7, D8, D9, D10, D11, D12]) 1 := ⟨fun j hj => eq_of_beq (List.all_eq_true.mp sub1 j (List.mem_range.mpr hj)), vv1⟩
  have r_InvalidName : MkR l.prog w K mg base 1 "InvalidName" ((cOf [D0, D1, D2, D3, D4, D5, D6, D7, D8, D9, D10, D11, D12]) 1) := ⟨EC1, no1, _, _, _, in1, tyE, ok_errI FE, bE, PySem.W.mg_of X G cg1⟩
  have EC2 : ErrC K ((cOf [D0, D1, D2, D3, D4, D5, D6, D7, D8, D9, D10, D11, D12]) 2) := ⟨⟨x2, sa2, ex2, ty2, kp2⟩, ga2, gg2, hd2, kc2, hnC, htC, km2⟩
  have KE2 : KitE K (cOf [D0, D1, D2, D3, D4, D5, D6, D7, D8, D9, D10, D11, D12]) 2 := ⟨fun j hj => eq_of_beq (List.all_eq_true.mp sub2 j (List.mem_range.mpr hj)), vv2⟩
  have r_InvalidAxes : MkR l.prog w K mg base 1 "InvalidAxes" ((cOf [D0, D1, D2, D3, D4, D5, D6, D7, D8, D9, D10, D11, D12]) 2) := ⟨EC2, no2, _, _, _, in2, tyE, ok_errI FE, bE, PySem.W.mg_of X G cg2⟩
  have EC3 : ErrC K ((cOf [D0, D1, D2, D3, D4, D5, D6, D7, D8, D9, D10, D11, D12]) 3) := ⟨⟨x3, sa3, ex3, ty3, kp3⟩, ga3, gg3, hd3, kc3, hnC, htC, km3⟩
  have KE3 : KitE K (cOf [D0, D1, D2, D3, D4, D5, D6, D7, D8, D9, D10, D11, D12]) 3 := ⟨fun j hj => eq_of_beq (List.all_eq_true.mp sub3 j (List.mem_range.mpr hj)), vv3⟩
  have r_UnknownTable : MkR l.prog w K mg base 1 "UnknownTable" ((cOf [D0, D1, D2, D3, D4, D5, D6, D7, D8, D9, D10, D11, D12]) 3) := ⟨EC3, no3, _, _, _, in3, tyE, ok_errI FE, bE, PySem.W.mg_of X G cg3⟩
  have EC5 : ErrC K ((cOf [D0, D1, D2, D3, D4, D5, D6, D7, D8, D9, D10, D11, D12]) 5) := ⟨⟨x5, sa5, ex5, ty5, kp5⟩, ga5, gg5, hd5, kc5, hnC, htC, km5⟩
  have KE5 : KitE K (cOf [D0, D1, D2, D3, D4, D5, D6, D7, D8, D9, D10, D11, D12]) 5 := ⟨fun j hj => eq_of_beq (List.all_eq_true.mp sub5 j (List.mem_range.mpr hj)), vv5⟩
  have r_InvalidRead : MkR l.prog w K mg base 1 "InvalidRead" ((cOf [D0, D1, D2, D3, D4, D5, D6, D7, D8, D9, D10, D11, D12]) 5) := ⟨EC5, no5, _, _, _, in5, tyE, ok_errI FE, bE, PySem.W.mg_of X G cg5⟩
  have c_is_name : C8.Cal l.prog w K mg base 1 "is_name" spIsName [] := ⟨_, _, _, _, ok_is_name F1 T, PySem.W.mg_of X G a1, k1, b1, .nil⟩
  have c_is_read : C8.Cal l.prog w K mg base 2 "is_read" (spIsRead K) [] := ⟨_, _, _, _, ok_is_read F2 T c_is_name, PySem.W.mg_of X G a2, k2, b2, .nil⟩
  have p_dimensions : Prp l.prog w K mg base 1 C "dimensions" (spDims K C) := ⟨_, _, _, _, cl, ⟨atPdimensions, gePdimensions, taPdimensions, _, rePdimensions⟩, ok_dims FPdimensions TC, bPdimensions⟩
  have p_modulus : Prp l.prog w K mg base 1 C "modulus" (spMod K C) := ⟨_, _, _, _, cl, ⟨atPmodulus, gePmodulus, taPmodulus, _, rePmodulus⟩, ok_mod FPmodulus TC, bPmodulus⟩
  have p_names : Prp l.prog w K mg base 1 C "names" (spNames K C) := ⟨_, _, _, _, cl, ⟨atPnames, gePnames, taPnames, _, rePnames⟩, ok_names FPnames T TC, bPnames⟩
  have c_check_table : C8.Cal l.prog w K mg base 3 "check_table" (spCheckTable K C) [] := ⟨_, _, _, _, ok_check_table F3 T p_names, PySem.W.mg_of X G a3, k3, b3, .nil⟩
  have t_reads : C8.Met l.prog w K mg base 4 C "reads" (spReads K C) [] := ⟨_, _, _, _, cl, ⟨atMreads, isMreads, kMreads⟩, ok_reads FMreads T TC c_check_table, bMreads, .nil⟩
  have t_constant : C8.Met l.prog w K mg base 4 C "constant" (spConst K C) [] := ⟨_, _, _, _, cl, ⟨atMconstant, isMconstant, kMconstant⟩, ok_const FMconstant T TC c_check_table, bMconstant, .nil⟩
  have t_all_reads : C8.Met l.prog w K mg base 1 C "all_reads" (spAll K C) [] := ⟨_, _, _, _, cl, ⟨atMall_reads, isMall_reads, kMall_reads⟩, ok_all FMall_reads T TC, bMall_reads, .nil⟩
  have c_check_tables : C8.Cal l.prog w K mg base 3 "check_tables" (spCheckTables K) [] := ⟨_, _, _, _, ok_check_tables F4 T c_is_name c_is_read, PySem.W.mg_of X G a4, k4, b4, .nil⟩
  have c_check_tables_that_are_read : C8.Cal l.prog w K mg base 3 "check_tables_that_are_read" (spCheckRead K) [] := ⟨_, _, _, _, ok_check_read F5 T, PySem.W.mg_of X G a5, k5, b5, .nil⟩
  have c_check_system : C8.Cal l.prog w K mg base 4 "check_system" (spCheckSystem K) [] := ⟨_, _, _, _, ok_check_system F6 T c_check_tables c_check_tables_that_are_read, PySem.W.mg_of X G a6, k6, b6, .nil⟩
  have m_System3 : C8.Mak l.prog w K mg base 5 "System" C (spInit K C TT) [] := ⟨_, _, _, ds3, ⟨mk, atI, isI, kc⟩, ok_init FI T TC c_check_system TBc hmT huT, PySem.W.mg_of X G aC, bI3, hds3⟩
  have t__with_tables : C8.Met l.prog w K mg base 7 C "_with_tables" (spWith K C TT) [] := ⟨_, _, _, _, cl, ⟨atMwith_tables, isMwith_tables, kMwith_tables⟩, ok_with FMwith_tables T TC m_System3, bMwith_tables, .nil⟩
  have t__check_new_names : C8.Met l.prog w K mg base 2 C "_check_new_names" (spNewNames K) [] := ⟨_, _, _, _, cl, ⟨atMcheck_new_names, isMcheck_new_names, kMcheck_new_names⟩, ok_newnames FMcheck_new_names T c_is_name, bMcheck_new_names, .nil⟩
  have c_check_read : C8.Cal l.prog w K mg base 5 "check_read" (spCheckRd K C) [] := ⟨_, _, _, _, ok_check_rd F7 T TC p_names t_reads, PySem.W.mg_of X G a7, k7, b7, .nil⟩
  have t_without : C8.Met l.prog w K mg base 8 C "without" (spWithout K C TT) [] := ⟨_, _, _, _, cl, ⟨atMwithout, isMwithout, kMwithout⟩, ok_without FMwithout T TC c_check_read t__with_tables, bMwithout, .nil⟩
  have t_beside : C8.Met l.prog w K mg base 8 C "beside" (spBeside K C TT) [] := ⟨_, _, _, _, cl, ⟨atMbeside, isMbeside, kMbeside⟩, ok_beside FMbeside T TC t__with_tables, bMbeside, .nil⟩
  have t_exchanged : C8.Met l.prog w K mg base 8 C "exchanged" (spExch K C TT) [] := ⟨_, _, _, _, cl, ⟨atMexchanged, isMexchanged, kMexchanged⟩, ok_exch FMexchanged T TC t__with_tables, bMexchanged, .nil⟩
  have t_renamed : C8.Met l.prog w K mg base 8 C "renamed" (spRen K C TT) [] := ⟨_, _, _, _, cl, ⟨atMrenamed, isMrenamed, kMrenamed⟩, ok_ren FMrenamed T TC c_check_table t__check_new_names t__with_tables, bMrenamed, .nil⟩
  have len_System : LenM l.prog w K mg base 1 C (spLenS K C) := ⟨_, _, _, cl, atMlen, isMlen, ok_lenS FMlen T TC, bMlen⟩
  have eq_System : EqM l.prog w K mg base 1 C (spSysEq K C) := ⟨_, _, _, cl, atMeq, isMeq, ok_eqS FMeq T TC zi isC, bMeq⟩
  have x_check_table : CalN l.prog w K mg base 3 "check_table" (spCheckTableB K C ((cOf [D0, D1, D2, D3, D4, D5, D6, D7, D8, D9, D10, D11, D12]) 3)) := ⟨_, _, _, fn_orN (ok_check_table F3 T p_names) (ok_check_tableX F3 T p_names r_UnknownTable), PySem.W.mg_of X G a3, k3, b3⟩
  have x_check_read : CalN l.prog w K mg base 5 "check_read" (spCheckRdN K C ((cOf [D0, D1, D2, D3, D4, D5, D6, D7, D8, D9, D10, D11, D12]) 5)) := ⟨_, _, _, ok_check_rdN F7 T TC p_names t_reads r_InvalidRead, PySem.W.mg_of X G a7, k7, b7⟩
  have n_constant : MetN l.prog w K mg base 4 C "constant" (orSp (spConst K C) (spCheckTableX K C ((cOf [D0, D1, D2, D3, D4, D5, D6, D7, D8, D9, D10, D11, D12]) 3))) := ⟨_, _, _, cl, ⟨atMconstant, isMconstant, kMconstant⟩, fn_orN (ok_const FMconstant T TC c_check_table) (ok_constX FMconstant T TC x_check_table), bMconstant⟩
  have n_reads : MetN l.prog w K mg base 4 C "reads" (orSp (spReads K C) (spCheckTableX K C ((cOf [D0, D1, D2, D3, D4, D5, D6, D7, D8, D9, D10, D11, D12]) 3))) := ⟨_, _, _, cl, ⟨atMreads, isMreads, kMreads⟩, fn_orN (ok_reads FMreads T TC c_check_table) (ok_readsX FMreads T TC x_check_table), bMreads⟩
  have n__check_new_names : MetN l.prog w K mg base 3 C "_check_new_names" (spNewNamesX K ((cOf [D0, D1, D2, D3, D4, D5, D6, D7, D8, D9, D10, D11, D12]) 1)) := ⟨_, _, _, cl, ⟨atMcheck_new_names, isMcheck_new_names, kMcheck_new_names⟩, ok_newnamesX FMcheck_new_names T c_is_name r_InvalidName, bMcheck_new_names⟩
  have n_without : MetN l.prog w K mg base 8 C "without" (orSp (spWithout K C TT) (spWithoutX K C ((cOf [D0, D1, D2, D3, D4, D5, D6, D7, D8, D9, D10, D11, D12]) 5))) := ⟨_, _, _, cl, ⟨atMwithout, isMwithout, kMwithout⟩, fn_orN (ok_without FMwithout T TC c_check_read t__with_tables) (ok_withoutX FMwithout T TC x_check_read t__with_tables), bMwithout⟩
  have n_beside : MetN l.prog w K mg base 8 C "beside" (orSp (spBeside K C TT) (spBesideX K C ((cOf [D0, D1, D2, D3, D4, D5, D6, D7, D8, D9, D10, D11, D12]) 1))) := ⟨_, _, _, cl, ⟨atMbeside, isMbeside, kMbeside⟩, fn_orN (ok_beside FMbeside T TC t__with_tables) (ok_besideX (ok_besideL FMbeside T TC t__with_tables r_InvalidName)), bMbeside⟩
  have n_renamed : MetN l.prog w K mg base 8 C "renamed" (orSp (spRen K C TT) (spRenX K C ((cOf [D0, D1, D2, D3, D4, D5, D6, D7, D8, D9, D10, D11, D12]) 3) ((cOf [D0, D1, D2, D3, D4, D5, D6, D7, D8, D9, D10, D11, D12]) 1))) := ⟨_, _, _, cl, ⟨atMrenamed, isMrenamed, kMrenamed⟩, fn_orN (ok_ren FMrenamed T TC c_check_table t__check_new_names t__with_tables) (ok_renX FMrenamed T TC x_check_table n__check_new_names t__with_tables), bMrenamed⟩
  have n_exchanged : MetN l.prog w K mg base 8 C "exchanged" (orSp (spExch K C TT) (spExchX K C ((cOf [D0, D1, D2, D3, D4, D5, D6, D7, D8, D9, D10, D11, D12]) 2))) := ⟨_, _, _, cl, ⟨atMexchanged, isMexchanged, kMexchanged⟩, fn_orN (ok_exch FMexchanged T TC t__with_tables) (ok_exchX FMexchanged T TC t__with_tables r_InvalidAxes), bMexchanged⟩
  have er : ∀ i, i ∈ ERS5 → ErrC K ((cOf [D0, D1, D2, D3, D4, D5, D6, D7, D8, D9, D10, D11, D12]) i) ∧ KitE K (cOf [D0, D1, D2, D3, D4, D5, D6, D7, D8, D9, D10, D11, D12]) i ∧ PySem.W.findIn K (.ref ((cOf [D0, D1, D2, D3, D4, D5, D6, D7, D8, D9, D10, D11, D12]) i)) "value" = some none ∧ PySem.W.exmOne K (.ref ((cOf [D0, D1, D2, D3, D4, D5, D6, D7, D8, D9, D10, D11, D12]) i)) (.ref ((cOf [D0, D1, D2, D3, D4, D5, D6, D7, D8, D9, D10, D11, D12]) 12)) = some true := fun i hi => by
    simp only [ERS5, List.mem_cons, List.not_mem_nil, or_false] at hi
    rcases hi with rfl | rfl | rfl | rfl
    · exact ⟨EC1, KE1, no1, hx1⟩
    · exact ⟨EC2, KE2, no2, hx2⟩
    · exact ⟨EC3, KE3, no3, hx3⟩
    · exact ⟨EC5, KE5, no5, hx5⟩
  have c_Lrng : C8.Cal l.prog w K mg base 1 "_law_rng" (spRng K) [] := ⟨_, _, _, _, ok_rng F8 T, PySem.W.mg_of X G a8, k8, b8, .nil⟩
  have c_Ldraw : C8.Cal l.prog w K mg base 1 "_law_draw" spDraw [] := ⟨_, _, _, _, ok_draw F9 T, PySem.W.mg_of X G a9, k9, b9, .nil⟩
  have c_Lmixed : C8.Cal l.prog w K mg base 2 "_law_mixed" (spMixed K) [] := ⟨_, _, _, _, ok_mixed F10 T c_Ldraw, PySem.W.mg_of X G a10, k10, b10, .nil⟩
  have c_Lvector : C8.Cal l.prog w K mg base 2 "_law_vector" (spVector K) [] := ⟨_, _, _, _, ok_vector F11 T c_Ldraw, PySem.W.mg_of X G a11, k11, b11, .nil⟩
  have c_Lmade_rows : C8.Cal l.prog w K mg base 3 "_law_made_rows" (spRows K) [] := ⟨_, _, _, _, ok_made_rows F12 T c_Ldraw c_Lmixed c_Lvector, PySem.W.mg_of X G a12, k12, b12, .nil⟩
  have c_Lshown : CalG l.prog w K mg base 5 "_law_shown" (spShown K C) := ⟨_, _, _, ok_shown F13 T zr TC p_names p_dimensions p_modulus t_constant t_reads t_all_reads len_System, PySem.W.mg_of X G a13, k13, b13⟩
  have y_Lcaught : CalE l.prog w K mg base 1 "_law_caught" (spCaught K (cOf [D0, D1, D2, D3, D4, D5, D6, D7, D8, D9, D10, D11, D12])) := ⟨_, _, _, ok_caught F14 T TE zi, PySem.W.mg_of X G a14, k14, b14⟩
  have c_Lraised : C8.Cal l.prog w K mg base 9 "_law_raised" (spRaised5 K C TT) [] := ⟨_, _, _, _, ok_raised5 F15 T TC TE n_constant n_reads n_without n_beside n_renamed n_exchanged y_Lcaught er, PySem.W.mg_of X G a15, k15, b15, .nil⟩
  have c_Lrenamed_due : C8.Cal l.prog w K mg base 1 "_law_renamed_due" (spRenDue K) [] := ⟨_, _, _, _, ok_rendue F16 T, PySem.W.mg_of X G a16, k16, b16, .nil⟩
  have c_Lreads_right : C8.Cal l.prog w K mg base 10 "_law_reads_right" (spReadsR K C TT) [] := ⟨_, _, _, _, ok_readsR F17 T TC c_Ldraw c_Lmixed p_names t_reads t_all_reads c_Lraised, PySem.W.mg_of X G a17, k17, b17, .nil⟩
  have c_Lbeside_right : C8.Cal l.prog w K mg base 10 "_law_beside_right" (spBesR K C TT) [] := ⟨_, _, _, _, ok_besR F18 T TC c_Ldraw c_Lmixed p_names p_dimensions p_modulus m_System3 c_Lraised, PySem.W.mg_of X G a18, k18, b18, .nil⟩
  exact ok_law5 F19 T TC c_Lrng c_Ldraw c_Lmixed c_Lmade_rows p_names m_System3 c_Lshown c_Lraised c_Lrenamed_due c_Lreads_right c_Lbeside_right
end Fr

open PySem PySem.W PyProof.Rows
set_option maxRecDepth 100000 in
set_option maxHeartbeats 0 in
theorem PySem.Challenge.cw_farreads_k05_errors_of_systems_holds : PySem.Challenge.rw_farreads_k05_errors_of_systems.Holds := by
  w_on; o_law; k_head; (case hw => w_witness2)
  k_fill
  refine Fr.walk_ofG (n := 63) (k := 11) (x := "_law_script") (l := PySem.Challenge.rw_farreads_k05_errors_of_systems) rfl (by decide) rfl ⟨rfl, by decide, by decide⟩ (fun w h Y => PySem.W.km_in_of Y) ?F
  case F =>
    intro w mg fa h Y KX G hmg
    have hPt := PySem.W.km_tabs_of Y _ (List.mem_singleton.mpr rfl)
    refine' Fr.all_mk (Pt := _) KX G hmg ?a1 ?l1 ?e1 ?k1 ?a2 ?l2 ?e2 ?k2 ?a3 ?l3 ?e3 ?k3 ?a4 ?l4 ?e4 ?k4 ?a5 ?l5 ?e5 ?k5 ?a6 ?l6 ?e6 ?k6 ?a7 ?l7 ?e7 ?k7 ?a8 ?l8 ?e8 ?k8 ?a9 ?l9 ?e9 ?k9 ?a10 ?l10 ?e10 ?k10 ?a11 ?l11 ?e11 ?k11 ?a12 ?l12 ?e12 ?k12 ?a13 ?l13 ?e13 ?k13 ?a14 ?l14 ?e14 ?k14 ?a15 ?l15 ?e15 ?k15 ?a16 ?l16 ?e16 ?k16 ?a17 ?l17 ?e17 ?k17 ?a18 ?l18 ?e18 ?k18 ?a19 ?l19 ?e19 ?k19 ?aC ?atPdimensions ?gePdimensions ?taPdimensions ?rePdimensions ?lPdimensions ?ePdimensions ?kPdimensions ?atPmodulus ?gePmodulus ?taPmodulus ?rePmodulus ?lPmodulus ?ePmodulus ?kPmodulus ?atPnames ?gePnames ?taPnames ?rePnames ?lPnames ?ePnames ?kPnames ?atMreads ?isMreads ?lMreads ?eMreads ?kMreads ?atMconstant ?isMconstant ?lMconstant ?eMconstant ?kMconstant ?atMall_reads ?isMall_reads ?lMall_reads ?eMall_reads ?kMall_reads ?atMwith_tables ?isMwith_tables ?lMwith_tables ?eMwith_tables ?kMwith_tables ?atMcheck_new_names ?isMcheck_new_names ?lMcheck_new_names ?eMcheck_new_names ?kMcheck_new_names ?atMwithout ?isMwithout ?lMwithout ?eMwithout ?kMwithout ?atMbeside ?isMbeside ?lMbeside ?eMbeside ?kMbeside ?atMexchanged ?isMexchanged ?lMexchanged ?eMexchanged ?kMexchanged ?atMrenamed ?isMrenamed ?lMrenamed ?eMrenamed ?kMrenamed ?atMlen ?isMlen ?lMlen ?eMlen ?kMlen ?atMeq ?isMeq ?lMeq ?eMeq ?kMeq ?atI ?isI ?lI ?eI ?kI ?lT ?pg ?hd ?po ?sa ?mk ?kc ?haC ?hnC ?htC ?hmC ?n_dimensions ?n_modulus ?n_tables ?z_len ?z_all ?z_min ?z_abs ?z_int ?z_list ?z_tuple ?z_range ?z_zip ?z_enumerate ?z_sorted ?z_repr ?z_isinstance ?v_MOST_DIMENSIONS ?v_MOST_TABLES ?v_MOST_READS ?v_MOST_LETTERS ?cg0 ?cg1 ?cg2 ?cg3 ?cg4 ?cg5 ?cg6 ?cg7 ?cg8 ?cg9 ?cg10 ?cg11 ?cg12 ?x1 ?sa1 ?ex1 ?ty1 ?kp1 ?ga1 ?gg1 ?hd1 ?kc1 ?km1 ?in1 ?no1 ?sub1 ?vv1 ?hx1 ?x2 ?sa2 ?ex2 ?ty2 ?kp2 ?ga2 ?gg2 ?hd2 ?kc2 ?km2 ?in2 ?no2 ?sub2 ?vv2 ?hx2 ?x3 ?sa3 ?ex3 ?ty3 ?kp3 ?ga3 ?gg3 ?hd3 ?kc3 ?km3 ?in3 ?no3 ?sub3 ?vv3 ?hx3 ?x5 ?sa5 ?ex5 ?ty5 ?kp5 ?ga5 ?gg5 ?hd5 ?kc5 ?km5 ?in5 ?no5 ?sub5 ?vv5 ?hx5 ?lE ?eE ?kE ?tyE ?z_ValueError hPt ?nPt ?hc0
    (case a1 => k_is)
    (case l1 => k_is)
    (case e1 => k_is)
    (case k1 => k_is)
    (case a2 => k_is)
    (case l2 => k_is)
    (case e2 => k_is)
    (case k2 => k_is)
    (case a3 => k_is)
    (case l3 => k_is)
    (case e3 => k_is)
    (case k3 => k_is)
    (case a4 => k_is)
    (case l4 => k_is)
    (case e4 => k_is)
    (case k4 => k_is)
    (case a5 => k_is)
    (case l5 => k_is)
    (case e5 => k_is)
    (case k5 => k_is)
    (case a6 => k_is)
    (case l6 => k_is)
    (case e6 => k_is)
    (case k6 => k_is)
    (case a7 => k_is)
    (case l7 => k_is)
    (case e7 => k_is)
    (case k7 => k_is)
    (case a8 => k_is)
    (case l8 => k_is)
    (case e8 => k_is)
    (case k8 => k_is)
    (case a9 => k_is)
    (case l9 => k_is)
    (case e9 => k_is)
    (case k9 => k_is)
    (case a10 => k_is)
    (case l10 => k_is)
    (case e10 => k_is)
    (case k10 => k_is)
    (case a11 => k_is)
    (case l11 => k_is)
    (case e11 => k_is)
    (case k11 => k_is)
    (case a12 => k_is)
    (case l12 => k_is)
    (case e12 => k_is)
    (case k12 => k_is)
    (case a13 => k_is)
    (case l13 => k_is)
    (case e13 => k_is)
    (case k13 => k_is)
    (case a14 => k_is)
    (case l14 => k_is)
    (case e14 => k_is)
    (case k14 => k_is)
    (case a15 => k_is)
    (case l15 => k_is)
    (case e15 => k_is)
    (case k15 => k_is)
    (case a16 => k_is)
    (case l16 => k_is)
    (case e16 => k_is)
    (case k16 => k_is)
    (case a17 => k_is)
    (case l17 => k_is)
    (case e17 => k_is)
    (case k17 => k_is)
    (case a18 => k_is)
    (case l18 => k_is)
    (case e18 => k_is)
    (case k18 => k_is)
    (case a19 => k_is)
    (case l19 => k_is)
    (case e19 => k_is)
    (case k19 => k_is)
    (case aC => k_is)
    (case atPdimensions => k_is)
    (case gePdimensions => k_is)
    (case taPdimensions => k_is)
    (case rePdimensions => k_is)
    (case lPdimensions => k_is)
    (case ePdimensions => k_is)
    (case kPdimensions => k_is)
    (case atPmodulus => k_is)
    (case gePmodulus => k_is)
    (case taPmodulus => k_is)
    (case rePmodulus => k_is)
    (case lPmodulus => k_is)
    (case ePmodulus => k_is)
    (case kPmodulus => k_is)
    (case atPnames => k_is)
    (case gePnames => k_is)
    (case taPnames => k_is)
    (case rePnames => k_is)
    (case lPnames => k_is)
    (case ePnames => k_is)
    (case kPnames => k_is)
    (case atMreads => k_is)
    (case isMreads => k_is)
    (case lMreads => k_is)
    (case eMreads => k_is)
    (case kMreads => k_is)
    (case atMconstant => k_is)
    (case isMconstant => k_is)
    (case lMconstant => k_is)
    (case eMconstant => k_is)
    (case kMconstant => k_is)
    (case atMall_reads => k_is)
    (case isMall_reads => k_is)
    (case lMall_reads => k_is)
    (case eMall_reads => k_is)
    (case kMall_reads => k_is)
    (case atMwith_tables => k_is)
    (case isMwith_tables => k_is)
    (case lMwith_tables => k_is)
    (case eMwith_tables => k_is)
    (case kMwith_tables => k_is)
    (case atMcheck_new_names => k_is)
    (case isMcheck_new_names => k_is)
    (case lMcheck_new_names => k_is)
    (case eMcheck_new_names => k_is)
    (case kMcheck_new_names => k_is)
    (case atMwithout => k_is)
    (case isMwithout => k_is)
    (case lMwithout => k_is)
    (case eMwithout => k_is)
    (case kMwithout => k_is)
    (case atMbeside => k_is)
    (case isMbeside => k_is)
    (case lMbeside => k_is)
    (case eMbeside => k_is)
    (case kMbeside => k_is)
    (case atMexchanged => k_is)
    (case isMexchanged => k_is)
    (case lMexchanged => k_is)
    (case eMexchanged => k_is)
    (case kMexchanged => k_is)
    (case atMrenamed => k_is)
    (case isMrenamed => k_is)
    (case lMrenamed => k_is)
    (case eMrenamed => k_is)
    (case kMrenamed => k_is)
    (case atMlen => k_is)
    (case isMlen => k_is)
    (case lMlen => k_is)
    (case eMlen => k_is)
    (case kMlen => k_is)
    (case atMeq => k_is)
    (case isMeq => k_is)
    (case lMeq => k_is)
    (case eMeq => k_is)
    (case kMeq => k_is)
    (case atI => k_is)
    (case isI => k_is)
    (case lI => k_is)
    (case eI => k_is)
    (case kI => k_is)
    (case lT => k_is)
    (case pg => k_is)
    (case hd => k_is)
    (case po => k_is)
    (case sa => k_is)
    (case mk => k_is)
    (case kc => k_is)
    (case haC => k_is)
    (case hnC => k_is)
    (case htC => k_is)
    (case hmC => k_is)
    (case n_dimensions => k_is)
    (case n_modulus => k_is)
    (case n_tables => k_is)
    (case z_len => k_is)
    (case z_all => k_is)
    (case z_min => k_is)
    (case z_abs => k_is)
    (case z_int => k_is)
    (case z_list => k_is)
    (case z_tuple => k_is)
    (case z_range => k_is)
    (case z_zip => k_is)
    (case z_enumerate => k_is)
    (case z_sorted => k_is)
    (case z_repr => k_is)
    (case z_isinstance => k_is)
    (case v_MOST_DIMENSIONS => k_is)
    (case v_MOST_TABLES => k_is)
    (case v_MOST_READS => k_is)
    (case v_MOST_LETTERS => k_is)
    (case cg0 => k_is)
    (case cg1 => k_is)
    (case cg2 => k_is)
    (case cg3 => k_is)
    (case cg4 => k_is)
    (case cg5 => k_is)
    (case cg6 => k_is)
    (case cg7 => k_is)
    (case cg8 => k_is)
    (case cg9 => k_is)
    (case cg10 => k_is)
    (case cg11 => k_is)
    (case cg12 => k_is)
    (case x1 => (refine' Fr.excRow_of ?l ?r; (case l => k_is); (case r => decide +kernel)))
    (case sa1 => k_is)
    (case ex1 => k_is)
    (case ty1 => k_is)
    (case kp1 => k_is)
    (case ga1 => k_is)
    (case gg1 => k_is)
    (case hd1 => k_is)
    (case kc1 => k_is)
    (case km1 => k_is)
    (case in1 => k_is)
    (case no1 => k_is)
    (case sub1 => kernel_rfl)
    (case vv1 => kernel_rfl)
    (case hx1 => kernel_rfl)
    (case x2 => (refine' Fr.excRow_of ?l ?r; (case l => k_is); (case r => decide +kernel)))
    (case sa2 => k_is)
    (case ex2 => k_is)
    (case ty2 => k_is)
    (case kp2 => k_is)
    (case ga2 => k_is)
    (case gg2 => k_is)
    (case hd2 => k_is)
    (case kc2 => k_is)
    (case km2 => k_is)
    (case in2 => k_is)
    (case no2 => k_is)
    (case sub2 => kernel_rfl)
    (case vv2 => kernel_rfl)
    (case hx2 => kernel_rfl)
    (case x3 => (refine' Fr.excRow_of ?l ?r; (case l => k_is); (case r => decide +kernel)))
    (case sa3 => k_is)
    (case ex3 => k_is)
    (case ty3 => k_is)
    (case kp3 => k_is)
    (case ga3 => k_is)
    (case gg3 => k_is)
    (case hd3 => k_is)
    (case kc3 => k_is)
    (case km3 => k_is)
    (case in3 => k_is)
    (case no3 => k_is)
    (case sub3 => kernel_rfl)
    (case vv3 => kernel_rfl)
    (case hx3 => kernel_rfl)
    (case x5 => (refine' Fr.excRow_of ?l ?r; (case l => k_is); (case r => decide +kernel)))
    (case sa5 => k_is)
    (case ex5 => k_is)
    (case ty5 => k_is)
    (case kp5 => k_is)
    (case ga5 => k_is)
    (case gg5 => k_is)
    (case hd5 => k_is)
    (case kc5 => k_is)
    (case km5 => k_is)
    (case in5 => k_is)
    (case no5 => k_is)
    (case sub5 => kernel_rfl)
    (case vv5 => kernel_rfl)
    (case hx5 => kernel_rfl)
    (case lE => k_is)
    (case eE => k_is)
    (case kE => k_is)
    (case tyE => k_is)
    (case z_ValueError => k_is)
    (case nPt => kernel_rfl)
    (case hc0 => kernel_rfl)
