import PyProof.Rows.All
import Wide.All
import OpenK.AllK
import Wide.FinOn
import HandS.ForMost
import HandS.Wide
import HandS.ForExc
import HandS.Deep
import HandS.Evl
import HandS.Walk
import HandS.Codes
import HandS.Zip
import HandS.Property
import HandS.Defaults
import HandS.TupAny
import HandS.More
import HandS.Lambda
import HandS.SortKw
import KE.SortKeyHeap
import HandS.DictComp
import PySem.Challenge.RW_farreads_k27_errors_of_bounds
import HandS.DeepEq
import HandS.OwnEq
import KE.GoesEnum
import HandS.EndTab
import PyProof.ReprRoads
import HandS.RaiseMore
import PyProof.ReprLen
import HandS.Rev
import HandS.SortInts
import HandS.Conv
import PyProof.Rows.CountFlat
import HandS.ExcInit
import HandS.IsInst
import KE.KExcIs
import HandS.Exc
import HandS.ExcOwn
import HandS.ExcField
import HandS.ExcIs
import HandS.DictTup
import KE.KDictWalk
import HandS.Gcd
import HandS.SetKeys
import HandS.TupMul
import HandS.Comp
import HandS.TupSets
import PyProof.Rows.SortStr
import KE.GoesZip
import HandS.Iter
import KE.GoesMore
import HandS.HotCalls
import HandS.ExcInitHot
import HandS.Flow
import HandS.TupLen
import KE.KDictZip
import KE.KIsAll
import HandS.MakeKw
import PyProof.ListStr
import HandS.Text
set_option Elab.async false
set_option linter.all false
set_option maxRecDepth 100000
set_option maxHeartbeats 8000000
namespace Fr
open PySem PySem.Spec PyProof.Rows L2
section
variable {K : PySem.W.Frag} {H H' : Hp}
theorem sqt (e : Same H H') {a : Addr} {xs : List V} (h : SqT K H a xs) : SqT K H' a xs := Evl.ex_t e h
theorem sql (e : Same H H') {a : Addr} {xs : List V} (h : SqL K H a xs) : SqL K H' a xs := Evl.ex_l e h
/-- lists, tuples, locked things -/
def dat : HO → Bool
  | .lst _ => true
  | .tup _ => true
  | .frz _ _ => true
  | _ => false
/-- what data is made of stays -/
def SD (H H' : Hp) : Prop := ∀ b o, H b = some o → dat o = true → H' b = some o
theorem SD.of (e : Same H H') : SD H H' := fun b o h _ => e b o h
theorem SD.tr {H'' : Hp} (a : SD H H') (b : SD H' H'') : SD H H'' := fun c o h d => b c o (a c o h d) d
theorem SD.upd {s : Addr} {u o : HO} (e : SD H H') (h : H' s = some u) (n : dat u = false) : SD H (upd H' s o) := fun b x q d => by
  have z := e b x q d
  have ne : b ≠ s := fun y => by
    rw [y, h] at z
    cases z
    rw [n] at d
    cases d
  rw [upd_ne ne]
  exact z
theorem sqtd (e : SD H H') {a : Addr} {xs : List V} (h : SqT K H a xs) : SqT K H' a xs := by
  rcases h with (h | ⟨o, h⟩) | h
  · exact .inl (.inl (e _ _ h rfl))
  · exact .inl (.inr ⟨o, e _ _ h rfl⟩)
  · exact .inr h
theorem sqld (e : SD H H') {a : Addr} {xs : List V} (h : SqL K H a xs) : SqL K H' a xs := by
  rcases h with (h | ⟨o, h⟩) | h
  · exact .inl (.inl (e _ _ h rfl))
  · exact .inl (.inr ⟨o, e _ _ h rfl⟩)
  · exact .inr h
mutual
theorem dpd (e : SD H H') : ∀ (d : PyData) (v : V), Dp K H v d → Dp K H' v d
  | .none, _, h => by cases h; exact .non
  | .bool b, _, h => by cases h; exact .bl b
  | .int i, _, h => by cases h; exact .int i
  | .str x, _, h => by cases h; exact .str x
  | .list ds, _, h => by
    cases h with
    | lst hs ha => exact .lst (sqld e hs) (dpsd e ds _ ha)
  | .tuple ds, _, h => by
    cases h with
    | tup hs ha => exact .tup (sqtd e hs) (dpsd e ds _ ha)
  | .dict _, _, h => by cases h
theorem dpsd (e : SD H H') : ∀ (ds : List PyData) (vs : List V), DpAll K H vs ds → DpAll K H' vs ds
  | [], _, h => by cases h; exact .nil
  | d :: ds, _, h => by
    cases h with
    | cons h1 h2 => exact .cons (dpd e d _ h1) (dpsd e ds _ h2)
end
theorem dpm (e : Same H H') (d : PyData) (v : V) (h : Dp K H v d) : Dp K H' v d := dpd (.of e) d v h
theorem dpsm (e : Same H H') (ds : List PyData) (vs : List V) (h : DpAll K H vs ds) : DpAll K H' vs ds := dpsd (.of e) ds vs h
theorem dps_len : ∀ {ds : List PyData} {vs : List V}, DpAll K H vs ds → vs.length = ds.length
  | [], _, h => by cases h; rfl
  | d :: ds, _, h => by
    cases h with
    | cons h1 h2 => exact congrArg Nat.succ (dps_len h2)
theorem dps_get : ∀ {ds : List PyData} {vs : List V} {i : Nat} {v : V}, DpAll K H vs ds → vs[i]? = some v → ∃ d, ds[i]? = some d ∧ Dp K H v d
  | [], _, _, _, h, e => by cases h; cases e
  | d :: ds, _, 0, v, h, e => by
    cases h with
    | cons h1 h2 => cases e; exact ⟨d, rfl, h1⟩
  | d :: ds, _, i + 1, v, h, e => by
    cases h with
    | cons h1 h2 => exact dps_get (i := i) h2 (by simpa using e)
theorem dps_get' : ∀ {ds : List PyData} {vs : List V} {i : Nat} {d : PyData}, DpAll K H vs ds → ds[i]? = some d → ∃ v, vs[i]? = some v ∧ Dp K H v d
  | [], _, _, _, h, e => by cases e
  | d :: ds, _, 0, v, h, e => by
    cases h with
    | cons h1 h2 => cases e; exact ⟨_, rfl, h1⟩
  | d :: ds, _, i + 1, v, h, e => by
    cases h with
    | cons h1 h2 => simpa using dps_get' (i := i) h2 (by simpa using e)
theorem dps_app : ∀ {ds es : List PyData} {vs us : List V}, DpAll K H vs ds → DpAll K H us es → DpAll K H (vs ++ us) (ds ++ es)
  | [], _, _, _, h, k => by cases h; exact k
  | d :: ds, _, _, _, h, k => by
    cases h with
    | cons h1 h2 => exact .cons h1 (dps_app h2 k)
theorem dps_one {v : V} {d : PyData} (h : Dp K H v d) : DpAll K H [v] [d] := .cons h .nil
theorem dps_snoc {ds : List PyData} {vs : List V} {v : V} {d : PyData} (h : DpAll K H vs ds) (k : Dp K H v d) : DpAll K H (vs ++ [v]) (ds ++ [d]) := dps_app h (dps_one k)
/-- a new object leaves what stands -/
theorem snew {p : Addr} {o : HO} (h : H p = none) : Same H (upd H p o) := fun b x e => by
  rw [upd_ne (ne_of_none e h)]
  exact e
theorem smut {p : Addr} {o : HO} (e : Same H H') (h : H p = none) : Same H (upd H' p o) := fun b x q => by
  rw [upd_ne (ne_of_none q h)]
  exact e b x q
theorem dint {v : V} {i : Int} (h : Dp K H v (.int i)) : v = .int i := by cases h; rfl
theorem dstr {v : V} {x : Str} (h : Dp K H v (.str x)) : v = .str x := by cases h; rfl
theorem dtup {v : V} {ds : List PyData} (h : Dp K H v (.tuple ds)) : ∃ a xs, v = .ref a ∧ SqT K H a xs ∧ DpAll K H xs ds := by
  cases h with
  | tup hs ha => exact ⟨_, _, rfl, hs, ha⟩
theorem dlst {v : V} {ds : List PyData} (h : Dp K H v (.list ds)) : ∃ a xs, v = .ref a ∧ SqL K H a xs ∧ DpAll K H xs ds := by
  cases h with
  | lst hs ha => exact ⟨_, _, rfl, hs, ha⟩
theorem dps_ints : ∀ {ns : List Int} {vs : List V}, DpAll K H vs (ns.map PyData.int) → vs = ns.map V.int
  | [], _, h => by cases h; rfl
  | n :: ns, _, h => by
    cases h with
    | cons h1 h2 => cases h1; rw [dps_ints h2]; rfl
theorem dps3 {a b c : PyData} {vs : List V} (h : DpAll K H vs [a, b, c]) : ∃ x y z, vs = [x, y, z] ∧ Dp K H x a ∧ Dp K H y b ∧ Dp K H z c := by
  cases h with
  | cons h1 h =>
    cases h with
    | cons h2 h =>
      cases h with
      | cons h3 h =>
        cases h
        exact ⟨_, _, _, rfl, h1, h2, h3⟩
theorem dps2 {a b : PyData} {vs : List V} (h : DpAll K H vs [a, b]) : ∃ x y, vs = [x, y] ∧ Dp K H x a ∧ Dp K H y b := by
  cases h with
  | cons h1 h =>
    cases h with
    | cons h2 h =>
      cases h
      exact ⟨_, _, rfl, h1, h2⟩
theorem ints_dps : ∀ (ns : List Int), DpAll K H (ns.map V.int) (ns.map PyData.int)
  | [] => .nil
  | n :: ns => .cons (.int n) (ints_dps ns)
end
/-- ** with a base of any size within the line -/
def CPowW (i j : Int) : Prop := 0 ≤ j ∧ j ≤ 3 ∧ i.natAbs < 2 ^ 1000000
section
variable {X : Cx}
theorem op_powW : OpR X (binaryOp .Pow) (rI CPowW fun i j => .int (i ^ j.toNat)) := opI fun i j _ _ _ _ _ hc q => by
  obtain ⟨h0, h3, hb⟩ := hc
  refine pow_int h0 ?_ q
  have b : Builtin.Int.intBits i ≤ i.natAbs.log2 + 1 := by
    unfold Builtin.Int.intBits
    split <;> omega
  have l : i.natAbs.log2 < 1000000 := PySem.Flt.log2_lt_of (by decide) hb
  have c : (Builtin.Int.intBits i : Int) ≤ 1000000 := by omega
  have c0 : (0 : Int) ≤ (Builtin.Int.intBits i : Int) := Int.natCast_nonneg _
  calc (Builtin.Int.intBits i : Int) * j ≤ 1000000 * 3 := Int.mul_le_mul c h3 h0 (by decide)
    _ ≤ 2 ^ 27 := by decide
end
end Fr

namespace Fr
open PySem PySem.Spec PyProof.Rows L2
theorem same_refl {H : Hp} : Same H H := fun _ _ h => h
theorem same_tr {A B C : Hp} (a : Same A B) (b : Same B C) : Same A C := fun x o h => b x o (a x o h)
theorem yat_same {xs : List V} {i : Nat} {H : Hp} {x : V} {H' : Hp} (y : YAt xs i H x H') : Same H H' := by
  obtain ⟨rfl, _⟩ := y
  exact same_refl
theorem ypair_same {xs ys : Nat → Option V} {i : Nat} {H : Hp} {x : V} {H' : Hp} (y : YPair xs ys i H x H') : Same H H' := by
  obtain ⟨T, _, _, _, n, rfl, _⟩ := y
  exact snew n
theorem free_of {H H' : Hp} {p : Addr} (e : Same H H') (h : H' p = none) : H p = none := Same.free e h
theorem get_range {n i : Nat} (h : i < n) : (List.range n)[i]? = some i := by simp [h]
/-- a comprehension whose elements are told by the turn -/
theorem lc_flat {J : It} {n : Nat} {G : Hp → Prop} {Y : Nat → Hp → V → Hp → Prop} (w : Walk J n G Y) {g : TG} {te : TE} {vs : List Nat} {σ : L2.St} {H1 : Hp} {D : Addr} {Qd : Hp → Prop} (f : Nat → V) (hn : n ≤ 1000000) (hD : H1 D = none) (hG : ∀ H, Same H1 H → G H)
    (hY : ∀ i H x H', Y i H x H' → Same H H')
    (hs : ∀ i x H H', i < n → Same H1 H → Y i H x H' → ∀ R : V → Hp → Prop, (∀ H4, Same H' H4 → R (f i) H4) → g x (wipe σ vs) H' fun σ2 H2 => wipe σ2 vs = wipe σ vs ∧ te σ2 H2 R)
    (hd : ∀ H, Same H1 H → H D = some (.lst ((List.range n).map f)) → Qd H) :
    ∃ W : Nat → Nat → Hp → Prop, (∃ m, W 0 m (upd H1 D (.lst []))) ∧ ∀ i m H, W i m H →
      (J.stop i H ∧ Qd H) ∨ (J.go i H ∧ ∃ Nx : Hp → Prop, (∀ H', Nx H' → ∃ m', m' < m ∧ W (i + 1) m' H') ∧ ∀ x H', J.yld i H x H' → g x (wipe σ vs) H' fun σ2 H2 => wipe σ2 vs = wipe σ vs ∧ tYes σ2 H2 fun b H3 =>
        if b = true then te σ2 H3 fun y H4 => ∃ acc, H4 D = some (.lst acc) ∧ acc.length < sizeLine ∧ Nx (upd H4 D (.lst (acc ++ [y]))) else Nx H3) := by
  refine lc_it w (fun i H => Same H1 H ∧ H D = some (.lst ((List.range i).map f))) ⟨snew hD, upd_same⟩ (fun i H _ p => hG H p.1) (fun i x H H' hi p y => ?_) fun H p => hd H p.1 p.2
  have sm := hY i H x H' y
  refine hs i x H H' hi p.1 y _ fun H4 s4 => ⟨_, s4 _ _ (sm _ _ p.2), ?_, ?_, ?_⟩
  · rw [List.length_map, List.length_range]
    exact Nat.lt_of_lt_of_le (by omega : i < 1000001) (by rw [sizeLine_eq]; decide)
  · exact smut (same_tr p.1 (same_tr sm s4)) hD
  · rw [upd_same, List.range_succ, List.map_append]
    rfl
/-- a property that may be read by its name -/
structure Prp (P : Program) (w : World) (K : PySem.W.Frag) (mg : Str → Option Value) (base : Heap) (k : Nat) (C : Addr) (f : Str) (sp : Sp) : Prop where
  ex : ∃ (p g : Addr) (fd : FuncData) (ps : List Str), Cls K C ∧ PropOf K C f p g ∧ FnOk P w K mg base CX0 k g fd ps sp ∧ Binds K fd ps []
section
variable {X : Cx}
theorem pe_pr {k j : Nat} {C : Addr} {f : Str} {sp : Sp} {e : Expr} {pos : Pos} {ta : TE} (he : PE X e ta) (c : Prp X.prog X.w X.K X.mg X.base k C f sp) (hr : Room j X.A) (hk : k + 1 ≤ j) (hab : attributeBase e f X.env (eval e X.env) = eval e X.env) :
    PE X (.Attribute e f pos) (tProp C sp [] E0 ta) := by
  obtain ⟨p, g, fd, ps, hc, hp, F, hb⟩ := c.ex
  exact pe_prop he hc hp F (hr.mono hk) hb .nil pass0 hab
theorem _root_.L2.Room.units1 {k : Nat} {A : Around} (r : Room k A) : A.units + 65 < cLine := by
  have := r.un
  omega
end
def rTupS (K : PySem.W.Frag) : List V → Hp → VK → Prop := fun xs H Q => ∃ p ys, xs = [.ref p] ∧ ((SqL K H p ys ∧ ∀ l, H l = none → Q (.ref l) (upd H l (.tup ys))) ∨ (SqT K H p ys ∧ Q (.ref p) H))
end Fr

namespace Fr
open PySem PySem.Spec PyProof.Rows L2
theorem vals_each1 {α : Type} : ∀ {bs : List (V × α)} {us : List Value}, Vals (bs.map Prod.fst) us → PySem.W.EachIs (fun (v : Value) (x : V × α) => RelV x.1 v) us bs
  | [], _, h => by cases h; exact .nil
  | b :: bs, _, h => by
    cases h with
    | cons h t => exact .cons h (vals_each1 t)
theorem each_vals1 {α : Type} : ∀ {bs : List (V × α)} {us : List Value}, PySem.W.EachIs (fun (v : Value) (x : V × α) => RelV x.1 v) us bs → Vals (bs.map Prod.fst) us
  | [], _, h => by cases h; exact .nil
  | b :: bs, _, h => by
    cases h with
    | cons h t => exact .cons h (each_vals1 t)
/-- one parameter, nothing captured -/
structure LamP (a : Str) (scope : Scope) : Prop where
  kind : scope.kind = .function
  co : scope.isCoroutine = false
  gen : scope.isGenerator = false
  loc : scope.names.lookup a = some .local
  noc : ∀ y ∈ scope.names, y.2 ≠ .cell
  nof : ∀ y ∈ scope.names, y.2 ≠ .free
section
variable {prog : Program} {w : World} {A : Around} {E : Value → Shared → Prop} {s : Shared}
theorem lam_key0 {a q : Str} {f c' t : Addr} {pm ctv : Value} {params : Arguments} {scope : Scope} {cl : List (Str × Addr)} {p1 p2 p3 : Pos} {kk : Nat} {x : Str} {u : Tok} {items : List Value} (L : LamP a scope) (ha : (a == ("__debug__" : Str)) = false)
    (ho : s.heap.get? f = some (PySem.W.kla_obj "<lambda>" q params (.Subscript (.Name a p1) (.Constant (.int 0) kk p2) p3) scope cl pm c' ctv)) (hcr : s.heap.CodeRec (.ref c') q) (hroom : A.depth < recursionLimit) (hlim : s.heap.NoLimit)
    (hbind : ∀ v, bindArgs (PySem.W.kla_fn "<lambda>" q params (.Subscript (.Name a p1) (.Constant (.int 0) kk p2) p3) scope cl pm (.ref c') ctv) ⟨[v], []⟩ = pure [(a, v)]) (ht : IsTup s.heap t (Value.str x u :: items).toArray) :
    wpAny (model prog w) A (call (.ref f) [.ref t]) (PySem.W.KeyPure (.str x) s) E s := by
  refine wpAny_call (PySem.W.kla_callFunE hroom ho rfl L.co L.gen rfl hcr ?_)
  rw [hbind]
  refine wpAny_pure (wpAny_newFunctionEnv (fun y hy => L.noc y hy) (fun y hy => ?_) (fun h₁ hns hsb => ⟨hlim.fresh _ hsb, ?_⟩) L.kind)
  · have e : y = (a, Value.ref t) := by simpa using hy
    rw [e]
    exact L.loc
  · have kp : ∀ b o, s.heap.get? b = some o → h₁.get? b = some o := fun b o e => hsb.extBut b o (Nat.ne_of_lt (Heap.lt_size e)) (Heap.get?_push_of_some _ e)
    refine PySem.W.kla_codeExpr (Subscript_ (wpAny_Name (wpAny_loadName_local (v := .ref t) L.kind L.loc hns ?_ ?_) ha))
    · show List.lookup a ([(a, Value.ref t)] : List (Str × Value)) = _
      simp [List.lookup]
    · refine wpAny_Constant_int ?_
      refine item_tupleL (j := 0) (x := .str x u) (l := Value.str x u :: items) ?_ (by decide) (by decide) ?_ rfl ?_
      · obtain ⟨o, h1, h2, n, h3⟩ := ht
        exact ⟨o, kp _ _ h1, h2, n, h3⟩
      · show (if (decide ((0 : Int) ≤ (if (0 : Int) < 0 then 0 + ((Value.str x u :: items).length : Int) else 0)) && decide ((if (0 : Int) < 0 then 0 + ((Value.str x u :: items).length : Int) else 0) < ((Value.str x u :: items).length : Int))) = true then some (if (0 : Int) < 0 then 0 + ((Value.str x u :: items).length : Int) else 0).toNat else none) = some 0
        rw [if_neg (by decide : ¬ (0 : Int) < 0)]
        have h : (0 : Int) < ((Value.str x u :: items).length : Int) := by
          rw [List.length_cons]
          omega
        rw [decide_eq_true (Int.le_refl 0), decide_eq_true h]
        rfl
      · exact ⟨h₁, _, rfl, kp, PySem.Reads.str x u⟩
end
/-- by the first text, from the least on -/
def leK {β : Type} (k : β → Str) : β → β → Bool := fun a b => decide ((k a).cps.toList ≤ (k b).cps.toList)
def oneV (R : VK) : List V → Hp → Prop
  | [v], H => R v H
  | _, _ => False
theorem oneV_of {R : VK} {vs : List V} {H : Hp} (h : oneV R vs H) : ∃ v, vs = [v] ∧ R v H := by
  match vs, h with
  | [v], h => exact ⟨v, rfl, h⟩
def tSortKey {α : Type} (kf : α → Str) (K : PySem.W.Frag) (T : List (Addr × Str)) (te : TE) : TE := fun σ H Q => te σ H fun v H1 => ∃ (a : Addr) (bs : List (V × α)), v = .ref a ∧ SqL K H1 a (bs.map Prod.fst) ∧ LamX.Tabs T H1 ∧
  (∀ y ∈ bs, ∃ t zs, y.1 = .ref t ∧ SqT K H1 t (.str (kf y.2) :: zs)) ∧ ∀ H2, LamX.ExtN H1 H2 → LamX.Tabs T H2 → ∀ p, H2 p = none → Q (.ref p) (upd H2 p (.lst ((bs.mergeSort (leK fun y => kf y.2)).map Prod.fst)))
theorem same_of_ext {B H1 H2 : Hp} (e : Same B H1) (n : ∀ b ps, B b ≠ some (.tbl ps)) (x : LamX.ExtN H1 H2) : Same B H2 := fun b o h => x b o (e b o h) fun ps z => n b ps (by rw [h, z])
theorem sqt_ext {K : PySem.W.Frag} {H1 H2 : Hp} {a : Addr} {xs : List V} (x : LamX.ExtN H1 H2) (h : SqT K H1 a xs) : SqT K H2 a xs := by
  rcases h with (h | ⟨o, h⟩) | h
  · exact .inl (.inl (x _ _ h fun ps z => by cases z))
  · exact .inl (.inr ⟨o, x _ _ h fun ps z => by cases z⟩)
  · exact .inr h
theorem sql_ext {K : PySem.W.Frag} {H1 H2 : Hp} {a : Addr} {xs : List V} (x : LamX.ExtN H1 H2) (h : SqL K H1 a xs) : SqL K H2 a xs := by
  rcases h with (h | ⟨o, h⟩) | h
  · exact .inl (.inl (x _ _ h fun ps z => by cases z))
  · exact .inl (.inr ⟨o, x _ _ h fun ps z => by cases z⟩)
  · exact .inr h
section
variable {X : Cx}
theorem pe_sortKey {α : Type} (kf : α → Str) {T : List (Addr × Str)} {c P : Addr} {k : Nat} {a : Str} {e : Expr} {params : Arguments} {scope : Scope} {p p1 p2 p3 lpos kpos pos : Pos} {kk : Nat} {te : TE} (hg : Gl X "sorted") (hm : X.mg "sorted" = none) (ha : PE X e te) (hr : Room (k + 1) X.A)
    (TB : LamX.TabB X.base X.mg c P) (hcode : X.env.code = .ref c) (hmT : (P, X.env.qual ++ "<lambda>") ∈ T) (hu : ∀ p ∈ T, p.1 = P → p.2 = X.env.qual ++ "<lambda>") (hdef : defaultsOf params X.env = ([], [])) (L : LamP a scope) (hda : (a == ("__debug__" : Str)) = false)
    (hbind : ∀ (q : Str) (cl : List (Str × Addr)) (pm cv ctv v : Value), bindArgs (PySem.W.kla_fn "<lambda>" q params (.Subscript (.Name a p1) (.Constant (.int 0) kk p2) p3) scope cl pm cv ctv) ⟨[v], []⟩ = pure [(a, v)])
    (he : backTo pos (starEach [e] X.env) = (false, eval e X.env) :: backTo pos (starEach [] X.env) := by rfl) (hpl : (backTo pos (starEach [e] X.env)).any Prod.fst = false := by rfl) (hes : starEach (e :: []) X.env = (false, eval e X.env) :: starEach [] X.env := by rfl) :
    PE X (.Call (.Name "sorted" p) [e] [⟨some "key", .Lambda params (.Subscript (.Name a p1) (.Constant (.int 0) kk p2) p3) scope lpos, kpos⟩] pos) (tSortKey kf X.K T te) := by
  refine ⟨fun pins s σ H Q I h => ?_⟩
  refine wpAny_Call_Name_kw (ld_blt I hg hm PyProof.Rows.boot_sorted ?_)
  refine PyProof.Rows.callWith_kw (thn ((pa_cons ha pa_nil hes).run pos pins s σ H (oneV fun v H1 => ∃ (a : Addr) (bs : List (V × α)), v = .ref a ∧ SqL X.K H1 a (bs.map Prod.fst) ∧ LamX.Tabs T H1 ∧
    (∀ y ∈ bs, ∃ t zs, y.1 = .ref t ∧ SqT X.K H1 t (.str (kf y.2) :: zs)) ∧ ∀ H2, LamX.ExtN H1 H2 → LamX.Tabs T H2 → ∀ p, H2 p = none → Q (.ref p) (upd H2 p (.lst ((bs.mergeSort (leK fun y => kf y.2)).map Prod.fst)))) I h) fun us s1 hh => ?_) he hpl (by rfl) (by rfl)
  · obtain ⟨vs, H1, I1, r1, hh⟩ := hh
    obtain ⟨v, rfl, hh⟩ := oneV_of hh
    obtain ⟨b, bs, rfl, hS, hT, hK, q⟩ := hh
    obtain ⟨u, rfl, hu1⟩ := r1.one
    obtain rfl : u = Value.ref b := hu1
    show wpAny _ _ (evalAll ((do let v ← eval (.Lambda params (.Subscript (.Name a p1) (.Constant (.int 0) kk p2) p3) scope lpos) X.env; standAt pos; pure v) :: [])) _ _ s1
    refine wpAny_evalAll_cons (wpAny_bind (LamX.lam_make2 I1 TB hcode hmT hu hT hdef (fun y hy e => absurd e (L.nof y hy)) fun f c' pm ctv H2 s2 I2 xN hT2 hf hfn hfr hco => wpAny_bind (wpAny_standAt (wpAny_pure (wpAny_evalAll_nil ?_)))))
    show wpAny _ _ (call (.builtin "sorted") [.ref b] [(Str.ofString "key", .ref f)]) _ _ s2
    have hS2 := sql_ext xN hS
    obtain ⟨its, rv, hl, hz⟩ := I2.list hS2
    obtain ⟨⟨oc, vsc, tc, hoc, hdc, hvc⟩, _, _⟩ := I2.hok c' _ hco
    have hcr : s2.heap.CodeRec (.ref c') (X.env.qual ++ "<lambda>") := ⟨c', oc, vsc, tc, rfl, hoc, hdc, hvc⟩
    refine PySem.W.sorted_key_data (β := V × α) (vs := its) (bs := bs) (R := fun v x => RelV x.1 v) (b := false) (fun y => PyData.str (kf y.2)) hl.isList (vals_each1 rv) ?_ ?_ ?_ ?_ (PyProof.Rows.ksk_s1 _ _) (fun _ => PyProof.Rows.ksk_l1 _ _) (fun x => PyProof.Rows.ksk_t1 f x) ?_ ?_
    · intro d hd d' hd'
      obtain ⟨y, _, rfl⟩ := List.mem_map.mp hd
      obtain ⟨y', _, rfl⟩ := List.mem_map.mp hd'
      rfl
    · refine Or.inr fun d hd => ?_
      obtain ⟨y, _, rfl⟩ := List.mem_map.mp hd
      constructor
      · intro z
        cases z
      · intro xs z
        cases z
    · rw [List.length_map] at hz
      exact hz
    · intro y hy
      have := hr.un
      show X.A.units + 2 + PyData.depth (.str (kf y.2)) < cLine
      have e : PyData.depth (.str (kf y.2)) ≤ 1 := by simp [PyData.depth]
      omega
    · intro v y hv hy h tk kp
      obtain ⟨t, zs, ey, ht⟩ := hK y hy
      rw [ey] at hv
      obtain rfl : v = Value.ref t := hv
      obtain ⟨jts, rj, hjt, _⟩ := I2.tuple (sqt_ext xN ht)
      cases rj with
      | @cons _ u0 _ js r0 rr =>
        obtain ⟨t0, rfl⟩ := r0
        obtain ⟨o, h1, h2, n, h3⟩ := hjt
        refine lam_key0 (s := { s2 with heap := h, toks := tk }) (A := X.A.in1.in1) (u := t0) (items := js) L hda (kp _ _ hf) ⟨c', oc, vsc, tc, rfl, kp _ _ hoc, hdc, hvc⟩ ?_ (I2.nolimit.keeps kp) (fun v => hbind _ _ _ _ _ v) ⟨o, kp _ _ h1, h2, n, h3⟩
        have := hr.dp
        show X.A.depth < recursionLimit
        omega
    · intro out cc h' tk kp fresh hD hlen' hE
      have hv := each_vals1 hE
      have hle : PySem.W.dataLe false (fun y : V × α => PyData.str (kf y.2)) = leK fun y => kf y.2 := PySem.W.dataLe_str _
      rw [hle] at hv
      have hl2 : ((bs.mergeSort (leK fun y => kf y.2)).map Prod.fst).length ≤ sizeLine := by
        rw [List.length_map, List.length_mergeSort]
        rw [List.length_map] at hz
        exact hz
      exact ⟨.ref _, upd H2 (s2.heap.objs.size + 1) (.lst ((bs.mergeSort (leK fun y => kf y.2)).map Prod.fst)), I2.laid (t' := tk) kp (Nat.le_succ _) ⟨hl2, out, cc, hv, hD⟩, rfl, q H2 xN hT2 _ (I2.hok.fresh (Nat.le_succ _))⟩
end
/-- a dict comprehension over a walk -/
theorem dc_it {J : It} {n : Nat} {G : Hp → Prop} {Y : Nat → Hp → V → Hp → Prop} (w : Walk J n G Y) {g : TG} {tt : TT} {tk tv : TE} {vs : List Nat} {σ : L2.St} {H1 : Hp} {D : Addr} {Qd : Hp → Prop} (Pv : Nat → Hp → Prop) (h0 : Pv 0 (upd H1 D (.dK []))) (hG : ∀ i H, i ≤ n → Pv i H → G H)
    (hs : ∀ i x H H', i < n → Pv i H → Y i H x H' → g x (wipe σ vs) H' fun σ2 H2 => wipe σ2 vs = wipe σ vs ∧ tt σ2 H2 fun b H3 =>
      if b = true then tk σ2 H3 fun y H4 => tv σ2 H4 fun z H5 => ∃ kvs k, y = kV k ∧ H5 D = some (.dK kvs) ∧ kvs.length < sizeLine ∧ Pv (i + 1) (upd H5 D (.dK (putK kvs k z))) else Pv (i + 1) H3) (hd : ∀ H, Pv n H → Qd H) :
    ∃ W : Nat → Nat → Hp → Prop, (∃ m, W 0 m (upd H1 D (.dK []))) ∧ ∀ i m H, W i m H →
      (J.stop i H ∧ Qd H) ∨ (J.go i H ∧ ∃ Nx : Hp → Prop, (∀ H', Nx H' → ∃ m', m' < m ∧ W (i + 1) m' H') ∧ ∀ x H', J.yld i H x H' → g x (wipe σ vs) H' fun σ2 H2 => wipe σ2 vs = wipe σ vs ∧ tt σ2 H2 fun b H3 =>
        if b = true then tk σ2 H3 fun y H4 => tv σ2 H4 fun z H5 => ∃ kvs k, y = kV k ∧ H5 D = some (.dK kvs) ∧ kvs.length < sizeLine ∧ Nx (upd H5 D (.dK (putK kvs k z))) else Nx H3) := by
  refine ⟨fun i m H => m = n - i ∧ i ≤ n ∧ Pv i H, ⟨n, by simp, Nat.zero_le _, h0⟩, ?_⟩
  rintro i m H ⟨rfl, hi, p⟩
  have q := hG i H hi p
  by_cases hlt : i < n
  · exact .inr ⟨w.goes i H hlt q, Pv (i + 1), fun H' p' => ⟨n - (i + 1), by omega, rfl, hlt, p'⟩, fun x H' y => hs i x H H' hlt p (w.yields i H x H' hlt q y)⟩
  · have e : i = n := by omega
    subst e
    exact .inl ⟨w.stops H q, hd H p⟩
theorem SD.ext {H H' : Hp} (x : LamX.ExtN H H') : SD H H' := fun b o h d => x b o h fun ps z => by
  rw [z] at d
  cases d
theorem tabs_upd {T : List (Addr × Str)} {H : Hp} {s : Addr} {u o : HO} (hT : LamX.Tabs T H) (h : H s = some u) (n1 : ∀ ps, u ≠ .tbl ps) (n2 : ∀ c q, u ≠ LamX.CodeO c q) : LamX.Tabs T (upd H s o) := by
  intro p hp
  obtain ⟨ps, h1, h2, h3⟩ := hT p hp
  refine ⟨ps, ?_, h2, fun pos cv hc => ?_⟩
  · rw [upd_ne fun z => by
      rw [z, h] at h1
      exact n1 _ (Option.some.inj h1)]
    exact h1
  · obtain ⟨c, e1, e2⟩ := h3 pos cv hc
    refine ⟨c, e1, ?_⟩
    rw [upd_ne fun z => by
      rw [z, h] at e2
      exact n2 _ _ (Option.some.inj e2)]
    exact e2
theorem tabs_ins {T : List (Addr × Str)} {H : Hp} {s C dx : Addr} {fs : List (Str × V)} {o : HO} (hT : LamX.Tabs T H) (h : H s = some (.ins C dx fs)) : LamX.Tabs T (upd H s o) := tabs_upd hT h (fun ps z => by cases z) (fun c q z => by unfold LamX.CodeO at z; cases z)
theorem tabs_lst {T : List (Addr × Str)} {H : Hp} {s : Addr} {xs : List V} {o : HO} (hT : LamX.Tabs T H) (h : H s = some (.lst xs)) : LamX.Tabs T (upd H s o) := tabs_upd hT h (fun ps z => by cases z) (fun c q z => by unfold LamX.CodeO at z; cases z)
end Fr

namespace Fr
open PySem PySem.Spec PyProof.Rows L2
section
variable {prog : Program} {w : World} {A : Around} {E : Value → Shared → Prop} {s : Shared}
theorem min_intTup {l : Addr} {xs : Array (Int × Tok)} {Q : Value → Shared → Prop} (hh : A.handled = none) (hl : s.heap.IsTuple l (intItems xs)) (hne : 0 < xs.size)
    (h : ∀ v h' tk, (intItems xs)[argBest (fun i j => decide (numAt xs i < numAt xs j)) (xs.size - 1)]? = some v → (∀ b o, s.heap.get? b = some o → h'.get? b = some o) → Q v { s with heap := h', toks := tk }) :
    wpAny (model prog w) A (call (.builtin "min") [.ref l]) Q E s := by
  refine call_min_walk (wpAny_pyIter_tuple hl ?_)
  obtain ⟨o, ho, hc, n, hd⟩ := hl
  have hlt : l < s.heap.objs.size := Heap.lt_size ho
  refine ⟨_, [_, l], [_], _, _, _, _, rfl, Walks.tuple (A := A.in1) hh _ l (Nat.ne_of_lt hlt) (intItems xs), ⟨⟨_, Heap.get?_push_size _ rfl, rfl, rfl⟩, ⟨o, Heap.get?_push_of_some _ ho, hc, n, hd⟩⟩, fun d hdm => ?_, by simpa [intItems] using hne, CmpOf.ints_lt (numAt xs) (fun _ _ => intItems_at), fun v h' tk hP hk => ?_⟩
  · show d < (s.heap.push _).objs.size
    rw [Heap.size_push]
    rcases List.mem_cons.mp hdm with rfl | hdm
    · exact Nat.lt_succ_self _
    · rcases List.mem_cons.mp hdm with rfl | hdm
      · exact Nat.lt_succ_of_lt hlt
      · cases hdm
  · refine h v h' tk (by simpa [intItems] using hP) fun d o e => hk d o (fun hm => ?_) (Heap.get?_push_of_some _ e)
    rcases List.mem_cons.mp hm with e1 | hm
    · have := Heap.lt_size e
      rw [e1] at this
      exact Nat.lt_irrefl _ this
    · cases hm
end
def rMinT (K : PySem.W.Frag) : List V → Hp → VK → Prop := fun vs H Q => ∃ (a : Addr) (ns : List Int), vs = [V.ref a] ∧ SqT K H a (ns.map V.int) ∧ 0 < ns.length ∧ ∀ m, m ∈ ns → (∀ y, y ∈ ns → m ≤ y) → Q (.int m) H
theorem cr_minT {X : Cx} (hc : X.calm = true) : CallR X (.builtin "min") (rMinT X.K) := by
  intro pins s σ H vs us Q I r h
  obtain ⟨a, ns, rfl, hs, hne, q⟩ := h
  obtain ⟨its, rv, hl, _⟩ := I.tuple hs
  rw [Vals.ref1 r]
  obtain ⟨xs, e⟩ := rv.ints.allInts.items
  have hn : numsOf (intItems xs).toList = ns := by rw [← e]; exact rv.ints.numsOf
  rw [nums_intItems] at hn
  subst hn
  rw [e] at hl
  have hsz : 0 < xs.size := by simpa using hne
  refine min_intTup (I.ok.hd hc) hl hsz fun v h' tk hv hk => ?_
  obtain ⟨t, rfl⟩ := intItems_at hv
  obtain ⟨h1, h2⟩ := argBest_lt (numAt xs) (xs.size - 1)
  refine ⟨.int _, H, I.kept hk, ⟨_, rfl⟩, q _ ?_ fun a ha => ?_⟩
  · rw [numAt_eq]; exact PySem.getD_mem (by rw [List.length_map, Array.length_toList]; omega)
  · obtain ⟨j, hj, rfl⟩ := mem_getD ha
    rw [List.length_map, Array.length_toList] at hj
    rw [← numAt_eq]; exact h2 j (by omega)
theorem sgrow {B H : Hp} {p : Addr} {o : HO} (e : Same B H) : Same (upd B p o) (upd H p o) := fun c u h => by
  by_cases hc : c = p
  · rw [hc, upd_same] at h ⊢
    exact h
  · rw [upd_ne hc] at h ⊢
    exact e c u h
/-- an object that the base does not know may change -/
theorem swrite {B H : Hp} {p : Addr} {o : HO} (e : Same B H) (n : B p = none) : Same B (upd H p o) := fun c u h => by
  rw [upd_ne (ne_of_none h n)]
  exact e c u h
theorem walk_zipT {K : PySem.W.Frag} {a b : Addr} {xs ys : List V} {n : Nat} (hn : n = min xs.length ys.length) : Walk (RZ.ItzT K a b) n (fun H => SqT K H a xs ∧ SqT K H b ys) (YPair (fun i => xs[i]?) (fun i => ys[i]?)) := by
  subst hn
  refine ⟨fun i _ hi q => ?_, fun _ q => ⟨xs, ys, q.1, q.2, by omega⟩, fun i H v H' _ q y => ?_⟩
  · have h1 : i < xs.length := by omega
    have h2 : i < ys.length := by omega
    exact ⟨xs, ys, xs[i], ys[i], q.1, q.2, by simp [h1], by simp [h2]⟩
  · obtain ⟨T, x, z, h1, h2, h3, h4, h5⟩ := y
    exact ⟨T, x, z, h1, h2, h3, h4 xs q.1, h5 ys q.2⟩
theorem range_map_get' {α : Type} (xs : List α) (f : Nat → α) (h : ∀ i x, xs[i]? = some x → f i = x) : (List.range xs.length).map f = xs := by
  refine List.ext_getElem? fun i => ?_
  by_cases hi : i < xs.length
  · rw [List.getElem?_map, get_range hi, List.getElem?_eq_getElem hi]
    exact congrArg some (h i _ (List.getElem?_eq_getElem hi))
  · rw [List.getElem?_eq_none (by simp; omega), List.getElem?_eq_none (by omega)]
/-- p - v -/
def minus (p v : List Int) : List Int := List.zipWith (fun a b => a - b) p v
theorem minus_at {p v : List Int} {i : Nat} {a b : Int} (h1 : p[i]? = some a) (h2 : v[i]? = some b) : (minus p v).getD i 0 = a - b := by
  unfold minus
  rw [List.getD_eq_getElem?_getD, List.getElem?_zipWith, h1, h2]
  rfl
theorem minus_range (p v : List Int) : (List.range (min p.length v.length)).map (fun i => V.int ((minus p v).getD i 0)) = (minus p v).map V.int := by
  have := range_map_get' ((minus p v).map V.int) (fun i => V.int ((minus p v).getD i 0)) (fun i b hb => by
    rw [List.getElem?_map] at hb
    obtain ⟨c, h1, h2⟩ := Option.map_eq_some_iff.mp hb
    rw [List.getD_eq_getElem?_getD, h1]
    exact h2)
  rw [List.length_map] at this
  unfold minus at this ⊢
  rw [List.length_zipWith] at this
  exact this
end Fr

namespace Fr
open PySem PySem.Spec PyProof.Rows L2
def topS (i : Nat) : Stmt := PySem.Challenge.pw_farreads_k27_errors_of_bounds.main.body.getD i (.Pass ⟨0, 0, 0, 0⟩)
abbrev s_is_name : Stmt := topS 21
theorem sc_is_name : FnScope ["text", "letter"] ["text"] (defScope s_is_name) := ⟨rfl, rfl, rfl, by decide +kernel, rfl, by decide +kernel, by decide +kernel⟩
-- slots: 0 text, 1 letter
abbrev s_is_read : Stmt := topS 22
theorem sc_is_read : FnScope ["read", "dimensions", "table", "vector", "factor"] ["read", "dimensions"] (defScope s_is_read) := ⟨rfl, rfl, rfl, by decide +kernel, rfl, by decide +kernel, by decide +kernel⟩
-- slots: 0 read, 1 dimensions, 2 table, 3 vector, 4 factor
abbrev s_is_point : Stmt := topS 23
theorem sc_is_point : FnScope ["system", "point", "place"] ["system", "point"] (defScope s_is_point) := ⟨rfl, rfl, rfl, by decide +kernel, rfl, by decide +kernel, by decide +kernel⟩
-- slots: 0 system, 1 point, 2 place
abbrev s_System_dimensions : Stmt := inClass (topS 54) 3
theorem sc_System_dimensions : FnScope ["self"] ["self"] (defScope s_System_dimensions) := ⟨rfl, rfl, rfl, by decide +kernel, rfl, by decide +kernel, by decide +kernel⟩
-- slots: 0 self
abbrev s_System_modulus : Stmt := inClass (topS 54) 4
theorem sc_System_modulus : FnScope ["self"] ["self"] (defScope s_System_modulus) := ⟨rfl, rfl, rfl, by decide +kernel, rfl, by decide +kernel, by decide +kernel⟩
-- slots: 0 self
abbrev s_System_names : Stmt := inClass (topS 54) 5
theorem sc_System_names : FnScope ["self"] ["self"] (defScope s_System_names) := ⟨rfl, rfl, rfl, by decide +kernel, rfl, by decide +kernel, by decide +kernel⟩
-- slots: 0 self
abbrev s_check_table : Stmt := topS 27
theorem sc_check_table : FnScope ["system", "name"] ["system", "name"] (defScope s_check_table) := ⟨rfl, rfl, rfl, by decide +kernel, rfl, by decide +kernel, by decide +kernel⟩
-- slots: 0 system, 1 name
abbrev s_check_cell : Stmt := topS 28
theorem sc_check_cell : FnScope ["system", "cell", "name", "point"] ["system", "cell"] (defScope s_check_cell) := ⟨rfl, rfl, rfl, by decide +kernel, rfl, by decide +kernel, by decide +kernel⟩
-- slots: 0 system, 1 cell, 2 name, 3 point
abbrev s_System_reads : Stmt := inClass (topS 54) 7
theorem sc_System_reads : FnScope ["self", "name"] ["self", "name"] (defScope s_System_reads) := ⟨rfl, rfl, rfl, by decide +kernel, rfl, by decide +kernel, by decide +kernel⟩
-- slots: 0 self, 1 name
abbrev s_check_tables : Stmt := topS 25
theorem sc_check_tables : FnScope ["dimensions", "tables", "names", "table", "many", "row", "name", "_", "reads", "read"] ["dimensions", "tables"] (defScope s_check_tables) := ⟨rfl, rfl, rfl, by decide +kernel, rfl, by decide +kernel, by decide +kernel⟩
-- slots: 0 dimensions, 1 tables, 2 names, 3 table, 4 many, 5 row, 6 name, 7 _, 8 reads, 9 read
abbrev s_check_tables_that_are_read : Stmt := topS 26
theorem sc_check_tables_that_are_read : FnScope ["tables", "names", "table", "row", "read"] ["tables"] (defScope s_check_tables_that_are_read) := ⟨rfl, rfl, rfl, by decide +kernel, rfl, by decide +kernel, by decide +kernel⟩
-- slots: 0 tables, 1 names, 2 table, 3 row, 4 read
abbrev s_check_system : Stmt := topS 24
theorem sc_check_system : FnScope ["dimensions", "tables", "modulus"] ["dimensions", "tables", "modulus"] (defScope s_check_system) := ⟨rfl, rfl, rfl, by decide +kernel, rfl, by decide +kernel, by decide +kernel⟩
-- slots: 0 dimensions, 1 tables, 2 modulus
abbrev s_System_init : Stmt := inClass (topS 54) 0
theorem sc_System_init : FnScope ["self", "dimensions", "tables", "modulus", "rows", "name", "constant", "reads"] ["self", "dimensions", "tables", "modulus"] (defScope s_System_init) := ⟨rfl, rfl, rfl, by decide +kernel, rfl, by decide +kernel, by decide +kernel⟩
-- slots: 0 self, 1 dimensions, 2 tables, 3 modulus, 4 rows, 5 name, 6 constant, 7 reads
structure Rd1 where
  t : Str
  v : List Int
  f : Int
structure Tb where
  n : Str
  c : Int
  rs : List Rd1
def Rd1.d (r : Rd1) : PyData := .tuple [.str r.t, .tuple (r.v.map .int), .int r.f]
/-- as a caller hands it in: the reads in a list -/
def Tb.d (t : Tb) : PyData := .tuple [.str t.n, .int t.c, .list (t.rs.map Rd1.d)]
/-- as a system keeps it -/
def Tb.k (t : Tb) : PyData := .tuple [.int t.c, .tuple (t.rs.map Rd1.d)]
def flds (d m : Int) (t : Addr) : List (Str × V) := putF "_tables" (.ref t) (putF "_modulus" (.int m) (putF "_dimensions" (.int d) []))
theorem nDM : ¬ (("_dimensions" : Str) = "_modulus") := by decide +kernel
theorem nDT : ¬ (("_dimensions" : Str) = "_tables") := by decide +kernel
theorem nMT : ¬ (("_modulus" : Str) = "_tables") := by decide +kernel
theorem flds_d (d m : Int) (t : Addr) : (flds d m t).lookup ("_dimensions" : Str) = some (.int d) := by
  unfold flds
  rw [lookup_putF, if_neg nDT, lookup_putF, if_neg nDM, lookup_putF, if_pos rfl]
theorem flds_m (d m : Int) (t : Addr) : (flds d m t).lookup ("_modulus" : Str) = some (.int m) := by
  unfold flds
  rw [lookup_putF, if_neg nMT, lookup_putF, if_pos rfl]
theorem flds_t (d m : Int) (t : Addr) : (flds d m t).lookup ("_tables" : Str) = some (.ref t) := by
  unfold flds
  rw [lookup_putF, if_pos rfl]
theorem flds_no (d m : Int) (t : Addr) {x : Str} (h1 : ¬ x = "_dimensions") (h2 : ¬ x = "_modulus") (h3 : ¬ x = "_tables") : (flds d m t).lookup x = none := by
  unfold flds
  rw [lookup_putF, if_neg h3, lookup_putF, if_neg h2, lookup_putF, if_neg h1]
  rfl
def KvAt (K : PySem.W.Frag) (H : Hp) (kvs : List (Key × V)) (ts : List Tb) : Prop := Paired (fun (kv : Key × V) (t : Tb) => kv.1 = Sum.inr t.n ∧ Dp K H kv.2 t.k) kvs ts
theorem KvAt.mono {K : PySem.W.Frag} {H H' : Hp} (e : Same H H') : ∀ {kvs : List (Key × V)} {ts : List Tb}, KvAt K H kvs ts → KvAt K H' kvs ts
  | [], _, h => by cases h; exact .nil
  | kv :: kvs, _, h => by
    cases h with
    | cons h1 h2 => exact .cons ⟨h1.1, dpm e _ _ h1.2⟩ (KvAt.mono e h2)
theorem KvAt.monoD {K : PySem.W.Frag} {H H' : Hp} (e : SD H H') : ∀ {kvs : List (Key × V)} {ts : List Tb}, KvAt K H kvs ts → KvAt K H' kvs ts
  | [], _, h => by cases h; exact .nil
  | kv :: kvs, _, h => by
    cases h with
    | cons h1 h2 => exact .cons ⟨h1.1, dpd e _ _ h1.2⟩ (KvAt.monoD e h2)
theorem KvAt.app {K : PySem.W.Frag} {H : Hp} : ∀ {kvs ls : List (Key × V)} {ts us : List Tb}, KvAt K H kvs ts → KvAt K H ls us → KvAt K H (kvs ++ ls) (ts ++ us)
  | [], _, _, _, h, k => by cases h; exact k
  | kv :: kvs, _, _, _, h, k => by
    cases h with
    | cons h1 h2 => exact .cons h1 (KvAt.app h2 k)
theorem KvAt.noVal {K : PySem.W.Frag} {H : Hp} {x : Str} : ∀ {kvs : List (Key × V)} {ts : List Tb}, KvAt K H kvs ts → x ∉ ts.map (·.n) → valV kvs (Sum.inr x) = none
  | [], _, h, e => by cases h; rfl
  | (k, v) :: kvs, _, h, e => by
    cases h with
    | @cons _ t' _ ts' h1 h2 =>
      have h1' : k = Sum.inr t'.n := h1.1
      have hx : ¬ t'.n = x := fun z => e (by rw [← z]; exact List.mem_cons_self)
      have e2 := KvAt.noVal (x := x) h2 fun z => e (List.mem_cons_of_mem _ z)
      unfold valV at e2 ⊢
      rw [List.find?_cons_of_neg (by simp [h1', hx])]
      exact e2
theorem KvAt.len {K : PySem.W.Frag} {H : Hp} {kvs : List (Key × V)} {ts : List Tb} (h : KvAt K H kvs ts) : kvs.length = ts.length := Paired.length h
theorem KvAt.keys {K : PySem.W.Frag} {H : Hp} : ∀ {kvs : List (Key × V)} {ts : List Tb}, KvAt K H kvs ts → kvs.map (fun kv => kV kv.1) = ts.map fun t => V.str t.n
  | [], _, h => by cases h; rfl
  | kv :: kvs, _, h => by
    cases h with
    | cons h1 h2 =>
      rw [List.map_cons, List.map_cons, KvAt.keys h2, h1.1]
      rfl
theorem KvAt.get {K : PySem.W.Frag} {H : Hp} {x : Str} : ∀ {kvs : List (Key × V)} {ts : List Tb}, KvAt K H kvs ts → ∀ {t : Tb}, ts.find? (fun t => decide (t.n = x)) = some t → ∃ v, valV kvs (Sum.inr x) = some v ∧ Dp K H v t.k
  | [], _, h, t, e => by cases h; cases e
  | (k, v) :: kvs, _, h, t, e => by
    cases h with
    | @cons _ t' _ ts' h1 h2 =>
      obtain ⟨h1, h3⟩ := h1
      have h1 : k = Sum.inr t'.n := h1
      by_cases hx : t'.n = x
      · rw [List.find?_cons_of_pos (by simpa using hx)] at e
        cases e
        refine ⟨v, ?_, h3⟩
        unfold valV
        rw [List.find?_cons_of_pos (by simp [h1, hx])]
        rfl
      · rw [List.find?_cons_of_neg (by simpa using hx)] at e
        obtain ⟨v', e1, e2⟩ := KvAt.get h2 e
        refine ⟨v', ?_, e2⟩
        unfold valV at e1 ⊢
        rw [List.find?_cons_of_neg (by simp [h1, hx])]
        exact e1
structure SysAt (K : PySem.W.Frag) (C : Addr) (H : Hp) (s : Addr) (d m : Int) (ts : List Tb) : Prop where
  ob : ∃ (dx t : Addr) (kvs : List (Key × V)), H s = some (.ins C dx (flds d m t)) ∧ H t = some (.dK kvs) ∧ KvAt K H kvs ts
theorem SysAt.mono {K : PySem.W.Frag} {C : Addr} {H H' : Hp} {s : Addr} {d m : Int} {ts : List Tb} (e : Same H H') (h : SysAt K C H s d m ts) : SysAt K C H' s d m ts := by
  obtain ⟨dx, t, kvs, h1, h2, h3⟩ := h.ob
  exact ⟨dx, t, kvs, e _ _ h1, e _ _ h2, h3.mono e⟩
structure TxtC (K : PySem.W.Frag) (mg : Str → Option Value) (C : Addr) : Prop where
  cl : Cls K C
  nD : NoAttr K C "_dimensions"
  nM : NoAttr K C "_modulus"
  nT : NoAttr K C "_tables"
  g_System : mg "System" = some (.ref C)
def okSign (c : Nat) : Bool := !decide ([c] < [97]) && !decide ([122] < [c])
def isName (x : Str) : Bool := decide (1 ≤ (x.length : Int)) && decide ((x.length : Int) ≤ 8) && x.cps.toList.all okSign
structure Txt (mg : Str → Option Value) : Prop where
  b_len : mg "len" = none
  b_all : mg "all" = none
  b_min : mg "min" = none
  b_abs : mg "abs" = none
  b_int : mg "int" = none
  b_list : mg "list" = none
  b_tuple : mg "tuple" = none
  b_range : mg "range" = none
  b_zip : mg "zip" = none
  b_enumerate : mg "enumerate" = none
  b_sorted : mg "sorted" = none
  g_MOST_DIMENSIONS : ∃ u, mg "MOST_DIMENSIONS" = some u ∧ RelV (.int 3) u
  g_MOST_TABLES : ∃ u, mg "MOST_TABLES" = some u ∧ RelV (.int 6) u
  g_MOST_READS : ∃ u, mg "MOST_READS" = some u ∧ RelV (.int 12) u
  g_MOST_LETTERS : ∃ u, mg "MOST_LETTERS" = some u ∧ RelV (.int 8) u
theorem range_map_get {α : Type} (xs : List α) (f : Nat → α) (h : ∀ i x, xs[i]? = some x → f i = x) : (List.range xs.length).map f = xs := by
  refine List.ext_getElem? fun i => ?_
  by_cases hi : i < xs.length
  · rw [List.getElem?_map, get_range hi, List.getElem?_eq_getElem hi]
    exact congrArg some (h i _ (List.getElem?_eq_getElem hi))
  · rw [List.getElem?_eq_none (by simp; omega), List.getElem?_eq_none (by omega)]
section
variable {P : Program} {w : World} {K : PySem.W.Frag} {mg : Str → Option Value} {base : Heap}
def spIsName : Sp := fun vs H Q _ => ∃ x : Str, vs = [.str x] ∧ x.length ≤ 100000 ∧ ∀ H', Same H H' → Q (.bl (isName x)) H'
theorem ok_is_name {f : Addr} {fd : FuncData} (F : Fun K "is_name" "is_name" s_is_name f fd) (T : Txt mg) : FnOk P w K mg base CX0 1 f fd ["text"] spIsName := by
  refine F.ok sc_is_name (fun vs H Q E h => ?_) (fun cdv A outer s H vs Q E hr h => ?_)
  · obtain ⟨x, rfl, _⟩ := h
    rfl
  · obtain ⟨x, rfl, hx, q⟩ := h
    refine ⟨_, (pss_one (ps_ret (pe_and (pe_chain op_le op_le pe_int (pe_callB call_len_str (by rfl) T.b_len PySem.boot_len (pa_cons (pv 0) pa_nil)) (C8.pe_gc (by rfl) T.g_MOST_LETTERS)) (pe_one (pe_callB (cr_all rfl) (by rfl) T.b_all (by decide +kernel) (pa_cons (pe_lc (own := [("letter", 1)]) (g := gName 1) (tt := tYes) (by rfl) sc_is_name.nd (pi_str (pv 0)) (blkOk_by (N := ["text", "letter"]) (sc := defScope s_is_name) (by decide +kernel)) (fun _ _ _ _ _ => (pg_name (i := 1) sc_is_name.nd rfl (by first | exact Or.inl rfl | exact Or.inr rfl))) (fun _ _ _ _ _ => pts_nil) (fun _ _ _ _ _ => (pe_chain op_le_str op_le_str pe_str (pv 1) pe_str))) pa_nil)))))), ?_⟩
    have hs : x.length ≤ sizeLine := Nat.le_trans hx (by rw [sizeLine_eq]; decide)
    refine ⟨.str x, rfl, x, rfl, hs, 1, x.length, rfl, rfl, decide (1 ≤ (x.length : Int)), rfl, ?_⟩
    unfold isName at q
    refine ite2 (fun h1 => ?_) (fun h1 => ?_)
    · refine ⟨x.length, 8, rfl, rfl, decide ((x.length : Int) ≤ 8), rfl, ?_⟩
      rw [h1] at q
      refine ite2 (fun h2 => ?_) (fun h2 => ?_)
      · rw [h2] at q
        refine ⟨.str x, rfl, x, rfl, fun D hD => lc_flat walk_str (fun i => .bl (okSign (x.cps.toList.getD i 0))) ?_ hD (fun _ _ => True.intro) (fun i H x H' y => by obtain ⟨rfl, _⟩ := y; exact same_refl) ?_ ?_⟩
        · show x.length ≤ _
          omega
        · rintro i v H1 H2 hi sm ⟨rfl, c, hc, rfl⟩ R hR
          have ec : x.cps.toList.getD i 0 = c := by
            rw [List.getD_eq_getElem?_getD, Array.getElem?_toList, hc]
            rfl
          refine ⟨rfl, .str ⟨#[c]⟩, rfl, ⟨#[97]⟩, ⟨#[c]⟩, rfl, rfl, _, rfl, ?_⟩
          have e2 : okSign (x.cps.toList.getD i 0) = (!decide ([c] < [97]) && !decide ([122] < [c])) := by rw [ec]; rfl
          refine ite2 (fun h3 => ?_) (fun h3 => ?_)
          · refine ⟨⟨#[c]⟩, ⟨#[122]⟩, rfl, rfl, ?_⟩
            have r := hR H2 same_refl
            rw [e2] at r
            have h3' : (!decide ([c] < [97])) = true := h3
            rw [h3'] at r
            exact r
          · have r := hR H2 same_refl
            rw [e2] at r
            have h3' : (!decide ([c] < [97])) = false := by simpa using h3
            rw [h3'] at r
            exact r
        · intro H1 sm hD1
          refine ⟨D, (List.range x.cps.size).map fun i => okSign (x.cps.toList.getD i 0), rfl, Or.inl (Or.inl ?_), ?_⟩
          · rw [hD1, List.map_map]
            rfl
          · have e : (List.range x.cps.size).map (fun i => okSign (x.cps.toList.getD i 0)) = x.cps.toList.map okSign := by
              have := range_map_get (x.cps.toList.map okSign) (fun i => okSign (x.cps.toList.getD i 0)) (fun i b hb => by
                rw [List.getElem?_map] at hb
                obtain ⟨c, h1, h2⟩ := Option.map_eq_some_iff.mp hb
                rw [List.getD_eq_getElem?_getD, h1]
                exact h2)
              rw [List.length_map] at this
              exact this
            rw [e, List.all_map]
            exact q H1 sm
      · have h2' : decide ((x.length : Int) ≤ 8) = false := by simpa using h2
        rw [h2'] at q
        exact q H same_refl
    · have h1' : decide (1 ≤ (x.length : Int)) = false := by simpa using h1
      rw [h1'] at q
      refine ⟨false, rfl, ?_⟩
      exact q H same_refl
def isRead (d : Int) (r : Rd1) : Bool := isName r.t && (decide ((r.v.length : Int) = d) && !decide (r.f = 0))
def spIsRead (K : PySem.W.Frag) : Sp := fun vs H Q _ => ∃ (v : V) (r : Rd1) (d : Int), vs = [v, .int d] ∧ Dp K H v r.d ∧ r.t.length ≤ 100000 ∧ ∀ H', Same H H' → Q (.bl (isRead d r)) H'
theorem ok_is_read {f : Addr} {fd : FuncData} (F : Fun K "is_read" "is_read" s_is_read f fd) (T : Txt mg) (c_is_name : C8.Cal P w K mg base 1 "is_name" spIsName []) : FnOk P w K mg base CX0 2 f fd ["read", "dimensions"] (spIsRead K) := by
  refine F.ok sc_is_read (fun vs H Q E h => ?_) (fun cdv A outer s H vs Q E hr h => ?_)
  · obtain ⟨v, r, d, rfl, _⟩ := h
    rfl
  · obtain ⟨v, r, d, rfl, hv, hz, q⟩ := h
    refine ⟨_, (pss_cons (ps_asg (pv 0) (pg_tup rfl (pgs_cons (pg_name (i := 2) sc_is_read.nd rfl (by first | exact Or.inl rfl | exact Or.inr rfl)) (pgs_cons (pg_name (i := 3) sc_is_read.nd rfl (by first | exact Or.inl rfl | exact Or.inr rfl)) (pgs_cons (pg_name (i := 4) sc_is_read.nd rfl (by first | exact Or.inl rfl | exact Or.inr rfl)) pgs_nil)))))
  (pss_one (ps_ret (pe_and (C8.pe_c c_is_name hr (by decide) (by rfl) (pa_cons (pv 2) pa_nil)) (pe_and (pe_cmpR op_eq (pe_callB call_len_seq (by rfl) T.b_len PySem.boot_len (pa_cons (pv 3) pa_nil)) (pv 1) (nomark _)) (pe_one (pe_cmpR op_ne (pv 4) pe_int (nomark _)))))))), ?_⟩
    obtain ⟨a, xs, rfl, ht, hd⟩ := dtup hv
    obtain ⟨x1, x2, x3, rfl, h1, h2, h3⟩ := dps3 hd
    obtain rfl := dstr h1
    obtain rfl := dint h3
    obtain ⟨b, ys, rfl, ht2, hd2⟩ := dtup h2
    have hl2 := dps_len hd2
    refine ⟨_, rfl, a, _, rfl, ht, rfl, _, _, rfl, _, _, rfl, _, _, rfl, rfl, ?_⟩
    unfold isRead at q
    refine ⟨.str r.t, rfl, r.t, rfl, hz, fun H1 sm => ⟨_, rfl, ?_⟩⟩
    cases hn : isName r.t with
    | false =>
      refine iteF ?_
      have z := q H1 sm
      rw [hn] at z
      exact z
    | true =>
      refine iteT ?_
      refine ⟨_, rfl, b, ys, rfl, Or.inr (sqt sm ht2), _, rfl, rfl, _, rfl, ?_⟩
      have z := q H1 sm
      rw [hn] at z
      have e : decide (V.int (ys.length : Int) = V.int d) = decide ((r.v.length : Int) = d) := by
        rw [hl2, List.length_map]
        exact decide_eq_decide.mpr ⟨fun h => V.int.inj h, fun h => congrArg V.int h⟩
      rw [e]
      cases hq : decide ((r.v.length : Int) = d) with
      | false =>
        refine iteF ?_
        rw [hq] at z
        exact z
      | true =>
        refine iteT ?_
        rw [hq] at z
        refine ⟨_, rfl, rfl, ?_⟩
        have e3 : decide (V.int r.f = V.int 0) = decide (r.f = 0) := decide_eq_decide.mpr ⟨fun h => V.int.inj h, fun h => congrArg V.int h⟩
        rw [e3]
        exact z
def spDims (K : PySem.W.Frag) (C : Addr) : Sp := fun vs H Q _ => ∃ (s : Addr) (d m : Int) (ts : List Tb), vs = [.ref s] ∧ SysAt K C H s d m ts ∧ Q (.int d) H
theorem ok_dims {f C : Addr} {fd : FuncData} (F : Fun K "dimensions" "System.dimensions" s_System_dimensions f fd) (TC : TxtC K mg C) : FnOk P w K mg base CX0 1 f fd ["self"] (spDims K C) := by
  refine F.ok sc_System_dimensions (fun vs H Q E h => ?_) (fun cdv A outer s H vs Q E hr h => ?_)
  · obtain ⟨s, d, m, ts, rfl, _⟩ := h
    rfl
  · obtain ⟨s, d, m, ts, rfl, S, q⟩ := h
    refine ⟨_, (pss_one (ps_ret (pe_fld (pv 0) rfl))), ?_⟩
    obtain ⟨dx, t, kvs, h1, h2, h3⟩ := S.ob
    exact ⟨_, rfl, s, C, dx, _, _, rfl, h1, TC.cl, TC.nD, flds_d _ _ _, q⟩
def spMod (K : PySem.W.Frag) (C : Addr) : Sp := fun vs H Q _ => ∃ (s : Addr) (d m : Int) (ts : List Tb), vs = [.ref s] ∧ SysAt K C H s d m ts ∧ Q (.int m) H
theorem ok_mod {f C : Addr} {fd : FuncData} (F : Fun K "modulus" "System.modulus" s_System_modulus f fd) (TC : TxtC K mg C) : FnOk P w K mg base CX0 1 f fd ["self"] (spMod K C) := by
  refine F.ok sc_System_modulus (fun vs H Q E h => ?_) (fun cdv A outer s H vs Q E hr h => ?_)
  · obtain ⟨s, d, m, ts, rfl, _⟩ := h
    rfl
  · obtain ⟨s, d, m, ts, rfl, S, q⟩ := h
    refine ⟨_, (pss_one (ps_ret (pe_fld (pv 0) rfl))), ?_⟩
    obtain ⟨dx, t, kvs, h1, h2, h3⟩ := S.ob
    exact ⟨_, rfl, s, C, dx, _, _, rfl, h1, TC.cl, TC.nM, flds_m _ _ _, q⟩
def spNames (K : PySem.W.Frag) (C : Addr) : Sp := fun vs H Q _ => ∃ (s : Addr) (d m : Int) (ts : List Tb), vs = [.ref s] ∧ SysAt K C H s d m ts ∧ ∀ p H', H p = none → Same H H' → H' p = some (.lst (ts.map fun t => V.str t.n)) → Q (.ref p) H'
theorem ok_names {f C : Addr} {fd : FuncData} (F : Fun K "names" "System.names" s_System_names f fd) (T : Txt mg) (TC : TxtC K mg C) : FnOk P w K mg base CX0 1 f fd ["self"] (spNames K C) := by
  refine F.ok sc_System_names (fun vs H Q E h => ?_) (fun cdv A outer s H vs Q E hr h => ?_)
  · obtain ⟨s, d, m, ts, rfl, _⟩ := h
    rfl
  · obtain ⟨s, d, m, ts, rfl, S, q⟩ := h
    refine ⟨_, (pss_one (ps_ret (pe_callTy (call_listD rfl) (by rfl) T.b_list (by decide +kernel) (pa_cons (pe_fld (pv 0) rfl) pa_nil)))), ?_⟩
    obtain ⟨dx, t, kvs, h1, h2, h3⟩ := S.ob
    refine ⟨_, rfl, s, C, dx, _, _, rfl, h1, TC.cl, TC.nT, flds_t _ _ _, t, kvs, rfl, Or.inl h2, fun p hp => ?_⟩
    refine q p _ hp (snew hp) ?_
    rw [upd_same, h3.keys]
def okPoint (d : Int) (p : List Int) : Bool := decide ((p.length : Int) = d) && p.all fun i => decide (0 ≤ i)
def spIsPoint (K : PySem.W.Frag) (C : Addr) : Sp := fun vs H Q _ => ∃ (s : Addr) (d m : Int) (ts : List Tb) (v : V) (p : List Int), vs = [.ref s, v] ∧ SysAt K C H s d m ts ∧ Dp K H v (.tuple (p.map .int)) ∧ p.length ≤ 100000 ∧ ∀ H', Same H H' → Q (.bl (okPoint d p)) H'
theorem ok_is_point {f C : Addr} {fd : FuncData} (F : Fun K "is_point" "is_point" s_is_point f fd) (T : Txt mg) (p_dimensions : Prp P w K mg base 1 C "dimensions" (spDims K C)) : FnOk P w K mg base CX0 3 f fd ["system", "point"] (spIsPoint K C) := by
  refine F.ok sc_is_point (fun vs H Q E h => ?_) (fun cdv A outer s H vs Q E hr h => ?_)
  · obtain ⟨s, d, m, ts, v, p, rfl, _⟩ := h
    rfl
  · obtain ⟨s, d, m, ts, v, p, rfl, S, hv, hz, q⟩ := h
    refine ⟨_, (pss_one (ps_ret (pe_and (pe_cmpR op_eq (pe_callB call_len_seq (by rfl) T.b_len PySem.boot_len (pa_cons (pv 1) pa_nil)) (pe_pr (pv 0) p_dimensions hr (by decide) rfl) (nomark _)) (pe_one (pe_callB (cr_all rfl) (by rfl) T.b_all (by decide +kernel) (pa_cons (pe_lc (own := [("place", 2)]) (g := gName 2) (tt := tYes) (by rfl) sc_is_point.nd (pi_tup (pv 1)) (blkOk_by (N := ["system", "point", "place"]) (sc := defScope s_is_point) (by decide +kernel)) (fun _ _ _ _ _ => (pg_name (i := 2) sc_is_point.nd rfl (by first | exact Or.inl rfl | exact Or.inr rfl))) (fun _ _ _ _ _ => pts_nil) (fun _ _ _ _ _ => (pe_cmpR op_ge (pv 2) pe_int (nomark _)))) pa_nil)))))), ?_⟩
    obtain ⟨a, xs, rfl, ht, hd⟩ := dtup hv
    obtain rfl := dps_ints hd
    obtain ⟨dx, t, kvs, h1, h2, h3⟩ := S.ob
    refine ⟨_, rfl, a, _, rfl, Or.inr ht, _, rfl, s, dx, _, rfl, h1, s, d, m, ts, rfl, S, rfl, _, rfl, ?_⟩
    have e : decide (V.int ((p.map V.int).length : Int) = V.int d) = decide ((p.length : Int) = d) := by
      rw [List.length_map]
      exact decide_eq_decide.mpr ⟨fun h => V.int.inj h, fun h => congrArg V.int h⟩
    rw [e]
    unfold okPoint at q
    cases hq : decide ((p.length : Int) = d) with
    | false =>
      refine iteF ?_
      rw [hq] at q
      exact q H same_refl
    | true =>
      refine iteT ?_
      rw [hq] at q
      refine ⟨_, rfl, a, rfl, ⟨_, ht⟩, fun D hD => lc_flat (walk_tup (K := K) (a := a) (xs := p.map V.int)) (fun i => .bl (decide (0 ≤ p.getD i 0))) ?_ hD (fun H' sm => sqt sm ht) (fun i H x H' y => yat_same y) ?_ ?_⟩
      · rw [List.length_map]
        omega
      · rintro i v H1 H2 hi sm ⟨rfl, hx⟩ R hR
        rw [List.getElem?_map] at hx
        obtain ⟨j, hj, rfl⟩ := Option.map_eq_some_iff.mp hx
        have ej : p.getD i 0 = j := by
          rw [List.getD_eq_getElem?_getD, hj]
          rfl
        refine ⟨rfl, _, rfl, j, 0, rfl, rfl, ?_⟩
        have r := hR H2 same_refl
        rw [ej] at r
        exact r
      · intro H1 sm hD1
        refine ⟨D, (List.range (p.map V.int).length).map fun i => decide (0 ≤ p.getD i 0), rfl, Or.inl (Or.inl ?_), ?_⟩
        · rw [hD1, List.map_map]
          rfl
        · have e : (List.range (p.map V.int).length).map (fun i => decide (0 ≤ p.getD i 0)) = p.map fun i => decide (0 ≤ i) := by
            have := range_map_get (p.map fun i => decide (0 ≤ i)) (fun i => decide (0 ≤ p.getD i 0)) (fun i b hb => by
              rw [List.getElem?_map] at hb
              obtain ⟨c, h1, h2⟩ := Option.map_eq_some_iff.mp hb
              rw [List.getD_eq_getElem?_getD, h1]
              exact h2)
            rw [List.length_map] at this
            rw [List.length_map]
            exact this
          rw [e, List.all_map]
          exact q H1 sm
/-- the name is one of the system's -/
def spCheckTable (K : PySem.W.Frag) (C : Addr) : Sp := fun vs H Q _ => ∃ (s : Addr) (d m : Int) (ts : List Tb) (x : Str), vs = [.ref s, .str x] ∧ SysAt K C H s d m ts ∧ x ∈ ts.map (·.n) ∧ ∀ H', Same H H' → Q .non H'
theorem inV_str {x : Str} : ∀ {l : List Str}, x ∈ l → inV (.str x) (l.map V.str) = true := by
  intro l h
  unfold inV
  rw [List.any_map, List.any_eq_true]
  refine ⟨x, h, ?_⟩
  first
    | rfl
    | simp [eqV]
theorem flat_strs (l : List Str) : (l.map V.str).all flatV = true := by
  rw [List.all_map, List.all_eq_true]
  intro x _
  rfl
theorem ok_check_table {f C : Addr} {fd : FuncData} (F : Fun K "check_table" "check_table" s_check_table f fd) (T : Txt mg) (p_names : Prp P w K mg base 1 C "names" (spNames K C)) : FnOk P w K mg base CX0 3 f fd ["system", "name"] (spCheckTable K C) := by
  refine F.ok sc_check_table (fun vs H Q E h => ?_) (fun cdv A outer s H vs Q E hr h => ?_)
  · obtain ⟨s, d, m, ts, x, rfl, _⟩ := h
    rfl
  · obtain ⟨s, d, m, ts, x, rfl, S, hx, q⟩ := h
    refine ⟨_, (pss_one (ps_if (pt_cmpR op_notIn_seq (pv 1) (pe_pr (pv 0) p_names hr (by decide) rfl) (by rfl))
    (pss_one ps_never)
    pss_nil)), ?_⟩
    obtain ⟨dx, t, kvs, h1, h2, h3⟩ := S.ob
    refine ⟨_, rfl, _, rfl, s, dx, _, rfl, h1, s, d, m, ts, rfl, S, fun p H' hp sm hl => ?_⟩
    have e : (ts.map fun t => V.str t.n) = (ts.map (·.n)).map V.str := by
      rw [List.map_map]
      rfl
    refine ⟨p, _, rfl, Or.inl (Or.inl (Or.inl hl)), rfl, ?_, ?_⟩
    · rw [e]
      exact flat_strs _
    · rw [e, inV_str hx]
      exact ⟨_, rfl, iteF (q H' sm)⟩
def spCheckCell (K : PySem.W.Frag) (C : Addr) : Sp := fun vs H Q _ => ∃ (s : Addr) (d m : Int) (ts : List Tb) (v : V) (x : Str) (p : List Int), vs = [.ref s, v] ∧ SysAt K C H s d m ts ∧ Dp K H v (.tuple [.str x, .tuple (p.map .int)]) ∧ x ∈ ts.map (·.n) ∧ p.length ≤ 100000 ∧ okPoint d p = true ∧ ∀ H', Same H H' → Q .non H'
theorem ok_check_cell {f C : Addr} {fd : FuncData} (F : Fun K "check_cell" "check_cell" s_check_cell f fd) (T : Txt mg) (c_check_table : C8.Cal P w K mg base 3 "check_table" (spCheckTable K C) []) (c_is_point : C8.Cal P w K mg base 3 "is_point" (spIsPoint K C) []) : FnOk P w K mg base CX0 4 f fd ["system", "cell"] (spCheckCell K C) := by
  refine F.ok sc_check_cell (fun vs H Q E h => ?_) (fun cdv A outer s H vs Q E hr h => ?_)
  · obtain ⟨s, d, m, ts, v, x, p, rfl, _⟩ := h
    rfl
  · obtain ⟨s, d, m, ts, v, x, p, rfl, S, hv, hx, hz, hp, q⟩ := h
    refine ⟨_, (pss_cons (ps_asg (pv 1) (pg_tup rfl (pgs_cons (pg_name (i := 2) sc_check_cell.nd rfl (by first | exact Or.inl rfl | exact Or.inr rfl)) (pgs_cons (pg_name (i := 3) sc_check_cell.nd rfl (by first | exact Or.inl rfl | exact Or.inr rfl)) pgs_nil))))
  (pss_cons (ps_expr (C8.pe_c c_check_table hr (by decide) (by rfl) (pa_cons (pv 0) (pa_cons (pv 2) pa_nil))))
  (pss_one (ps_if (pt_not (pt_val (C8.pe_c c_is_point hr (by decide) (by rfl) (pa_cons (pv 0) (pa_cons (pv 3) pa_nil)))))
    (pss_one ps_never)
    pss_nil)))), ?_⟩
    obtain ⟨a, xs, rfl, ht, hd⟩ := dtup hv
    obtain ⟨x1, x2, rfl, h1, h2⟩ := dps2 hd
    obtain rfl := dstr h1
    refine ⟨_, rfl, a, _, rfl, ht, rfl, _, _, rfl, _, _, rfl, rfl, ?_⟩
    refine ⟨_, rfl, _, rfl, s, d, m, ts, x, rfl, S, hx, fun H1 sm => ?_⟩
    refine ⟨_, rfl, _, rfl, s, d, m, ts, x2, p, rfl, S.mono sm, dpm sm _ _ h2, hz, fun H2 sm2 => ⟨_, rfl, ?_⟩⟩
    rw [hp]
    exact iteF (q H2 (same_tr sm sm2))
/-- the reads of a table, a new list -/
def spReads (K : PySem.W.Frag) (C : Addr) : Sp := fun vs H Q _ => ∃ (B : Hp) (s : Addr) (d m : Int) (ts : List Tb) (x : Str) (tb : Tb), vs = [.ref s, .str x] ∧ Same B H ∧ SysAt K C B s d m ts ∧ x ∈ ts.map (·.n) ∧ ts.find? (fun t => decide (t.n = x)) = some tb ∧
  ∀ p H' xs, H p = none → Same H H' → H' p = some (.lst xs) → DpAll K B xs (tb.rs.map Rd1.d) → Q (.ref p) H'
theorem ok_reads {f C : Addr} {fd : FuncData} (F : Fun K "reads" "System.reads" s_System_reads f fd) (T : Txt mg) (TC : TxtC K mg C) (c_check_table : C8.Cal P w K mg base 3 "check_table" (spCheckTable K C) []) : FnOk P w K mg base CX0 4 f fd ["self", "name"] (spReads K C) := by
  refine F.ok sc_System_reads (fun vs H Q E h => ?_) (fun cdv A outer s H vs Q E hr h => ?_)
  · obtain ⟨B, s, d, m, ts, x, tb, rfl, _⟩ := h
    rfl
  · obtain ⟨B, s, d, m, ts, x, tb, rfl, sB, S, hx, hf, q⟩ := h
    have hu := hu_of hr
    refine ⟨_, (pss_cons (ps_expr (C8.pe_c c_check_table hr (by decide) (by rfl) (pa_cons (pv 0) (pa_cons (pv 1) pa_nil))))
  (pss_one (ps_ret (pe_callTy call_list_of (by rfl) T.b_list (by decide +kernel) (pa_cons (pe_ix ix_tup (pe_dget hu (pe_fld (pv 0) rfl) (pv 1) (fun _ _ => rfl)) pe_int (fun _ _ => rfl)) pa_nil))))), ?_⟩
    refine ⟨_, rfl, _, rfl, s, d, m, ts, x, rfl, S.mono sB, hx, fun H1 sm => ?_⟩
    obtain ⟨dx, t, kvs, h1, h2, h3⟩ := S.ob
    have sB1 := same_tr sB sm
    have h1 := sB1 _ _ h1
    have h2 := sB1 _ _ h2
    obtain ⟨v, e1, e2⟩ := h3.get hf
    obtain ⟨a, ys, rfl, ht, hd⟩ := dtup e2
    obtain ⟨y1, y2, rfl, g1, g2⟩ := dps2 hd
    obtain ⟨b, zs, rfl, ht2, hd2⟩ := dtup g2
    refine ⟨_, rfl, s, C, dx, _, _, rfl, h1, TC.cl, TC.nT, flds_t _ _ _, _, rfl, t, _, rfl, ?_, a, _, 1, _, rfl, rfl, sqt sB1 ht, rfl, b, zs, rfl, Or.inr (sqt sB1 ht2), fun p hp => ?_⟩
    · have g := DGet.k (k := Sum.inr x) h2
      rw [e1] at g
      exact g
    · exact q p _ _ (free_of sm hp) (same_tr sm (snew hp)) upd_same hd2
structure OkT (d : Int) (ts : List Tb) : Prop where
  names : ∀ t ∈ ts, isName t.n = true
  nodup : (ts.map (·.n)).Nodup
  few : (ts.map fun t => t.rs.length).sum ≤ 12
  reads : ∀ t ∈ ts, ∀ r ∈ t.rs, isRead d r = true
  here : ∀ t ∈ ts, ∀ r ∈ t.rs, r.t ∈ ts.map (·.n)
theorem name_len {x : Str} (h : isName x = true) : x.length ≤ 100000 := by
  unfold isName at h
  rw [Bool.and_eq_true, Bool.and_eq_true] at h
  have := of_decide_eq_true h.1.2
  omega
theorem read_len {d : Int} {r : Rd1} (h : isRead d r = true) : r.t.length ≤ 100000 := by
  unfold isRead at h
  rw [Bool.and_eq_true] at h
  exact name_len h.1
def nth (l : List Str) (i : Nat) : Str := l.getD i Str.empty
theorem nth_of {l : List Str} {i : Nat} {x : Str} (h : l[i]? = some x) : nth l i = x := by
  unfold nth
  rw [List.getD_eq_getElem?_getD, h]
  rfl
theorem nths (l : List Str) : (List.range l.length).map (fun i => V.str (nth l i)) = l.map V.str := by
  have := range_map_get (l.map V.str) (fun i => V.str (nth l i)) (fun i b hb => by
    rw [List.getElem?_map] at hb
    obtain ⟨c, h1, h2⟩ := Option.map_eq_some_iff.mp hb
    rw [nth_of h1]
    exact h2)
  rw [List.length_map] at this
  exact this
theorem cut_to (xs : List V) (i : Nat) (h : i ≤ xs.length) : cutV xs none (some (i : Int)) = xs.take i := by
  unfold cutV
  rw [show HT.sIx xs.length xs.length (some (i : Int)) = min i xs.length from HT.sIx_nat xs.length xs.length i, HT.sIx_none, List.drop_zero, Nat.sub_zero, Nat.min_eq_left h]
theorem notin_take {l : List Str} {i : Nat} {x : Str} (hn : l.Nodup) (h : l[i]? = some x) : x ∉ l.take i := by
  intro hm
  obtain ⟨j, hj, e⟩ := List.mem_iff_getElem.mp hm
  rw [List.length_take] at hj
  have e2 : l[j]? = some x := by
    rw [List.getElem_take] at e
    rw [List.getElem?_eq_getElem (by omega), e]
  have := nd_ix hn e2 h
  omega
theorem inV_no {x : Str} : ∀ {l : List Str}, x ∉ l → inV (.str x) (l.map V.str) = false := by
  intro l h
  unfold inV
  rw [List.any_map, List.any_eq_false]
  intro y hy e
  have e' : y = x := by
    first
      | exact of_decide_eq_true e
      | simpa [eqV] using e
  exact h (e' ▸ hy)
/-- what stands at the i-th place of a list of tables -/
theorem tb_at {H : Hp} {xs : List V} {ts : List Tb} {i : Nat} {x : V} (h : DpAll K H xs (ts.map Tb.d)) (e : xs[i]? = some x) : ∃ t a l ys, ts[i]? = some t ∧ x = .ref a ∧ SqT K H a [.str t.n, .int t.c, .ref l] ∧ SqL K H l ys ∧ DpAll K H ys (t.rs.map Rd1.d) := by
  obtain ⟨d, e1, e2⟩ := dps_get h e
  rw [List.getElem?_map] at e1
  obtain ⟨t, e3, rfl⟩ := Option.map_eq_some_iff.mp e1
  obtain ⟨a, zs, rfl, ht, hd⟩ := dtup e2
  obtain ⟨z1, z2, z3, rfl, h1, h2, h3⟩ := dps3 hd
  obtain rfl := dstr h1
  obtain rfl := dint h2
  obtain ⟨l, ys, rfl, hl, hy⟩ := dlst h3
  exact ⟨t, a, l, ys, e3, rfl, ht, hl, hy⟩
theorem rd_at {H : Hp} {xs : List V} {rs : List Rd1} {i : Nat} {x : V} (h : DpAll K H xs (rs.map Rd1.d)) (e : xs[i]? = some x) : ∃ r a b, rs[i]? = some r ∧ x = .ref a ∧ Dp K H x r.d ∧ SqT K H a [.str r.t, .ref b, .int r.f] ∧ SqT K H b (r.v.map V.int) := by
  obtain ⟨d, e1, e2⟩ := dps_get h e
  rw [List.getElem?_map] at e1
  obtain ⟨r, e3, rfl⟩ := Option.map_eq_some_iff.mp e1
  obtain ⟨a, zs, rfl, ht, hd⟩ := dtup e2
  obtain ⟨z1, z2, z3, rfl, h1, h2, h3⟩ := dps3 hd
  obtain rfl := dstr h1
  obtain rfl := dint h3
  obtain ⟨b, ys, rfl, hb, hy⟩ := dtup h2
  obtain rfl := dps_ints hy
  exact ⟨r, a, b, e3, rfl, e2, ht, hb⟩
def cnt (ts : List Tb) : Nat := (ts.map fun t => t.rs.length).sum
theorem cnt_take {ts : List Tb} {i : Nat} {t : Tb} (h : ts[i]? = some t) : cnt (ts.take (i + 1)) = cnt (ts.take i) + t.rs.length := by
  unfold cnt
  rw [List.take_add_one, h, List.map_append, List.sum_append]
  rfl
theorem cnt_le (ts : List Tb) (i : Nat) : cnt (ts.take i) ≤ cnt ts := by
  unfold cnt
  have e := congrArg (fun l : List Tb => (l.map fun t => t.rs.length).sum) (List.take_append_drop i ts)
  simp only [List.map_append, List.sum_append] at e
  omega
def spCheckTables (K : PySem.W.Frag) : Sp := fun vs H Q _ => ∃ (d : Int) (v : V) (ts : List Tb), vs = [.int d, v] ∧ Dp K H v (.list (ts.map Tb.d)) ∧ ts.length ≤ 6 ∧ OkT d ts ∧ ∀ H', Same H H' → Q .non H'
theorem ok_check_tables {f : Addr} {fd : FuncData} (F : Fun K "check_tables" "check_tables" s_check_tables f fd) (T : Txt mg) (c_is_name : C8.Cal P w K mg base 1 "is_name" spIsName []) (c_is_read : C8.Cal P w K mg base 2 "is_read" (spIsRead K) []) : FnOk P w K mg base CX0 3 f fd ["dimensions", "tables"] (spCheckTables K) := by
  refine F.ok sc_check_tables (fun vs H Q E h => ?_) (fun cdv A outer s H vs Q E hr h => ?_)
  · obtain ⟨d, v, ts, rfl, _⟩ := h
    rfl
  · obtain ⟨d, v, ts, rfl, hv, hl6, O, q⟩ := h
    refine ⟨_, (pss_cons (ps_setLc (i := 2) (own := [("table", 3)]) (g := gName 3) (tt := tYes) (by rfl) sc_check_tables.nd rfl rfl (sw_true rfl rfl rfl (by decide +kernel)) (pi_list (pv 1)) (blkOk_by (N := ["dimensions", "tables", "names", "table", "many", "row", "name", "_", "reads", "read"]) (sc := defScope s_check_tables) (by decide +kernel)) (fun _ _ _ _ _ => (pg_name (i := 3) sc_check_tables.nd rfl (by first | exact Or.inl rfl | exact Or.inr rfl))) (fun _ _ _ _ _ => pts_nil) (fun _ _ _ _ _ => (pe_ix (r := rIxT K) ix_tup (pv 3) pe_int (fun _ _ => rfl))))
  (pss_cons (ps_set (i := 4) sc_check_tables.nd rfl (by first | exact Or.inl rfl | exact Or.inr rfl) pe_int)
  (pss_one (ps_for PassesOwn.never rfl (pi_enum (by rfl) T.b_enumerate (pa_cons (pv 1) pa_nil)) (pg_tup rfl (pgs_cons (pg_name (i := 5) sc_check_tables.nd rfl (by first | exact Or.inl rfl | exact Or.inr rfl)) (pgs_cons (pg_tup rfl (pgs_cons (pg_name (i := 6) sc_check_tables.nd rfl (by first | exact Or.inl rfl | exact Or.inr rfl)) (pgs_cons (pg_name (i := 7) sc_check_tables.nd rfl (by first | exact Or.inl rfl | exact Or.inr rfl)) (pgs_cons (pg_name (i := 8) sc_check_tables.nd rfl (by first | exact Or.inl rfl | exact Or.inr rfl)) pgs_nil)))) pgs_nil)))
    (pss_cons (ps_aug (i := 4) sc_check_tables.nd rfl (by first | exact Or.inl rfl | exact Or.inr rfl) (pe_callB call_len_seq (by rfl) T.b_len PySem.boot_len (pa_cons (pv 8) pa_nil)) ip_add)
    (pss_cons (ps_if (PW.pt (pw_or (pt_not (pt_val (C8.pe_c c_is_name hr (by decide) (by rfl) (pa_cons (pv 6) pa_nil)))) (pw_or (pt_cmpR op_in_seq (pv 6) (pe_slice sl_list (pv 2) po_none (po_some (pv 5))) (by rfl)) (pw_or1 (pt_cmpR op_gt (pv 4) (C8.pe_gc (by rfl) T.g_MOST_READS) (nomark _))))))
      (pss_one ps_never)
      pss_nil)
    (pss_one (ps_if (pt_not (pt_val (pe_callB (cr_all rfl) (by rfl) T.b_all (by decide +kernel) (pa_cons (pe_lc (own := [("read", 9)]) (g := gName 9) (tt := tYes) (by rfl) sc_check_tables.nd (pi_list (pv 8)) (blkOk_by (N := ["dimensions", "tables", "names", "table", "many", "row", "name", "_", "reads", "read"]) (sc := defScope s_check_tables) (by decide +kernel)) (fun _ _ _ _ _ => (pg_name (i := 9) sc_check_tables.nd rfl (by first | exact Or.inl rfl | exact Or.inr rfl))) (fun _ _ _ _ _ => pts_nil) (fun _ _ _ _ _ => (C8.pe_c c_is_read hr (by decide) (by rfl) (pa_cons (pv 9) (pa_cons (pv 0) pa_nil))))) pa_nil))))
      (pss_one ps_never)
      pss_nil)))))))), ?_⟩
    obtain ⟨a, xs, rfl, ha, hd⟩ := dlst hv
    have hxl : xs.length = ts.length := by rw [dps_len hd, List.length_map]
    -- names = [table[0] ..]
    refine ⟨_, rfl, a, rfl, ⟨_, ha⟩, fun D hD => lc_flat (walk_list (K := K) (a := a) (xs := xs)) (fun i => .str (nth (ts.map (·.n)) i)) (by omega) hD (fun H' sm => sql sm ha) (fun i H x H' y => yat_same y) ?_ ?_⟩
    · rintro i x H1 H2 hi sm ⟨rfl, hx⟩ R hR
      obtain ⟨t, b, l, ys, e1, rfl, g1, _, _⟩ := tb_at (dpsm sm _ _ hd) hx
      have en : nth (ts.map (·.n)) i = t.n := nth_of (by rw [List.getElem?_map, e1]; rfl)
      refine ⟨rfl, _, rfl, b, _, 0, _, rfl, rfl, g1, rfl, ?_⟩
      have r := hR H2 same_refl
      rw [en] at r
      exact r
    · intro H1 sm hD1
      have hD1 : H1 D = some (.lst ((ts.map (·.n)).map V.str)) := by
        rw [hD1, hxl, ← nths, List.length_map]
      -- many = 0; the loop
      refine ⟨_, rfl, a, xs, rfl, sql sm ha, for_it (walk_enum (K := K) (a := a) (xs := xs)) (fun i σ H2 => ∃ y5 y6 y7 y8, σ = [some (.int d), some (.ref a), some (.ref D), none, some (.int (cnt (ts.take i))), y5, y6, y7, y8, none] ∧ Same H1 H2)
        ⟨none, none, none, none, rfl, same_refl⟩ (fun i σ H2 _ ⟨_, _, _, _, _, s2⟩ => sql (same_tr sm s2) ha) ?_ ?_⟩
      · rintro i x σ H2 H3 hi ⟨y5, y6, y7, y8, rfl, s2⟩ ⟨Tp, z1, z2, rfl, hT, rfl, e1, e2⟩
        cases e1
        have s3 : Same H1 (upd H2 Tp (.tup [.int (i : Nat), z2])) := same_tr s2 (snew hT)
        obtain ⟨t, b, l, ys, f1, rfl, g1, g2, g3⟩ := tb_at (dpsm (same_tr sm s3) _ _ hd) e2
        have htm : t ∈ ts := List.mem_of_getElem? f1
        have hyl : ys.length = t.rs.length := by rw [dps_len g3, List.length_map]
        refine ⟨Tp, _, rfl, Or.inl (Or.inl upd_same), rfl, _, _, rfl, _, _, rfl, b, _, rfl, g1, rfl, _, _, rfl, _, _, rfl, _, _, rfl, rfl, rfl, ?_⟩
        -- many += len(reads)
        refine ⟨_, rfl, _, rfl, l, ys, rfl, Or.inl g2, _, _, rfl, rfl, ?_⟩
        have hc := cnt_take f1
        have hc2 := cnt_le ts (i + 1)
        have h12 : cnt ts ≤ 12 := O.few
        -- the first test
        refine ⟨.str t.n, rfl, t.n, rfl, name_len (O.names t htm), fun H4 s4 => ⟨_, rfl, ?_⟩⟩
        rw [O.names t htm]
        refine iteF ?_
        have hD4 : H4 D = some (.lst ((ts.map (·.n)).map V.str)) := s4 _ _ (s3 _ _ hD1)
        refine ⟨_, rfl, _, rfl, _, rfl, (i : Int), rfl, D, _, rfl, Or.inl (Or.inl hD4), fun p hp => ?_⟩
        have s5 : Same H4 (upd H4 p (.lst (cutV ((ts.map (·.n)).map V.str) none (some (i : Int))))) := snew hp
        rw [cut_to _ _ (by rw [List.length_map, List.length_map]; omega), ← List.map_take]
        refine ⟨p, _, rfl, Or.inl (Or.inl (Or.inl upd_same)), rfl, flat_strs _, false, ?_, iteF ?_⟩
        · rw [inV_no (notin_take O.nodup (by rw [List.getElem?_map, f1]; rfl))]
          rfl
        · refine ⟨_, rfl, _, 12, rfl, rfl, decide (12 < (cnt (ts.take i) : Int) + (ys.length : Int)), rfl, ?_⟩
          rw [decide_eq_false (by omega)]
          refine iteF ?_
          -- the second test
          have s6 : Same H1 (upd H4 p (.lst (((ts.map (·.n)).take i).map V.str))) := same_tr s3 (same_tr s4 (snew hp))
          refine ⟨_, rfl, l, rfl, ⟨ys, sql (same_tr s4 (snew hp)) g2⟩, fun D2 hD2 => lc_flat (walk_list (K := K) (a := l) (xs := ys)) (fun j => .bl true) (by omega) hD2 (fun H' sm' => sql sm' (sql (same_tr s4 (snew hp)) g2)) (fun i H x H' y => yat_same y) ?_ ?_⟩
          · rintro j x H5 H6 hj sm5 ⟨rfl, hx⟩ R hR
            obtain ⟨r, ra, rb, e3, rfl, e4, _, _⟩ := rd_at (dpsm sm5 _ _ (dpsm (same_tr s4 (snew hp)) _ _ g3)) hx
            have hro := O.reads t htm r (List.mem_of_getElem? e3)
            refine ⟨rfl, _, rfl, _, rfl, .ref ra, r, d, rfl, e4, read_len hro, fun H7 s7 => ?_⟩
            rw [hro]
            exact hR H7 s7
          · intro H5 sm5 hD5
            refine ⟨D2, (List.range ys.length).map fun _ => true, rfl, Or.inl (Or.inl ?_), ⟨_, rfl, ?_⟩⟩
            · rw [hD5, List.map_map]
              rfl
            · have e : ((List.range ys.length).map fun _ => true).all id = true := by
                rw [List.all_map, List.all_eq_true]
                intro _ _
                rfl
              rw [e]
              refine iteF ?_
              refine ⟨some (.int (i : Int)), some (.str t.n), some (.int t.c), some (.ref l), ?_, same_tr s6 sm5⟩
              rw [hc]
              have ec : (cnt (ts.take i) : Int) + (ys.length : Int) = ((cnt (ts.take i) + t.rs.length : Nat) : Int) := by omega
              rw [← ec]
              rfl
      · rintro σ H2 ⟨_, _, _, _, rfl, s2⟩
        exact q H2 (same_tr sm s2)
theorem dict_flat_any : True := True.intro
def spCheckRead (K : PySem.W.Frag) : Sp := fun vs H Q _ => ∃ (d : Int) (v : V) (ts : List Tb), vs = [v] ∧ Dp K H v (.list (ts.map Tb.d)) ∧ ts.length ≤ 6 ∧ OkT d ts ∧ ∀ H', Same H H' → Q .non H'
theorem few_reads {d : Int} {ts : List Tb} (O : OkT d ts) {t : Tb} (h : t ∈ ts) : t.rs.length ≤ 12 := by
  obtain ⟨i, hi⟩ := List.mem_iff_getElem?.mp h
  have h1 := cnt_take hi
  have h2 := cnt_le ts (i + 1)
  have h3 : cnt ts ≤ 12 := O.few
  omega
theorem ok_check_read {f : Addr} {fd : FuncData} (F : Fun K "check_tables_that_are_read" "check_tables_that_are_read" s_check_tables_that_are_read f fd) (T : Txt mg) : FnOk P w K mg base CX0 3 f fd ["tables"] (spCheckRead K) := by
  refine F.ok sc_check_tables_that_are_read (fun vs H Q E h => ?_) (fun cdv A outer s H vs Q E hr h => ?_)
  · obtain ⟨d, v, ts, rfl, _⟩ := h
    rfl
  · obtain ⟨d, v, ts, rfl, hv, hl6, O, q⟩ := h
    refine ⟨_, (pss_cons (ps_set (i := 1) sc_check_tables_that_are_read.nd rfl (by first | exact Or.inl rfl | exact Or.inr rfl) (pe_lc (own := [("table", 2)]) (g := gName 2) (tt := tYes) (by rfl) sc_check_tables_that_are_read.nd (pi_list (pv 0)) (blkOk_by (N := ["tables", "names", "table", "row", "read"]) (sc := defScope s_check_tables_that_are_read) (by decide +kernel)) (fun _ _ _ _ _ => (pg_name (i := 2) sc_check_tables_that_are_read.nd rfl (by first | exact Or.inl rfl | exact Or.inr rfl))) (fun _ _ _ _ _ => pts_nil) (fun _ _ _ _ _ => (pe_ix (r := rIxT K) ix_tup (pv 2) pe_int (fun _ _ => rfl)))))
  (pss_one (ps_for PassesOwn.never rfl (pi_enum (by rfl) T.b_enumerate (pa_cons (pv 0) pa_nil)) (pg_tup rfl (pgs_cons (pg_name (i := 3) sc_check_tables_that_are_read.nd rfl (by first | exact Or.inl rfl | exact Or.inr rfl)) (pgs_cons (pg_name (i := 2) sc_check_tables_that_are_read.nd rfl (by first | exact Or.inl rfl | exact Or.inr rfl)) pgs_nil)))
    (pss_one (ps_if (pt_not (pt_val (pe_callB (cr_all rfl) (by rfl) T.b_all (by decide +kernel) (pa_cons (pe_lc (own := [("read", 4)]) (g := gName 4) (tt := tYes) (by rfl) sc_check_tables_that_are_read.nd (pi_list (pe_ix ix_tup (pv 2) pe_int (fun _ _ => rfl))) (blkOk_by (N := ["tables", "names", "table", "row", "read"]) (sc := defScope s_check_tables_that_are_read) (by decide +kernel)) (fun _ _ _ _ _ => (pg_name (i := 4) sc_check_tables_that_are_read.nd rfl (by first | exact Or.inl rfl | exact Or.inr rfl))) (fun _ _ _ _ _ => pts_nil) (fun _ _ _ _ _ => (pe_cmpR (r := rIn K false) op_in_seq (pe_ix (r := rIxT K) ix_tup (pv 4) pe_int (fun _ _ => rfl)) (pv 1) (by rfl)))) pa_nil))))
      (pss_one ps_never)
      pss_nil))))), ?_⟩
    obtain ⟨a, xs, rfl, ha, hd⟩ := dlst hv
    have hxl : xs.length = ts.length := by rw [dps_len hd, List.length_map]
    refine ⟨_, rfl, a, rfl, ⟨_, ha⟩, fun D hD => lc_flat (walk_list (K := K) (a := a) (xs := xs)) (fun i => .str (nth (ts.map (·.n)) i)) (by omega) hD (fun H' sm => sql sm ha) (fun i H x H' y => yat_same y) ?_ ?_⟩
    · rintro i x H1 H2 hi sm ⟨rfl, hx⟩ R hR
      obtain ⟨t, b, l, ys, e1, rfl, g1, _, _⟩ := tb_at (dpsm sm _ _ hd) hx
      have en : nth (ts.map (·.n)) i = t.n := nth_of (by rw [List.getElem?_map, e1]; rfl)
      refine ⟨rfl, _, rfl, b, _, 0, _, rfl, rfl, g1, rfl, ?_⟩
      have r := hR H2 same_refl
      rw [en] at r
      exact r
    · intro H1 sm hD1
      have hD1 : H1 D = some (.lst ((ts.map (·.n)).map V.str)) := by
        rw [hD1, hxl, ← nths, List.length_map]
      refine ⟨_, rfl, a, xs, rfl, sql sm ha, for_it (walk_enum (K := K) (a := a) (xs := xs)) (fun i σ H2 => ∃ y2 y3, σ = [some (.ref a), some (.ref D), y2, y3, none] ∧ Same H1 H2)
        ⟨none, none, rfl, same_refl⟩ (fun i σ H2 _ ⟨_, _, _, s2⟩ => sql (same_tr sm s2) ha) ?_ ?_⟩
      · rintro i x σ H2 H3 hi ⟨y2, y3, rfl, s2⟩ ⟨Tp, z1, z2, rfl, hT, rfl, e1, e2⟩
        cases e1
        have s3 : Same H1 (upd H2 Tp (.tup [.int (i : Nat), z2])) := same_tr s2 (snew hT)
        obtain ⟨t, b, l, ys, f1, rfl, g1, g2, g3⟩ := tb_at (dpsm (same_tr sm s3) _ _ hd) e2
        have htm : t ∈ ts := List.mem_of_getElem? f1
        have hyl : ys.length = t.rs.length := by rw [dps_len g3, List.length_map]
        have h12 := few_reads O htm
        refine ⟨Tp, _, rfl, Or.inl (Or.inl upd_same), rfl, _, _, rfl, _, _, rfl, rfl, ?_⟩
        refine ⟨_, rfl, b, _, 2, _, rfl, rfl, g1, rfl, l, rfl, ⟨ys, g2⟩, fun D2 hD2 => lc_flat (walk_list (K := K) (a := l) (xs := ys)) (fun j => .bl true) (by omega) hD2 (fun H' sm' => sql sm' g2) (fun i H x H' y => yat_same y) ?_ ?_⟩
        · rintro j x H5 H6 hj sm5 ⟨rfl, hx⟩ R hR
          obtain ⟨r, ra, rb, e3, rfl, e4, g5, _⟩ := rd_at (dpsm sm5 _ _ g3) hx
          have hm := O.here t htm r (List.mem_of_getElem? e3)
          refine ⟨rfl, _, rfl, ra, _, 0, _, rfl, rfl, g5, rfl, _, rfl, D, _, rfl, Or.inl (Or.inl (Or.inl (sm5 _ _ (s3 _ _ hD1)))), rfl, flat_strs _, ?_⟩
          rw [inV_str hm]
          exact hR H6 same_refl
        · intro H5 sm5 hD5
          refine ⟨D2, (List.range ys.length).map fun _ => true, rfl, Or.inl (Or.inl ?_), ⟨_, rfl, ?_⟩⟩
          · rw [hD5, List.map_map]
            rfl
          · have e : ((List.range ys.length).map fun _ => true).all id = true := by
              rw [List.all_map, List.all_eq_true]
              intro _ _
              rfl
            rw [e]
            refine iteF ?_
            exact ⟨some (.ref b), some (.int (i : Int)), rfl, same_tr s3 sm5⟩
      · rintro σ H2 ⟨_, _, rfl, s2⟩
        exact q H2 (same_tr sm s2)
def spCheckSystem (K : PySem.W.Frag) : Sp := fun vs H Q _ => ∃ (d m : Int) (v : V) (ts : List Tb), vs = [.int d, v, .int m] ∧ 1 ≤ d ∧ d ≤ 3 ∧ 2 ≤ m ∧ Dp K H v (.list (ts.map Tb.d)) ∧ 1 ≤ ts.length ∧ ts.length ≤ 6 ∧ OkT d ts ∧ ∀ H', Same H H' → Q .non H'
theorem ok_check_system {f : Addr} {fd : FuncData} (F : Fun K "check_system" "check_system" s_check_system f fd) (T : Txt mg) (c_check_tables : C8.Cal P w K mg base 3 "check_tables" (spCheckTables K) []) (c_check_tables_that_are_read : C8.Cal P w K mg base 3 "check_tables_that_are_read" (spCheckRead K) []) :
    FnOk P w K mg base CX0 4 f fd ["dimensions", "tables", "modulus"] (spCheckSystem K) := by
  refine F.ok sc_check_system (fun vs H Q E h => ?_) (fun cdv A outer s H vs Q E hr h => ?_)
  · obtain ⟨d, m, v, ts, rfl, _⟩ := h
    rfl
  · obtain ⟨d, m, v, ts, rfl, hd1, hd3, hm, hv, hl1, hl6, O, q⟩ := h
    refine ⟨_, (pss_cons (ps_if (pt_not (pt_chain op_le op_le pe_int (pv 0) (C8.pe_gc (by rfl) T.g_MOST_DIMENSIONS)))
    (pss_one ps_never)
    pss_nil)
  (pss_cons (ps_if (pt_not (pt_chain op_le op_le pe_int (pe_callB call_len_seq (by rfl) T.b_len PySem.boot_len (pa_cons (pv 1) pa_nil)) (C8.pe_gc (by rfl) T.g_MOST_TABLES)))
    (pss_one ps_never)
    pss_nil)
  (pss_cons (ps_expr (C8.pe_c c_check_tables hr (by decide) (by rfl) (pa_cons (pv 0) (pa_cons (pv 1) pa_nil))))
  (pss_cons (ps_expr (C8.pe_c c_check_tables_that_are_read hr (by decide) (by rfl) (pa_cons (pv 1) pa_nil)))
  (pss_one (ps_if (pt_cmpR op_lt (pv 2) pe_int (nomark _))
    (pss_one ps_never)
    pss_nil)))))), ?_⟩
    obtain ⟨a, xs, rfl, ha, hd⟩ := dlst hv
    have hxl : xs.length = ts.length := by rw [dps_len hd, List.length_map]
    refine ⟨_, rfl, 1, d, rfl, rfl, decide (1 ≤ d), rfl, ?_⟩
    rw [decide_eq_true hd1]
    refine iteT ⟨d, 3, rfl, rfl, decide (d ≤ 3), rfl, ?_⟩
    rw [decide_eq_true hd3]
    refine iteF ?_
    refine ⟨_, rfl, a, xs, rfl, Or.inl ha, 1, _, rfl, rfl, decide (1 ≤ (xs.length : Int)), rfl, ?_⟩
    rw [decide_eq_true (by omega)]
    refine iteT ⟨_, 6, rfl, rfl, decide ((xs.length : Int) ≤ 6), rfl, ?_⟩
    rw [decide_eq_true (by omega)]
    refine iteF ?_
    refine ⟨_, rfl, _, rfl, d, .ref a, ts, rfl, hv, hl6, O, fun H1 s1 => ?_⟩
    refine ⟨_, rfl, d, .ref a, ts, rfl, dpm s1 _ _ hv, hl6, O, fun H2 s2 => ?_⟩
    refine ⟨_, rfl, m, 2, rfl, rfl, decide (m < 2), rfl, ?_⟩
    rw [decide_eq_false (by omega)]
    exact iteF (q H2 (same_tr s1 s2))
/-- a def with a code object that is known -/
structure FunC (K : PySem.W.Frag) (x qual : Str) (st : Stmt) (f : Addr) (fd : FuncData) (c : Addr) : Prop where
  ex : ∃ (oc : Value) (od : Option Addr) (dV kV doc pm : Value) (an : Option Addr) (ct : Value) (osl : Array (Option Value)),
    fd = PySem.W.fnOf x qual (defArgs st) (defBody st) (defScope st) dV kV doc pm an (.ref c) ct ∧ K.lookup f = some ⟨oc, od, .func fd, osl⟩ ∧ PySem.W.codeIn K (.ref c) qual = true
theorem FunC.ok {x qual : Str} {st : Stmt} {f c : Addr} {fd : FuncData} {N ps : List Str} {k : Nat} {sp : Sp} (F : FunC K x qual st f fd c) (S : FnScope N ps (defScope st)) (len : ∀ vs H Q E, sp vs H Q E → vs.length = ps.length)
    (hbody : ∀ (A : Around) (outer : List Env) (s : Shared) (H : Hp) (vs : List V) (Q : VK) (E : XK), Room k (A.deeper (envOfC qual (defScope st) s.heap.objs.size f (.ref c))) → sp vs H Q E →
      ∃ t, PSs (cxOf CX0 P w K mg base N qual (defScope st) f (.ref c) A outer s H E).nox (defBody st) t ∧ t { nx := fun _ H' => Q .non H', rt := Q } (start N vs) H) : FnOk P w K mg base CX0 (k + 1) f fd ps sp := by
  obtain ⟨oc, od, dV, kV, doc, pm, an, ct, osl, rfl, lk, hcd⟩ := F.ex
  refine fn_of lk hcd S len fun A outer s H vs Q E hr hsp => ?_
  obtain ⟨t, h, q⟩ := hbody A outer s H vs Q E hr hsp
  exact ⟨t, h.nox, q⟩
def srt (ts : List Tb) : List Tb := ts.mergeSort (leK Tb.n)
/-- what a system may be made of -/
structure OkSys (d m : Int) (ts : List Tb) : Prop where
  d1 : 1 ≤ d
  d3 : d ≤ 3
  m2 : 2 ≤ m
  l1 : 1 ≤ ts.length
  l6 : ts.length ≤ 6
  ok : OkT d ts
/-- all but the tables of code objects and one object stay -/
def ExtB (s : Addr) (H H' : Hp) : Prop := ∀ b o, H b = some o → b ≠ s → (∀ ps, o ≠ .tbl ps) → H' b = some o
def spInit (K : PySem.W.Frag) (C : Addr) (TT : List (Addr × Str)) : Sp := fun vs H Q _ => ∃ (s dx : Addr) (d m : Int) (v : V) (ts : List Tb), vs = [.ref s, .int d, v, .int m] ∧ H s = some (.ins C dx []) ∧ LamX.Tabs TT H ∧ OkSys d m ts ∧ Dp K H v (.list (ts.map Tb.d)) ∧
  ∀ H', ExtB s H H' → LamX.Tabs TT H' → SysAt K C H' s d m (srt ts) → Q .non H'
theorem ok_init {f C c Pt : Addr} {fd : FuncData} {TT : List (Addr × Str)} (F : FunC K "__init__" "System.__init__" s_System_init f fd c) (T : Txt mg) (TC : TxtC K mg C) (c_check_system : C8.Cal P w K mg base 4 "check_system" (spCheckSystem K) [])
    (TBc : LamX.TabB base mg c Pt) (hmT : (Pt, ("System.__init__.<locals>.<lambda>" : Str)) ∈ TT) (huT : ∀ p ∈ TT, p.1 = Pt → p.2 = ("System.__init__.<locals>.<lambda>" : Str)) : FnOk P w K mg base CX0 5 f fd ["self", "dimensions", "tables", "modulus"] (spInit K C TT) := by
  refine F.ok sc_System_init (fun vs H Q E h => ?_) (fun A outer sh H vs Q E hr h => ?_)
  · obtain ⟨s, dx, d, m, v, ts, rfl, _⟩ := h
    rfl
  · obtain ⟨s, dx, d, m, v, ts, rfl, hs, hT, O, hv, q⟩ := h
    have hu := hu_of hr
    have hcode : (cxOf CX0 P w K mg base ["self", "dimensions", "tables", "modulus", "rows", "name", "constant", "reads"] "System.__init__" (defScope s_System_init) f (.ref c) A outer sh H E).nox.env.code = .ref c := rfl
    refine ⟨_, (pss_cons (ps_expr (C8.pe_c c_check_system hr (by decide) (by rfl) (pa_cons (pv 1) (pa_cons (pv 2) (pa_cons (pv 3) pa_nil)))))
  (pss_cons (ps_fld (pv 0) (pv 1) rfl)
  (pss_cons (ps_fld (pv 0) (pv 3) rfl)
  (pss_cons (ps_set (i := 4) sc_System_init.nd rfl (by first | exact Or.inl rfl | exact Or.inr rfl) (pe_sortKey Tb.n (a := "table") (by rfl) T.b_sorted (pv 2) hr TBc hcode hmT huT rfl ⟨rfl, rfl, rfl, rfl, by decide +kernel, by decide +kernel⟩ (by decide) (fun _ _ _ _ _ _ => rfl)))
  (pss_one (ps_fld (pv 0) (pe_dc (own := [("name", 5), ("constant", 6), ("reads", 7)]) (g := gTup K 3 (gCons (gName 5) (gCons (gName 6) (gCons (gName 7) gNil)))) (tt := tYes) (by rfl) sc_System_init.nd (pi_list (pv 4)) (blkOk_by (N := ["self", "dimensions", "tables", "modulus", "rows", "name", "constant", "reads"]) (sc := defScope s_System_init) (by decide +kernel)) (fun _ _ _ _ _ => (pg_tup rfl (pgs_cons (pg_name (i := 5) sc_System_init.nd rfl (by first | exact Or.inl rfl | exact Or.inr rfl)) (pgs_cons (pg_name (i := 6) sc_System_init.nd rfl (by first | exact Or.inl rfl | exact Or.inr rfl)) (pgs_cons (pg_name (i := 7) sc_System_init.nd rfl (by first | exact Or.inl rfl | exact Or.inr rfl)) pgs_nil))))) (fun _ _ _ _ _ => pts_nil) (fun _ _ _ _ _ => (pv 5)) (fun _ _ _ _ _ => (pe_tup (pa_cons (pv 6) (pa_cons (pe_callTy (r := rTupS K) call_tuple_of (by rfl) T.b_tuple (by decide +kernel) (pa_cons (pv 7) pa_nil)) pa_nil))))) rfl)))))), ?_⟩
    -- check_system(..)
    refine ⟨_, rfl, _, rfl, _, rfl, d, m, v, ts, rfl, O.d1, O.d3, O.m2, hv, O.l1, O.l6, O.ok, fun H1 s1 => ?_⟩
    have hs1 := s1 _ _ hs
    have hT1 := hT.ext s1
    -- self._dimensions, self._modulus
    refine ⟨_, rfl, _, rfl, s, C, dx, _, rfl, hs1, TC.cl, TC.nD, (by show 0 < 1000; decide), ?_⟩
    have hT2 := tabs_ins (o := .ins C dx (putF "_dimensions" (.int d) [])) hT1 hs1
    have d2 : SD H (upd H1 s (.ins C dx (putF "_dimensions" (.int d) []))) := SD.upd (.of s1) hs1 rfl
    have e2 : ExtB s H (upd H1 s (.ins C dx (putF "_dimensions" (.int d) []))) := fun b o h nb _ => by
      rw [upd_ne nb]
      exact s1 b o h
    have hs2 : (upd H1 s (.ins C dx (putF "_dimensions" (.int d) []))) s = some (.ins C dx (putF "_dimensions" (.int d) [])) := upd_same
    generalize upd H1 s (.ins C dx (putF "_dimensions" (.int d) [])) = H2 at hT2 d2 e2 hs2 ⊢
    refine ⟨_, rfl, _, rfl, s, C, dx, _, rfl, hs2, TC.cl, TC.nM, (by show 1 < 1000; decide), ?_⟩
    have hT3 := tabs_ins (o := .ins C dx (putF "_modulus" (.int m) (putF "_dimensions" (.int d) []))) hT2 hs2
    have d3 : SD H (upd H2 s (.ins C dx (putF "_modulus" (.int m) (putF "_dimensions" (.int d) [])))) := SD.upd d2 hs2 rfl
    have e3 : ExtB s H (upd H2 s (.ins C dx (putF "_modulus" (.int m) (putF "_dimensions" (.int d) [])))) := fun b o h nb nt => by
      rw [upd_ne nb]
      exact e2 b o h nb nt
    have hs3 : (upd H2 s (.ins C dx (putF "_modulus" (.int m) (putF "_dimensions" (.int d) [])))) s = some (.ins C dx (putF "_modulus" (.int m) (putF "_dimensions" (.int d) []))) := upd_same
    generalize upd H2 s (.ins C dx (putF "_modulus" (.int m) (putF "_dimensions" (.int d) []))) = H3 at hT3 d3 e3 hs3 ⊢
    -- rows = sorted(..)
    obtain ⟨a, xs, rfl, ha, hd⟩ := dlst hv
    have hxl : xs.length = ts.length := by rw [dps_len hd, List.length_map]
    have hfst : (xs.zip ts).map Prod.fst = xs := by rw [List.map_fst_zip]; omega
    have hsnd : (xs.zip ts).map Prod.snd = ts := by rw [List.map_snd_zip]; omega
    have hbs : ∀ y ∈ xs.zip ts, Dp K H3 y.1 y.2.d := fun y hy => by
      obtain ⟨i, hi⟩ := List.mem_iff_getElem?.mp hy
      obtain ⟨h1, h2⟩ := List.getElem?_zip_eq_some.mp hi
      obtain ⟨t, _, _, _, e1, _⟩ := tb_at hd h1
      obtain ⟨dd, f1, f2⟩ := dps_get hd h1
      rw [List.getElem?_map, h2] at f1
      cases f1
      exact dpd d3 _ _ f2
    refine ⟨_, rfl, a, xs.zip ts, rfl, (by rw [hfst]; exact sqld d3 ha), hT3, fun y hy => ?_, fun H4 x4 hT4 p hp => ?_⟩
    · obtain ⟨b, zs, e1, ht, hz⟩ := dtup (hbs y hy)
      obtain ⟨z1, z2, z3, rfl, g1, g2, g3⟩ := dps3 hz
      obtain rfl := dstr g1
      exact ⟨b, [z2, z3], e1, ht⟩
    · have hsrt : ((xs.zip ts).mergeSort (leK fun y => y.2.n)).map Prod.snd = srt ts := by
        rw [show (leK fun y : V × Tb => y.2.n) = fun a b => leK Tb.n a.2 b.2 from rfl]
        rw [List.map_mergeSort (r := fun a b : V × Tb => leK Tb.n a.2 b.2) (s := leK Tb.n) (f := Prod.snd) (fun _ _ _ _ => rfl), hsnd]
        rfl
      have hmem : ∀ y ∈ (xs.zip ts).mergeSort (leK fun y => y.2.n), Dp K H4 y.1 y.2.d := fun y hy => dpd (.ext x4) _ _ (hbs y (List.mem_mergeSort.mp hy))
      generalize hL : (xs.zip ts).mergeSort (leK fun y => y.2.n) = bs at hsrt hmem ⊢
      have hbl : bs.length = ts.length := by rw [← hL, List.length_mergeSort, List.length_zip]; omega
      have hs4 : H4 s = some (.ins C dx (putF "_modulus" (.int m) (putF "_dimensions" (.int d) []))) := x4 _ _ hs3 fun ps z => by cases z
      have s5 : Same H4 (upd H4 p (.lst (bs.map Prod.fst))) := snew hp
      have hnd : (bs.map fun y => y.2.n).Nodup := by
        have e : (bs.map fun y => y.2.n) = (srt ts).map (·.n) := by
          rw [← hsrt, List.map_map]
          rfl
        rw [e]
        exact ((List.mergeSort_perm ts (leK Tb.n)).map (·.n)).nodup_iff.mpr O.ok.nodup
      -- self._tables = {..}
      refine ⟨_, rfl, p, rfl, ⟨_, Or.inl (Or.inl upd_same)⟩, fun D hD => dc_it (walk_list (K := K) (a := p) (xs := bs.map Prod.fst)) (fun i H' => ∃ (B : Hp) (kvs : List (Key × V)), Same (upd H4 p (.lst (bs.map Prod.fst))) B ∧ B D = none ∧ Same B H' ∧ H' D = some (.dK kvs) ∧ KvAt K B kvs ((srt ts).take i))
        ⟨_, [], same_refl, hD, snew hD, upd_same, .nil⟩ (fun i H' _ ⟨B, kvs, b1, b2, b3, _⟩ => sql b3 (sql b1 (Or.inl (Or.inl upd_same)))) ?_ ?_⟩
      · rintro i x _ Hi hi ⟨B, kvs, b1, b2, b3, b4, b5⟩ ⟨rfl, hx⟩
        rw [List.getElem?_map] at hx
        obtain ⟨y, hy, rfl⟩ := Option.map_eq_some_iff.mp hx
        have hyd := dpm b1 _ _ (dpm s5 _ _ (hmem y (List.mem_of_getElem? hy)))
        obtain ⟨b, zs, e1, ht, hz⟩ := dtup hyd
        obtain ⟨z1, z2, z3, rfl, g1, g2, g3⟩ := dps3 hz
        obtain rfl := dstr g1
        obtain rfl := dint g2
        obtain ⟨l, ys, rfl, hl, hys⟩ := dlst g3
        have hsi : (srt ts)[i]? = some y.2 := by
          rw [← hsrt, List.getElem?_map, hy]
          rfl
        refine ⟨b, _, e1, sqt b3 ht, rfl, _, _, rfl, _, _, rfl, _, _, rfl, rfl, rfl, ?_⟩
        refine ⟨_, rfl, _, rfl, _, rfl, l, ys, rfl, Or.inl ⟨sql b3 hl, fun q1 hq1 => ?_⟩⟩
        refine ⟨(by show 2 ≤ sizeLine; decide), fun q2 hq2 => ?_⟩
        have nq1 : q1 ≠ D := fun z => by
          rw [z, b4] at hq1
          cases hq1
        have nq2 : q2 ≠ D := fun z => by
          rw [z, upd_ne nq1.symm, b4] at hq2
          cases hq2
        have bq1 : B q1 = none := free_of b3 hq1
        have c1 : Same (upd B q1 (.tup ys)) (upd Hi q1 (.tup ys)) := fun c o h => by
          by_cases hc : c = q1
          · rw [hc, upd_same] at h ⊢
            exact h
          · rw [upd_ne hc] at h ⊢
            exact b3 c o h
        have bq2 : (upd B q1 (.tup ys)) q2 = none := free_of c1 hq2
        have c2 : Same (upd (upd B q1 (.tup ys)) q2 (.tup [.int y.2.c, .ref q1])) (upd (upd Hi q1 (.tup ys)) q2 (.tup [.int y.2.c, .ref q1])) := fun c o h => by
          by_cases hc : c = q2
          · rw [hc, upd_same] at h ⊢
            exact h
          · rw [upd_ne hc] at h ⊢
            exact c1 c o h
        have bb : Same B (upd (upd B q1 (.tup ys)) q2 (.tup [.int y.2.c, .ref q1])) := same_tr (snew bq1) (snew bq2)
        have bD : (upd (upd B q1 (.tup ys)) q2 (.tup [.int y.2.c, .ref q1])) D = none := by
          rw [upd_ne nq2.symm, upd_ne nq1.symm]
          exact b2
        have hDv : (upd (upd Hi q1 (.tup ys)) q2 (.tup [.int y.2.c, .ref q1])) D = some (.dK kvs) := by
          rw [upd_ne nq2.symm, upd_ne nq1.symm]
          exact b4
        have hkl : kvs.length ≤ 6 := by
          rw [b5.len, List.length_take]
          have := O.l6
          have : (srt ts).length = ts.length := List.length_mergeSort _
          omega
        refine ⟨kvs, Sum.inr y.2.n, rfl, hDv, small1000 (by omega), ?_⟩
        have hno : valV kvs (Sum.inr y.2.n) = none := b5.noVal (by
          have e : ((srt ts).take i).map (·.n) = (bs.map fun y => y.2.n).take i := by
            rw [← hsrt, List.map_take, List.map_map]
            rfl
          rw [e]
          exact notin_take hnd (by rw [List.getElem?_map, hy]; rfl))
        refine ⟨_, kvs ++ [(Sum.inr y.2.n, .ref q2)], same_tr b1 bb, bD, ?_, ?_, ?_⟩
        · intro c o h
          have hc : c ≠ D := fun z => by
            rw [z, bD] at h
            cases h
          rw [upd_ne hc]
          exact c2 c o h
        · rw [upd_same, putK_new _ hno]
        · rw [List.take_add_one, hsi]
          refine KvAt.app (b5.mono bb) (.cons ⟨rfl, ?_⟩ .nil)
          refine .tup (Or.inl (Or.inl upd_same)) (.cons (.int _) (.cons (.tup (Or.inl (Or.inl ?_)) (dpsm bb _ _ hys)) .nil))
          rw [upd_ne (ne_of_none upd_same bq2)]
          exact upd_same
      · rintro Hf ⟨B, kvs, b1, b2, b3, b4, b5⟩
        have hlen : (bs.map Prod.fst).length = (srt ts).length := by rw [← hsrt, List.length_map, List.length_map]
        rw [hlen, List.take_length] at b5
        have sf : Same H4 Hf := same_tr s5 (same_tr b1 b3)
        have hsf := sf _ _ hs4
        refine ⟨_, rfl, s, C, dx, _, rfl, hsf, TC.cl, TC.nT, (by show 2 < 1000; decide), ?_⟩
        refine q _ (fun b o h nb nt => ?_) (tabs_ins (hT4.ext sf) hsf) ⟨dx, D, kvs, upd_same, ?_, ?_⟩
        · rw [upd_ne nb]
          exact sf _ _ (x4 _ _ (e3 b o h nb nt) nt)
        · rw [upd_ne fun z => by
            rw [z, hsf] at b4
            cases b4]
          exact b4
        · exact b5.monoD (SD.upd (.of b3) hsf rfl)
end
end Fr

namespace Fr
open PySem PySem.Spec PyProof.Rows L2
abbrev s_Ldraw : Stmt := topS 57
theorem sc_Ldraw : FnScope ["_law_pool_here", "_law_many", "_law_drawn", "_law_mixed"] ["_law_pool_here", "_law_many"] (defScope s_Ldraw) := ⟨rfl, rfl, rfl, by decide +kernel, rfl, by decide +kernel, by decide +kernel⟩
-- slots: 0 _law_pool_here, 1 _law_many, 2 _law_drawn, 3 _law_mixed
abbrev s_Lpool : Stmt := topS 56
theorem sc_Lpool : FnScope ["_law_script", "_law_at", "_law_given"] ["_law_script", "_law_at"] (defScope s_Lpool) := ⟨rfl, rfl, rfl, by decide +kernel, rfl, by decide +kernel, by decide +kernel⟩
-- slots: 0 _law_script, 1 _law_at, 2 _law_given
/-- the state of the draws: digits, seed, counter -/
structure RngN (a b c : Int) (m : Nat) : Prop where
  a0 : 0 ≤ a
  a1 : True
  b0 : 0 ≤ b
  b1 : b < 2 ^ 62
  c0 : 0 ≤ c
  c1 : c ≤ m
def RngOk (H : Hp) (r : Addr) (m : Nat) : Prop := ∃ a b c : Int, H r = some (.lst [.int a, .int b, .int c]) ∧ RngN a b c m
theorem RngN.mono {a b c : Int} {m m' : Nat} (h : RngN a b c m) (e : m ≤ m') : RngN a b c m' := ⟨h.a0, h.a1, h.b0, h.b1, h.c0, by have := h.c1; omega⟩
theorem RngOk.mono {H : Hp} {r : Addr} {m m' : Nat} (h : RngOk H r m) (e : m ≤ m') : RngOk H r m' := by
  obtain ⟨a, b, c, h1, h2⟩ := h
  exact ⟨a, b, c, h1, h2.mono e⟩
theorem atI_in {α : Type} {xs : List α} {i : Int} (h0 : 0 ≤ i) (h1 : i < xs.length) : ∃ v, atI xs i = some v ∧ v ∈ xs ∧ xs[i.toNat]? = some v := by
  have h2 : i.toNat < xs.length := by omega
  have e := List.getElem?_eq_getElem h2
  refine ⟨xs[i.toNat], ?_, List.getElem_mem h2, e⟩
  have := atI_nat e
  rw [Int.toNat_of_nonneg h0] at this
  exact this
theorem cut_take (xs : List V) (i : Nat) : cutV xs none (some (i : Int)) = xs.take i := by
  unfold cutV
  rw [show HT.sIx xs.length xs.length (some (i : Int)) = min i xs.length from HT.sIx_nat xs.length xs.length i, HT.sIx_none, List.drop_zero, Nat.sub_zero]
  exact (List.take_eq_take_min).symm
theorem cut_all (xs : List V) (i : Nat) (h : xs.length ≤ i) : cutV xs none (some (i : Int)) = xs := by
  unfold cutV
  rw [show HT.sIx xs.length xs.length (some (i : Int)) = min i xs.length from HT.sIx_nat xs.length xs.length i, HT.sIx_none, List.drop_zero, Nat.sub_zero, Nat.min_eq_right h, List.take_length]
theorem p1060 : ((10 : Int) ^ ((60 : Int).toNat)).natAbs < 2 ^ 200 := by decide +kernel
theorem p1060' : ((10 : Int) ^ ((60 : Int).toNat)) < 2 ^ 200 := by decide +kernel
theorem pos1 : (0 : Int) < 2305843009213693921 := by decide
theorem pos2 : (0 : Int) < 2305843009213693951 := by decide
theorem p1060p : 0 < ((10 : Int) ^ ((60 : Int).toNat)) := by decide +kernel
section
variable {P : Program} {w : World} {K : PySem.W.Frag} {mg : Str → Option Value} {base : Heap}
/-- only the state of the draws changed -/
structure Dr (r : Addr) (m : Nat) (H H' : Hp) : Prop where
  ne : ∀ b, b ≠ r → H' b = H b
  ok : RngOk H' r m
structure RS (r : Addr) (m : Nat) (B H : Hp) : Prop where
  s : Same B H
  n : B r = none
  ok : RngOk H r m
theorem RS.dr {r : Addr} {m m' : Nat} {B H H' : Hp} (h : RS r m B H) (d : Dr r m' H H') : RS r m' B H' := ⟨fun b o e => by
  rw [d.ne b (ne_of_none e h.n)]
  exact h.s b o e, h.n, d.ok⟩
theorem RngOk.at {r : Addr} {m : Nat} {H H' : Hp} (h : RngOk H r m) (e : H' r = H r) : RngOk H' r m := by
  obtain ⟨a, b, c, h1, h2⟩ := h
  exact ⟨a, b, c, by rw [e, h1], h2⟩
theorem RngOk.some {r : Addr} {m : Nat} {H : Hp} (h : RngOk H r m) : ∃ o, H r = some o := by
  obtain ⟨a, b, c, h1, h2⟩ := h
  exact ⟨_, h1⟩
theorem RngOk.new {r p : Addr} {m : Nat} {H : Hp} {o : HO} (h : RngOk H r m) (e : H p = none) : RngOk (upd H p o) r m := by
  obtain ⟨o', ho⟩ := h.some
  exact h.at (upd_ne (ne_of_none ho e))
theorem RS.new {r p : Addr} {m : Nat} {B H : Hp} {o : HO} (h : RS r m B H) (e : H p = none) : RS r m B (upd H p o) := ⟨same_tr h.s (snew e), h.n, h.ok.new e⟩
theorem RS.put {r p : Addr} {m : Nat} {B H : Hp} {o : HO} (h : RS r m B H) (e : B p = none) (n : r ≠ p) : RS r m B (upd H p o) := ⟨swrite h.s e, h.n, h.ok.at (upd_ne n)⟩
/-- a new thing that stays -/
theorem RS.keep {r p : Addr} {m : Nat} {B H : Hp} {o : HO} (h : RS r m B H) (e : H p = some o) (k : B p = none) (n : r ≠ p) : RS r m (upd B p o) H := ⟨fun b x q => by
  by_cases hb : b = p
  · rw [hb, upd_same] at q
    rw [hb, e, q]
  · rw [upd_ne hb] at q
    exact h.s b x q, by rw [upd_ne n]; exact h.n, h.ok⟩
theorem RS.ne {r p : Addr} {m : Nat} {B H : Hp} (h : RS r m B H) (e : H p = none) : r ≠ p := by
  obtain ⟨o', ho⟩ := h.ok.some
  exact ne_of_none ho e
theorem RS.mono {r : Addr} {m m' : Nat} {B H : Hp} (h : RS r m B H) (e : m ≤ m') : RS r m' B H := ⟨h.s, h.n, h.ok.mono e⟩
def spDraw : Sp := fun vs H Q _ => ∃ (r : Addr) (lim : Int) (m : Nat), vs = [.ref r, .int lim] ∧ RngOk H r m ∧ m ≤ 2 ^ 60 ∧ 0 < lim ∧ lim.natAbs < 2 ^ 200 ∧ ∀ d H', 0 ≤ d → d < lim → Dr r (m + 1) H H' → Q (.int d) H'
theorem pos3 : (0 : Int) < 162259276829213363391578010288127 := by decide
theorem pos4 : (0 : Int) < 170141183460469231731687303715884105727 := by decide
theorem pos5 : (0 : Int) < 1048576 := by decide
/-- ** with an exponent up to 5 -/
def CPow5 (i j : Int) : Prop := 0 ≤ j ∧ j ≤ 5 ∧ i.natAbs < 2 ^ 1000000
theorem op_pow5 {X : Cx} : OpR X (binaryOp .Pow) (rI CPow5 fun i j => .int (i ^ j.toNat)) := opI fun i j _ _ _ _ _ hc q => by
  obtain ⟨h0, h3, hb⟩ := hc
  refine pow_int h0 ?_ q
  have b : Builtin.Int.intBits i ≤ i.natAbs.log2 + 1 := by
    unfold Builtin.Int.intBits
    split <;> omega
  have l : i.natAbs.log2 < 1000000 := PySem.Flt.log2_lt_of (by decide) hb
  have c : (Builtin.Int.intBits i : Int) ≤ 1000000 := by omega
  have c0 : (0 : Int) ≤ (Builtin.Int.intBits i : Int) := Int.natCast_nonneg _
  calc (Builtin.Int.intBits i : Int) * j ≤ 1000000 * 5 := Int.mul_le_mul c h3 h0 (by decide)
    _ ≤ 2 ^ 27 := by decide
theorem nat_lt_of {x : Int} {n : Nat} (h0 : 0 ≤ x) (h : x < 2 ^ n) : x.natAbs < 2 ^ n := by
  have e : (x.natAbs : Int) = x := Int.natAbs_of_nonneg h0
  have h' : (x.natAbs : Int) < ((2 ^ n : Nat) : Int) := by
    rw [e]
    push_cast
    exact h
  exact Int.ofNat_lt.mp h'
def spPool (K : PySem.W.Frag) : Sp := fun vs H Q _ => ∃ (a : Addr) (ns : List Int) (i : Nat), vs = [.ref a, .int (i : Int)] ∧ SqL K H a (ns.map V.int) ∧ i ≤ 1000 ∧ ns.length ≤ 63 ∧ ∀ p H', H p = none → Same H H' → RngOk H' p 0 → Q (.ref p) H'
theorem ok_pool {f : Addr} {fd : FuncData} (F : Fun K "_law_pool" "_law_pool" s_Lpool f fd) (T : Txt mg) (zm : mg "max" = none) : FnOk P w K mg base CX0 1 f fd ["_law_script", "_law_at"] (spPool K) := by
  refine F.ok sc_Lpool (fun vs H Q E h => ?_) (fun cdv A outer sh H vs Q E hr h => ?_)
  · obtain ⟨a, ns, i, rfl, _⟩ := h
    rfl
  · obtain ⟨a, ns, i, rfl, ha, hi, hl, q⟩ := h
    refine ⟨_, (pss_cons (ps_set (i := 2) sc_Lpool.nd rfl (by first | exact Or.inl rfl | exact Or.inr rfl) pe_int)
  (pss_cons (ps_if (pt_cmpR op_lt (pv 1) (pe_callB call_len_seq (by rfl) T.b_len PySem.boot_len (pa_cons (pv 0) pa_nil)) (nomark _))
    (pss_one (ps_set (i := 2) sc_Lpool.nd rfl (by first | exact Or.inl rfl | exact Or.inr rfl) (pe_ix ix_list (pv 0) (pv 1) (fun _ _ => rfl))))
    pss_nil)
  (pss_one (ps_ret (pe_lst (pa_cons (pe_callB (call_max2 rfl) (by rfl) zm (by decide +kernel) (pa_cons pe_int (pa_cons (pe_op op_sub (pe_callB call_abs (by rfl) T.b_abs (by decide +kernel) (pa_cons (pv 2) pa_nil)) (pe_op op_pow pe_int pe_int)) pa_nil))) (pa_cons (pe_op op_add (pe_op op_mod (pv 2) pe_int) (pe_op op_mulW pe_int (pe_op op_add (pv 1) pe_int))) (pa_cons pe_int pa_nil)))))))), ?_⟩
    have go : ∀ g : Int, ∀ l, H l = none → Q (.ref l) (upd H l (.lst [.int (if (if g < 0 then -g else g) - 10 ^ ((18 : Int).toNat) > 0 then (if g < 0 then -g else g) - 10 ^ ((18 : Int).toNat) else 0), .int (g % 2305843009213693951 + 3367900543 * ((i : Int) + 1)), .int 0])) := fun g l hl' => by
      refine q l _ hl' (snew hl') ⟨_, _, 0, upd_same, ?_, True.intro, ?_, ?_, by decide, by decide⟩
      · split <;> omega
      · have := Int.emod_nonneg g (show (2305843009213693951 : Int) ≠ 0 by decide)
        omega
      · have := Int.emod_lt_of_pos g pos2
        omega
    have wi : ((i : Int) + 1).natAbs < 2 ^ 100 := by omega
    have hp18 : (10 : Int).natAbs < 2 ^ 64 := by decide
    refine ⟨_, rfl, _, rfl, a, _, rfl, Or.inl ha, (i : Int), _, rfl, rfl, _, rfl, ?_⟩
    refine ite2 (fun h1 => ?_) (fun _ => ?_)
    · have h1 : (i : Int) < ((ns.map V.int).length : Int) := of_decide_eq_true h1
      obtain ⟨v, a1, a2, _⟩ := atI_in (xs := ns.map V.int) (i := (i : Int)) (by omega) h1
      obtain ⟨g, _, rfl⟩ := List.mem_map.mp a2
      refine ⟨_, rfl, _, rfl, a, _, _, _, rfl, rfl, ha, a1, ?_⟩
      exact ⟨_, rfl, g, rfl, 10, 18, rfl, rfl, ⟨by decide, by decide, by decide⟩, _, _, rfl, rfl, _, _, rfl, _, rfl, g, _, rfl, rfl, pos2, _, rfl, _, _, rfl, rfl, _, _, rfl, rfl, wide_mul (a := 100) (b := 100) (by decide) wi (by decide) (by decide) (by decide), _, _, rfl, rfl, (by show 3 ≤ sizeLine; decide), go g⟩
    · exact ⟨_, rfl, 0, rfl, 10, 18, rfl, rfl, ⟨by decide, by decide, by decide⟩, _, _, rfl, rfl, _, _, rfl, _, rfl, 0, _, rfl, rfl, pos2, _, rfl, _, _, rfl, rfl, _, _, rfl, rfl, wide_mul (a := 100) (b := 100) (by decide) wi (by decide) (by decide) (by decide), _, _, rfl, rfl, (by show 3 ≤ sizeLine; decide), go 0⟩
theorem pos6 : (0 : Int) < 2 := by decide
theorem ok_draw {f : Addr} {fd : FuncData} (F : Fun K "_law_draw" "_law_draw" s_Ldraw f fd) (T : Txt mg) : FnOk P w K mg base CX0 1 f fd ["_law_pool_here", "_law_many"] spDraw := by
  refine F.ok sc_Ldraw (fun vs H Q E h => ?_) (fun cdv A outer sh H vs Q E hr h => ?_)
  · obtain ⟨r, lim, m, rfl, _⟩ := h
    rfl
  · obtain ⟨r, lim, m, rfl, ⟨a, b, c, hR, N⟩, hm, l0, l1, q⟩ := h
    refine ⟨_, (pss_cons (ps_if (pt_cmpR op_gt (pe_ix ix_list (pv 0) pe_int (fun _ _ => rfl)) pe_int (nomark _))
    (pss_cons (ps_set (i := 2) sc_Ldraw.nd rfl (by first | exact Or.inl rfl | exact Or.inr rfl) (pe_op op_mod (pe_ix ix_list (pv 0) pe_int (fun _ _ => rfl)) (pv 1)))
    (pss_cons (ps_asg (pe_op op_fdivW (pe_ix ix_list (pv 0) pe_int (fun _ _ => rfl)) (pv 1)) (pg_sub (pv 0) pe_int set_list))
    (pss_one (ps_ret (pv 2)))))
    pss_nil)
  (pss_cons (ps_asg (pe_op op_add (pe_ix ix_list (pv 0) pe_int (fun _ _ => rfl)) pe_int) (pg_sub (pv 0) pe_int set_list))
  (pss_cons (ps_set (i := 3) sc_Ldraw.nd rfl (by first | exact Or.inl rfl | exact Or.inr rfl) (pe_op op_mod (pe_op op_pow5 (pe_op op_add (pe_ix ix_list (pv 0) pe_int (fun _ _ => rfl)) (pe_op op_mulW pe_int (pe_ix ix_list (pv 0) pe_int (fun _ _ => rfl)))) pe_int) pe_int))
  (pss_cons (ps_set (i := 3) sc_Ldraw.nd rfl (by first | exact Or.inl rfl | exact Or.inr rfl) (pe_op op_mod (pe_op op_pow5 (pe_op op_add (pv 3) (pe_op op_mulW pe_int (pe_ix ix_list (pv 0) pe_int (fun _ _ => rfl)))) pe_int) pe_int))
  (pss_one (ps_ret (pe_op op_mod (pe_op op_fdivW (pv 3) pe_int) (pv 1)))))))), ?_⟩
    have sq : SqL K H r [.int a, .int b, .int c] := Or.inl (Or.inl hR)
    refine ⟨_, rfl, r, _, 0, _, rfl, rfl, sq, rfl, a, 0, rfl, rfl, decide (0 < a), rfl, ?_⟩
    refine ite2 (fun h0 => ?_) (fun h0 => ?_)
    · have h0 : 0 < a := of_decide_eq_true h0
      refine ⟨_, rfl, r, _, 0, _, rfl, rfl, sq, rfl, _, rfl, a, lim, rfl, rfl, l0, ?_⟩
      refine ⟨_, rfl, r, _, 0, _, rfl, rfl, sq, rfl, _, rfl, a, lim, rfl, rfl, wide_div l0 l1 (by decide) (by decide), ?_⟩
      · refine ⟨_, rfl, r, _, 0, 0, rfl, rfl, hR, rfl, ?_⟩
        refine ⟨_, rfl, q _ _ (Int.emod_nonneg _ (Int.ne_of_gt l0)) (Int.emod_lt_of_pos _ l0) ⟨fun x hx => upd_ne hx, _, b, c, upd_same, ?_⟩⟩
        exact ⟨Int.ediv_nonneg N.a0 (Int.le_of_lt l0), True.intro, N.b0, N.b1, N.c0, by have := N.c1; omega⟩
    · have hc : (c + 1).natAbs < 2 ^ 100 := by
        have h1 := N.c0
        have h2 := N.c1
        omega
      have hcc : c + 1 ≤ ((m + 1 : Nat) : Int) := by
        have h2 := N.c1
        omega
      refine ⟨_, rfl, r, _, 2, _, rfl, rfl, sq, rfl, c, 1, rfl, rfl, _, rfl, r, _, 2, 2, rfl, rfl, hR, rfl, ?_⟩
      have dr : Dr r (m + 1) H (upd H r (.lst [.int a, .int b, .int (c + 1)])) := ⟨fun x hx => upd_ne hx, a, b, c + 1, upd_same, ⟨N.a0, N.a1, N.b0, N.b1, by have := N.c0; omega, hcc⟩⟩
      have hR' : (upd H r (.lst [.int a, .int b, .int (c + 1)])) r = some (.lst [.int a, .int b, .int (c + 1)]) := upd_same
      have sq2 : SqL K (upd H r (.lst [.int a, .int b, .int (c + 1)])) r [.int a, .int b, .int (c + 1)] := Or.inl (Or.inl hR')
      have c0 := N.c0
      have b0 := N.b0
      have b1 := N.b1
      have hc9 : c + 1 < 2 ^ 100 := by omega
      have w1 : (b + 15488653 * (c + 1)).natAbs < 2 ^ 1000000 := Nat.lt_of_lt_of_le (m := 2 ^ 200) (by omega) (Nat.pow_le_pow_right (by decide) (by decide))
      refine ⟨_, rfl, r, _, 1, _, rfl, rfl, sq2, rfl, _, rfl, r, _, 2, _, rfl, rfl, sq2, rfl, _, _, rfl, rfl, wide_mul (a := 100) (b := 100) (by decide) hc (by decide) (by decide) (by decide), _, _, rfl, rfl, _, 3, rfl, rfl, ⟨by decide, by decide, w1⟩, _, _, rfl, rfl, pos3, ?_⟩
      have x0 := Int.emod_nonneg ((b + 15488653 * (c + 1)) ^ 3) (Int.ne_of_gt pos3)
      have x1 := Int.emod_lt_of_pos ((b + 15488653 * (c + 1)) ^ 3) pos3
      have w2 : ((b + 15488653 * (c + 1)) ^ 3 % 162259276829213363391578010288127 + 32454427 * (c + 1)).natAbs < 2 ^ 1000000 := Nat.lt_of_lt_of_le (m := 2 ^ 200) (by omega) (Nat.pow_le_pow_right (by decide) (by decide))
      refine ⟨_, rfl, _, rfl, r, _, 2, _, rfl, rfl, sq2, rfl, _, _, rfl, rfl, wide_mul (a := 100) (b := 100) (by decide) hc (by decide) (by decide) (by decide), _, _, rfl, rfl, _, 5, rfl, rfl, ⟨by decide, by decide, w2⟩, _, _, rfl, rfl, pos4, ?_⟩
      refine ⟨_, rfl, _, _, rfl, rfl, wide_div pos5 (b := 100) (by decide) (by decide) (by decide), _, rfl, _, lim, rfl, rfl, l0, ?_⟩
      exact q _ _ (Int.emod_nonneg _ (Int.ne_of_gt l0)) (Int.emod_lt_of_pos _ l0) dr
end
end Fr

namespace Fr
open PySem PySem.Spec PyProof.Rows L2
/-- all but one place -/
def cutr (H : Hp) (r : Addr) : Hp := fun b => if b = r then none else H b
theorem cutr_ne {H : Hp} {r b : Addr} (h : b ≠ r) : cutr H r b = H b := if_neg h
theorem RS.cut {r : Addr} {m : Nat} {H : Hp} (h : RngOk H r m) : RS r m (cutr H r) H := ⟨fun b o e => by
  unfold cutr at e
  split at e
  · cases e
  · exact e, if_pos rfl, h⟩
section
variable {P : Program} {w : World} {K : PySem.W.Frag} {mg : Str → Option Value} {base : Heap}
def Good (d : PyData) : Prop := d.canLay0 = true ∧ d.depth ≤ 30
theorem goods : ∀ {ds : List PyData}, (∀ d ∈ ds, Good d) → PyData.canLayAll0 ds = true ∧ PyData.depthAll ds ≤ 30
  | [], _ => ⟨by simp [PyData.canLayAll0], by simp [PyData.depthAll]⟩
  | d :: ds, h => by
    obtain ⟨h1, h2⟩ := h d List.mem_cons_self
    obtain ⟨h3, h4⟩ := goods fun e he => h e (List.mem_cons_of_mem _ he)
    exact ⟨by simp [PyData.canLayAll0, h1, h3], by simp [PyData.depthAll]; omega⟩
theorem shaped_list {ds : List PyData} (h : ∀ d ∈ ds, Good d) : SeqAt.shaped (.list ds) = true := by
  obtain ⟨h1, h2⟩ := goods h
  unfold SeqAt.shaped
  rw [Bool.and_eq_true]
  refine ⟨by simpa [PyData.canLay0] using h1, decide_eq_true ?_⟩
  simp [PyData.depth]
  omega
theorem eqv_nil (ds : List PyData) : PyData.eqv (.list ds) (.list []) = ds.isEmpty := by
  cases ds <;> simp [PyData.eqv, PyData.eqvAll]
theorem dps_erase : ∀ {H : Hp} {ds : List PyData} {vs : List V} {k : Nat}, DpAll K H vs ds → DpAll K H (vs.eraseIdx k) (ds.eraseIdx k)
  | _, [], _, _, h => by cases h; exact .nil
  | _, d :: ds, _, 0, h => by
    cases h with
    | cons h1 h2 => exact h2
  | _, d :: ds, _, k + 1, h => by
    cases h with
    | cons h1 h2 => exact .cons h1 (dps_erase h2)
theorem perm_erase {α : Type} : ∀ {xs : List α} {k : Nat} {x : α}, xs[k]? = some x → List.Perm xs (x :: xs.eraseIdx k)
  | [], _, _, h => by cases h
  | y :: xs, 0, x, h => by cases h; exact .refl _
  | y :: xs, k + 1, x, h => by
    have := perm_erase (xs := xs) (k := k) (x := x) (by simpa using h)
    exact (this.cons y).trans (.swap _ _ _)
end
end Fr

namespace Fr
open PySem PySem.Spec PyProof.Rows L2
/-- a statement, up to what holds behind it -/
def tCsq (t : TS) : TS := fun D σ H => ∃ N : L2.St → Hp → Prop, (∀ σ H, N σ H → D.nx σ H) ∧ t { D with nx := N } σ H
theorem ps_csq {X : Cx} {st : Stmt} {t : TS} (h : PS X st t) : PS X st (tCsq t) := ⟨fun pins s σ H D I ⟨N, hN, q⟩ => thn (h.run pins s σ H _ I q) fun f s2 q2 => by
  cases f with
  | next =>
    obtain ⟨σ3, H3, I3, n3⟩ := q2
    exact ⟨σ3, H3, I3, hN _ _ n3⟩
  | cont => exact q2
  | brk => exact q2
  | ret v => exact q2⟩
def W0 : List Str := ["a", "b", "c", "ab", "zz", "readhere"]
def row5 (x : Str) : Str := "row" ++ cutS x none (some 5)
theorem W0_names : ∀ x ∈ W0, isName x = true ∧ isName (row5 x) = true ∧ x.length ≤ 8 ∧ PyData.strOk x = true ∧ PyData.strOk (row5 x) = true ∧ (cutS x none (some 5)).length ≤ 5 := by decide +kernel
theorem W0_nodup : W0.Nodup := by decide +kernel
theorem W0_nodup5 : (W0.map row5).Nodup := by decide +kernel
/-- what words may be -/
structure Words (ws : List Str) (n : Nat) : Prop where
  len : ws.length = n
  nodup : ws.Nodup
  names : ∀ x ∈ ws, isName x = true
  oks : ∀ x ∈ ws, PyData.strOk x = true
  src : (∀ x ∈ ws, x ∈ W0) ∨ ∀ x ∈ ws, x ∈ W0.map row5
def unstr : PyData → Str
  | .str x => x
  | _ => Str.empty
theorem perm_words {es : List PyData} (h : List.Perm (W0.map PyData.str) es) : ∃ ws, es = ws.map PyData.str ∧ List.Perm W0 ws := by
  refine ⟨es.map unstr, ?_, ?_⟩
  · rw [List.map_map]
    refine (List.map_id es).symm.trans (List.map_congr_left fun e he => ?_)
    obtain ⟨x, _, rfl⟩ := List.mem_map.mp (h.mem_iff.mpr he)
    rfl
  · have := h.map unstr
    rw [List.map_map] at this
    have e : W0.map (unstr ∘ PyData.str) = W0 := by
      refine (List.map_congr_left fun e he => ?_).trans (List.map_id W0)
      rfl
    rw [e] at this
    exact this
theorem nthsf (l : List Str) (g : Str → Str) : (List.range l.length).map (fun i => V.str (g (nth l i))) = (l.map g).map V.str := by
  have := range_map_get ((l.map g).map V.str) (fun i => V.str (g (nth l i))) (fun i b hb => by
    rw [List.getElem?_map, List.getElem?_map] at hb
    obtain ⟨c, h1, h2⟩ := Option.map_eq_some_iff.mp hb
    obtain ⟨c', h3, h4⟩ := Option.map_eq_some_iff.mp h1
    rw [nth_of h3, h4]
    exact h2)
  rw [List.length_map, List.length_map] at this
  exact this
theorem RS.grow {r : Addr} {m : Nat} {B H H' : Hp} (h : RS r m B H) (e : Same H H') : RS r m B H' := ⟨same_tr h.s e, h.n, by
  obtain ⟨o, ho⟩ := h.ok.some
  exact h.ok.at (by rw [ho, e _ _ ho])⟩
section
variable {P : Program} {w : World} {K : PySem.W.Frag} {mg : Str → Option Value} {base : Heap}
theorem strs_dps {H : Hp} : ∀ (xs : List Str), DpAll K H (xs.map V.str) (xs.map PyData.str)
  | [] => .nil
  | x :: xs => .cons (.str x) (strs_dps xs)
theorem dps_strs {H : Hp} : ∀ {xs : List Str} {vs : List V}, DpAll K H vs (xs.map PyData.str) → vs = xs.map V.str
  | [], _, h => by cases h; rfl
  | n :: ns, _, h => by
    cases h with
    | cons h1 h2 => cases h1; rw [dps_strs h2]; rfl
structure Row1 where
  t : Addr
  w : Str
  c : Int
  l : Addr
  rs : List Rd1
def Row1.tb (y : Row1) : Tb := ⟨y.w, y.c, y.rs⟩
structure RowsAt (K : PySem.W.Frag) (B H : Hp) (r : Addr) (rows : List Row1) : Prop where
  at_ : ∀ (i : Nat) (y : Row1), rows[i]? = some y → SqT K B y.t [.str y.w, .int y.c, .ref y.l] ∧ B y.l = none ∧ r ≠ y.l ∧ ∃ xs, H y.l = some (.lst xs) ∧ DpAll K B xs (y.rs.map Rd1.d)
  inj : ∀ (i j : Nat) (y z : Row1), rows[i]? = some y → rows[j]? = some z → y.l = z.l → i = j
theorem RowsAt.step {B B' H H' : Hp} {r : Addr} {rows : List Row1} (h : RowsAt K B H r rows) (e : Same B B') (f : ∀ (i : Nat) (y : Row1), rows[i]? = some y → B' y.l = none ∧ H' y.l = H y.l) : RowsAt K B' H' r rows :=
  ⟨fun i y hy => by
    obtain ⟨a1, a2, a3, xs, a4, a5⟩ := h.at_ i y hy
    obtain ⟨b1, b2⟩ := f i y hy
    exact ⟨sqt e a1, b1, a3, xs, by rw [b2, a4], dpsm e _ _ a5⟩, h.inj⟩
theorem get_snoc {α : Type} {xs : List α} {x y : α} {i : Nat} (h : (xs ++ [x])[i]? = some y) : (xs[i]? = some y ∧ i < xs.length) ∨ (i = xs.length ∧ y = x) := by
  by_cases hi : i < xs.length
  · rw [List.getElem?_append_left hi] at h
    exact .inl ⟨h, hi⟩
  · rw [List.getElem?_append_right (by omega)] at h
    have : i - xs.length = 0 := by
      by_cases h0 : i - xs.length = 0
      · exact h0
      · rw [List.getElem?_eq_none (by simp; omega)] at h
        cases h
    rw [this] at h
    cases h
    exact .inr ⟨by omega, rfl⟩
theorem RowsAt.snoc {B H : Hp} {r : Addr} {rows : List Row1} {y : Row1} (h : RowsAt K B H r rows) (a : SqT K B y.t [.str y.w, .int y.c, .ref y.l]) (b : B y.l = none) (c : r ≠ y.l) (d : H y.l = some (.lst [])) (e : y.rs = []) (n : ∀ (i : Nat) (z : Row1), rows[i]? = some z → z.l ≠ y.l) : RowsAt K B H r (rows ++ [y]) :=
  ⟨fun i z hz => by
    rcases get_snoc hz with ⟨h1, _⟩ | ⟨_, rfl⟩
    · exact h.at_ i z h1
    · exact ⟨a, b, c, [], d, by rw [e]; exact .nil⟩, fun i j y' z hy hz hl => by
    rcases get_snoc hy with ⟨h1, k1⟩ | ⟨k1, rfl⟩ <;> rcases get_snoc hz with ⟨h2, k2⟩ | ⟨k2, rfl⟩
    · exact h.inj i j _ _ h1 h2 hl
    · exact absurd hl (n _ _ h1)
    · exact absurd hl.symm (n _ _ h2)
    · omega⟩
theorem get_set {α : Type} {xs : List α} {x y : α} {i j : Nat} (h : (xs.set j x)[i]? = some y) : (i = j ∧ y = x) ∨ (i ≠ j ∧ xs[i]? = some y) := by
  by_cases hi : j = i
  · subst hi
    rw [List.getElem?_set_self'] at h
    cases hx : xs[j]? with
    | none =>
      rw [hx] at h
      cases h
    | some z =>
      rw [hx] at h
      cases h
      exact .inl ⟨rfl, rfl⟩
  · rw [List.getElem?_set_ne hi] at h
    exact .inr ⟨fun e => hi e.symm, h⟩
theorem map_set_same {α β : Type} {xs : List α} {x y : α} {j : Nat} {f : α → β} (h : xs[j]? = some y) (e : f x = f y) : (xs.set j x).map f = xs.map f := by
  rw [List.map_set, e]
  refine List.ext_getElem? fun i => ?_
  by_cases hi : j = i
  · subst hi
    rw [List.getElem?_set_self', List.getElem?_map, h]
    rfl
  · rw [List.getElem?_set_ne hi]
theorem sum_set {α : Type} {f : α → Nat} : ∀ {xs : List α} {x y : α} {j : Nat}, xs[j]? = some y → f x = f y + 1 → ((xs.set j x).map f).sum = (xs.map f).sum + 1
  | [], _, _, _, h, _ => by cases h
  | z :: xs, x, y, 0, h, e => by
    cases h
    simp [e]
    omega
  | z :: xs, x, y, j + 1, h, e => by
    have := sum_set (xs := xs) (x := x) (y := y) (j := j) (by simpa using h) e
    rw [List.set_cons_succ, List.map_cons, List.map_cons, List.sum_cons, List.sum_cons, this]
    omega
/-- a read more at the j-th row -/
theorem RowsAt.put {B H : Hp} {r : Addr} {rows : List Row1} {y : Row1} {j : Nat} {rd : Rd1} {v : V} {xs : List V} (h : RowsAt K B H r rows) (e : rows[j]? = some y) (hx : H y.l = some (.lst xs)) (hv : Dp K B v rd.d) :
    RowsAt K B (upd H y.l (.lst (xs ++ [v]))) r (rows.set j { y with rs := y.rs ++ [rd] }) :=
  ⟨fun i z hz => by
    rcases get_set hz with ⟨rfl, rfl⟩ | ⟨ne, hz⟩
    · obtain ⟨a1, a2, a3, xs', a4, a5⟩ := h.at_ _ y e
      rw [hx] at a4
      cases a4
      refine ⟨a1, a2, a3, xs ++ [v], upd_same, ?_⟩
      show DpAll K B (xs ++ [v]) ((y.rs ++ [rd]).map Rd1.d)
      rw [List.map_append]
      exact dps_snoc a5 hv
    · obtain ⟨a1, a2, a3, xs', a4, a5⟩ := h.at_ _ z hz
      refine ⟨a1, a2, a3, xs', ?_, a5⟩
      rw [upd_ne fun hl => ne (h.inj i j z y hz e hl)]
      exact a4, fun i i' z z' hz hz' hl => by
    rcases get_set hz with ⟨rfl, rfl⟩ | ⟨ne, hz1⟩ <;> rcases get_set hz' with ⟨rfl, rfl⟩ | ⟨ne', hz2⟩
    · rfl
    · exact h.inj _ _ y z' e hz2 hl
    · exact h.inj _ _ z y hz1 e hl
    · exact h.inj _ _ z z' hz1 hz2 hl⟩
theorem RowsAt.dr {B H H' : Hp} {r : Addr} {m : Nat} {rows : List Row1} (h : RowsAt K B H r rows) (d : Dr r m H H') : RowsAt K B H' r rows := h.step same_refl fun j y hy => ⟨(h.at_ j y hy).2.1, d.ne _ (h.at_ j y hy).2.2.1.symm⟩
theorem RowsAt.new {B H : Hp} {r p : Addr} {o : HO} {rows : List Row1} (h : RowsAt K B H r rows) (e : H p = none) : RowsAt K B (upd H p o) r rows := h.step same_refl fun j y hy => by
  obtain ⟨a1, a2, a3, xs, a4, a5⟩ := h.at_ j y hy
  exact ⟨a2, upd_ne (ne_of_none a4 e)⟩
theorem dps_of {α : Type} {H : Hp} {f : α → V} {g : α → PyData} : ∀ {xs : List α}, (∀ x ∈ xs, Dp K H (f x) (g x)) → DpAll K H (xs.map f) (xs.map g)
  | [], _ => .nil
  | x :: xs, h => .cons (h x List.mem_cons_self) (dps_of fun y hy => h y (List.mem_cons_of_mem _ hy))
theorem yes_if {σ : L2.St} {H : Hp} {A B : Hp → Prop} (h : A H) : tYes σ H (fun b H3 => if b = true then A H3 else B H3) := by
  show (if true = true then A H else B H)
  rw [if_pos rfl]
  exact h
theorem mem_le_sum {α : Type} {f : α → Nat} : ∀ {xs : List α} {x : α}, x ∈ xs → f x ≤ (xs.map f).sum
  | [], _, h => by cases h
  | y :: xs, x, h => by
    rw [List.map_cons, List.sum_cons]
    rcases List.mem_cons.mp h with rfl | h
    · omega
    · have := mem_le_sum (f := f) h
      omega
theorem sum_zero {α : Type} {f : α → Nat} : ∀ {xs : List α}, (∀ x ∈ xs, f x = 0) → (xs.map f).sum = 0
  | [], _ => rfl
  | x :: xs, h => by
    rw [List.map_cons, List.sum_cons, h x List.mem_cons_self, sum_zero fun y hy => h y (List.mem_cons_of_mem _ hy)]
theorem RS.vec {r q : Addr} {m m' : Nat} {B H H' : Hp} {o : HO} (h : RS r m B H) (e : RS r m' (upd (cutr H r) q o) H') (n : cutr H r q = none) (k : r ≠ q) : RS r m' (upd B q o) H' ∧ B q = none ∧ H q = none ∧ ∀ b, b ≠ r → H b ≠ none → H' b = H b := by
  have hq : H q = none := by
    rw [cutr_ne k.symm] at n
    exact n
  have keep : ∀ b, b ≠ r → H b ≠ none → H' b = H b := fun b nb hb => by
    cases ho : H b with
    | none => exact absurd ho hb
    | some o' =>
      refine e.s b o' ?_
      rw [upd_ne (ne_of_none ho hq), cutr_ne nb]
      exact ho
  refine ⟨⟨fun b x hx => ?_, by rw [upd_ne k]; exact h.n, e.ok⟩, free_of h.s hq, hq, keep⟩
  by_cases hb : b = q
  · rw [hb, upd_same] at hx
    rw [hb]
    exact e.s q x (by rw [upd_same]; exact hx)
  · rw [upd_ne hb] at hx
    have hH := h.s b x hx
    rw [keep b (ne_of_none hx h.n) (by rw [hH]; exact fun z => by cases z)]
    exact hH
/-- a list of data that may still be changed -/
def LD (K : PySem.W.Frag) (H : Hp) (l : Addr) (ds : List PyData) : Prop := ∃ xs, H l = some (.lst xs) ∧ DpAll K H xs ds
theorem LD.dp {H : Hp} {l : Addr} {ds : List PyData} (h : LD K H l ds) : Dp K H (.ref l) (.list ds) := by
  obtain ⟨xs, h1, h2⟩ := h
  exact .lst (Or.inl (Or.inl h1)) h2
theorem LD.grow {H H' : Hp} {l : Addr} {ds : List PyData} (h : LD K H l ds) (e : Same H H') : LD K H' l ds := by
  obtain ⟨xs, h1, h2⟩ := h
  exact ⟨xs, e _ _ h1, dpsm e _ _ h2⟩
/-- numbers within bounds -/
structure SmT (t : Tb) : Prop where
  c : -99 ≤ t.c ∧ t.c ≤ 99
  f : ∀ rd ∈ t.rs, -10 ≤ rd.f ∧ rd.f ≤ 10
  v : ∀ rd ∈ t.rs, ∀ x ∈ rd.v, -1000 ≤ x ∧ x ≤ 1000
end
end Fr

namespace Fr
open PySem PySem.Spec PyProof.Rows L2
/-- a read of the laws: who, its number, whom, the vector -/
structure RowP where
  w : Str
  n : Nat
  o : Str
  v : List Int
def RowP.d (y : RowP) : PyData := .tuple [.str y.w, .int (y.n : Int), .str y.o, .tuple (y.v.map .int)]
theorem dps4 {K : PySem.W.Frag} {H : Hp} {a b c e : PyData} {vs : List V} (h : DpAll K H vs [a, b, c, e]) : ∃ x y z u, vs = [x, y, z, u] ∧ Dp K H x a ∧ Dp K H y b ∧ Dp K H z c ∧ Dp K H u e := by
  cases h with
  | cons h1 h =>
    obtain ⟨y, z, u, rfl, h2, h3, h4⟩ := dps3 h
    exact ⟨_, _, _, _, rfl, h1, h2, h3, h4⟩
theorem row_at {K : PySem.W.Frag} {H : Hp} {xs : List V} {rows : List RowP} {i : Nat} {x : V} (h : DpAll K H xs (rows.map RowP.d)) (e : xs[i]? = some x) : ∃ y a b, rows[i]? = some y ∧ x = .ref a ∧ SqT K H a [.str y.w, .int (y.n : Int), .str y.o, .ref b] ∧ SqT K H b (y.v.map V.int) := by
  obtain ⟨d, e1, e2⟩ := dps_get h e
  rw [List.getElem?_map] at e1
  obtain ⟨y, e3, rfl⟩ := Option.map_eq_some_iff.mp e1
  obtain ⟨a, zs, rfl, ht, hd⟩ := dtup e2
  obtain ⟨z1, z2, z3, z4, rfl, h1, h2, h3, h4⟩ := dps4 hd
  obtain rfl := dstr h1
  obtain rfl := dint h2
  obtain rfl := dstr h3
  obtain ⟨b, ys, rfl, hb, hy⟩ := dtup h4
  obtain rfl := dps_ints hy
  exact ⟨y, a, b, e3, rfl, ht, hb⟩
theorem good_row (y : RowP) (h1 : PyData.strOk y.w = true) (h2 : PyData.strOk y.o = true) : Good y.d := by
  have hi : ∀ ns : List Int, PyData.canLayAll0 (ns.map PyData.int) = true ∧ PyData.depthAll (ns.map PyData.int) = 0 := by
    intro ns
    induction ns with
    | nil => exact ⟨by simp [PyData.canLayAll0], by simp [PyData.depthAll]⟩
    | cons n ns ih => exact ⟨by simp [PyData.canLayAll0, PyData.canLay0, ih.1], by simp [PyData.depthAll, PyData.depth, ih.2]⟩
  unfold RowP.d
  exact ⟨by simp [PyData.canLay0, PyData.canLayAll0, h1, h2, hi], by simp [PyData.depth, PyData.depthAll, hi]⟩
abbrev s_Lvector : Stmt := topS 58
theorem sc_Lvector : FnScope ["_law_pool_here", "_law_axes", "_law_rows", "_law_found", "_law_axis", "_law_part"] ["_law_pool_here", "_law_axes", "_law_rows"] (defScope s_Lvector) := ⟨rfl, rfl, rfl, by decide +kernel, rfl, by decide +kernel, by decide +kernel⟩
-- slots: 0 _law_pool_here, 1 _law_axes, 2 _law_rows, 3 _law_found, 4 _law_axis, 5 _law_part
section
variable {P : Program} {w : World} {K : PySem.W.Frag} {mg : Str → Option Value} {base : Heap}
def Five (v : List Int) : Prop := ∀ x ∈ v, -5 ≤ x ∧ x ≤ 5
def spVec (K : PySem.W.Frag) : Sp := fun vs H Q _ => ∃ (r lr : Addr) (ax : Int) (m : Nat) (B : Hp) (rows : List RowP), vs = [.ref r, .int ax, .ref lr] ∧ RS r m B H ∧ 1 ≤ ax ∧ ax ≤ 3 ∧ LD K B lr (rows.map RowP.d) ∧ (∀ y ∈ rows, (y.v.length : Int) = ax ∧ Five y.v ∧ PyData.strOk y.w = true ∧ PyData.strOk y.o = true) ∧ rows.length ≤ 100 ∧ m ≤ 2 ^ 59 ∧
  ∀ p H' (v : List Int), B p = none → r ≠ p → (v.length : Int) = ax → Five v → RS r (m + 20) (upd B p (.tup (v.map V.int))) H' → Q (.ref p) H'
theorem ok_vec {f : Addr} {fd : FuncData} (F : Fun K "_law_vector" "_law_vector" s_Lvector f fd) (T : Txt mg) (zm : mg "max" = none) (c_Ldraw : C8.Cal P w K mg base 1 "_law_draw" spDraw []) : FnOk P w K mg base CX0 2 f fd ["_law_pool_here", "_law_axes", "_law_rows"] (spVec K) := by
  refine F.ok sc_Lvector (fun vs H Q E h => ?_) (fun cdv A outer sh H vs Q E hr h => ?_)
  · obtain ⟨r, lr, ax, m, B, rows, rfl, _⟩ := h
    rfl
  · obtain ⟨r, lr, ax, m, B, rows, rfl, R, ha1, ha3, hrw, hrows, hlen, hm, q⟩ := h
    refine ⟨_, (pss_cons (ps_setLc (i := 3) (own := [("_law_axis", 4)]) (g := gName 4) (tt := tYes) (by rfl) sc_Lvector.nd rfl rfl (sw_true rfl rfl rfl (by decide +kernel)) (pi_range1 (by rfl) T.b_range (pa_cons (pv 1) pa_nil)) (blkOk_by (N := ["_law_pool_here", "_law_axes", "_law_rows", "_law_found", "_law_axis", "_law_part"]) (sc := defScope s_Lvector) (by decide +kernel)) (fun _ _ _ _ _ => (pg_name (i := 4) sc_Lvector.nd rfl (by first | exact Or.inl rfl | exact Or.inr rfl))) (fun _ _ _ _ _ => pts_nil) (fun _ _ _ _ _ => (pe_ix (r := rIxL K) ix_list (pe_lst (pa_cons pe_int (pa_cons pe_int (pa_cons pe_int (pa_cons (pe_un un_neg pe_int) (pa_cons pe_int (pa_cons (pe_un un_neg pe_int) (pa_cons pe_int (pa_cons (pe_op op_sub (C8.pe_c c_Ldraw hr (by decide) (by rfl) (pa_cons (pv 0) (pa_cons pe_int pa_nil))) pe_int) pa_nil))))))))) (C8.pe_c c_Ldraw hr (by decide) (by rfl) (pa_cons (pv 0) (pa_cons pe_int pa_nil))) (fun _ _ => rfl))))
  (pss_cons (ps_if (PW.pt (pw_and (pt_cmpR (op_neD hr.units) (pv 2) (pe_lst pa_nil) (nomark _)) (pw_and1 (pt_cmpR op_eq (C8.pe_c c_Ldraw hr (by decide) (by rfl) (pa_cons (pv 0) (pa_cons pe_int pa_nil))) pe_int (nomark _)))))
    (pss_cons (ps_setLc (i := 3) (own := [("_law_part", 5)]) (g := gName 5) (tt := tYes) (by rfl) sc_Lvector.nd rfl rfl (sw_true rfl rfl rfl (by decide +kernel)) (pi_tup (pe_ix ix_tup (pe_ix ix_list (pv 2) (C8.pe_c c_Ldraw hr (by decide) (by rfl) (pa_cons (pv 0) (pa_cons (pe_callB call_len_seq (by rfl) T.b_len PySem.boot_len (pa_cons (pv 2) pa_nil)) pa_nil))) (fun _ _ => rfl)) pe_int (fun _ _ => rfl))) (blkOk_by (N := ["_law_pool_here", "_law_axes", "_law_rows", "_law_found", "_law_axis", "_law_part"]) (sc := defScope s_Lvector) (by decide +kernel)) (fun _ _ _ _ _ => (pg_name (i := 5) sc_Lvector.nd rfl (by first | exact Or.inl rfl | exact Or.inr rfl))) (fun _ _ _ _ _ => pts_nil) (fun _ _ _ _ _ => (pe_op op_sub pe_int (pv 5))))
    (pss_one (ps_if (pt_cmpR op_eq (C8.pe_c c_Ldraw hr (by decide) (by rfl) (pa_cons (pv 0) (pa_cons pe_int pa_nil))) pe_int (nomark _))
      (pss_cons (ps_set (i := 4) sc_Lvector.nd rfl (by first | exact Or.inl rfl | exact Or.inr rfl) (C8.pe_c c_Ldraw hr (by decide) (by rfl) (pa_cons (pv 0) (pa_cons (pv 1) pa_nil))))
      (pss_one (ps_asg (pe_callB (call_max2 rfl) (by rfl) zm (by decide +kernel) (pa_cons (pe_un un_neg pe_int) (pa_cons (pe_callB (call_min2 rfl) (by rfl) T.b_min (by decide +kernel) (pa_cons pe_int (pa_cons (pe_op op_add (pe_ix ix_list (pv 3) (pv 4) (fun _ _ => rfl)) pe_int) pa_nil))) pa_nil))) (pg_sub (pv 3) (pv 4) set_list))))
      pss_nil)))
    pss_nil)
  (pss_one (ps_ret (pe_callTy call_tuple_of (by rfl) T.b_tuple (by decide +kernel) (pa_cons (pv 3) pa_nil)))))), ?_⟩
    refine ⟨_, rfl, ax, rfl, by omega, by omega, fun D hD => ?_⟩
    have bD := free_of R.s hD
    have rD := R.ne hD
    refine lc_it walk_range (fun i H' => ∃ xs : List Int, xs.length = i ∧ Five xs ∧ H' D = some (.lst (xs.map V.int)) ∧ RS r (m + 2 * i) B H') ⟨[], rfl, (by intro x hx; cases hx), upd_same, R.new hD⟩ (fun _ _ _ _ => True.intro) ?_ ?_
    · rintro i y _ H1 hi ⟨xs, e1, e2, e3, e4⟩ ⟨rfl, rfl⟩
      have hi3 : i < 3 := by omega
      refine ⟨rfl, yes_if ?_⟩
      refine ⟨1, rfl, 2, rfl, _, rfl, r, 11, _, rfl, e4.ok, by omega, by decide, by decide, fun d1 H2 d10 d11 D1 => ⟨_, _, rfl, rfl, (by show 8 ≤ sizeLine; decide), fun p hp => ?_⟩⟩
      have R2 := e4.dr D1
      have D2 : H2 D = some (.lst (xs.map V.int)) := by rw [D1.ne _ rD.symm]; exact e3
      have R3 := R2.new (o := .lst ([0, 0, 1, -1, 1, -2, 2, d1 - 5].map V.int)) hp
      have D3 : (upd H2 p (.lst ([0, 0, 1, -1, 1, -2, 2, d1 - 5].map V.int))) D = some (.lst (xs.map V.int)) := snew hp _ _ D2
      have p3 : (upd H2 p (.lst ([0, 0, 1, -1, 1, -2, 2, d1 - 5].map V.int))) p = some (.lst ([0, 0, 1, -1, 1, -2, 2, d1 - 5].map V.int)) := upd_same
      refine ⟨_, rfl, r, 8, _, rfl, R3.ok, by omega, by decide, by decide, fun d2 H4 d20 d21 D4 => ?_⟩
      have R4 := R3.dr D4
      have D5 : H4 D = some (.lst (xs.map V.int)) := by rw [D4.ne _ rD.symm]; exact D3
      have p4 : H4 p = some (.lst ([0, 0, 1, -1, 1, -2, 2, d1 - 5].map V.int)) := by rw [D4.ne _ (R2.ne hp).symm]; exact p3
      obtain ⟨v, a1, a2, _⟩ := atI_in (xs := [0, 0, 1, -1, 1, -2, 2, d1 - 5].map V.int) d20 d21
      obtain ⟨n, hn, rfl⟩ := List.mem_map.mp a2
      have hnb : -5 ≤ n ∧ n ≤ 5 := by
        simp only [List.mem_cons, List.not_mem_nil, or_false] at hn
        omega
      refine ⟨p, _, d2, .int n, rfl, rfl, Or.inl (Or.inl p4), a1, ?_⟩
      refine ⟨_, D5, small1000 (by rw [List.length_map]; omega), xs ++ [n], by rw [List.length_append, e1]; rfl, ?_, by rw [upd_same, List.map_append]; rfl, (R4.put bD rD).mono (by omega)⟩
      intro x hx
      rcases List.mem_append.mp hx with h | h
      · exact e2 x h
      · rw [List.mem_singleton.mp h]
        exact hnb
    · rintro H1 ⟨xs, e1, e2, e3, e4⟩
      have e4 := e4.mono (show m + 2 * ax.toNat ≤ m + 6 by omega)
      have e1 : (xs.length : Int) = ax := by omega
      obtain ⟨rx, r1, r2⟩ := id hrw
      have hxl : rx.length = rows.length := by rw [dps_len r2, List.length_map]
      -- the end
      have fin : ∀ (D : Addr) (H2 : Hp) (xs : List Int) (k : Nat), B D = none → r ≠ D → H2 D = some (.lst (xs.map V.int)) → (xs.length : Int) = ax → Five xs → RS r (m + k) B H2 → k ≤ 20 → ∃ (a : Addr) (ys : List V), [V.ref D] = [V.ref a] ∧ ((SqL K H2 a ys ∧ ∀ l, H2 l = none → Q (.ref l) (upd H2 l (.tup ys))) ∨ (SqT K H2 a ys ∧ Q (.ref a) H2)) := fun D H2 xs k b1 b2 b3 b4 b5 b6 b7 =>
        ⟨D, _, rfl, Or.inl ⟨Or.inl (Or.inl b3), fun l hl => q l _ xs (free_of b6.s hl) (b6.ne hl) b4 b5 (((b6.new hl).keep upd_same (free_of b6.s hl) (b6.ne hl)).mono (by omega))⟩⟩
      refine ⟨_, rfl, Nat.zero_le _, fun p hp => ⟨.list (rows.map RowP.d), .list [], .lst (Or.inl (Or.inl (snew hp _ _ (e4.s _ _ r1)))) (dpsm (same_tr e4.s (snew hp)) _ _ r2), .lst (Or.inl (Or.inl upd_same)) .nil, shaped_list (fun d hd => by
        obtain ⟨y, hy, rfl⟩ := List.mem_map.mp hd
        exact good_row y (hrows y hy).2.2.1 (hrows y hy).2.2.2), shaped_list (by intro d h; cases h), _, rfl, ?_⟩⟩
      rw [eqv_nil]
      have D1 : (upd H1 p (.lst [])) D = some (.lst (xs.map V.int)) := snew hp _ _ e3
      have R1 : RS r (m + 6) B (upd H1 p (.lst [])) := e4.new hp
      generalize upd H1 p (.lst []) = H2 at D1 R1
      clear e3 e4
      cases hrows0 : rows with
      | nil =>
        refine iteF ?_
        exact ⟨_, rfl, fin D H2 xs 6 bD rD D1 e1 e2 R1 (by decide)⟩
      | cons y0 ys0 =>
        rw [← hrows0]
        have hpos : 0 < rows.length := by rw [hrows0]; exact Nat.succ_pos _
        have hne : (rows.map RowP.d).isEmpty = false := by rw [hrows0]; rfl
        rw [hne]
        refine iteT ?_
        refine ⟨_, rfl, r, 3, _, rfl, R1.ok, by omega, by decide, by decide, fun d3 H3 d30 d31 D3 => ⟨rfl, _, rfl, ?_⟩⟩
        have R3 := R1.dr D3
        have Da : H3 D = some (.lst (xs.map V.int)) := by rw [D3.ne _ rD.symm]; exact D1
        refine ite2 (fun _ => ?_) (fun _ => ⟨_, rfl, fin D H3 xs (6 + 1) bD rD Da e1 e2 R3 (by decide)⟩)
        refine ⟨_, rfl, _, rfl, _, rfl, lr, rx, rfl, Or.inl (Or.inl (Or.inl (R3.s _ _ r1))), r, _, _, rfl, R3.ok, by omega, by omega, by omega, fun d4 H4 d40 d41 D4 => ?_⟩
        have R4 := R3.dr D4
        obtain ⟨vy, a1, a2, a3⟩ := atI_in (xs := rx) d40 d41
        obtain ⟨y, ya, yb, b1, rfl, b2, b3⟩ := row_at r2 a3
        have hy := hrows y (List.mem_of_getElem? b1)
        refine ⟨lr, rx, d4, _, rfl, rfl, Or.inl (Or.inl (R4.s _ _ r1)), a1, ya, _, 3, _, rfl, rfl, sqt R4.s b2, rfl, yb, rfl, ⟨_, sqt R4.s b3⟩, fun E hE => ?_⟩
        have bE := free_of R4.s hE
        have rE := R4.ne hE
        refine lc_it (walk_tup (K := K) (a := yb) (xs := y.v.map V.int)) (fun i H' => ∃ zs : List Int, zs.length = i ∧ Five zs ∧ H' E = some (.lst (zs.map V.int)) ∧ RS r (m + 6 + 1 + 1) B H') ⟨[], rfl, (by intro x hx; cases hx), upd_same, R4.new hE⟩ (fun i H' _ ⟨zs, _, _, _, c4⟩ => sqt c4.s b3) ?_ ?_
        · rintro i x _ H5 hi ⟨zs, c1, c2, c3, c4⟩ ⟨rfl, hx⟩
          rw [List.getElem?_map] at hx
          obtain ⟨n, hn, rfl⟩ := Option.map_eq_some_iff.mp hx
          have nb := hy.2.1 n (List.mem_of_getElem? hn)
          rw [List.length_map] at hi
          refine ⟨rfl, yes_if ?_⟩
          refine ⟨_, rfl, _, _, rfl, rfl, _, c3, small1000 (by rw [List.length_map]; omega), zs ++ [0 - n], by rw [List.length_append, c1]; rfl, ?_, by rw [upd_same, List.map_append]; rfl, c4.put bE rE⟩
          intro x hx
          rcases List.mem_append.mp hx with h | h
          · exact c2 x h
          · rw [List.mem_singleton.mp h]
            omega
        · rintro H5 ⟨zs, c1, c2, c3, c4⟩
          rw [List.length_map] at c1
          have zl : (zs.length : Int) = ax := by omega
          refine ⟨_, rfl, r, 2, _, rfl, c4.ok, by omega, by decide, by decide, fun d6 H6 d60 d61 D6 => ⟨rfl, _, rfl, ?_⟩⟩
          have R6 := c4.dr D6
          have E6 : H6 E = some (.lst (zs.map V.int)) := by rw [D6.ne _ rE.symm]; exact c3
          refine ite2 (fun _ => ?_) (fun _ => ⟨_, rfl, fin E H6 zs (6 + 1 + 1 + 1) bE rE E6 zl c2 R6 (by decide)⟩)
          refine ⟨_, rfl, _, rfl, r, ax, _, rfl, R6.ok, by omega, by omega, by omega, fun d7 H7 d70 d71 D7 => ?_⟩
          have R7 := R6.dr D7
          have E7 : H7 E = some (.lst (zs.map V.int)) := by rw [D7.ne _ rE.symm]; exact E6
          have d71' : d7 < ((zs.map V.int).length : Int) := by rw [List.length_map, zl]; exact d71
          obtain ⟨vz, f1, f2, f3⟩ := atI_in (xs := zs.map V.int) d70 d71'
          obtain ⟨n, hn, rfl⟩ := List.mem_map.mp f2
          have hix : ixN (zs.map V.int).length d7 = some d7.toNat := by
            unfold ixN
            rw [if_pos d70, if_pos d71']
          refine ⟨5, rfl, _, rfl, _, rfl, E, _, d7, _, rfl, rfl, Or.inl (Or.inl E7), f1, n, 1, rfl, rfl, _, _, rfl, _, _, rfl, ?_⟩
          refine ⟨_, rfl, _, rfl, E, _, d7, d7.toNat, rfl, rfl, E7, hix, ?_⟩
          have em : ∀ k : Int, (zs.map V.int).set d7.toNat (.int k) = (zs.set d7.toNat k).map V.int := fun k => by rw [List.map_set]
          rw [em]
          refine ⟨_, rfl, fin E _ (zs.set d7.toNat _) (6 + 1 + 1 + 1 + 1) bE rE upd_same (by rw [List.length_set]; exact zl) ?_ (R7.put bE rE) (by decide)⟩
          intro x hx
          rcases List.mem_or_eq_of_mem_set hx with h | h
          · exact c2 x h
          · rw [h]
            split <;> split <;> omega
end
end Fr

namespace Fr
open PySem PySem.Spec PyProof.Rows L2
abbrev s_Ltables : Stmt := topS 59
theorem sc_Ltables : FnScope ["_law_pool_here", "_law_axes", "_law_most", "_law_start", "_law_titles", "_law_sign", "_law_held", "_law_rows", "_law_title", "_law_turn", "_law_spot", "_law_place", "_law_row", "_law_some"] ["_law_pool_here", "_law_axes", "_law_most"] (defScope s_Ltables) := ⟨rfl, rfl, rfl, by decide +kernel, rfl, by decide +kernel, by decide +kernel⟩
-- slots: 0 _law_pool_here, 1 _law_axes, 2 _law_most, 3 _law_start, 4 _law_titles, 5 _law_sign, 6 _law_held, 7 _law_rows, 8 _law_title, 9 _law_turn, 10 _law_spot, 11 _law_place, 12 _law_row, 13 _law_some
def PN : List Str := ["b", "a", "ab", "m"]
def stN (k : Nat) : Str := cutS "readin" none (some (k : Int))
theorem PN_facts : ∀ k ∈ List.range 7, (∀ x ∈ PN, isName (stN k ++ x) = true ∧ PyData.strOk (stN k ++ x) = true ∧ (stN k).length + x.length ≤ 100) ∧ (PN.map fun x => stN k ++ x).Nodup := by decide +kernel
theorem PN_zz : ∀ k ∈ List.range 7, ∀ x ∈ PN, stN k ++ x ≠ ("zz" : Str) := by decide +kernel
section
variable {P : Program} {w : World} {K : PySem.W.Frag} {mg : Str → Option Value} {base : Heap}
structure Held where
  l : Addr
  rs : List Rd1
structure HeldAt (K : PySem.W.Frag) (B H : Hp) (r : Addr) (hs : List Held) : Prop where
  at_ : ∀ (i : Nat) (y : Held), hs[i]? = some y → B y.l = none ∧ r ≠ y.l ∧ ∃ xs, H y.l = some (.lst xs) ∧ DpAll K B xs (y.rs.map Rd1.d)
  inj : ∀ (i j : Nat) (y z : Held), hs[i]? = some y → hs[j]? = some z → y.l = z.l → i = j
theorem HeldAt.step {B B' H H' : Hp} {r : Addr} {hs : List Held} (h : HeldAt K B H r hs) (e : Same B B') (f : ∀ (i : Nat) (y : Held), hs[i]? = some y → B' y.l = none ∧ H' y.l = H y.l) : HeldAt K B' H' r hs :=
  ⟨fun i y hy => by
    obtain ⟨a2, a3, xs, a4, a5⟩ := h.at_ i y hy
    obtain ⟨b1, b2⟩ := f i y hy
    exact ⟨b1, a3, xs, by rw [b2, a4], dpsm e _ _ a5⟩, h.inj⟩
theorem HeldAt.dr {B H H' : Hp} {r : Addr} {m : Nat} {hs : List Held} (h : HeldAt K B H r hs) (d : Dr r m H H') : HeldAt K B H' r hs := h.step same_refl fun j y hy => ⟨(h.at_ j y hy).1, d.ne _ (h.at_ j y hy).2.1.symm⟩
theorem HeldAt.new {B H : Hp} {r p : Addr} {o : HO} {hs : List Held} (h : HeldAt K B H r hs) (e : H p = none) : HeldAt K B (upd H p o) r hs := h.step same_refl fun j y hy => by
  obtain ⟨a2, a3, xs, a4, a5⟩ := h.at_ j y hy
  exact ⟨a2, upd_ne (ne_of_none a4 e)⟩
/-- a new thing that the base keeps -/
theorem HeldAt.keep {B H : Hp} {r p : Addr} {o : HO} {hs : List Held} (h : HeldAt K B H r hs) (k : B p = none) (n : ∀ (i : Nat) (y : Held), hs[i]? = some y → y.l ≠ p) : HeldAt K (upd B p o) H r hs := h.step (snew k) fun j y hy => ⟨by rw [upd_ne (n j y hy)]; exact (h.at_ j y hy).1, rfl⟩
theorem HeldAt.snoc {B H : Hp} {r l : Addr} {hs : List Held} (h : HeldAt K B H r hs) (b : B l = none) (c : r ≠ l) (d : H l = some (.lst [])) (n : ∀ (i : Nat) (z : Held), hs[i]? = some z → z.l ≠ l) : HeldAt K B H r (hs ++ [⟨l, []⟩]) :=
  ⟨fun i z hz => by
    rcases get_snoc hz with ⟨h1, _⟩ | ⟨_, rfl⟩
    · exact h.at_ i z h1
    · exact ⟨b, c, [], d, .nil⟩, fun i j y' z hy hz hl => by
    rcases get_snoc hy with ⟨h1, k1⟩ | ⟨k1, rfl⟩ <;> rcases get_snoc hz with ⟨h2, k2⟩ | ⟨k2, rfl⟩
    · exact h.inj i j _ _ h1 h2 hl
    · exact absurd hl (n _ _ h1)
    · exact absurd hl.symm (n _ _ h2)
    · omega⟩
theorem HeldAt.put {B H : Hp} {r : Addr} {hs : List Held} {y : Held} {j : Nat} {rd : Rd1} {v : V} {xs : List V} (h : HeldAt K B H r hs) (e : hs[j]? = some y) (hx : H y.l = some (.lst xs)) (hv : Dp K B v rd.d) :
    HeldAt K B (upd H y.l (.lst (xs ++ [v]))) r (hs.set j { y with rs := y.rs ++ [rd] }) :=
  ⟨fun i z hz => by
    rcases get_set hz with ⟨rfl, rfl⟩ | ⟨ne, hz⟩
    · obtain ⟨a2, a3, xs', a4, a5⟩ := h.at_ _ y e
      rw [hx] at a4
      cases a4
      refine ⟨a2, a3, xs ++ [v], upd_same, ?_⟩
      show DpAll K B (xs ++ [v]) ((y.rs ++ [rd]).map Rd1.d)
      rw [List.map_append]
      exact dps_snoc a5 hv
    · obtain ⟨a2, a3, xs', a4, a5⟩ := h.at_ _ z hz
      refine ⟨a2, a3, xs', ?_, a5⟩
      rw [upd_ne fun hl => ne (h.inj i j z y hz e hl)]
      exact a4, fun i i' z z' hz hz' hl => by
    rcases get_set hz with ⟨rfl, rfl⟩ | ⟨ne, hz1⟩ <;> rcases get_set hz' with ⟨rfl, rfl⟩ | ⟨ne', hz2⟩
    · rfl
    · exact h.inj _ _ y z' e hz2 hl
    · exact h.inj _ _ z y hz1 e hl
    · exact h.inj _ _ z z' hz1 hz2 hl⟩
structure TbI (ax : Int) (ts : List Str) (hs : List Held) (rows : List RowP) (i : Nat) : Prop where
  few : (hs.map fun y => y.rs.length).sum = i
  rlen : rows.length = i
  rok : ∀ y ∈ rows, (y.v.length : Int) = ax ∧ Five y.v ∧ PyData.strOk y.w = true ∧ PyData.strOk y.o = true
  ok : ∀ y ∈ hs, ∀ rd ∈ y.rs, isRead ax rd = true ∧ rd.t ∈ ts ∧ (-10 ≤ rd.f ∧ rd.f ≤ 10) ∧ ∀ x ∈ rd.v, -1000 ≤ x ∧ x ≤ 1000
def spTabs (K : PySem.W.Frag) : Sp := fun vs H Q _ => ∃ (r : Addr) (ax most : Int) (m : Nat) (B : Hp), vs = [.ref r, .int ax, .int most] ∧ RS r m B H ∧ 1 ≤ ax ∧ ax ≤ 3 ∧ 0 ≤ most ∧ most ≤ 12 ∧ m ≤ 2 ^ 58 ∧
  ∀ p B' H' (ts : List Tb), Same B B' → RS r (m + 1000) B' H' → LD K B' p (ts.map Tb.d) → 1 ≤ ts.length → ts.length ≤ 4 → OkT ax ts → (∀ t ∈ ts, PyData.strOk t.n = true ∧ t.n ≠ ("zz" : Str)) → (∀ t ∈ ts, SmT t) → (((ts.map fun t => t.rs.length).sum : Nat) : Int) ≤ most → Q (.ref p) H'
theorem ok_tabs {f : Addr} {fd : FuncData} (F : Fun K "_law_tables" "_law_tables" s_Ltables f fd) (T : Txt mg) (c_Ldraw : C8.Cal P w K mg base 1 "_law_draw" spDraw []) (c_Lvector : C8.Cal P w K mg base 2 "_law_vector" (spVec K) []) : FnOk P w K mg base CX0 3 f fd ["_law_pool_here", "_law_axes", "_law_most"] (spTabs K) := by
  refine F.ok sc_Ltables (fun vs H Q E h => ?_) (fun cdv A outer sh H vs Q E hr h => ?_)
  · obtain ⟨r, ax, most, m, B, rfl, _⟩ := h
    rfl
  · obtain ⟨r, ax, most, m, B, rfl, R, ha1, ha3, hm0, hm12, hm, q⟩ := h
    refine ⟨_, (pss_cons (ps_set (i := 3) sc_Ltables.nd rfl (by first | exact Or.inl rfl | exact Or.inr rfl) (pe_slice sl_str pe_str po_none (po_some (pe_op op_mulW (C8.pe_c c_Ldraw hr (by decide) (by rfl) (pa_cons (pv 0) (pa_cons pe_int pa_nil))) (pe_callTy call_int1 (by rfl) T.b_int (by decide +kernel) (pa_cons (pe_cmpR op_eq (C8.pe_c c_Ldraw hr (by decide) (by rfl) (pa_cons (pv 0) (pa_cons pe_int pa_nil))) pe_int (nomark _)) pa_nil))))))
  (pss_cons (ps_setLc (i := 4) (own := [("_law_sign", 5)]) (g := gName 5) (tt := tYes) (by rfl) sc_Ltables.nd rfl rfl (sw_true rfl rfl rfl (by decide +kernel)) (pi_list (pe_slice sl_list (pe_lst (pa_cons pe_str (pa_cons pe_str (pa_cons pe_str (pa_cons pe_str pa_nil))))) po_none (po_some (pe_op op_add pe_int (C8.pe_c c_Ldraw hr (by decide) (by rfl) (pa_cons (pv 0) (pa_cons pe_int pa_nil))))))) (blkOk_by (N := ["_law_pool_here", "_law_axes", "_law_most", "_law_start", "_law_titles", "_law_sign", "_law_held", "_law_rows", "_law_title", "_law_turn", "_law_spot", "_law_place", "_law_row", "_law_some"]) (sc := defScope s_Ltables) (by decide +kernel)) (fun _ _ _ _ _ => (pg_name (i := 5) sc_Ltables.nd rfl (by first | exact Or.inl rfl | exact Or.inr rfl))) (fun _ _ _ _ _ => pts_nil) (fun _ _ _ _ _ => (pe_op op_add_str (pv 3) (pv 5))))
  (pss_cons (ps_par (i := 6) (j := 7) (by rfl) sc_Ltables.nd rfl rfl (by decide) rfl rfl (pa_cons (pe_lc (own := [("_law_title", 8)]) (g := gName 8) (tt := tYes) (by rfl) sc_Ltables.nd (pi_list (pv 4)) (blkOk_by (N := ["_law_pool_here", "_law_axes", "_law_most", "_law_start", "_law_titles", "_law_sign", "_law_held", "_law_rows", "_law_title", "_law_turn", "_law_spot", "_law_place", "_law_row", "_law_some"]) (sc := defScope s_Ltables) (by decide +kernel)) (fun _ _ _ _ _ => (pg_name (i := 8) sc_Ltables.nd rfl (by first | exact Or.inl rfl | exact Or.inr rfl))) (fun _ _ _ _ _ => pts_nil) (fun _ _ _ _ _ => (pe_lst pa_nil))) (pa_cons (pe_lst pa_nil) pa_nil)) (by rfl))
  (pss_cons (ps_for PassesOwn.never rfl (pi_range1 (by rfl) T.b_range (pa_cons (C8.pe_c c_Ldraw hr (by decide) (by rfl) (pa_cons (pv 0) (pa_cons (pe_op op_add (pv 2) pe_int) pa_nil))) pa_nil)) (pg_name (i := 9) sc_Ltables.nd rfl (by first | exact Or.inl rfl | exact Or.inr rfl))
    (pss_cons (ps_set (i := 10) sc_Ltables.nd rfl (by first | exact Or.inl rfl | exact Or.inr rfl) (C8.pe_c c_Ldraw hr (by decide) (by rfl) (pa_cons (pv 0) (pa_cons (pe_callB call_len_seq (by rfl) T.b_len PySem.boot_len (pa_cons (pv 4) pa_nil)) pa_nil))))
    (pss_cons (ps_set (i := 11) sc_Ltables.nd rfl (by first | exact Or.inl rfl | exact Or.inr rfl) (pe_ix ix_list (pe_lst (pa_cons (pv 10) (pa_cons (C8.pe_c c_Ldraw hr (by decide) (by rfl) (pa_cons (pv 0) (pa_cons (pe_callB call_len_seq (by rfl) T.b_len PySem.boot_len (pa_cons (pv 4) pa_nil)) pa_nil))) pa_nil))) (C8.pe_c c_Ldraw hr (by decide) (by rfl) (pa_cons (pv 0) (pa_cons pe_int pa_nil))) (fun _ _ => rfl)))
    (pss_cons (ps_set (i := 12) sc_Ltables.nd rfl (by first | exact Or.inl rfl | exact Or.inr rfl) (pe_tup (pa_cons (pe_ix ix_list (pv 4) (pv 10) (fun _ _ => rfl)) (pa_cons (pe_callB call_len_seq (by rfl) T.b_len PySem.boot_len (pa_cons (pe_ix ix_list (pv 6) (pv 10) (fun _ _ => rfl)) pa_nil)) (pa_cons (pe_ix ix_list (pv 4) (pv 11) (fun _ _ => rfl)) (pa_cons (C8.pe_c c_Lvector hr (by decide) (by rfl) (pa_cons (pv 0) (pa_cons (pv 1) (pa_cons (pv 7) pa_nil)))) pa_nil))))))
    (pss_cons (ps_expr (pe_bm PySem.F.plainAttrs_list PySem.F.slot_list_append PySem.F.type_list_append mt_append (pe_ix ix_list (pv 6) (pv 10) (fun _ _ => rfl)) (pa_cons (pe_tup (pa_cons (pe_ix ix_tup (pv 12) pe_int (fun _ _ => rfl)) (pa_cons (pe_ix ix_tup (pv 12) pe_int (fun _ _ => rfl)) (pa_cons (pe_ix ix_list (pe_lst (pa_cons pe_int (pa_cons pe_int (pa_cons (pe_un un_neg pe_int) (pa_cons (pe_un un_neg pe_int) pa_nil))))) (C8.pe_c c_Ldraw hr (by decide) (by rfl) (pa_cons (pv 0) (pa_cons pe_int pa_nil))) (fun _ _ => rfl)) pa_nil)))) pa_nil)))
    (pss_one (ps_expr (pe_bm PySem.F.plainAttrs_list PySem.F.slot_list_append PySem.F.type_list_append mt_append (pv 7) (pa_cons (pv 12) pa_nil)))))))))
  (pss_one (ps_ret (pe_lc (own := [("_law_title", 8), ("_law_some", 13)]) (g := gTup K 2 (gCons (gName 8) (gCons (gName 13) gNil))) (tt := tYes) (by rfl) sc_Ltables.nd (pi_zip (by rfl) T.b_zip (pa_cons (pv 4) (pa_cons (pv 6) pa_nil))) (blkOk_by (N := ["_law_pool_here", "_law_axes", "_law_most", "_law_start", "_law_titles", "_law_sign", "_law_held", "_law_rows", "_law_title", "_law_turn", "_law_spot", "_law_place", "_law_row", "_law_some"]) (sc := defScope s_Ltables) (by decide +kernel)) (fun _ _ _ _ _ => (pg_tup rfl (pgs_cons (pg_name (i := 8) sc_Ltables.nd rfl (by first | exact Or.inl rfl | exact Or.inr rfl)) (pgs_cons (pg_name (i := 13) sc_Ltables.nd rfl (by first | exact Or.inl rfl | exact Or.inr rfl)) pgs_nil)))) (fun _ _ _ _ _ => pts_nil) (fun _ _ _ _ _ => (pe_tup (pa_cons (pv 8) (pa_cons (pe_op op_sub (C8.pe_c c_Ldraw hr (by decide) (by rfl) (pa_cons (pv 0) (pa_cons pe_int pa_nil))) pe_int) (pa_cons (pv 13) pa_nil)))))))))))), ?_⟩
    -- start
    refine ⟨_, rfl, r, 7, _, rfl, R.ok, by omega, by decide, by decide, fun d1 H1 d10 d11 D1 => ?_⟩
    have R1 := R.dr D1
    refine ⟨_, rfl, r, 3, _, rfl, R1.ok, by omega, by decide, by decide, fun d2 H2 d20 d21 D2 => ?_⟩
    have R2 := R1.dr D2
    have hk : ∃ k : Nat, k ≤ 6 ∧ d1 * (if decide (V.int d2 = V.int 0) = true then 1 else 0) = (k : Int) := by
      split
      · exact ⟨d1.toNat, by omega, by omega⟩
      · exact ⟨0, by omega, by omega⟩
    obtain ⟨k, hk6, ek⟩ := hk
    obtain ⟨pf, pn⟩ := PN_facts k (List.mem_range.mpr (by omega))
    have pz := PN_zz k (List.mem_range.mpr (by omega))
    refine ⟨rfl, Or.inr ⟨_, rfl, _, _, rfl, rfl, wide_mul (a := 100) (b := 100) (by omega) (by split <;> decide) (by decide) (by decide) (by decide), (k : Int), congrArg V.int ek, _, rfl, by decide +kernel, ?_⟩⟩
    -- titles
    refine ⟨(by show 4 ≤ sizeLine; decide), fun p hp => ?_⟩
    have R3 := R2.new (o := .lst (PN.map V.str)) hp
    have p3 : (upd H2 p (.lst (PN.map V.str))) p = some (.lst (PN.map V.str)) := upd_same
    have rp := R2.ne hp
    refine ⟨_, rfl, r, 4, _, rfl, R3.ok, by omega, by decide, by decide, fun d3 H4 d30 d31 D4 => ⟨1, d3, rfl, rfl, _, rfl, p, _, rfl, Or.inl (Or.inl (by rw [D4.ne _ rp.symm]; exact p3)), fun p2 hp2 => ?_⟩⟩
    have R4 := R3.dr D4
    have ec : cutV (PN.map V.str) none (some (1 + d3)) = (PN.take (1 + d3).toNat).map V.str := by
      have h := cut_take (PN.map V.str) (1 + d3).toNat
      rw [Int.toNat_of_nonneg (by omega)] at h
      rw [h, List.map_take]
    rw [ec]
    have R5 := R4.new (o := .lst ((PN.take (1 + d3).toNat).map V.str)) hp2
    have p5 : (upd H4 p2 (.lst ((PN.take (1 + d3).toNat).map V.str))) p2 = some (.lst ((PN.take (1 + d3).toNat).map V.str)) := upd_same
    generalize upd H4 p2 (.lst ((PN.take (1 + d3).toNat).map V.str)) = H5 at R5 p5
    have hl1 : 1 ≤ (PN.take (1 + d3).toNat).length ∧ (PN.take (1 + d3).toNat).length ≤ 4 := by
      rw [List.length_take]
      show 1 ≤ min _ 4 ∧ min _ 4 ≤ 4
      omega
    have hmem : ∀ x ∈ PN.take (1 + d3).toNat, x ∈ PN := fun x hx => List.mem_of_mem_take hx
    have hnd : ((PN.take (1 + d3).toNat).map fun x => stN k ++ x).Nodup := by
      rw [List.map_take]
      exact pn.sublist (List.take_sublist _ _)
    generalize PN.take (1 + d3).toNat = ss at hl1 hmem hnd p5
    refine ⟨p2, rfl, ⟨_, Or.inl (Or.inl p5)⟩, fun D hD => lc_flat (walk_list (K := K) (a := p2) (xs := ss.map V.str)) (fun i => .str (stN k ++ nth ss i)) (by rw [List.length_map]; omega) hD (fun H' sm => Or.inl (Or.inl (sm _ _ p5))) (fun i H x H' y => yat_same y) ?_ ?_⟩
    · rintro i x H6 H7 hi sm ⟨rfl, hx⟩ R hR
      rw [List.getElem?_map] at hx
      obtain ⟨z, hz, rfl⟩ := Option.map_eq_some_iff.mp hx
      have zz := pf z (hmem z (List.mem_of_getElem? hz))
      refine ⟨rfl, _, rfl, _, rfl, _, _, rfl, rfl, Nat.le_trans zz.2.2 (by rw [sizeLine_eq]; decide), ?_⟩
      have r := hR H7 same_refl
      rw [nth_of hz] at r
      exact r
    · intro H6 sm hD6
      rw [List.length_map, nthsf ss (fun x => stN k ++ x)] at hD6
      have R6 := R5.grow sm
      have bD : B D = none := free_of R5.s hD
      have rD := R5.ne hD
      have K6 := R6.keep hD6 bD rD
      have sB : Same B (upd B D (.lst ((ss.map fun x => stN k ++ x).map V.str))) := snew bD
      have D0 : (upd B D (.lst ((ss.map fun x => stN k ++ x).map V.str))) D = some (.lst ((ss.map fun x => stN k ++ x).map V.str)) := upd_same
      generalize upd B D (.lst ((ss.map fun x => stN k ++ x).map V.str)) = B6 at K6 sB D0
      clear R6 sm R5 R4 R3 R2 R1 R D1 D2 D4 p3 p5 hD hD6
      have ht : ∀ x ∈ ss.map fun x => stN k ++ x, isName x = true ∧ PyData.strOk x = true ∧ x ≠ ("zz" : Str) := fun x hx => by
        obtain ⟨y, hy, rfl⟩ := List.mem_map.mp hx
        exact ⟨(pf y (hmem y hy)).1, (pf y (hmem y hy)).2.1, pz y (hmem y hy)⟩
      have htl : 1 ≤ (ss.map fun x => stN k ++ x).length ∧ (ss.map fun x => stN k ++ x).length ≤ 4 := by rw [List.length_map]; exact hl1
      generalize (ss.map fun x => stN k ++ x) = ts at ht htl hnd D0
      have K6 := K6.mono (show m + 1 + 1 + 1 ≤ m + 3 by omega)
      -- held, rows
      refine ⟨_, rfl, D, rfl, ⟨_, Or.inl (Or.inl (K6.s _ _ D0))⟩, fun E hE => ?_⟩
      have bE := free_of K6.s hE
      have rE := K6.ne hE
      refine lc_it (walk_list (K := K) (a := D) (xs := ts.map V.str)) (fun i H' => ∃ hs : List Held, hs.length = i ∧ (∀ y ∈ hs, y.rs = []) ∧ H' E = some (.lst (hs.map fun y => V.ref y.l)) ∧ RS r (m + 3) B6 H' ∧ HeldAt K B6 H' r hs ∧ ∀ y ∈ hs, y.l ≠ E)
        ⟨[], rfl, (by intro y h; cases h), upd_same, K6.new hE, ⟨fun i y h => (by cases h), fun i j y z h => (by cases h)⟩, (by intro y h; cases h)⟩ (fun i H' _ ⟨_, _, _, _, c4, _⟩ => Or.inl (Or.inl (c4.s _ _ D0))) ?_ ?_
      · rintro i x _ H7 hi ⟨hs, c1, c2, c3, c4, c5, c6⟩ ⟨rfl, hx⟩
        rw [List.length_map] at hi
        refine ⟨rfl, yes_if ⟨Nat.zero_le _, fun l hl => ?_⟩⟩
        have lE : l ≠ E := fun z => by rw [z, c3] at hl; cases hl
        have c4' := c4.new (o := .lst []) hl
        have c5' := (c5.new (o := .lst []) hl).snoc (free_of c4.s hl) (c4.ne hl) upd_same (fun j z hz => by
          obtain ⟨_, _, xs, a4, _⟩ := c5.at_ j z hz
          exact ne_of_none a4 hl)
        have E7 : (upd H7 l (.lst [])) E = some (.lst (hs.map fun y => V.ref y.l)) := snew hl _ _ c3
        refine ⟨_, E7, small1000 (by rw [List.length_map]; omega), hs ++ [⟨l, []⟩], by rw [List.length_append, c1]; rfl, ?_, by rw [upd_same, List.map_append]; rfl, c4'.put bE rE, c5'.step same_refl (fun j y hy => ⟨(c5'.at_ j y hy).1, upd_ne ?_⟩), ?_⟩
        · intro y hy
          rcases List.mem_append.mp hy with h | h
          · exact c2 y h
          · rw [List.mem_singleton.mp h]
        · rcases List.mem_append.mp (List.mem_of_getElem? hy) with h | h
          · exact c6 y h
          · rw [List.mem_singleton.mp h]
            exact lE
        · intro y hy
          rcases List.mem_append.mp hy with h | h
          · exact c6 y h
          · rw [List.mem_singleton.mp h]
            exact lE
      · rintro H7 ⟨hs, c1, c2, c3, c4, c5, c6⟩
        rw [List.length_map] at c1
        have K7 := c4.keep c3 bE rE
        have c5 := c5.keep (o := .lst (hs.map fun y => V.ref y.l)) bE fun j y hy => c6 y (List.mem_of_getElem? hy)
        have sB7 : Same B (upd B6 E (.lst (hs.map fun y => V.ref y.l))) := same_tr sB (snew bE)
        have D7 : (upd B6 E (.lst (hs.map fun y => V.ref y.l))) D = some (.lst (ts.map V.str)) := snew bE _ _ D0
        have E7 : (upd B6 E (.lst (hs.map fun y => V.ref y.l))) E = some (.lst (hs.map fun y => V.ref y.l)) := upd_same
        generalize upd B6 E (.lst (hs.map fun y => V.ref y.l)) = B7 at K7 c5 sB7 D7 E7
        clear c3 c4 K6 D0 sB
        refine ⟨Nat.zero_le _, fun U hU => ⟨_, _, rfl, ?_⟩⟩
        have bU := free_of K7.s hU
        have rU := K7.ne hU
        have lsU : ∀ (j : Nat) (y : Held), hs[j]? = some y → y.l ≠ U := fun j y hy => by
          obtain ⟨_, _, xs, a4, _⟩ := c5.at_ j y hy
          exact ne_of_none a4 hU
        have K8 := K7.new (o := .lst []) hU
        have c5 := c5.new (o := .lst []) hU
        have U8 : (upd H7 U (.lst [])) U = some (.lst []) := upd_same
        generalize upd H7 U (.lst []) = H8 at K8 c5 U8
        clear K7 hU hE
        refine ⟨_, rfl, _, rfl, _, _, rfl, rfl, r, _, _, rfl, K8.ok, by omega, by omega, by omega, fun n H9 n0 n1 D9 => ⟨n, rfl, by omega, by omega, ?_⟩⟩
        have K9 := K8.dr D9
        have U9 : H9 U = some (.lst []) := by rw [D9.ne _ rU.symm]; exact U8
        have c9 := c5.dr D9
        clear K8 c5 U8 D9
        refine for_range (fun i σ H' => ∃ y9 y10 y11 y12, σ = [some (.ref r), some (.int ax), some (.int most), some (.str (stN k)), some (.ref D), none, some (.ref E), some (.ref U), none, y9, y10, y11, y12, none] ∧ ∃ (B' : Hp) (hs' : List Held) (rows : List RowP) (rx : List V), Same B7 B' ∧ RS r (m + 3 + 1 + 40 * i) B' H' ∧ HeldAt K B' H' r hs' ∧ hs'.map (·.l) = hs.map (·.l) ∧ B' U = none ∧ H' U = some (.lst rx) ∧ DpAll K B' rx (rows.map RowP.d) ∧ TbI ax ts hs' rows i)
          ⟨none, none, none, none, rfl, B7, hs, [], [], same_refl, K9, c9, rfl, bU, U9, .nil, ?_⟩ ?_ ?_
        · refine ⟨sum_zero (fun y hy => by rw [c2 y hy]; rfl), rfl, (by intro y hy; cases hy), fun y hy rd hrd => ?_⟩
          rw [c2 y hy] at hrd
          cases hrd
        · rintro i σ H10 hi ⟨y9, y10, y11, y12, rfl, B', hs', rows, rx, s1, K1, h1, e1, bU1, U1, dr1, T1⟩
          have hi12 : i < 13 := by omega
          have lsU' : ∀ (j : Nat) (y : Held), hs'[j]? = some y → y.l ≠ U := fun j y hy => by
            have z := congrArg (fun l : List Addr => l[j]?) e1
            simp only [List.getElem?_map, hy, Option.map_some] at z
            cases hz : hs[j]? with
            | none => rw [hz] at z; cases z
            | some y0 =>
              rw [hz] at z
              rw [Option.some.inj z]
              exact lsU j y0 hz
          have D1 := K1.s _ _ (s1 _ _ D7)
          have tll : ((ts.map V.str).length : Int) ≤ 4 := by rw [List.length_map]; omega
          have tlp : 0 < ((ts.map V.str).length : Int) := by rw [List.length_map]; omega
          -- spot
          refine ⟨_, rfl, _, rfl, D, _, rfl, Or.inl (Or.inl (Or.inl D1)), r, _, _, rfl, K1.ok, by omega, by omega, by omega, fun d4 H11 d40 d41 D11 => ?_⟩
          have K2 := K1.dr D11
          have h2 := h1.dr D11
          have U2 : H11 U = some (.lst rx) := by rw [D11.ne _ rU.symm]; exact U1
          -- place
          refine ⟨_, rfl, _, rfl, _, rfl, D, _, rfl, Or.inl (Or.inl (Or.inl (K2.s _ _ (s1 _ _ D7)))), r, _, _, rfl, K2.ok, by omega, by omega, by omega, fun d5 H12 d50 d51 D12 => ?_⟩
          have K3 := K2.dr D12
          have h3 := h2.dr D12
          have U3 : H12 U = some (.lst rx) := by rw [D12.ne _ rU.symm]; exact U2
          refine ⟨(by show 2 ≤ sizeLine; decide), fun p hp => ?_⟩
          have rp := K3.ne hp
          have K4 := K3.new (o := .lst [.int d4, .int d5]) hp
          have h4 := h3.new (o := .lst [.int d4, .int d5]) hp
          have U4 : (upd H12 p (.lst [.int d4, .int d5])) U = some (.lst rx) := snew hp _ _ U3
          have p4 : (upd H12 p (.lst [.int d4, .int d5])) p = some (.lst [.int d4, .int d5]) := upd_same
          refine ⟨_, rfl, r, 2, _, rfl, K4.ok, by omega, by decide, by decide, fun d6 H13 d60 d61 D13 => ?_⟩
          have K5 := K4.dr D13
          have h5 := h4.dr D13
          have U5 : H13 U = some (.lst rx) := by rw [D13.ne _ rU.symm]; exact U4
          have p5 : H13 p = some (.lst [.int d4, .int d5]) := by rw [D13.ne _ rp.symm]; exact p4
          obtain ⟨pv, a1, a2, _⟩ := atI_in (xs := [V.int d4, V.int d5]) d60 d61
          have hpl : ∃ d7, pv = .int d7 ∧ 0 ≤ d7 ∧ d7 < ((ts.map V.str).length : Int) := by
            simp only [List.mem_cons, List.not_mem_nil, or_false] at a2
            rcases a2 with rfl | rfl
            · exact ⟨_, rfl, d40, d41⟩
            · exact ⟨_, rfl, d50, d51⟩
          obtain ⟨d7, rfl, d70, d71⟩ := hpl
          refine ⟨p, _, d6, _, rfl, rfl, Or.inl (Or.inl p5), a1, ?_⟩
          clear K1 K2 K3 K4 h1 h2 h3 h4 U1 U2 U3 U4 p4 p5 D11 D12 D13 a2 hp
          have E5 := K5.s _ _ (s1 _ _ E7)
          have D5 := K5.s _ _ (s1 _ _ D7)
          obtain ⟨v4, f1, f2, f3⟩ := atI_in (xs := ts.map V.str) d40 d41
          rw [List.getElem?_map] at f3
          obtain ⟨x4, hx4, rfl⟩ := Option.map_eq_some_iff.mp f3
          obtain ⟨v7, g1, g2, g3⟩ := atI_in (xs := ts.map V.str) d70 d71
          rw [List.getElem?_map] at g3
          obtain ⟨x7, hx7, rfl⟩ := Option.map_eq_some_iff.mp g3
          have hel : (hs.map fun y => V.ref y.l).length = (ts.map V.str).length := by rw [List.length_map, List.length_map, c1]
          obtain ⟨vl, k1, k2, k3⟩ := atI_in (xs := hs.map fun y => V.ref y.l) d40 (by rw [hel]; exact d41)
          rw [List.getElem?_map] at k3
          obtain ⟨y0, hy0, rfl⟩ := Option.map_eq_some_iff.mp k3
          obtain ⟨y, hy, ey⟩ : ∃ y, hs'[d4.toNat]? = some y ∧ y.l = y0.l := by
            have z := congrArg (fun l : List Addr => l[d4.toNat]?) e1
            simp only [List.getElem?_map, hy0, Option.map_some] at z
            cases hz : hs'[d4.toNat]? with
            | none => rw [hz] at z; cases z
            | some y =>
              rw [hz] at z
              exact ⟨y, rfl, Option.some.inj z⟩
          obtain ⟨yb, yr, xs, yx, yd⟩ := h5.at_ _ y hy
          rw [← ey] at k1
          have hxl : xs.length = y.rs.length := by rw [dps_len yd, List.length_map]
          have hyl : y.rs.length ≤ i := by rw [← T1.few]; exact mem_le_sum (f := fun y : Held => y.rs.length) (List.mem_of_getElem? hy)
          have sc : Same B' (cutr H13 r) := fun b o e => by
            rw [cutr_ne (ne_of_none e K5.n)]
            exact K5.s b o e
          have mem4 := List.mem_of_getElem? hx4
          have mem7 := List.mem_of_getElem? hx7
          refine ⟨_, rfl, _, rfl, D, _, d4, _, rfl, rfl, Or.inl (Or.inl D5), f1, _, rfl, _, rfl, E, _, d4, _, rfl, rfl, Or.inl (Or.inl E5), k1, y.l, xs, rfl, Or.inl (Or.inl (Or.inl yx)), _, rfl, _, rfl, D, _, d7, _, rfl, rfl, Or.inl (Or.inl D5), g1, _, rfl, _, rfl, _, rfl, r, U, ax, _, cutr H13 r, rows, rfl, RS.cut K5.ok, ha1, ha3, ⟨rx, by rw [cutr_ne rU.symm]; exact U5, dpsm sc _ _ dr1⟩, T1.rok, by rw [T1.rlen]; omega, by omega, fun q1 H14 vv bq rq vl vb RV => ?_⟩
          obtain ⟨K6, bq', hq', keep⟩ := K5.vec RV bq rq
          have h6 : HeldAt K (upd B' q1 (.tup (vv.map V.int))) H14 r hs' := h5.step (snew bq') fun j z hz => by
            obtain ⟨z1, z2, zx, z3, _⟩ := h5.at_ j z hz
            have nq : z.l ≠ q1 := ne_of_none z3 hq'
            exact ⟨by rw [upd_ne nq]; exact z1, keep _ z2.symm (by rw [z3]; exact fun w => by cases w)⟩
          have U6 : H14 U = some (.lst rx) := by rw [keep U rU.symm (by rw [U5]; exact fun w => by cases w)]; exact U5
          have bU6 : (upd B' q1 (.tup (vv.map V.int))) U = none := by rw [upd_ne (ne_of_none U5 hq')]; exact bU1
          have q6 : (upd B' q1 (.tup (vv.map V.int))) q1 = some (.tup (vv.map V.int)) := upd_same
          have s6 : Same B' (upd B' q1 (.tup (vv.map V.int))) := snew bq'
          have dr6 := dpsm s6 _ _ dr1
          have s7 := same_tr s1 s6
          generalize upd B' q1 (.tup (vv.map V.int)) = B6' at K6 h6 bU6 q6 s6 dr6 s7
          clear RV bq keep hq' bq' K5 h5 U5 s6 sc dr1 s1 E5 D5 yb yr yx yd
          refine ⟨(by show 4 ≤ sizeLine; decide), fun u hu => ?_⟩
          have bu := free_of K6.s hu
          have K7 := (K6.new (o := .tup [.str x4, .int (xs.length : Int), .str x7, .ref q1]) hu).keep upd_same bu (K6.ne hu)
          have h7 := (h6.new (o := .tup [.str x4, .int (xs.length : Int), .str x7, .ref q1]) hu).keep (o := .tup [.str x4, .int (xs.length : Int), .str x7, .ref q1]) bu fun j z hz => by
            obtain ⟨_, _, zx, z3, _⟩ := h6.at_ j z hz
            exact ne_of_none z3 hu
          have U7 : (upd H14 u (.tup [.str x4, .int (xs.length : Int), .str x7, .ref q1])) U = some (.lst rx) := snew hu _ _ U6
          have bU7 : (upd B6' u (.tup [.str x4, .int (xs.length : Int), .str x7, .ref q1])) U = none := by rw [upd_ne (ne_of_none U6 hu)]; exact bU6
          have u7 : (upd B6' u (.tup [.str x4, .int (xs.length : Int), .str x7, .ref q1])) u = some (.tup [.str x4, .int (xs.length : Int), .str x7, .ref q1]) := upd_same
          have q7 := snew (o := .tup [.str x4, .int (xs.length : Int), .str x7, .ref q1]) bu _ _ q6
          have dr7 := dpsm (snew (o := .tup [.str x4, .int (xs.length : Int), .str x7, .ref q1]) bu) _ _ dr6
          have s8 := same_tr s7 (snew (o := .tup [.str x4, .int (xs.length : Int), .str x7, .ref q1]) bu)
          generalize upd B6' u (.tup [.str x4, .int (xs.length : Int), .str x7, .ref q1]) = B8 at K7 h7 bU7 u7 q7 dr7 s8
          generalize upd H14 u (.tup [.str x4, .int (xs.length : Int), .str x7, .ref q1]) = H15 at K7 h7 U7
          clear K6 h6 U6 bU6 q6 dr6 s7 hu bu
          -- held[spot].append(..)
          obtain ⟨yb, yr, ys, yx, yd⟩ := h7.at_ _ y hy
          have hyl2 : ys.length = y.rs.length := by rw [dps_len yd, List.length_map]
          have E7' := K7.s _ _ (s8 _ _ E7)
          have u8 := K7.s _ _ u7
          refine ⟨_, rfl, _, rfl, E, _, d4, _, rfl, rfl, Or.inl (Or.inl E7'), k1, Or.inl ⟨rfl, _, Or.inl (Or.inl yx)⟩, ?_⟩
          refine ⟨_, rfl, u, _, 2, _, rfl, rfl, Or.inl (Or.inl u8), rfl, _, rfl, u, _, 3, _, rfl, rfl, Or.inl (Or.inl u8), rfl, 1, rfl, 9, rfl, (by show 4 ≤ sizeLine; decide), fun p2 hp2 => ?_⟩
          have rp2 := K7.ne hp2
          have K8 := K7.new (o := .lst ([1, 2, -1, -9].map V.int)) hp2
          have h8 := h7.new (o := .lst ([1, 2, -1, -9].map V.int)) hp2
          have U8 : (upd H15 p2 (.lst ([1, 2, -1, -9].map V.int))) U = some (.lst rx) := snew hp2 _ _ U7
          have p8 : (upd H15 p2 (.lst ([1, 2, -1, -9].map V.int))) p2 = some (.lst ([1, 2, -1, -9].map V.int)) := upd_same
          refine ⟨_, rfl, r, 4, _, rfl, K8.ok, by omega, by decide, by decide, fun d8 H16 d80 d81 D16 => ?_⟩
          have K9 := K8.dr D16
          have h9 := h8.dr D16
          have U9 : H16 U = some (.lst rx) := by rw [D16.ne _ rU.symm]; exact U8
          have p9 : H16 p2 = some (.lst ([1, 2, -1, -9].map V.int)) := by rw [D16.ne _ rp2.symm]; exact p8
          obtain ⟨vf, a3, a4, _⟩ := atI_in (xs := [1, 2, -1, -9].map V.int) d80 d81
          obtain ⟨ff, hff, rfl⟩ := List.mem_map.mp a4
          have hfb : ff ≠ 0 ∧ -10 ≤ ff ∧ ff ≤ 10 := by
            simp only [List.mem_cons, List.not_mem_nil, or_false] at hff
            omega
          refine ⟨p2, _, d8, _, rfl, rfl, Or.inl (Or.inl p9), a3, (by show 3 ≤ sizeLine; decide), fun u2 hu2 => ?_⟩
          have bu2 := free_of K9.s hu2
          have K10 := (K9.new (o := .tup [.str x7, .ref q1, .int ff]) hu2).keep upd_same bu2 (K9.ne hu2)
          have h10 := (h9.new (o := .tup [.str x7, .ref q1, .int ff]) hu2).keep (o := .tup [.str x7, .ref q1, .int ff]) bu2 fun j z hz => by
            obtain ⟨_, _, zx, z3, _⟩ := h9.at_ j z hz
            exact ne_of_none z3 hu2
          have U10 : (upd H16 u2 (.tup [.str x7, .ref q1, .int ff])) U = some (.lst rx) := snew hu2 _ _ U9
          have sN := snew (o := .tup [.str x7, .ref q1, .int ff]) bu2
          have bU10 : (upd B8 u2 (.tup [.str x7, .ref q1, .int ff])) U = none := by rw [upd_ne (ne_of_none U9 hu2)]; exact bU7
          have u10 : (upd B8 u2 (.tup [.str x7, .ref q1, .int ff])) u2 = some (.tup [.str x7, .ref q1, .int ff]) := upd_same
          have u10' := sN _ _ u7
          have q10 := sN _ _ q7
          have dr10 := dpsm sN _ _ dr7
          have s10 := same_tr s8 sN
          generalize upd B8 u2 (.tup [.str x7, .ref q1, .int ff]) = B10 at K10 h10 bU10 u10 u10' q10 dr10 s10
          generalize upd H16 u2 (.tup [.str x7, .ref q1, .int ff]) = H17 at K10 h10 U10
          clear K7 h7 U7 bU7 u7 q7 dr7 s8 K8 h8 U8 p8 K9 h9 U9 p9 D16 a4 hp2 hu2 bu2 sN yb yr yx yd E7' u8
          obtain ⟨yb, yr, ys', yx, yd⟩ := h10.at_ _ y hy
          have hyl3 : ys'.length = y.rs.length := by rw [dps_len yd, List.length_map]
          refine ⟨y.l, ys', _, rfl, rfl, yx, small1000 (by omega), ?_⟩
          have hrd : Dp K B10 (.ref u2) (Rd1.d ⟨x7, vv, ff⟩) := .tup (Or.inl (Or.inl u10)) (.cons (.str _) (.cons (.tup (Or.inl (Or.inl q10)) (ints_dps _)) (.cons (.int _) .nil)))
          have h11 := h10.put (rd := ⟨x7, vv, ff⟩) hy yx hrd
          have K11 := K10.put (o := .lst (ys' ++ [.ref u2])) yb yr
          have nU := lsU' _ y hy
          have U11 : (upd H17 y.l (.lst (ys' ++ [.ref u2]))) U = some (.lst rx) := by rw [upd_ne nU.symm]; exact U10
          generalize upd H17 y.l (.lst (ys' ++ [.ref u2])) = H18 at h11 K11 U11
          clear K10 h10 U10 yb yr yx yd
          -- rows.append(row)
          have hrl : rx.length = rows.length := by rw [dps_len dr10, List.length_map]
          refine ⟨_, rfl, Or.inl ⟨rfl, _, Or.inl (Or.inl U11)⟩, _, rfl, U, rx, _, rfl, rfl, U11, small1000 (by rw [hrl, T1.rlen]; omega), ?_⟩
          refine ⟨_, _, _, _, rfl, B10, hs'.set d4.toNat { y with rs := y.rs ++ [⟨x7, vv, ff⟩] }, rows ++ [⟨x4, xs.length, x7, vv⟩], rx ++ [.ref u], s10, (K11.put bU10 rU).mono (by omega), h11.step same_refl (fun j z hz => ⟨(h11.at_ j z hz).1, upd_ne ?_⟩), ?_, bU10, upd_same, ?_, ?_⟩
          · rcases get_set hz with ⟨_, rfl⟩ | ⟨_, hz⟩
            · exact nU
            · exact lsU' j z hz
          · exact (map_set_same (f := fun x : Held => x.l) (x := { y with rs := y.rs ++ [⟨x7, vv, ff⟩] }) hy rfl).trans e1
          · rw [List.map_append]
            exact dps_snoc dr10 (.tup (Or.inl (Or.inl u10')) (.cons (.str _) (.cons (.int _) (.cons (.str _) (.cons (.tup (Or.inl (Or.inl q10)) (ints_dps _)) .nil)))))
          · refine ⟨?_, by rw [List.length_append, T1.rlen]; rfl, fun z hz => ?_, fun z hz rd hrd => ?_⟩
            · rw [sum_set (f := fun y : Held => y.rs.length) hy (by show (y.rs ++ [_]).length = _; rw [List.length_append]; rfl), T1.few]
            · rcases List.mem_append.mp hz with h | h
              · exact T1.rok z h
              · rw [List.mem_singleton.mp h]
                exact ⟨vl, vb, (ht _ mem4).2.1, (ht _ mem7).2.1⟩
            · rcases List.mem_or_eq_of_mem_set hz with h | h
              · exact T1.ok z h rd hrd
              · rw [h] at hrd
                rcases List.mem_append.mp hrd with h' | h'
                · exact T1.ok y (List.mem_of_getElem? hy) rd h'
                · rw [List.mem_singleton.mp h']
                  refine ⟨?_, mem7, hfb.2, fun x hx => ?_⟩
                  · unfold isRead
                    rw [Bool.and_eq_true, Bool.and_eq_true]
                    exact ⟨(ht _ mem7).1, decide_eq_true vl, by rw [decide_eq_false hfb.1]; rfl⟩
                  · have := vb x hx
                    omega
        · rintro σ H10 ⟨y9, y10, y11, y12, rfl, B', hs', rows, rx, s1, K1, h1, e1, bU1, U1, dr1, T1⟩
          have hsl : hs'.length = ts.length := by
            have z := congrArg List.length e1
            rw [List.length_map, List.length_map] at z
            rw [z, c1]
          have Kc := (RS.cut K1.ok).mono (show m + 3 + 1 + 40 * n.toNat ≤ m + 600 by omega)
          have sc : Same B' (cutr H10 r) := fun b o e => by
            rw [cutr_ne (ne_of_none e K1.n)]
            exact K1.s b o e
          have Dc := sc _ _ (s1 _ _ D7)
          have Ec := sc _ _ (s1 _ _ E7)
          have hdc : ∀ (j : Nat) (y : Held), hs'[j]? = some y → Dp K (cutr H10 r) (.ref y.l) (.list (y.rs.map Rd1.d)) := fun j y hy => by
            obtain ⟨_, z2, xs, z3, z4⟩ := h1.at_ j y hy
            exact .lst (Or.inl (Or.inl (by rw [cutr_ne z2.symm]; exact z3))) (dpsm sc _ _ z4)
          have sBc : Same B (cutr H10 r) := same_tr sB7 (same_tr s1 sc)
          generalize cutr H10 r = Bc at Kc Dc Ec hdc sBc
          clear K1 h1 bU1 U1 dr1 sc
          have eE : (hs.map fun y => V.ref y.l) = hs'.map fun y => V.ref y.l := by
            have z := congrArg (List.map V.ref) e1
            rw [List.map_map, List.map_map] at z
            exact z.symm
          rw [eE] at Ec
          have hmin : ts.length = min (ts.map V.str).length (hs'.map fun y => V.ref y.l).length := by rw [List.length_map, List.length_map, hsl, Nat.min_self]
          refine ⟨_, rfl, _, rfl, D, E, ts.map V.str, hs'.map fun y => V.ref y.l, rfl, Or.inl (Or.inl (Kc.s _ _ Dc)), Or.inl (Or.inl (Kc.s _ _ Ec)), fun G hG => ?_⟩
          have bG := free_of Kc.s hG
          have rG := Kc.ne hG
          refine lc_it (walk_zip (K := K) (a := D) (b := E) hmin) (fun i H' => ∃ (Bx : Hp) (cs : List Tb) (zs : List V), Same Bc Bx ∧ RS r (m + 600 + i) Bx H' ∧ Bx G = none ∧ H' G = some (.lst zs) ∧ DpAll K Bx zs (cs.map Tb.d) ∧ cs.length = i ∧ cs.map (·.n) = ts.take i ∧ cs.map (·.rs) = (hs'.map (·.rs)).take i ∧ ∀ t ∈ cs, -99 ≤ t.c ∧ t.c ≤ 99)
            ⟨Bc, [], [], same_refl, Kc.new hG, bG, upd_same, .nil, rfl, rfl, rfl, (by intro t h; cases h)⟩ (fun i H' _ ⟨Bx, _, _, b1, b2, _⟩ => ⟨Or.inl (Or.inl (b2.s _ _ (b1 _ _ Dc))), Or.inl (Or.inl (b2.s _ _ (b1 _ _ Ec)))⟩) ?_ ?_
          · rintro i x Hi _ hi ⟨Bx, cs, zs, b1, b2, b3, b4, b5, b6, b7, b8, b9⟩ ⟨Tp, k1, k2, rfl, hTp, rfl, f1, f2⟩
            have f1 : (ts.map V.str)[i]? = some k1 := f1
            have f2 : (hs'.map fun y => V.ref y.l)[i]? = some k2 := f2
            rw [List.getElem?_map] at f1 f2
            obtain ⟨x1, hx1, rfl⟩ := Option.map_eq_some_iff.mp f1
            obtain ⟨y1, hy1, rfl⟩ := Option.map_eq_some_iff.mp f2
            refine ⟨Tp, _, rfl, Or.inl (Or.inl upd_same), rfl, _, _, rfl, _, _, rfl, rfl, rfl, yes_if ?_⟩
            have q1 := b2.new (o := .tup [.str x1, .ref y1.l]) hTp
            have G1 : (upd Hi Tp (.tup [.str x1, .ref y1.l])) G = some (.lst zs) := snew hTp _ _ b4
            generalize upd Hi Tp (.tup [.str x1, .ref y1.l]) = Hj at q1 G1
            refine ⟨_, rfl, _, rfl, r, 9, _, rfl, q1.ok, by omega, by decide, by decide, fun d9 Hk d90 d91 D9 => ⟨_, _, rfl, rfl, _, rfl, (by show 3 ≤ sizeLine; decide), fun u hu => ?_⟩⟩
            have q2 := q1.dr D9
            have G2 : Hk G = some (.lst zs) := by rw [D9.ne _ rG.symm]; exact G1
            have bu := free_of q2.s hu
            have q3 := (q2.new (o := .tup [.str x1, .int (d9 - 4), .ref y1.l]) hu).keep upd_same bu (q2.ne hu)
            have G3 : (upd Hk u (.tup [.str x1, .int (d9 - 4), .ref y1.l])) G = some (.lst zs) := snew hu _ _ G2
            have bG3 : (upd Bx u (.tup [.str x1, .int (d9 - 4), .ref y1.l])) G = none := by rw [upd_ne (ne_of_none G2 hu)]; exact b3
            have sN := snew (o := .tup [.str x1, .int (d9 - 4), .ref y1.l]) bu
            have hzl : zs.length = i := by rw [dps_len b5, List.length_map, b6]
            refine ⟨zs, G3, small1000 (by omega), _, cs ++ [⟨x1, d9 - 4, y1.rs⟩], zs ++ [.ref u], same_tr b1 sN, (q3.put bG3 rG).mono (by omega), bG3, upd_same, ?_, by rw [List.length_append, b6]; rfl, ?_, ?_, ?_⟩
            · rw [List.map_append]
              exact dps_snoc (dpsm sN _ _ b5) (.tup (Or.inl (Or.inl upd_same)) (.cons (.str _) (.cons (.int _) (.cons (dpm (same_tr b1 sN) _ _ (hdc i y1 hy1)) .nil))))
            · rw [List.map_append, b7, List.take_add_one, hx1]
              rfl
            · rw [List.map_append, b8, List.take_add_one, List.getElem?_map, hy1]
              rfl
            · intro t h
              rcases List.mem_append.mp h with h | h
              · exact b9 t h
              · rw [List.mem_singleton.mp h]
                show -99 ≤ d9 - 4 ∧ d9 - 4 ≤ 99
                omega
          · rintro H11 ⟨Bx, cs, zs, b1, b2, b3, b4, b5, b6, b7, b8, b9⟩
            rw [List.take_length] at b7
            rw [List.take_of_length_le (by rw [List.length_map]; omega)] at b8
            have hrs : ∀ t ∈ cs, ∃ y ∈ hs', t.rs = y.rs := fun t h => by
              have z : t.rs ∈ hs'.map (·.rs) := by rw [← b8]; exact List.mem_map.mpr ⟨t, h, rfl⟩
              obtain ⟨y, hy, e⟩ := List.mem_map.mp z
              exact ⟨y, hy, e.symm⟩
            have hsum : (cs.map fun t => t.rs.length).sum = n.toNat := by
              have z := congrArg (fun l : List (List Rd1) => (l.map List.length).sum) b8
              simp only [List.map_map] at z
              rw [← T1.few]
              exact z
            have K2 := b2.keep b4 b3 rG
            refine q G _ H11 cs (same_tr sBc (same_tr b1 (snew b3))) (K2.mono (by omega)) ⟨zs, upd_same, dpsm (snew b3) _ _ b5⟩ (by omega) (by omega) ⟨fun t h => (ht _ (by rw [← b7]; exact List.mem_map.mpr ⟨t, h, rfl⟩)).1, by rw [b7]; exact hnd, by rw [hsum]; omega, fun t h rd hrd => ?_, fun t h rd hrd => ?_⟩ (fun t h => (ht _ (by rw [← b7]; exact List.mem_map.mpr ⟨t, h, rfl⟩)).2) (fun t h => ⟨b9 t h, fun rd hrd => ?_, fun rd hrd => ?_⟩) (by rw [hsum]; omega)
            · obtain ⟨y, hy, e⟩ := hrs t h
              exact (T1.ok y hy rd (by rw [← e]; exact hrd)).1
            · obtain ⟨y, hy, e⟩ := hrs t h
              rw [b7]
              exact (T1.ok y hy rd (by rw [← e]; exact hrd)).2.1
            · obtain ⟨y, hy, e⟩ := hrs t h
              exact (T1.ok y hy rd (by rw [← e]; exact hrd)).2.2.1
            · obtain ⟨y, hy, e⟩ := hrs t h
              exact (T1.ok y hy rd (by rw [← e]; exact hrd)).2.2.2
end
end Fr

namespace Fr
open PySem PySem.Spec PyProof.Rows L2
def kw2 {α : Type} : List α → List α → List α
  | [], [c, s] => [s, c]
  | _, _ => []
structure CalK (P : Program) (w : World) (K : PySem.W.Frag) (mg : Str → Option Value) (base : Heap) (k : Nat) (x : Str) (sp : Sp) (ks : List Str) (gV : List V → List V → List V) : Prop where
  ex : ∃ (f : Addr) (fd : FuncData) (ps : List Str) (g : List Value → List Value → List Value), FnOk P w K mg base CX0 k f fd ps sp ∧ mg x = some (.ref f) ∧ PySem.W.keepIn K (.ref f) = true ∧ KBinds K fd ps ks g gV
theorem pe_ck {X : Cx} {k j : Nat} {x : Str} {sp : Sp} {ks : List Str} {gV : List V → List V → List V} {kws : List Keyword} {tk : TA} {p pos : Pos} (c : CalK X.prog X.w X.K X.mg X.base k x sp ks gV) (hr : Room j X.A) (hk : k ≤ j) (hg : Gl X x) (hkw : PK X kws tk)
    (hall : (backToKw pos (keywordEach kws X.env)).all (·.1.isSome) = true := by rfl) (hks : (backToKw pos (keywordEach kws X.env)).filterMap (·.1) = ks := by rfl) (hdb : (x == ("__debug__" : Str)) = false := by decide)
    (hpl : ((backTo pos (starEach [] X.env)).any (·.1) || (backToKw pos (keywordEach kws X.env)).any (·.1.isNone)) = false := by rfl) :
    PE X (.Call (.Name x p) [] kws pos) (tCallK sp gV C8.E0 tNil tk) := by
  obtain ⟨f, fd, ps, g, F, hm, kp, hb⟩ := c.ex
  refine ⟨fun pins s σ H Q I h => ?_⟩
  refine wpAny_Call_Name_kw (ld_glob I hg hm ?_ hdb)
  refine PySem.W.callWith_KW0 (h₀ := X.base) I.ok.mod.kin kp hall (thn (hkw.run pos pins s σ H _ I h) fun ws s2 ⟨zs, H2, I2, rz, q2⟩ => ⟨I2.kIn, ?_⟩) hpl
  rw [hks]
  exact run_fnk (us := []) (vs := []) F (hr.mono hk) hb pass0 I2 .nil rz q2
def bs (H : Hp) (r : Addr) : Hp := fun b => if b = r then none else match H b with
  | some (.tbl _) => none
  | o => o
theorem bs_of {H : Hp} {r b : Addr} {o : HO} (h : H b = some o) (n : b ≠ r) (t : ∀ ps, o ≠ .tbl ps) : bs H r b = some o := by
  unfold bs
  rw [if_neg n, h]
  cases o <;> first | rfl | exact absurd rfl (t _)
theorem of_bs {H : Hp} {r b : Addr} {o : HO} (h : bs H r b = some o) : H b = some o ∧ b ≠ r ∧ ∀ ps, o ≠ .tbl ps := by
  unfold bs at h
  by_cases n : b = r
  · rw [if_pos n] at h
    cases h
  · rw [if_neg n] at h
    cases e : H b with
    | none =>
      rw [e] at h
      cases h
    | some u =>
      rw [e] at h
      cases u <;> first | (cases h; exact ⟨rfl, n, fun ps z => by cases z⟩) | cases h
structure LS (TT : List (Addr × Str)) (r : Addr) (m : Nat) (B H : Hp) : Prop where
  rs : RS r m B H
  tb : LamX.Tabs TT H
  nt : ∀ b ps, B b ≠ some (.tbl ps)
theorem tabs_dr {TT : List (Addr × Str)} {r : Addr} {m m' : Nat} {H H' : Hp} (hT : LamX.Tabs TT H) (h : RngOk H r m) (d : Dr r m' H H') : LamX.Tabs TT H' := by
  obtain ⟨a, b, c, h1, _⟩ := h
  obtain ⟨a', b', c', h2, _⟩ := d.ok
  have e : H' = upd H r (.lst [.int a', .int b', .int c']) := funext fun x => by
    by_cases hx : x = r
    · rw [hx, h2, upd_same]
    · rw [upd_ne hx, d.ne x hx]
  rw [e]
  exact tabs_lst hT h1
theorem LS.dr {TT : List (Addr × Str)} {r : Addr} {m m' : Nat} {B H H' : Hp} (h : LS TT r m B H) (d : Dr r m' H H') : LS TT r m' B H' := ⟨h.rs.dr d, tabs_dr h.tb h.rs.ok d, h.nt⟩
theorem LS.new {TT : List (Addr × Str)} {r p : Addr} {m : Nat} {B H : Hp} {o : HO} (h : LS TT r m B H) (e : H p = none) : LS TT r m B (upd H p o) := ⟨h.rs.new e, h.tb.ext (snew e), h.nt⟩
theorem LS.grow {TT : List (Addr × Str)} {r : Addr} {m : Nat} {B H H' : Hp} (h : LS TT r m B H) (e : Same H H') : LS TT r m B H' := ⟨h.rs.grow e, h.tb.ext e, h.nt⟩
theorem LS.put {TT : List (Addr × Str)} {r p : Addr} {m : Nat} {B H : Hp} {o : HO} {xs : List V} (h : LS TT r m B H) (e : B p = none) (n : r ≠ p) (l : H p = some (.lst xs)) : LS TT r m B (upd H p o) := ⟨h.rs.put e n, tabs_lst h.tb l, h.nt⟩
theorem LS.mono {TT : List (Addr × Str)} {r : Addr} {m m' : Nat} {B H : Hp} (h : LS TT r m B H) (e : m ≤ m') : LS TT r m' B H := ⟨h.rs.mono e, h.tb, h.nt⟩
/-- a base of its own -/
theorem LS.own {TT : List (Addr × Str)} {r : Addr} {m : Nat} {H : Hp} (h : RngOk H r m) (t : LamX.Tabs TT H) : LS TT r m (bs H r) H := ⟨⟨fun b o e => (of_bs e).1, by
  cases e : bs H r r with
  | none => rfl
  | some o => exact absurd rfl (of_bs e).2.1, h⟩, t, fun b ps e => (of_bs e).2.2 ps rfl⟩
theorem tabs_cut {TT : List (Addr × Str)} {r : Addr} {m : Nat} {H H' : Hp} (hT : LamX.Tabs TT H) (h : RngOk H r m) (s : Same (cutr H r) H') : LamX.Tabs TT H' := by
  obtain ⟨a, b, c, h1, _⟩ := h
  intro p hp
  obtain ⟨ps, e1, e2, e3⟩ := hT p hp
  refine ⟨ps, s _ _ ?_, e2, fun pos cv hc => ?_⟩
  · rw [cutr_ne fun z => by rw [z, h1] at e1; cases e1]
    exact e1
  · obtain ⟨c', f1, f2⟩ := e3 pos cv hc
    refine ⟨c', f1, s _ _ ?_⟩
    rw [cutr_ne fun z => by rw [z, h1] at f2; unfold LamX.CodeO at f2; cases f2]
    exact f2
def tupo : HO → Bool
  | .tup _ => true
  | .frz _ (.tup _) => true
  | _ => false
def ST (H H' : Hp) : Prop := ∀ b o, H b = some o → tupo o = true → H' b = some o
theorem ST.of {H H' : Hp} (e : Same H H') : ST H H' := fun b o h _ => e b o h
theorem ST.tr {A B C : Hp} (a : ST A B) (b : ST B C) : ST A C := fun x o h d => b x o (a x o h d) d
theorem ST.put {H : Hp} {l : Addr} {xs : List V} {o : HO} (h : H l = some (.lst xs)) : ST H (upd H l o) := fun b u e d => by
  rw [upd_ne fun z => by rw [z, h] at e; cases e; cases d]
  exact e
theorem ST.dr {H H' : Hp} {r : Addr} {m m' : Nat} (h : RngOk H r m) (d : Dr r m' H H') : ST H H' := fun b u e t => by
  obtain ⟨x, y, z, h1, _⟩ := h
  rw [d.ne b fun q => by rw [q, h1] at e; cases e; cases t]
  exact e
theorem ST.bs {H : Hp} {r : Addr} {m : Nat} (h : RngOk H r m) : ST H (Fr.bs H r) := fun b u e t => by
  obtain ⟨x, y, z, h1, _⟩ := h
  refine bs_of e (fun q => ?_) fun ps q => ?_
  · rw [q, h1] at e
    cases e
    cases t
  · rw [q] at t
    cases t
mutual
def noL : PyData → Bool
  | .list _ => false
  | .tuple ds => noLs ds
  | .dict _ => false
  | .none => true
  | .bool _ => true
  | .int _ => true
  | .str _ => true
def noLs : List PyData → Bool
  | [] => true
  | d :: ds => noL d && noLs ds
end
theorem noLs_map {α : Type} {g : α → PyData} (h : ∀ x, noL (g x) = true) : ∀ xs : List α, noLs (xs.map g) = true
  | [] => rfl
  | x :: xs => by
    show (noL (g x) && noLs (xs.map g)) = true
    rw [h x, noLs_map h xs]
    rfl
theorem noL_ints (ns : List Int) : noLs (ns.map PyData.int) = true := noLs_map (fun _ => rfl) ns
theorem noL_rd (r : Rd1) : noL r.d = true := by
  show (true && (noLs (r.v.map PyData.int) && (true && true))) = true
  rw [noL_ints]
  rfl
theorem noL_k (t : Tb) : noL t.k = true := by
  show (true && (noLs (t.rs.map Rd1.d) && true)) = true
  rw [noLs_map noL_rd]
  rfl
section
variable {K : PySem.W.Frag}
theorem sqtt {H H' : Hp} (e : ST H H') {a : Addr} {xs : List V} (h : SqT K H a xs) : SqT K H' a xs := by
  rcases h with (h | ⟨o, h⟩) | h
  · exact .inl (.inl (e _ _ h rfl))
  · exact .inl (.inr ⟨o, e _ _ h rfl⟩)
  · exact .inr h
mutual
theorem dpt {H H' : Hp} (e : ST H H') : ∀ (d : PyData) (v : V), noL d = true → Dp K H v d → Dp K H' v d
  | .none, _, _, h => by cases h; exact .non
  | .bool b, _, _, h => by cases h; exact .bl b
  | .int i, _, _, h => by cases h; exact .int i
  | .str x, _, _, h => by cases h; exact .str x
  | .list ds, _, n, h => by cases n
  | .tuple ds, _, n, h => by
    cases h with
    | tup hs ha => exact .tup (sqtt e hs) (dpst e ds _ n ha)
  | .dict _, _, _, h => by cases h
theorem dpst {H H' : Hp} (e : ST H H') : ∀ (ds : List PyData) (vs : List V), noLs ds = true → DpAll K H vs ds → DpAll K H' vs ds
  | [], _, _, h => by cases h; exact .nil
  | d :: ds, _, n, h => by
    have n' : (noL d && noLs ds) = true := n
    rw [Bool.and_eq_true] at n'
    cases h with
    | cons h1 h2 => exact .cons (dpt e d _ n'.1 h1) (dpst e ds _ n'.2 h2)
end
theorem kvt {H H' : Hp} (e : ST H H') : ∀ {kvs : List (Key × V)} {ts : List Tb}, KvAt K H kvs ts → KvAt K H' kvs ts
  | [], _, h => by cases h; exact .nil
  | kv :: kvs, _, h => by
    cases h with
    | cons h1 h2 => exact .cons ⟨h1.1, dpt e _ _ (noL_k _) h1.2⟩ (kvt e h2)
end
section
variable {P : Program} {w : World} {K : PySem.W.Frag} {mg : Str → Option Value} {base : Heap}
theorem sd_bs {B H : Hp} {r : Addr} (s : Same B H) (n : B r = none) : SD B (bs H r) := fun b o h d => bs_of (s b o h) (ne_of_none h n) fun ps z => by
  rw [z] at d
  cases d
theorem SysAt.bs {C : Addr} {H : Hp} {r s : Addr} {m : Nat} {d md : Int} {ts : List Tb} (h : SysAt K C H s d md ts) (hr : RngOk H r m) (e : ∀ kvs, KvAt K H kvs ts → KvAt K (Fr.bs H r) kvs ts) : SysAt K C (Fr.bs H r) s d md ts := by
  obtain ⟨dx, t, kvs, h1, h2, h3⟩ := h.ob
  obtain ⟨a, b, c, h4, _⟩ := hr
  refine ⟨dx, t, kvs, bs_of h1 (fun z => ?_) (fun ps z => by cases z), bs_of h2 (fun z => ?_) (fun ps z => by cases z), e _ h3⟩
  · rw [z, h4] at h1
    cases h1
  · rw [z, h4] at h2
    cases h2
theorem find_nodup {x : Str} : ∀ {ts : List Tb} {tb : Tb}, (ts.map (·.n)).Nodup → tb ∈ ts → tb.n = x → ts.find? (fun t => decide (t.n = x)) = some tb
  | [], _, _, h, _ => by cases h
  | t :: ts, tb, n, h, e => by
    rw [List.map_cons, List.nodup_cons] at n
    rcases List.mem_cons.mp h with rfl | h
    · exact List.find?_cons_of_pos (by simpa using e)
    · rw [List.find?_cons_of_neg fun z => n.1 (by
        have : t.n = x := of_decide_eq_true z
        rw [this, ← e]
        exact List.mem_map.mpr ⟨tb, h, rfl⟩)]
      exact find_nodup n.2 h e
end
end Fr

namespace Fr
open PySem PySem.Spec PyProof.Rows L2
inductive KvEq (K : PySem.W.Frag) (H : Hp) (ls : List (Key × V)) : List (Key × V) → Bool → Prop
  | nil : KvEq K H ls [] true
  | miss {k : Key} {v : V} {r : List (Key × V)} : valV ls k = none → KvEq K H ls ((k, v) :: r) false
  | hit {k : Key} {v u : V} {r : List (Key × V)} {d e : PyData} {b : Bool} : valV ls k = some u → Dp K H v d → Dp K H u e → SeqAt.shaped d = true → SeqAt.shaped e = true → KvEq K H ls r b → KvEq K H ls ((k, v) :: r) (PyData.eqv d e && b)
def rEqKv (K : PySem.W.Frag) : R2 := fun x y H Q => ∃ (a b : Addr) (ks ls : List (Key × V)) (r : Bool), x = .ref a ∧ y = .ref b ∧ H a = some (.dK ks) ∧ H b = some (.dK ls) ∧ (ks.length = ls.length → KvEq K H ls ks r) ∧ Q (.bl (ks.length == ls.length && r)) H
section
variable {X : Cx} {pins : List (Addr × Obj)} {σ : L2.St} {H : Hp} {s : Shared}
theorem kvHits (I : Inv X pins σ H s) {A : Around} (hu : A.units + 64 < cLine) {ls : List (Key × V)} {vb : List (Key × Value)} (rb : KV ls vb) {ks : List (Key × V)} {r : Bool} (h : KvEq X.K H ls ks r) :
    ∀ {va : List (Key × Value)}, KV ks va → PySem.W.KeqHitsP X.prog X.w A s vb va r := by
  induction h with
  | nil =>
    intro va ra
    cases ra
    exact .nil
  | @miss k v t hv =>
    intro va ra
    cases ra with
    | @cons _ q _ qs h1 h2 =>
      obtain ⟨key, u⟩ := q
      obtain ⟨h1, h3⟩ := h1
      have h1' : k = key := h1
      subst h1'
      exact .miss (RelO.none_of (by rw [← hv]; exact rb.val k))
  | @hit k v u t d e b hv hd he sd se _ ih =>
    intro va ra
    cases ra with
    | @cons _ q _ qs h1 h2 =>
      obtain ⟨key, w⟩ := q
      obtain ⟨h1, h3⟩ := h1
      have h1' : k = key := h1
      subst h1'
      have rr : RelO (some u) (valueAt vb k) := by rw [← hv]; exact rb.val k
      obtain ⟨y, hy, ry⟩ := rr.some_of
      obtain ⟨as, q1⟩ := Dp.reads I d _ _ hd h3
      obtain ⟨bs, q2⟩ := Dp.reads I e _ _ he ry
      exact .hit hy (SeqAt.eqAt_reads d e A s _ _ as bs q1 q2 (SeqAt.canLay_of_shaped sd) (SeqAt.canLay_of_shaped se) (SeqAt.room_of_shaped sd hu)).eqP (ih h2)
theorem op_eqKv (hu : X.A.units + 65 < cLine) : OpR X (compareOp .Eq) (rEqKv X.K) := by
  intro pins s σ H x y v u Q I rx ry h
  obtain ⟨a, b, ks, ls, r, rfl, rfl, ha, hb, hr, q⟩ := h
  cases (show v = Value.ref a from rx)
  cases (show u = Value.ref b from ry)
  obtain ⟨_, ya, va, ra, da⟩ := (show ObjOk X.prog X.w H s.heap a (.dK ks) from I.hok a _ ha)
  obtain ⟨_, yb, vb, rb, db⟩ := (show ObjOk X.prog X.w H s.heap b (.dK ls) from I.hok b _ hb)
  have e1 : va.length = ks.length := ra.length.symm
  have e2 : vb.length = ls.length := rb.length.symm
  refine PySem.W.rcP_dicts (knd := mixKind X.prog X.w) (r := r) ya yb da db (by omega) (fun e => kvHits I (by show X.A.units + 1 + 64 < cLine; omega) rb (hr (by omega)) ra) _ _ ?_
  rw [e1, e2]
  exact ⟨.bl _, H, I, rfl, q⟩
end
structure EqM (P : Program) (w : World) (K : PySem.W.Frag) (mg : Str → Option Value) (base : Heap) (k : Nat) (C : Addr) (sp : Sp) : Prop where
  ex : ∃ (f : Addr) (fd : FuncData) (ps : List Str), Cls K C ∧ PySem.W.findIn K (.ref C) "__eq__" = some (some (.ref f)) ∧ PySem.W.isFn K (.ref f) = true ∧ FnOk P w K mg base CX0 k f fd ps sp ∧ Binds K fd ps []
def rEqOwn (C : Addr) (sp : Sp) : R2 := fun x y H Q => ∃ (a b dx dy : Addr) (fs gs : List (Str × V)), x = .ref a ∧ y = .ref b ∧ H a = some (.ins C dx fs) ∧ H b = some (.ins C dy gs) ∧ sp [.ref a, .ref b] H (fun v H' => ∃ r, v = .bl r ∧ Q (.bl r) H') C8.E0
theorem op_eqOwn {X : Cx} {k j : Nat} {C : Addr} {sp : Sp} (c : EqM X.prog X.w X.K X.mg X.base k C sp) (hr : Room j X.A) (hk : k ≤ j) : OpR X (compareOp .Eq) (rEqOwn C sp) := by
  intro pins s σ H x y v u Q I rx ry h
  obtain ⟨a, b, dx, dy, fs, gs, rfl, rfl, ha, hb, h⟩ := h
  cases (show v = Value.ref a from rx)
  cases (show u = Value.ref b from ry)
  obtain ⟨f, fd, ps, hc, hs, hf, F, hbd⟩ := c.ex
  obtain ⟨mA, J, _⟩ := ins_get I.hok ha
  obtain ⟨mB, J', _⟩ := ins_get I.hok hb
  obtain ⟨od, J, _⟩ := J.look
  obtain ⟨od', J', _⟩ := J'.look
  obtain ⟨m, hF⟩ := I.fr
  have hu : X.A.units < cLine := (hr.mono hk).units0
  refine PySem.W.cmp_K (op := .Eq) (tb := .ref C) hu hF I.ok.mod.kin J J'.type (by simp [PySem.W.notFirst]) hs hf ?_
  refine wpAny_mono (run_fn (us := [.ref a, .ref b]) (vs := [.ref a, .ref b]) F (hr.mono hk) hbd .nil pass0 I (.cons rfl (.cons rfl .nil)) h) (fun r s' q => ?_) fun _ _ x => x
  obtain ⟨z, H', I', rz, t, rfl, q⟩ := q
  obtain rfl : r = Value.bool t := rz
  exact ⟨.bl t, H', I', rfl, q⟩
structure MetK (P : Program) (w : World) (K : PySem.W.Frag) (mg : Str → Option Value) (base : Heap) (k : Nat) (C : Addr) (m : Str) (sp : Sp) (ks : List Str) (gV : List V → List V → List V) : Prop where
  ex : ∃ (f : Addr) (fd : FuncData) (ps : List Str) (g : List Value → List Value → List Value), Cls K C ∧ Meth K C m f ∧ FnOk P w K mg base CX0 k f fd ps sp ∧ KBinds K fd ps ks g gV
def tMethK (C : Addr) (m : Str) (sp : Sp) (gV : List V → List V → List V) (E : XK) (ta : TE) (tk : TA) : TE := fun σ H Q => ta σ H fun x H1 => ∃ a dx fs, x = .ref a ∧ H1 a = some (.ins C dx fs) ∧ fs.lookup m = none ∧
  tk σ H1 fun zs H2 => sp (gV [x] zs) H2 Q E
theorem pe_mtk {X : Cx} {k j : Nat} {C : Addr} {m : Str} {sp : Sp} {ks : List Str} {gV : List V → List V → List V} {o : Expr} {kws : List Keyword} {ta : TE} {tk : TA} {apos pos : Pos} {pl : Sem Bool} (c : MetK X.prog X.w X.K X.mg X.base k C m sp ks gV) (hr : Room j X.A) (hk : k ≤ j) (he : PE X o ta) (hkw : PK X kws tk)
    (hall : (backToKw pos (keywordEach kws X.env)).all (·.1.isSome) = true := by rfl) (hks : (backToKw pos (keywordEach kws X.env)).filterMap (·.1) = ks := by rfl)
    (hpl : ((backTo pos (starEach [] X.env)).any (·.1) || (backToKw pos (keywordEach kws X.env)).any (·.1.isNone)) = false := by rfl)
    (ht : eval (.Call (.Attribute o m apos) [] kws pos) X.env = (do
      let ov ← eval o X.env
      standAt apos.atName
      let (f, first) ← holding [ov] (getMethod ov m pl)
      callWith pos f first (backTo pos (starEach [] X.env)) (backToKw pos (keywordEach kws X.env))) := by rfl) :
    PE X (.Call (.Attribute o m apos) [] kws pos) (tMethK C m sp gV C8.E0 ta tk) := by
  obtain ⟨f, fd, ps, g, hc, hm, F, hb⟩ := c.ex
  refine ⟨fun pins s σ H Q I h => ?_⟩
  refine PySem.W.methodCall_KW (pl := pl) (thn (he.run pins s σ H _ I h) fun u s1 ⟨x, H1, I1, rx, a, dx, fs, ex, ea, l, q⟩ => ?_) ht
  subst ex
  obtain rfl : u = Value.ref a := rx
  refine getmeth_ok I1 ea hc hm l ?_
  refine PySem.W.callWith_KW0 (first := [.ref a]) (h₀ := X.base) I.ok.mod.kin hm.kp hall (thn (hkw.run pos pins s1 σ H1 _ I1 q) fun ws s2 ⟨zs, H2, I2, rz, q2⟩ => ⟨I2.kIn, ?_⟩) hpl
  rw [hks]
  exact run_fnk (us := [.ref a]) (vs := [.ref a]) F (hr.mono hk) hb pass0 I2 (.cons rfl .nil) rz q2
def kw1 {α : Type} : List α → List α → List α
  | [s], [c] => [s, c]
  | _, _ => []
end Fr

namespace Fr
open PySem PySem.Spec PyProof.Rows L2
theorem iter_dict : typeLookup (.type "dict") "__iter__" = pure (some (.builtin "dict.__iter__")) := by rw [typeLookup_type, builtinLookup_eq_fast]; kernel_rfl
section
variable {prog : Program} {w : World} {A : Around} {E : Value → Shared → Prop} {s : Shared}
theorem wp_putNew {d : Addr} {kvs : List (Key × Value)} {k : Key} {x v : Value} {Q : Unit → Shared → Prop} (hx : (mixKind prog w).is k x = true) (hm : s.heap.DictOf (mixKind prog w) d kvs) (hno : k ∉ kvs.map (·.1))
    (hQ : ∀ h', h'.DictOf (mixKind prog w) d (kvs ++ [(k, v)]) → Heap.SameBut d s.heap h' → Q () { s with heap := h' }) (hsz : kvs.length ≤ sizeLine) :
    wpAny (model prog w) A (dictPut d ((mixKind prog w).hash k) x v) Q E s := by
  obtain ⟨o, es, ep, ho, hc, hd, hk, hp, hn⟩ := hm
  have hes : es.size ≤ sizeLine := by
    have e1 := hp.length
    rw [Array.length_toList] at e1
    omega
  unfold dictPut
  refine wpAny_bind (wpAny_dictFind_of hx ho hd hk ?_)
  have hidx : (es.findIdx? fun e => (mixKind prog w).is k e.key) = none := by
    have z : (es.findIdx? fun e => (mixKind prog w).is k e.key) = kvs.findIdx? fun kv => decide (kv.1 = k) := by
      rw [← hp.findIdx k]
      obtain ⟨l⟩ := es
      simp
    rw [z, List.findIdx?_eq_none_iff]
    intro kv hkv
    exact decide_eq_false fun e => hno (List.mem_map.mpr ⟨kv, hkv, e⟩)
  rw [hidx]
  refine wpAny_updateDictKeys (hz := hes) ho hd (hQ _ ⟨_, _, ep + 1, Heap.get?_update_self _ ho (Obj.isFreed_of_dict (Obj.data_mapDictKeys hd _)), hc.mapDictKeys _, Obj.data_mapDictKeys hd _, hk.push hx _, ?_, ?_⟩ (Heap.SameBut.update ..))
  · have z := hp.append hx ((mixKind prog w).hash k) v
    obtain ⟨l⟩ := es
    simpa using z
  · rw [List.map_append, List.nodup_append]
    refine ⟨hn, by simp, ?_⟩
    intro a ha b hb
    rw [List.mem_singleton.mp hb]
    exact fun e => hno (by rw [e] at ha; exact ha)
theorem wp_mergeMap {d o : Addr} {kvs more : List (Key × Value)} {Q : Unit → Shared → Prop} (hdo : d ≠ o) (hoS : (o == sysModules) = false) (hd : s.heap.DictOf (mixKind prog w) d kvs) (ho : s.heap.DictOf (mixKind prog w) o more)
    (hnd : ((kvs ++ more).map (·.1)).Nodup) (hsz : kvs.length + more.length ≤ sizeLine) (hQ : ∀ h', h'.DictOf (mixKind prog w) d (kvs ++ more) → Heap.SameBut d s.heap h' → Q () { s with heap := h' }) :
    wpAny (model prog w) A (mergeMapping d (.ref o) false) Q E s := by
  obtain ⟨od, esd, epd, hod, hcd, hdd, hkd, hpd, hnd'⟩ := id hd
  obtain ⟨oo, eso, epo, hoo, hco, hdo', hko, hpo, hno⟩ := id ho
  have hlen : more.length = eso.size := by
    rw [← hpo.length]
    simp
  unfold mergeMapping
  refine wpAny_bind (wpAny_isInstance (T := "dict") ho.typeIs PySem.F.sub_dict_dict ?_)
  rw [if_pos rfl]
  refine wpAny_bind (wpAny_specialOf ho.typeIs iter_dict ?_)
  refine wpAny_bind (wpAny_pure ?_)
  have hb : ((some (Value.builtin "dict.__iter__") : Option Value) == some (Value.builtin "dict.__iter__")) = true := by rfl
  rw [hb]
  dsimp only
  rw [if_neg (by rw [hoS]; exact Bool.false_ne_true)]
  have tail : ∀ {T : Sem Unit}, T = (do
      let l ← dictEntries o
      let epoch ← dictEpoch o
      forIn (List.range l.size) PUnit.unit fun i (_ : PUnit) => (do
        let l' ← dictEntries o
        match l'[i]? with
          | some e => do
            holding [e.key, e.val] (dictPut d e.hash e.key e.val)
            let ep' ← dictEpoch o
            if (ep' != epoch) = true then do
                (unsupported "dict.changed-during-merge" : Sem PUnit)
                pure (ForInStep.yield PUnit.unit)
              else pure (ForInStep.yield PUnit.unit)
          | _ => do
            (unsupported "dict.changed-during-merge" : Sem PUnit)
            pure (ForInStep.yield PUnit.unit) : Sem (ForInStep PUnit))
      pure ()) → wpAny (model prog w) A T Q E s := by
    intro T hT
    rw [hT]
    refine wpAny_bind (wpAny_dictEntries hoo hdo' ?_)
    refine wpAny_bind (wpAny_dictEpoch hoo hdo' ?_)
    refine wpAny_bind ?_
    refine wpAny_forIn_list _ (fun rest _ s' => ∃ h' i, s' = { s with heap := h' } ∧ rest = (List.range eso.size).drop i ∧ i ≤ eso.size ∧ h'.DictOf (mixKind prog w) d (kvs ++ more.take i) ∧ h'.get? o = some oo ∧ Heap.SameBut d s.heap h') _ ?_ ?_ _ _
      ⟨s.heap, 0, rfl, rfl, Nat.zero_le _, by rw [List.take_zero, List.append_nil]; exact hd, hoo, Heap.SameBut.refl _ _⟩
    · rintro x rest b s' ⟨h', i, rfl, hr, hi, hd', hoo', hs'⟩
      have hlt : i < eso.size := by
        rcases Nat.lt_or_ge i eso.size with h | h
        · exact h
        · rw [List.drop_of_length_le (by simpa using h)] at hr
          cases hr
      rw [List.drop_eq_getElem_cons (by simpa using hlt)] at hr
      injection hr with h1 h2
      rw [List.getElem_range] at h1
      subst h1
      refine wpAny_bind (wpAny_dictEntries hoo' hdo' ?_)
      rw [Array.getElem?_eq_getElem hlt]
      obtain ⟨⟨k, v⟩, hkv⟩ : ∃ kv, more[x]? = some kv := ⟨more[x]'(by omega), List.getElem?_eq_getElem _⟩
      obtain ⟨hkey, hval⟩ := hpo.get? (e := eso[x]) (by simp [hlt]) hkv
      obtain ⟨k', hkey', hhash⟩ := hko eso[x] (Array.getElem_mem hlt)
      obtain rfl : k' = k := (mixKind prog w).inj _ _ _ hkey' hkey
      have hlm : x < more.length := by omega
      have hno' : k' ∉ (kvs ++ more.take x).map (·.1) := fun hm => by
        have z : ((kvs ++ more).map (·.1)).Nodup := hnd
        have e2 : kvs ++ more = (kvs ++ more.take x) ++ ((k', v) :: more.drop (x + 1)) := by
          rw [List.append_assoc]
          congr 1
          have g : more[x] = (k', v) := by
            rw [List.getElem?_eq_getElem hlm] at hkv
            exact Option.some.inj hkv
          rw [← g, ← List.drop_eq_getElem_cons hlm, List.take_append_drop]
        rw [e2, List.map_append, List.nodup_append] at z
        exact z.2.2 k' hm k' (by rw [List.map_cons]; exact List.mem_cons_self) rfl
      show wpAny _ _ (holding [eso[x].key, eso[x].val] (dictPut d eso[x].hash eso[x].key eso[x].val) >>= _) _ _ _
      rw [hhash, hval]
      refine wpAny_bind (wpAny_holding (wp_putNew hkey hd' hno' (fun h'' hd'' hs'' => ?_) (by rw [List.length_append, List.length_take]; omega)))
      have hoo'' : h''.get? o = some oo := (hs''.2 o (Ne.symm hdo)).trans hoo'
      refine wpAny_bind (wpAny_dictEpoch hoo'' hdo' ?_)
      rw [if_neg (by simp)]
      exact wpAny_pure ⟨h'', x + 1, rfl, h2, hlt, by rw [List.take_add_one, hkv, ← List.append_assoc]; exact hd'', hoo'', hs'.trans hs''⟩
    · rintro b s' ⟨h', i, rfl, hr, hi, hd', hoo', hs'⟩
      have hin : i = eso.size := by
        rcases Nat.lt_or_ge i eso.size with h | h
        · rw [List.drop_eq_getElem_cons (by simpa using h)] at hr
          cases hr
        · exact Nat.le_antisymm hi h
      refine wpAny_pure (hQ h' ?_ hs')
      rw [hin, ← hlen, List.take_length] at hd'
      exact hd'
  refine wpAny_bind (wpAny_dictEntries hod hdd ?_)
  split
  · refine wpAny_bind (wpAny_dictEntries hoo hdo' ?_)
    refine wpAny_bind ?_
    rw [← Array.forIn_toList]
    refine wpAny_forIn_list _ (fun rest _ s' => s' = s ∧ ∀ e ∈ rest, e ∈ eso.toList) _ ?_ ?_ _ _ ⟨rfl, fun e he => he⟩
    · rintro x rest b s' ⟨rfl, hm⟩
      obtain ⟨k, hk, _⟩ := hko x (by simpa using hm x List.mem_cons_self)
      have hk : keyIs k x.key = true := hk
      rcases keyIs_shape hk with ⟨i, t, _, e⟩ | ⟨z, t, _, e⟩
      · rw [e]
        exact wpAny_pure ⟨rfl, fun y hy => hm y (List.mem_cons_of_mem _ hy)⟩
      · rw [e]
        exact wpAny_pure ⟨rfl, fun y hy => hm y (List.mem_cons_of_mem _ hy)⟩
    · rintro b s' ⟨rfl, _⟩
      exact tail rfl
  · exact tail rfl
end
end Fr

namespace Fr
open PySem PySem.Spec PyProof.Rows L2
theorem kv_keys : ∀ {kvs : List (Key × V)} {vs : List (Key × Value)}, KV kvs vs → vs.map (·.1) = kvs.map (·.1)
  | [], _, h => by cases h; rfl
  | p :: kvs, _, h => by
    cases h with
    | cons h1 h2 =>
      rw [List.map_cons, List.map_cons, kv_keys h2, h1.1]
theorem kv_app : ∀ {kvs ls : List (Key × V)} {vs us : List (Key × Value)}, KV kvs vs → KV ls us → KV (kvs ++ ls) (vs ++ us)
  | [], _, _, _, h, k => by cases h; exact k
  | p :: kvs, _, _, _, h, k => by
    cases h with
    | cons h1 h2 => exact .cons h1 (kv_app h2 k)
def tMrg (t1 t2 : TE) : TE := fun σ H Q => ∀ p, H p = none → t1 σ (upd H p (.dK [])) fun x H1 => ∃ (a : Addr) (ks : List (Key × V)), x = .ref a ∧ H1 a = some (.dK ks) ∧ a ≠ p ∧ H1 p = some (.dK []) ∧ (ks.map (·.1)).Nodup ∧
  t2 σ (upd H1 p (.dK ks)) fun y H2 => ∃ (b : Addr) (ls : List (Key × V)), y = .ref b ∧ H2 b = some (.dK ls) ∧ b ≠ p ∧ H2 p = some (.dK ks) ∧ ((ks ++ ls).map (·.1)).Nodup ∧ ks.length + ls.length ≤ sizeLine ∧ Q (.ref p) (upd H2 p (.dK (ks ++ ls)))
theorem pe_mrg {X : Cx} {e1 e2 : Expr} {t1 t2 : TE} {pos : Pos} (he1 : PE X e1 t1) (he2 : PE X e2 t2) : PE X (.Dict [none, none] [e1, e2] pos) (tMrg t1 t2) := by
  refine ⟨fun pins s σ H Q I q => ?_⟩
  rw [arm_eval_Dict]
  refine wpAny_bind (wpAny_standAt ?_)
  show wpAny _ _ (dictDisplay [(none, do let x ← eval e1 X.env; standAt pos; pure x), (none, do let x ← eval e2 X.env; standAt pos; pure x)]) _ _ s
  unfold dictDisplay
  dsimp only
  simp only [List.forIn_cons, List.forIn_nil]
  have hn := I.hok.fresh (Nat.le_refl s.heap.objs.size)
  have I1 := I.laid (a := s.heap.objs.size) (o := .dK []) (h' := s.heap.push { cls := .type "dict", data := .dict #[] }) (t' := s.toks) (fun _ _ q => Heap.get?_push_of_some _ q) (Nat.le_refl _) (dk_empty s.heap I.big)
  refine wpAny_bind (wpAny_bind (wpAny_bind ?_))
  show wpAny _ _ (pure none) _ _ _
  refine wpAny_pure ?_
  dsimp only
  refine wpAny_bind (wpAny_alloc ?_)
  refine wpAny_bind (wpAny_holding (wpAny_bind (thn (he1.run pins _ σ _ _ I1 (q s.heap.objs.size hn)) fun u s1 ⟨x, H1, I2, rx, a, ks, ex, ha, nap, hp, nd, q2⟩ => wpAny_bind (wpAny_standAt (wpAny_pure ?_)))))
  subst ex
  obtain rfl : u = Value.ref a := rx
  obtain ⟨zp, hdp, vs0, r0, ddp⟩ := dk_of I2.hok hp
  cases r0
  obtain ⟨za, hda, va, ra, dda⟩ := dk_of I2.hok ha
  have nva : (va.map (·.1)).Nodup := by
    have e : va.map (·.1) = ks.map (·.1) := kv_keys ra
    rw [e]
    exact nd
  refine wpAny_bind (wpAny_onRaise (wpAny_tryCatch (wpAny_onRaise (wpAny_holding (wp_mergeMap (Ne.symm nap) hda ddp dda (by simpa using nva) (by simpa using (by rw [← ra.length]; exact za)) fun h2 dd2 sb2 => ?_)))))
  have I3 : Inv X pins σ (upd H1 s.heap.objs.size (.dK ks)) { s1 with heap := h2, toks := s1.toks } := d_write I2 (by rw [hp]; exact True.intro) sb2 (let ⟨q, _, _, hq, _⟩ := dd2; ⟨q, hq⟩) (dk_new za hdp ra (by simpa using dd2))
  refine wpAny_pure ?_
  dsimp only
  refine wpAny_bind (wpAny_bind ?_)
  show wpAny _ _ (pure (some s.heap.objs.size)) _ _ _
  refine wpAny_pure ?_
  dsimp only
  refine wpAny_bind (wpAny_pure ?_)
  refine wpAny_bind (wpAny_holding (wpAny_bind (thn (he2.run pins _ σ _ _ I3 q2) fun u2 s3 ⟨y, H2, I4, ry, b, ls, ey, hb, nbp, hp2, nd2, hz2, q3⟩ => wpAny_bind (wpAny_standAt (wpAny_pure ?_)))))
  subst ey
  obtain rfl : u2 = Value.ref b := ry
  obtain ⟨zp2, hdp2, vs2, r2, ddp2⟩ := dk_of I4.hok hp2
  obtain ⟨zb, hdb, vb, rb, ddb⟩ := dk_of I4.hok hb
  have nvb : ((vs2 ++ vb).map (·.1)).Nodup := by
    have e : (vs2 ++ vb).map (·.1) = (ks ++ ls).map (·.1) := by
      rw [List.map_append, List.map_append, kv_keys r2, kv_keys rb]
    rw [e]
    exact nd2
  refine wpAny_bind (wpAny_onRaise (wpAny_tryCatch (wpAny_onRaise (wpAny_holding (wp_mergeMap (Ne.symm nbp) hdb ddp2 ddb nvb (by rw [← r2.length, ← rb.length]; exact hz2) fun h3 dd3 sb3 => ?_)))))
  have I5 : Inv X pins σ (upd H2 s.heap.objs.size (.dK (ks ++ ls))) { s3 with heap := h3, toks := s3.toks } := d_write I4 (by rw [hp2]; exact True.intro) sb3 (let ⟨q, _, _, hq, _⟩ := dd3; ⟨q, hq⟩) (dk_new (by rw [List.length_append]; exact hz2) hdp2 (kv_app r2 rb) dd3)
  refine wpAny_pure ?_
  dsimp only
  refine wpAny_pure ?_
  refine wpAny_bind ?_
  show wpAny _ _ (pure (some s.heap.objs.size)) _ _ _
  refine wpAny_pure ?_
  exact wpAny_pure ⟨.ref _, _, I5, rfl, q3⟩
end Fr

namespace Fr
open PySem PySem.Spec PyProof.Rows L2
theorem enum_newT {v : Value} {o : Obj} {G : Heap → Prop} (B : Begins v o G) :
    Meets (Builtin.«enumerate.__new__» ⟨[.type "enumerate", v], []⟩) (fun _ R s => G s.heap ∧
      R (.ok (.ret (.ref (s.heap.push o).objs.size))) { s with heap := (s.heap.push o).push { cls := .type "enumerate", data := .fields #[.none, .bool false, .ref s.heap.objs.size, rawInt 0, .none, .none] } }) :=
  .of_wp fun prog w A R s h => by
    obtain ⟨hp, g, d, tk, os⟩ := s
    obtain ⟨h1, h⟩ := h
    have hsub := sub_enumerate
    have it : ∀ {A' : Around} {E : Value → Shared → Prop} {Q : Value → Shared → Prop}, Q (.ref hp.objs.size) ⟨hp.push o, g, d, tk, os⟩ → wpAny (model prog w) A' (pyIter v) Q E ⟨hp, g, d, tk, os⟩ := fun q => B.iter prog w _ _ ⟨hp, g, d, tk, os⟩ _ h1 q
    wp_walk using it
    refine wpAny_stack_any fun st => wpAny_pure ?_
    split
    · rename_i c _ _ _ _ _
      cases (c == Value.type "enumerate") <;> (wp_walk using it; exact ⟨_, rfl, h⟩)
    · wp_walk using it
      exact ⟨_, rfl, h⟩
section
variable {prog : Program} {w : World} {A : Around} {E : Value → Shared → Prop} {s : Shared}
theorem call_enumT {v : Value} {o : Obj} {G : Heap → Prop} {Q : Value → Shared → Prop} (B : Begins v o G) (h1 : G s.heap)
    (h : ∀ h', IsEnum h' (s.heap.objs.size + 1) s.heap.objs.size 0 .none → h'.get? s.heap.objs.size = some o → (∀ b u, s.heap.get? b = some u → h'.get? b = some u) → Q (.ref (s.heap.objs.size + 1)) { s with heap := h' }) :
    wpAny (model prog w) A (call (.type "enumerate") [v]) Q E s := by
  refine callType_new PySem.F.called_enumerate (by decide) (PySem.F.typeCall_enumerate_1 _) (PySem.F.newCall_enumerate_1 _) (fun obj => PySem.F.args_object_init_2 obj _) PySem.F.entry_enumerate_new (enum_newT B) ⟨h1, ?_⟩
  have hz : (s.heap.push o).objs.size = s.heap.objs.size + 1 := Heap.size_push ..
  show _ ∧ _
  rw [hz]
  have he : IsEnum ((s.heap.push o).push { cls := .type "enumerate", data := .fields #[.none, .bool false, .ref s.heap.objs.size, rawInt 0, .none, .none] }) (s.heap.objs.size + 1) s.heap.objs.size 0 .none := by
    have z := Heap.get?_push_size (s.heap.push o) (o := { cls := .type "enumerate", data := .fields #[.none, .bool false, .ref s.heap.objs.size, rawInt 0, .none, .none] }) rfl
    rw [hz] at z
    exact z
  exact ⟨⟨_, he, rfl⟩, h _ he (Heap.get?_push_of_some _ (Heap.get?_push_size _ B.free)) fun b u e => Heap.get?_push_of_some _ (Heap.get?_push_of_some _ e)⟩
end
section
variable {prog : Program} {w : World} {A : Around} {E : Value → Shared → Prop} {s : Shared}
theorem enumT_end {e it a : Addr} {i : Nat} {items : Array Value} {old : Value} {Q : Option Value → Shared → Prop} (hh : A.in1.handled = none) (he : IsEnum s.heap e it i old) (hit : s.heap.IsTupleIter it a i) (ht : s.heap.IsTuple a items) (hne : a ≠ it) (hx : items[i]? = none)
    (hQ : ∀ h', Heap.ExtBut it s.heap h' → Q none { s with heap := h' }) : wpAny (model prog w) A (pyNext (.ref e)) Q E s := by
  have hT : s.TypeIs (.ref e) "enumerate" := ⟨_, he, rfl⟩
  unfold pyNext
  refine wpAny_bind (wpAny_attempt (wpAny_callSpecial?_slot (name := Str.ofString "__next__") hT PySem.F.slot_enumerate_next (wpAny_call_entry PySem.F.slot_enumerate_next hT PySem.F.entry_enumerate_next ?_ (PySem.F.args_enumerate_next_1 _))))
  show wpAny _ _ (field (.ref e) 2 >>= _) _ _ _
  refine wpAny_bind (wpAny_field he rfl (x := .ref it) rfl ?_)
  refine wpAny_bind (wpAny_nextOf_tuple_end hh hit ht hx fun h' x he' hx' => ?_)
  obtain ⟨o, ho, hc⟩ := hx'
  exact wpAny_bind (wpAny_isInstance (T := "StopIteration") (b := true) ⟨o, ho, hc⟩ isSubtype_stop (wpAny_pure (hQ _ he')))
end
/-- the tuple at a as it stands, each item in a new pair -/
def IteT (K : PySem.W.Frag) (a : Addr) : It :=
  ⟨fun i H => ∃ (xs : List V) (x : V), SqT K H a xs ∧ xs[i]? = some x, fun i H v H' => ∃ T x, v = .ref T ∧ H T = none ∧ H' = upd H T (.tup [.int (i : Nat), x]) ∧ ∀ xs, SqT K H a xs → xs[i]? = some x, fun i H => ∃ xs : List V, SqT K H a xs ∧ xs.length ≤ i⟩
theorem turn_enumT {P : Program} {w : World} {K : PySem.W.Frag} {elts : List Expr} {kk : Nat} {tpos : Pos} (a e it : Addr) :
    Turn P w K (.Tuple elts kk tpos) (IteT K a) [e, it] e (fun i h => (∃ old, IsEnum h e it ((i : Nat) : Int) old) ∧ h.IsTupleIter it a i ∧ e ≠ it ∧ a ≠ e ∧ a ≠ it) where
  mem := by simp
  obj := fun i h st b hb => by
    obtain ⟨⟨old, he⟩, ⟨o, ho, hc, hd⟩, _⟩ := st
    rcases (show b = e ∨ b = it by simpa using hb) with z | z <;> rw [z]
    · exact ⟨_, he, fun v q => nomatch q⟩
    · exact ⟨o, ho, fun v q => by rw [hd] at q; cases q⟩
  keep := fun i h h' st k => let ⟨⟨old, he⟩, hi, ne⟩ := st; ⟨⟨old, k e (by simp) _ he⟩, hi.at fun o q => k it (by simp) o q, ne⟩
  item := by
    intro X hP hw hK hc i pins s σ H E I hf st hg
    subst hP hw hK
    obtain ⟨⟨old, he⟩, hit, hne, hae, hai⟩ := st
    obtain ⟨xs, x, hq, hx⟩ := hg
    obtain ⟨its, rv, p, hz⟩ := I.tuple hq
    obtain ⟨u, hu, ru⟩ := rv.get hx
    have hel : e < s.heap.objs.size := Heap.lt_size he
    have hil : it < s.heap.objs.size := by
      obtain ⟨_, q, _⟩ := hit
      exact Heap.lt_size q
    have hlt : i < its.toArray.size := by
      rw [List.size_toArray]
      exact (List.getElem?_eq_some_iff.mp hu).1
    refine wpAny_pyNext_enum_itemD (Draws.tuple (show X.A.in1.handled = none from I.ok.hd hc) it a hai its.toArray) he ⟨hit, p⟩ hlt hne (by simp [hne, Ne.symm hae]) fun u' h' tk hP ho hst hT hsz hk => ?_
    obtain rfl : u' = u := by
      have z : its.toArray[i]? = some u' := hP
      rw [List.getElem?_toArray, hu] at z
      exact (Option.some.inj z).symm
    refine ⟨_, rfl, wpAny_letOwnedTupleGo_enum (s := { s with heap := h', toks := tk + 1 }) ho fun h'' he' sb => ?_⟩
    have hT2 : h''.get? s.heap.objs.size = some { cls := .type "tuple", data := .seq #[.int i tk, u'] } := (sb.2 _ (Nat.ne_of_gt hel)).trans hT
    have nw : ObjOk X.prog X.w (upd H s.heap.objs.size (.tup [.int (i : Nat), x])) h'' s.heap.objs.size (.tup [.int (i : Nat), x]) :=
      ⟨by show 2 ≤ sizeLine; decide, [.int i tk, u'], .cons ⟨_, rfl⟩ (.cons ru .nil), ⟨_, hT2, rfl, _, rfl⟩⟩
    have I1 : Inv X pins σ (upd H s.heap.objs.size (.tup [.int (i : Nat), x])) { s with heap := h'', toks := tk + 1 } :=
      I.turnedNew (ch := [e, it]) (fun b ob nb q => (sb.2 b (fun z => nb (by simp [z]))).trans (hk b ob (fun z => nb (by simp [z])) (fun z => nb (by simp [z])) q)) hf (Nat.le_refl _) nw
    refine ⟨.ref s.heap.objs.size, _, I1, rfl, ⟨_, x, rfl, I.hok.fresh (Nat.le_refl _), rfl, fun ys hy => by rw [I.tuple_inj hy hq]; exact hx⟩, ⟨⟨u', ?_⟩, hst.1.at fun o q => (sb.2 it (Ne.symm hne)).trans q, hne, hae, hai⟩, fun b hb => ?_⟩
    · rw [show ((i + 1 : Nat) : Int) = (i : Int) + 1 by omega]
      exact he'
    · have hb' : b < s.heap.objs.size := by
        rcases (show b = e ∨ b = it by simpa using hb) with z | z <;> rw [z]
        · exact hel
        · exact hil
      rw [upd_ne (Nat.ne_of_lt hb')]
      exact (hf b hb).1
  done := by
    intro X hP hw hK hc i pins s σ H E I hf st hg
    subst hP hw hK
    obtain ⟨⟨old, he⟩, hit, hne, hae, hai⟩ := st
    obtain ⟨xs, hq, hx⟩ := hg
    obtain ⟨its, rv, p, hz⟩ := I.tuple hq
    obtain ⟨f0, f1, f2, f3, f4, f5⟩ := hf it (by simp)
    have hl := rv.length
    exact enumT_end (show X.A.in1.handled = none from I.ok.hd hc) he hit p hai (by simp; omega) fun h' eb => ⟨rfl, I.turned (t' := s.toks) (fun b o hb q => eb b o hb q) f0 f1 f3 f4 f5⟩
  self := fun A i s Q E st h => let ⟨⟨_, he⟩, _⟩ := st; wpAny_pyIter_enum he h
def iEnumT (K : PySem.W.Frag) (ta : TA) : TI := fun σ H R => ta σ H fun vs H1 => ∃ a xs, vs = [.ref a] ∧ SqT K H1 a xs ∧ R (IteT K a) H1
theorem pi_enumT {X : Cx} {e : Expr} {ta : TA} {p pos tpos : Pos} {elts : List Expr} {kk : Nat} (hg : Gl X "enumerate") (hm : X.mg "enumerate" = none) (ha : PA X [e] ta) (hs : starEach [e] X.env = [(false, eval e X.env)] := by rfl) :
    PI X (.Tuple elts kk tpos) (.Call (.Name "enumerate" p) [e] [] pos) (iEnumT X.K ta) := by
  refine ⟨fun pins s σ H R I h => ?_⟩
  refine Call_ (ld_blt I hg hm boot_enumerate (PyProof.Rows.callWith_type1 (thn (ha.run pos pins s σ H _ I h) fun us s1 ⟨vs, H1, I1, r1, a, xs, ex, hq, q⟩ => ?_) hs rfl))
  subst ex
  obtain rfl := Vals.ref1 r1
  obtain ⟨its, rv, p', hz⟩ := I1.tuple hq
  have hal : a < s1.heap.objs.size := by
    obtain ⟨o, ho, _⟩ := id p'
    exact Heap.lt_size ho
  refine call_enumT (begins_tuple a its.toArray) p' fun h' he hit hk => wpAny_pyIter_enum he ?_
  have I2 : Inv X pins σ H1 { s1 with heap := h' } := I1.kept (t' := s1.toks) hk
  refine ⟨s1.heap.objs.size + 1, [s1.heap.objs.size + 1, s1.heap.objs.size], _, _, H1, rfl, I2, turn_enumT a (s1.heap.objs.size + 1) s1.heap.objs.size,
    ⟨⟨.none, he⟩, ⟨_, hit, rfl, rfl⟩, Nat.succ_ne_self _, Nat.ne_of_lt (Nat.lt_succ_of_lt hal), Nat.ne_of_lt hal⟩, fun b hb => ?_, q⟩
  have hle : s1.heap.objs.size ≤ b := by
    rcases (show b = s1.heap.objs.size + 1 ∨ b = s1.heap.objs.size by simpa using hb) with z | z <;> rw [z]
    · exact Nat.le_add_right _ _
    · exact Nat.le_refl _
  exact I1.fpOk hle (I1.hok.fresh hle)
theorem walk_enumT {K : PySem.W.Frag} {a : Addr} {xs : List V} : Walk (IteT K a) xs.length (fun H => SqT K H a xs) (YPair (fun i => some (.int (i : Nat))) (fun i => xs[i]?)) := by
  refine ⟨fun i _ hi q => ⟨xs, xs[i], q, by simp [hi]⟩, fun _ q => ⟨xs, q, Nat.le_refl _⟩, fun i H v H' _ q y => ?_⟩
  obtain ⟨T, x, y1, y2, y3, y4⟩ := y
  exact ⟨T, .int (i : Nat), x, y1, y2, y3, rfl, y4 xs q⟩
end Fr

namespace Fr
open PySem PySem.Spec PyProof.Rows L2
/-- o.f in a comprehension's block -/
theorem pe_fldK {X : Cx} {K' : PySem.W.Frag} {e : Expr} {f : Str} {pos : Pos} {ta : TE} (he : PE X e ta) (hb : attributeBase e f X.env (eval e X.env) = eval e X.env := by rfl) (hK : X.K = K' := by rfl) : PE X (.Attribute e f pos) (tFld K' ta f) := by
  subst hK
  exact pe_fld he hb
structure LenM (P : Program) (w : World) (K : PySem.W.Frag) (mg : Str → Option Value) (base : Heap) (k : Nat) (C : Addr) (sp : Sp) : Prop where
  ex : ∃ (f : Addr) (fd : FuncData) (ps : List Str), Cls K C ∧ PySem.W.findIn K (.ref C) "__len__" = some (some (.ref f)) ∧ PySem.W.isFn K (.ref f) = true ∧ FnOk P w K mg base CX0 k f fd ps sp ∧ Binds K fd ps []
def rLenOwn (C : Addr) (sp : Sp) : List V → Hp → VK → Prop := fun xs H Q => ∃ (a dx : Addr) (fs : List (Str × V)), xs = [.ref a] ∧ H a = some (.ins C dx fs) ∧ sp [.ref a] H (fun v H' => ∃ n : Nat, v = .int n ∧ n < 1000000 ∧ Q (.int n) H') C8.E0
theorem call_lenOwn {X : Cx} {k j : Nat} {C : Addr} {sp : Sp} (c : LenM X.prog X.w X.K X.mg X.base k C sp) (hr : Room j X.A) (hk : k + 1 ≤ j) : CallR X (.builtin "len") (rLenOwn C sp) := by
  intro pins s σ H xs us Q I r h
  obtain ⟨a, dx, fs, rfl, ha, h⟩ := h
  obtain ⟨u, rfl, ru⟩ := vals1 r
  obtain rfl : u = Value.ref a := ru
  obtain ⟨f, fd, ps, hc, hs, hf, F, hb⟩ := c.ex
  obtain ⟨mA, J, _⟩ := ins_get I.hok ha
  obtain ⟨od, J, _⟩ := J.look
  have sp1 : PySem.W.Looks (model X.prog X.w) s.heap (specialOf (.ref a) "__len__") (some (.ref f)) := J.type.andThen (PySem.W.looks_findIn I.kIn hs)
  refine Calls.call_function_entry kind_len plain_len entry_len (args_len1 _) ?_
  unfold Builtin.«len»
  refine wpAny_bind (m := oneArg "len" _) (wpAny_pure ?_)
  refine wpAny_bind (m := callSpecial? (.ref a) (Str.ofString "__len__")) ?_
  unfold callSpecial?
  refine wpAny_bind (sp1.here ?_)
  refine wpAny_holding (wpAny_bind ((PySem.W.bind_fn I.kIn _ (beq_iff_eq.mp hf)).here ?_))
  have hrk : Room (k + 1) X.A := hr.mono hk
  have r2 : Vals [V.ref a] [Value.ref a] := .cons rfl .nil
  have hl := F.len _ _ _ _ h
  have bt := hb s [.ref a] I.kIn (by simpa using hl)
  refine wpAny_bind (wpAny_call (codeAny_mono (F.run X.A.in1 X.stack s H ⟨[.ref a], []⟩ [.ref a] [.ref a] _ C8.E0 hrk.in1 I.env0.in1 (by simpa using bt) r2 h) fun rs s2 z => ?_))
  match rs, z with
  | .error er, z => exact pass0 (X := X) pins σ H s er s2 I z
  | .ok (.ret v), z =>
    obtain ⟨y, H', I', ry, n, rfl, hn, q⟩ := I.after z
    obtain ⟨t, rfl⟩ : ∃ t, v = Value.int n t := ry
    refine wpAny_pure ?_
    refine wpAny_bind (wpAny_holding (wpAny_pure ?_))
    refine wpAny_bind (wpAny_letGo ?_)
    show wpAny _ _ (if ((n : Nat) : Int) < 0 then _ else _) _ _ _
    rw [if_neg (by omega)]
    show wpAny _ _ (if ((n : Nat) : Int) ≥ 2 ^ 63 then _ else _) _ _ _
    rw [if_neg (by omega)]
    exact wpAny_bind (wpAny_mkInt (wpAny_pure ⟨_, rfl, .int n, H', I'.tok _, ⟨_, rfl⟩, q⟩))
  | .ok .next, z => exact z.elim
  | .ok .brk, z => exact z.elim
  | .ok .cont, z => exact z.elim
end Fr

namespace Fr
open PySem PySem.Spec PyProof.Rows L2
/-- room, and nothing under repr -/
structure RoomG (k : Nat) (A : Around) : Prop where
  room : Room k A
  free : A.guards = some []
structure FnG (P : Program) (w : World) (K : PySem.W.Frag) (mg : Str → Option Value) (base : Heap) (k : Nat) (f : Addr) (fd : FuncData) (ps : List Str) (sp : Sp) : Prop where
  len : ∀ vs H Q E, sp vs H Q E → vs.length = ps.length
  go : ∀ (A : Around) (outer : List Env) (s : Shared) (H : Hp) (args : Args) (us : List Value) (vs : List V) (Q : VK) (E : XK), RoomG k A → Env0 P w K mg base A outer s H → BindsTo s fd args (ps.zip us) → Vals vs us → sp vs H Q E → codeAny (model P w) A (.call (.ref f) args) (CR CX0 outer P w H s Q E) s
section
variable {P : Program} {w : World} {K : PySem.W.Frag} {mg : Str → Option Value} {base : Heap}
/-- a def by its body -/
theorem fnG_of {k : Nat} {f : Addr} {x qual : Str} {pa : Arguments} {body : List Stmt} {sc : Scope} {dV kV doc pm cd ct oc : Value} {an od : Option Addr} {osl : Array (Option Value)} {N ps : List Str} {sp : Sp}
    (lk : K.lookup f = some ⟨oc, od, .func (PySem.W.fnOf x qual pa body sc dV kV doc pm an cd ct), osl⟩) (hcd : PySem.W.codeIn K cd qual = true) (S : FnScope N ps sc) (len : ∀ vs H Q E, sp vs H Q E → vs.length = ps.length)
    (hb : ∀ (A : Around) (outer : List Env) (s : Shared) (H : Hp) (vs : List V) (Q : VK) (E : XK), RoomG k (A.deeper (envOfC qual sc s.heap.objs.size f cd)) → sp vs H Q E → ∃ t, PSs (cxOf CX0 P w K mg base N qual sc f cd A outer s H E) body t ∧ t { nx := fun _ H' => Q .non H', rt := Q } (start N vs) H) :
    FnG P w K mg base (k + 1) f (PySem.W.fnOf x qual pa body sc dV kV doc pm an cd ct) ps sp where
  len := len
  go A outer s H args us vs Q E hr e0 bt rv hq := by
    have h1 : vs.length = ps.length := len _ _ _ _ hq
    have inK : K.In s.heap := e0.mod.kin.keeps fun b o z => (e0.bs b o z).1
    have noL : s.heap.NoLimit := e0.mod.nolimit.keeps fun b o z => (e0.bs b o z).1
    have kinds : ∀ y ∈ ps.zip us, sc.names.lookup y.1 = some .local ∨ (sc.names.lookup y.1 = some .cell ∧ ((cellsFrom (s.heap.objs.size + 1) sc.names []).lookup y.1).isSome = true) := by
      intro y hy
      obtain ⟨n, v⟩ := y
      cases S.par n (List.of_mem_zip hy).1 with
      | inl z => exact Or.inl z
      | inr z => exact Or.inr ⟨z, PySem.W.cellsFrom_some _ _ _ (Or.inl z)⟩
    refine codeAny_call_function hr.room.depth (inK _ _ lk) rfl S.co S.gen rfl (PySem.W.codeRec_of inK hcd) (bt _ _ _ _ (wpAny_newFunctionEnv_cells S.kind kinds ?_))
    rintro _ rfl s1 ic
    refine ⟨noL.keeps ic.toInCall.keep, codeAny_func ?_⟩
    obtain ⟨t, pt, ht⟩ := hb A outer s H vs Q E ⟨hr.room.deeper _, hr.free⟩ hq
    have I0 := inv_start (CX := CX0) (E := E) S hr.room.hd e0 h1 rv ic
    refine wpAny_mono (pt.run [] s1 (start N vs) H _ I0 ht) (fun fl s2 z => ?_) fun _ _ z => z
    cases fl with
    | next =>
      obtain ⟨_, H2, J, q⟩ := z
      exact ⟨V.non, H2, J.os, J.bare, J.base, J.hok, rfl, q⟩
    | ret u =>
      obtain ⟨v, _, H2, J, ru, q⟩ := z
      exact ⟨v, H2, J.os, J.bare, J.base, J.hok, ru, q⟩
    | brk => exact z.elim fun _ z => z.elim fun _ z => z.2.elim
    | cont => exact z.elim fun _ z => z.elim fun _ z => z.2.elim
theorem Fun_okG {x qual : Str} {st : Stmt} {f : Addr} {fd : FuncData} {N ps : List Str} {k : Nat} {sp : Sp} (F : Fun K x qual st f fd) (S : FnScope N ps (defScope st)) (len : ∀ vs H Q E, sp vs H Q E → vs.length = ps.length)
    (hb : ∀ (cd : Value) (A : Around) (outer : List Env) (s : Shared) (H : Hp) (vs : List V) (Q : VK) (E : XK), RoomG k (A.deeper (envOfC qual (defScope st) s.heap.objs.size f cd)) → sp vs H Q E →
      ∃ t, PSs (cxOf CX0 P w K mg base N qual (defScope st) f cd A outer s H E).nox (defBody st) t ∧ t { nx := fun _ H' => Q .non H', rt := Q } (start N vs) H) : FnG P w K mg base (k + 1) f fd ps sp := by
  obtain ⟨oc, od, kV, doc, pm, an, cd, ct, osl, rfl, lk, hcd⟩ := F.ex
  refine fnG_of lk hcd S len fun A outer s H vs Q E hr hq => ?_
  obtain ⟨t, pt, ht⟩ := hb cd A outer s H vs Q E hr hq
  exact ⟨t, pt.nox, ht⟩
/-- a def of this kind that may be called by its name -/
structure CalG (P : Program) (w : World) (K : PySem.W.Frag) (mg : Str → Option Value) (base : Heap) (k : Nat) (x : Str) (sp : Sp) : Prop where
  ex : ∃ (f : Addr) (fd : FuncData) (ps : List Str), FnG P w K mg base k f fd ps sp ∧ mg x = some (.ref f) ∧ PySem.W.keepIn K (.ref f) = true ∧ Binds K fd ps []
end
section
variable {X : Cx} {k j : Nat} {x : Str} {sp : Sp} {p pos : Pos} {e : Expr} {es : List Expr} {t : TA}
theorem pe_cG (c : CalG X.prog X.w X.K X.mg X.base k x sp) (hr : RoomG j X.A) (hk : k ≤ j) (hg : Gl X x) (ha : PA X (e :: es) t) (hdb : (x == ("__debug__" : Str)) = false := by decide)
    (he : starEach (e :: es) X.env = (false, eval e X.env) :: starEach es X.env := by rfl) (hpl : (backTo pos (starEach es X.env)).any (·.1) = false := by rfl) : PE X (.Call (.Name x p) (e :: es) [] pos) (tCall sp [] C8.E0 t) := by
  obtain ⟨f, fd, ps, F, hm, kp, hb⟩ := c.ex
  constructor
  intro pins s σ H Q I h
  refine wpAny_Call_Name_kw (ld_glob I hg hm (PySem.W.callWith_K (h₀ := X.base) I.ok.mod.kin kp (thn (ha.run pos pins s σ H _ I h) ?_) he hpl) hdb)
  rintro us s1 ⟨vs, H1, I1, r, q⟩
  refine ⟨I1.kIn, wpAny_call ?_⟩
  have r2 : Vals (vs ++ []) (us ++ []) := r.append .nil
  have hl : (us ++ ([] : List Value)).length = ps.length := r2.length.symm.trans (F.len _ _ _ _ q)
  refine codeAny_mono (F.go X.A X.stack s1 H1 ⟨us, []⟩ (us ++ []) (vs ++ []) Q C8.E0 ⟨hr.room.mono hk, hr.free⟩ I1.env0 (hb s1 us I1.kIn hl) r2 q) fun rs s2 z => ?_
  match rs, z with
  | .error er, z => exact pass0 (X := X) pins σ H1 s1 er s2 I1 z
  | .ok (.ret u), z => exact I1.after z
  | .ok .next, z => exact z.elim
  | .ok .brk, z => exact z.elim
  | .ok .cont, z => exact z.elim
/-- repr(e), e plain data -/
def rReprD (K : PySem.W.Frag) : List V → Hp → VK → Prop := fun xs H Q => ∃ (v : V) (d : PyData), xs = [v] ∧ Dp K H v d ∧ d.canLay0 = true ∧ d.showable = true ∧ d.depth ≤ 60 ∧ ((∃ i, d = .int i) ∨ d.shown.length ≤ sizeLine) ∧ Q (.str d.shown) H
theorem call_reprD (hg : X.A.guards = some []) (hu : X.A.units + 65 < cLine) : CallR X (.builtin "repr") (rReprD X.K) := by
  intro pins s σ H xs us Q I r h
  obtain ⟨v, d, rfl, hd, hc, hs, h6, hz, q⟩ := h
  obtain ⟨u, rfl, ru⟩ := vals1 r
  obtain ⟨as, rd⟩ := Dp.reads I d v u hd ru
  cases hd with
  | non =>
    cases (show u = Value.none from ru)
    simp only [PyData.shown] at q hz
    exact P.repr_of_none ⟨.str _, H, I.tok _, ⟨_, rfl⟩, q⟩
  | bl b =>
    cases (show u = Value.bool b from ru)
    simp only [PyData.shown] at q hz
    refine P.repr_of_bool ⟨.str _, H, I.tok _, ⟨_, rfl⟩, ?_⟩
    cases b <;> exact q
  | int i =>
    obtain ⟨t, rfl⟩ := (show ∃ t, u = Value.int i t from ru)
    simp only [PyData.shown] at q hz
    simp only [PyData.showable] at hs
    exact P.repr_of_int (of_decide_eq_true hs) ⟨.str _, H, I.tok _, ⟨_, rfl⟩, q⟩
  | str y =>
    obtain ⟨t, rfl⟩ := (show ∃ t, u = Value.str y t from ru)
    simp only [PyData.shown] at q hz
    exact P.repr_of_str ⟨.str _, H, I.tok _, ⟨_, rfl⟩, q⟩ (hz.resolve_left fun ⟨_, z⟩ => by cases z)
  | lst hq ha =>
    cases (show u = Value.ref _ from ru)
    exact repr_of_reads' rd hs (PyData.noDict_hsm (PyData.hasDict_of_canLay _ hc)) hg (by omega) (fun _ _ z => z) (fun h' t tk k => ⟨.str _, H, I.kept k, ⟨_, rfl⟩, q⟩) (hz.resolve_left fun ⟨_, z⟩ => by cases z)
  | tup hq ha =>
    cases (show u = Value.ref _ from ru)
    exact repr_of_reads' rd hs (PyData.noDict_hsm (PyData.hasDict_of_canLay _ hc)) hg (by omega) (fun _ _ z => z) (fun h' t tk k => ⟨.str _, H, I.kept k, ⟨_, rfl⟩, q⟩) (hz.resolve_left fun ⟨_, z⟩ => by cases z)
end
end Fr

namespace Fr
open PySem PySem.Spec PyProof.Rows L2
structure Shw (d : PyData) (k w : Nat) : Prop where
  lay : d.canLay0 = true
  sho : d.showable = true
  dep : d.depth ≤ k
  int : d.intsShort 13 = true
  wt : d.weight ≤ w
structure ShwA (ds : List PyData) (k w : Nat) : Prop where
  lay : PyData.canLayAll0 ds = true
  sho : PyData.showableAll ds = true
  dep : PyData.depthAll ds ≤ k
  int : PyData.intsShortAll 13 ds = true
  wt : PyData.weightAll ds ≤ w
theorem ShwA.nil {k : Nat} : ShwA [] k 0 := ⟨by simp [PyData.canLayAll0], by simp [PyData.showableAll], by simp [PyData.depthAll], by simp [PyData.intsShortAll], by simp [PyData.weightAll]⟩
theorem ShwA.cons {d : PyData} {ds : List PyData} {k w v u : Nat} (h : Shw d k w) (t : ShwA ds k v) (e : w + 1 + v ≤ u) : ShwA (d :: ds) k u :=
  ⟨by simp [PyData.canLayAll0, h.lay, t.lay], by simp [PyData.showableAll, h.sho, t.sho], by simp only [PyData.depthAll]; have := h.dep; have := t.dep; omega, by simp [PyData.intsShortAll, h.int, t.int],
    by simp only [PyData.weightAll]; have := h.wt; have := t.wt; omega⟩
theorem ShwA.c {d : PyData} {ds : List PyData} {k w v : Nat} (h : Shw d k w) (t : ShwA ds k v) : ShwA (d :: ds) k (w + 1 + v) := .cons h t (Nat.le_refl _)
theorem Shw.list {ds : List PyData} {k w : Nat} (h : ShwA ds k w) : Shw (.list ds) (k + 1) w :=
  ⟨by simp [PyData.canLay0, h.lay], by simp [PyData.showable, h.sho], by simp only [PyData.depth]; have := h.dep; omega, by simp [PyData.intsShort, h.int], by simp only [PyData.weight]; exact h.wt⟩
theorem Shw.tup {ds : List PyData} {k w : Nat} (h : ShwA ds k w) : Shw (.tuple ds) (k + 1) w :=
  ⟨by simp [PyData.canLay0, h.lay], by simp [PyData.showable, h.sho], by simp only [PyData.depth]; have := h.dep; omega, by simp [PyData.intsShort, h.int], by simp only [PyData.weight]; exact h.wt⟩
theorem Shw.one {i : Int} {k : Nat} (h : i.natAbs < 10 ^ 12) : Shw (.int i) k 40 := by
  have z := PyData.intsShortAll_ints [i] (by intro n hn; rw [List.mem_singleton.mp hn]; exact h)
  have hl : i.natAbs.log2 < 40 := by
    by_cases h0 : i.natAbs = 0
    · rw [h0]; decide
    · exact (Nat.log2_lt h0).mpr (Nat.lt_trans h (by decide))
  refine ⟨by simp [PyData.canLay0], by simp only [PyData.showable]; exact decide_eq_true (by omega), by simp [PyData.depth], ?_, ?_⟩
  · simp only [List.map_cons, List.map_nil, PyData.intsShortAll, Bool.and_eq_true] at z
    exact z.1
  · simp only [PyData.weight]
    split <;> omega
theorem Shw.str {x : Str} {k w : Nat} (h : PyData.strOk x = true) (e : x.length ≤ w) : Shw (.str x) k w :=
  ⟨by simpa [PyData.canLay0] using h, by simp [PyData.showable], by simp [PyData.depth], by simp [PyData.intsShort], by simp only [PyData.weight]; exact e⟩
theorem ShwA.map {α : Type} {f : α → PyData} {k w : Nat} : ∀ {xs : List α}, (∀ x ∈ xs, Shw (f x) k w) → ShwA (xs.map f) k (xs.length * (w + 1))
  | [], _ => by simpa using ShwA.nil
  | x :: xs, h => .cons (h x List.mem_cons_self) (ShwA.map fun y hy => h y (List.mem_cons_of_mem _ hy)) (by rw [List.length_cons, Nat.succ_mul]; omega)
theorem Shw.mono {d : PyData} {k w j v : Nat} (h : Shw d k w) (e : k ≤ j) (f : w ≤ v) : Shw d j v := ⟨h.lay, h.sho, Nat.le_trans h.dep e, h.int, Nat.le_trans h.wt f⟩
theorem ShwA.mono {d : List PyData} {k w j v : Nat} (h : ShwA d k w) (e : k ≤ j) (f : w ≤ v) : ShwA d j v := ⟨h.lay, h.sho, Nat.le_trans h.dep e, h.int, Nat.le_trans h.wt f⟩
/-- what repr asks -/
theorem Shw.asks {d : PyData} {k w : Nat} (h : Shw d k w) (e : k ≤ 60) (f : w ≤ 1000000) : d.canLay0 = true ∧ d.showable = true ∧ d.depth ≤ 60 ∧ ((∃ i, d = .int i) ∨ d.shown.length ≤ sizeLine) :=
  ⟨h.lay, h.sho, Nat.le_trans h.dep e, .inr (PyData.shown_fits (by decide) (by decide) (PyData.leavesShort_of_canLay0 13 d h.lay h.int) (Nat.le_trans h.wt (Nat.le_trans f (by decide))))⟩
theorem Shw.shaped {d : PyData} {k w : Nat} (h : Shw d k w) (e : k ≤ 60) : SeqAt.shaped d = true := by
  unfold SeqAt.shaped
  rw [h.lay, decide_eq_true (Nat.le_trans h.dep (Nat.le_trans e (by decide)))]
  rfl
end Fr

namespace Fr
open PySem PySem.Spec PyProof.Rows L2
def In2 (J1 : It) (g1 : TG) (tt1 : TT) (te : TE) (vs1 : List Nat) (D : Addr) (σ2 : L2.St) (H4 : Hp) (Nx : Hp → Prop) : Prop := ∃ W1 : Nat → Nat → Hp → Prop, (∃ m, W1 0 m H4) ∧ ∀ j k H, W1 j k H →
  (J1.stop j H ∧ Nx H) ∨ (J1.go j H ∧ ∃ Nx1 : Hp → Prop, (∀ H', Nx1 H' → ∃ k', k' < k ∧ W1 (j + 1) k' H') ∧ ∀ x H', J1.yld j H x H' → g1 x (wipe σ2 vs1) H' fun σ3 H5 => wipe σ3 vs1 = wipe σ2 vs1 ∧ tt1 σ3 H5 fun b H6 =>
    if b = true then te σ3 H6 fun y H7 => ∃ acc, H7 D = some (.lst acc) ∧ acc.length < sizeLine ∧ Nx1 (upd H7 D (.lst (acc ++ [y]))) else Nx1 H6)
theorem in2_mono {J1 : It} {g1 : TG} {tt1 : TT} {te : TE} {vs1 : List Nat} {D : Addr} {σ2 : L2.St} {H4 : Hp} {Nx Nx' : Hp → Prop} (h : In2 J1 g1 tt1 te vs1 D σ2 H4 Nx) (e : ∀ H, Nx H → Nx' H) : In2 J1 g1 tt1 te vs1 D σ2 H4 Nx' := by
  obtain ⟨W1, w0, st⟩ := h
  refine ⟨W1, w0, fun j k H w => ?_⟩
  rcases st j k H w with ⟨a, b⟩ | ⟨a, Nx1, b, c⟩
  · exact .inl ⟨a, e H b⟩
  · exact .inr ⟨a, Nx1, b, c⟩
theorem lc2_it {J : It} {n : Nat} {G : Hp → Prop} {Y : Nat → Hp → V → Hp → Prop} (w : Walk J n G Y) {g g1 : TG} {tt tt1 : TT} {wi1 : TI} {te : TE} {vs vs1 : List Nat} {σ : L2.St} {H1 : Hp} {D : Addr} {Qd : Hp → Prop} (Pv : Nat → Hp → Prop) (h0 : Pv 0 (upd H1 D (.lst []))) (hG : ∀ i H, i ≤ n → Pv i H → G H)
    (hs : ∀ i x H H', i < n → Pv i H → Y i H x H' → ∀ Nx : Hp → Prop, (∀ H, Pv (i + 1) H → Nx H) → g x (wipe σ vs) H' fun σ2 H2 => wipe σ2 vs = wipe σ vs ∧ tt σ2 H2 fun b H3 =>
      if b = true then wi1 σ2 H3 fun J1 H4 => In2 J1 g1 tt1 te vs1 D σ2 H4 Nx else Nx H3) (hd : ∀ H, Pv n H → Qd H) :
    ∃ W : Nat → Nat → Hp → Prop, (∃ m, W 0 m (upd H1 D (.lst []))) ∧ ∀ i m H, W i m H →
      (J.stop i H ∧ Qd H) ∨ (J.go i H ∧ ∃ Nx : Hp → Prop, (∀ H', Nx H' → ∃ m', m' < m ∧ W (i + 1) m' H') ∧ ∀ x H', J.yld i H x H' → g x (wipe σ vs) H' fun σ2 H2 => wipe σ2 vs = wipe σ vs ∧ tt σ2 H2 fun b H3 =>
        if b = true then wi1 σ2 H3 fun J1 H4 => In2 J1 g1 tt1 te vs1 D σ2 H4 Nx else Nx H3) := by
  refine ⟨fun i m H => m = n - i ∧ i ≤ n ∧ Pv i H, ⟨n, by simp, Nat.zero_le _, h0⟩, ?_⟩
  rintro i m H ⟨rfl, hi, p⟩
  have q := hG i H hi p
  by_cases hlt : i < n
  · exact .inr ⟨w.goes i H hlt q, Pv (i + 1), fun H' p' => ⟨n - (i + 1), by omega, rfl, hlt, p'⟩, fun x H' y => hs i x H H' hlt p (w.yields i H x H' hlt q y) _ fun _ h => h⟩
  · have e : i = n := by omega
    subst e
    exact .inl ⟨w.stops H q, hd H p⟩
theorem in2_it {J1 : It} {n : Nat} {G : Hp → Prop} {Y : Nat → Hp → V → Hp → Prop} (w : Walk J1 n G Y) {g1 : TG} {tt1 : TT} {te : TE} {vs1 : List Nat} {D : Addr} {σ2 : L2.St} {H4 : Hp} {Nx : Hp → Prop} (Pv : Nat → Hp → Prop) (h0 : Pv 0 H4) (hG : ∀ i H, i ≤ n → Pv i H → G H)
    (hs : ∀ i x H H', i < n → Pv i H → Y i H x H' → g1 x (wipe σ2 vs1) H' fun σ3 H5 => wipe σ3 vs1 = wipe σ2 vs1 ∧ tt1 σ3 H5 fun b H6 =>
      if b = true then te σ3 H6 fun y H7 => ∃ acc, H7 D = some (.lst acc) ∧ acc.length < sizeLine ∧ Pv (i + 1) (upd H7 D (.lst (acc ++ [y]))) else Pv (i + 1) H6) (hd : ∀ H, Pv n H → Nx H) : In2 J1 g1 tt1 te vs1 D σ2 H4 Nx := by
  refine ⟨fun i m H => m = n - i ∧ i ≤ n ∧ Pv i H, ⟨n, by simp, Nat.zero_le _, h0⟩, ?_⟩
  rintro i m H ⟨rfl, hi, p⟩
  have q := hG i H hi p
  by_cases hlt : i < n
  · exact .inr ⟨w.goes i H hlt q, Pv (i + 1), fun H' p' => ⟨n - (i + 1), by omega, rfl, hlt, p'⟩, fun x H' y => hs i x H H' hlt p (w.yields i H x H' hlt q y)⟩
  · have e : i = n := by omega
    subst e
    exact .inl ⟨w.stops H q, hd H p⟩
theorem unlock {H H' : Hp} {t : Addr} {od : PySem.Obj} {u : HO} (h : H t = some u) (s : Same (upd H t (.frz od u)) H') : Same H (upd H' t u) := fun b o e => by
  by_cases hb : b = t
  · rw [hb, upd_same]
    rw [hb, h] at e
    exact e
  · rw [upd_ne hb]
    exact s b o (by rw [upd_ne hb]; exact e)
theorem st_unlock {B H' : Hp} {t : Addr} {u v : HO} (s : Same B H') (h : B t = some u) (n : tupo u = false) : ST B (upd H' t v) := fun b o e d => by
  have hb : b ≠ t := fun z => by
    rw [z, h] at e
    cases e
    rw [n] at d
    cases d
  rw [upd_ne hb]
  exact s b o e
def nrD (x : Str × Nat) : PyData := .tuple [.str x.1, .int (x.2 : Nat)]
def nam1 (t : Tb) : List (Str × Nat) := (List.range t.rs.length).map fun i => (t.n, i)
def named (ts : List Tb) : List (Str × Nat) := ts.flatMap nam1
theorem named_take {ts : List Tb} {i : Nat} {t : Tb} (h : ts[i]? = some t) : named (ts.take (i + 1)) = named (ts.take i) ++ nam1 t := by
  unfold named
  rw [List.take_add_one, h, List.flatMap_append]
  simp
theorem named_len (ts : List Tb) : (named ts).length = (ts.map fun t => t.rs.length).sum := by
  unfold named
  rw [List.length_flatMap]
  congr 1
  refine List.map_congr_left fun t _ => ?_
  unfold nam1
  rw [List.length_map, List.length_range]
theorem mem_named {ts : List Tb} {x : Str} {i : Nat} : (x, i) ∈ named ts ↔ ∃ t ∈ ts, t.n = x ∧ i < t.rs.length := by
  unfold named nam1
  rw [List.mem_flatMap]
  constructor
  · rintro ⟨t, ht, h⟩
    obtain ⟨j, hj, e⟩ := List.mem_map.mp h
    cases e
    exact ⟨t, ht, rfl, List.mem_range.mp hj⟩
  · rintro ⟨t, ht, rfl, h⟩
    exact ⟨t, ht, List.mem_map.mpr ⟨i, List.mem_range.mpr h, rfl⟩⟩
theorem noL_nr (x : Str × Nat) : noL (nrD x) = true := rfl
theorem noL_tb_k (t : Tb) : noL t.k = true := noL_k t
theorem LD.ext {K : PySem.W.Frag} {H H' : Hp} {l : Addr} {ds : List PyData} (h : LD K H l ds) (e : LamX.ExtN H H') : LD K H' l ds := by
  obtain ⟨xs, h1, h2⟩ := h
  exact ⟨xs, e _ _ h1 (fun ps z => by cases z), dpsd (SD.ext e) _ _ h2⟩
theorem LD.st {K : PySem.W.Frag} {H H' : Hp} {l : Addr} {ds : List PyData} (h : LD K H l ds) (e : ST H H') (n : noLs ds = true) (f : H' l = H l) : LD K H' l ds := by
  obtain ⟨xs, h1, h2⟩ := h
  exact ⟨xs, by rw [f, h1], dpst e _ _ n h2⟩
theorem name_ok {x : Str} (h : isName x = true) : PyData.strOk x = true ∧ x.length ≤ 8 := by
  unfold isName at h
  rw [Bool.and_eq_true, Bool.and_eq_true] at h
  refine ⟨?_, by have := of_decide_eq_true h.1.2; omega⟩
  unfold PyData.strOk
  rw [Array.all_eq_true_iff_forall_mem]
  intro c hc
  have z := List.all_eq_true.mp h.2 c (Array.mem_toList_iff.mpr hc)
  unfold okSign at z
  rw [Bool.and_eq_true] at z
  have z2 : ¬ ([122] < [c]) := by simpa using z.2
  have : ¬ (122 < c) := fun q => z2 (by rw [List.cons_lt_cons_iff]; exact Or.inl q)
  exact decide_eq_true (by omega)
structure Lay (d : PyData) (k : Nat) : Prop where
  lay : d.canLay0 = true
  dep : d.depth ≤ k
structure LayA (ds : List PyData) (k : Nat) : Prop where
  lay : PyData.canLayAll0 ds = true
  dep : PyData.depthAll ds ≤ k
theorem LayA.nil {k : Nat} : LayA [] k := ⟨by simp [PyData.canLayAll0], by simp [PyData.depthAll]⟩
theorem LayA.cons {d : PyData} {ds : List PyData} {k : Nat} (h : Lay d k) (t : LayA ds k) : LayA (d :: ds) k := ⟨by simp [PyData.canLayAll0, h.lay, t.lay], by simp only [PyData.depthAll]; have := h.dep; have := t.dep; omega⟩
theorem LayA.map {α : Type} {f : α → PyData} {k : Nat} : ∀ {xs : List α}, (∀ x ∈ xs, Lay (f x) k) → LayA (xs.map f) k
  | [], _ => .nil
  | x :: xs, h => .cons (h x List.mem_cons_self) (LayA.map fun y hy => h y (List.mem_cons_of_mem _ hy))
theorem Lay.int {i : Int} {k : Nat} : Lay (.int i) k := ⟨by simp [PyData.canLay0], by simp [PyData.depth]⟩
theorem Lay.str {x : Str} {k : Nat} (h : PyData.strOk x = true) : Lay (.str x) k := ⟨by simpa [PyData.canLay0] using h, by simp [PyData.depth]⟩
theorem Lay.list {ds : List PyData} {k : Nat} (h : LayA ds k) : Lay (.list ds) (k + 1) := ⟨by simp [PyData.canLay0, h.lay], by simp only [PyData.depth]; have := h.dep; omega⟩
theorem Lay.tup {ds : List PyData} {k : Nat} (h : LayA ds k) : Lay (.tuple ds) (k + 1) := ⟨by simp [PyData.canLay0, h.lay], by simp only [PyData.depth]; have := h.dep; omega⟩
theorem Lay.shaped {d : PyData} {k : Nat} (h : Lay d k) (e : k ≤ 60) : SeqAt.shaped d = true := by
  unfold SeqAt.shaped
  rw [h.lay, decide_eq_true (Nat.le_trans h.dep (Nat.le_trans e (by decide)))]
  rfl
theorem lay_rd {d : Int} {r : Rd1} (h : isRead d r = true) : Lay r.d 2 := by
  unfold isRead at h
  rw [Bool.and_eq_true] at h
  exact .tup (.cons (.str (name_ok h.1).1) (.cons (.tup (.map fun _ _ => .int)) (.cons .int .nil)))
theorem lay_k {d : Int} {ts : List Tb} (O : OkT d ts) {t : Tb} (h : t ∈ ts) : Lay t.k 4 := .tup (.cons .int (.cons (.tup (.map fun r hr => lay_rd (O.reads t h r hr))) .nil))
theorem lay_tb {d : Int} {ts : List Tb} (O : OkT d ts) {t : Tb} (h : t ∈ ts) : Lay t.d 4 := .tup (.cons (.str (name_ok (O.names t h)).1) (.cons .int (.cons (.list (.map fun r hr => lay_rd (O.reads t h r hr))) .nil)))
theorem lay_nr {x : Str × Nat} (h : isName x.1 = true) : Lay (nrD x) 1 := .tup (.cons (.str (name_ok h).1) (.cons .int .nil))
theorem lay_named {d : Int} {ts : List Tb} (O : OkT d ts) {x : Str × Nat} (h : x ∈ named ts) : Lay (nrD x) 1 := by
  obtain ⟨t, ht, e, _⟩ := mem_named.mp (show (x.1, x.2) ∈ named ts from h)
  exact lay_nr (by rw [← e]; exact O.names t ht)
theorem eqv_nr (a b : Str × Nat) : PyData.eqv (nrD a) (nrD b) = decide (a = b) := by
  obtain ⟨x, i⟩ := a
  obtain ⟨y, j⟩ := b
  unfold nrD
  simp only [PyData.eqv, PyData.eqvAll, Bool.and_true]
  by_cases h1 : x = y
  · by_cases h2 : i = j
    · subst h1 h2
      simp
    · have : ¬ ((i : Int) = (j : Int)) := by omega
      simp [h2, this]
  · simp [h1]
theorem KvAt.ext {K : PySem.W.Frag} {H H' : Hp} (e : LamX.ExtN H H') {kvs : List (Key × V)} {ts : List Tb} (h : KvAt K H kvs ts) : KvAt K H' kvs ts := h.monoD (SD.ext e)
theorem SysAt.ext {K : PySem.W.Frag} {C : Addr} {H H' : Hp} {s : Addr} {d m : Int} {ts : List Tb} (e : LamX.ExtN H H') (h : SysAt K C H s d m ts) : SysAt K C H' s d m ts := by
  obtain ⟨dx, t, kvs, h1, h2, h3⟩ := h.ob
  exact ⟨dx, t, kvs, e _ _ h1 (fun ps z => by cases z), e _ _ h2 (fun ps z => by cases z), h3.ext e⟩
def tabEq (ts us : List Tb) : Bool := ts.length == us.length && ts.all fun t => match us.find? (fun u => decide (u.n = t.n)) with
  | none => false
  | some u => PyData.eqv t.k u.k
theorem kvEq_of {K : PySem.W.Frag} {H : Hp} {ls : List (Key × V)} {us : List Tb} (hl : KvAt K H ls us) (su : ∀ u ∈ us, SeqAt.shaped u.k = true) : ∀ {ks : List (Key × V)} {ts : List Tb}, KvAt K H ks ts → (∀ t ∈ ts, SeqAt.shaped t.k = true) →
    KvEq K H ls ks (ts.all fun t => match us.find? (fun u => decide (u.n = t.n)) with
      | none => false
      | some u => PyData.eqv t.k u.k)
  | [], _, h, _ => by
    cases h
    exact .nil
  | (k, v) :: ks, _, h, st => by
    cases h with
    | @cons _ t _ ts h1 h2 =>
      obtain ⟨e1, e2⟩ := h1
      have e1 : k = Sum.inr t.n := e1
      subst e1
      have ih := kvEq_of hl su h2 fun t ht => st t (List.mem_cons_of_mem _ ht)
      rw [List.all_cons]
      cases hf : us.find? (fun u => decide (u.n = t.n)) with
      | none =>
        refine .miss (hl.noVal fun hm => ?_)
        obtain ⟨u, hu, e⟩ := List.mem_map.mp hm
        have z := List.find?_eq_none.mp hf u hu
        exact z (decide_eq_true e)
      | some u =>
        obtain ⟨y, y1, y2⟩ := hl.get hf
        exact .hit y1 e2 y2 (st t List.mem_cons_self) (su u (List.mem_of_find?_eq_some hf)) ih
theorem find_nodup' {ts : List Tb} (hn : (ts.map (·.n)).Nodup) {t : Tb} (h : t ∈ ts) : ts.find? (fun u => decide (u.n = t.n)) = some t := find_nodup hn h rfl
theorem tabEq_refl {ts : List Tb} (hn : (ts.map (·.n)).Nodup) (st : ∀ t ∈ ts, SeqAt.shaped t.k = true) : tabEq ts ts = true := by
  unfold tabEq
  rw [Bool.and_eq_true]
  refine ⟨by simp, List.all_eq_true.mpr fun t ht => ?_⟩
  rw [find_nodup' hn ht]
  exact SeqAt.eqv_refl _ (SeqAt.canLay_of_shaped (st t ht))
end Fr

namespace Fr
open PySem PySem.Spec PyProof.Rows L2
theorem ltCps_iff : ∀ a b : List Nat, ltCps a b = true ↔ a < b
  | [], [] => by simp [ltCps]
  | [], b :: t => by simp [ltCps]
  | a :: r, [] => by simp [ltCps]
  | a :: r, b :: t => by
    rw [List.cons_lt_cons_iff, ← ltCps_iff r t]
    simp [ltCps]
theorem rising_pw : ∀ (l : List Str) (p : Str), risingS p l = true → (p :: l).Pairwise fun a b => a.cps.toList ≤ b.cps.toList
  | [], p, _ => by simp
  | x :: r, p, h => by
    unfold risingS at h
    rw [Bool.and_eq_true] at h
    have ih := rising_pw r x h.2
    have hx : p.cps.toList ≤ x.cps.toList := fun z => by
      have := (ltCps_iff x.cps.toList p.cps.toList).mpr z
      rw [this] at h
      exact Bool.noConfusion h.1
    rw [List.pairwise_cons]
    refine ⟨fun y hy => ?_, ih⟩
    rcases List.mem_cons.mp hy with rfl | hy
    · exact hx
    · exact List.le_trans hx ((List.pairwise_cons.mp ih).1 y hy)
theorem sorted_pw {l : List Str} (h : sortedS l = true) : l.Pairwise fun a b => a.cps.toList ≤ b.cps.toList := by
  cases l with
  | nil => exact .nil
  | cons x r => exact rising_pw r x h
theorem str_antisymm {a b : Str} (h : a.cps.toList ≤ b.cps.toList) (k : b.cps.toList ≤ a.cps.toList) : a = b := by
  have e := List.le_antisymm h k
  obtain ⟨a⟩ := a
  obtain ⟨b⟩ := b
  have e : a.toList = b.toList := e
  rw [Array.toList_inj.mp e]
theorem srt_pw (ts : List Tb) : ((srt ts).map (·.n)).Pairwise fun a b => a.cps.toList ≤ b.cps.toList := by
  rw [List.pairwise_map]
  have h := List.pairwise_mergeSort (le := leK Tb.n) (fun a b c h1 h2 => decide_eq_true (List.le_trans (of_decide_eq_true h1) (of_decide_eq_true h2))) (fun a b => by
    unfold leK
    rw [Bool.or_eq_true, decide_eq_true_eq, decide_eq_true_eq]
    exact List.le_total _ _) ts
  exact h.imp fun h => of_decide_eq_true h
theorem srt_perm (ts : List Tb) : (srt ts).Perm ts := List.mergeSort_perm ts (leK Tb.n)
theorem sorted_names {ys : List Str} {ts : List Tb} (p : ys.Perm (ts.map (·.n))) (h : sortedS ys = true) : ys = (srt ts).map (·.n) :=
  List.Perm.eq_of_pairwise (fun _ _ _ _ h k => str_antisymm h k) (sorted_pw h) (srt_pw ts) (p.trans ((srt_perm ts).map (·.n)).symm)
/-- one order alone -/
theorem srt_same {ts us : List Tb} (p : ts.Perm us) (n : (ts.map (·.n)).Nodup) : srt ts = srt us := by
  have e : (srt ts).map (·.n) = (srt us).map (·.n) := List.Perm.eq_of_pairwise (fun _ _ _ _ h k => str_antisymm h k) (srt_pw ts) (srt_pw us) ((((srt_perm ts).trans p).trans (srt_perm us).symm).map (·.n))
  have hp : (srt ts).Perm (srt us) := ((srt_perm ts).trans p).trans (srt_perm us).symm
  have hl : (srt ts).length = (srt us).length := hp.length_eq
  refine List.ext_getElem? fun i => ?_
  cases h : (srt ts)[i]? with
  | none =>
    rw [List.getElem?_eq_none_iff] at h
    rw [List.getElem?_eq_none (by omega)]
  | some t =>
    have hi : i < (srt us).length := by
      have := (List.getElem?_eq_some_iff.mp h).1
      omega
    rw [List.getElem?_eq_getElem hi]
    have h1 : ((srt us).map (·.n))[i]? = some t.n := by rw [← e, List.getElem?_map, h]; rfl
    rw [List.getElem?_map, List.getElem?_eq_getElem hi] at h1
    have h2 : ((srt us)[i]).n = t.n := Option.some.inj h1
    have m1 : t ∈ srt us := hp.mem_iff.mp (List.mem_of_getElem? h)
    have m2 : (srt us)[i] ∈ srt us := List.getElem_mem hi
    have nn : ((srt us).map (·.n)).Nodup := (((srt_perm us).trans p.symm).map (·.n)).nodup_iff.mpr n
    have f1 := find_nodup (x := t.n) nn m1 rfl
    have f2 := find_nodup (x := t.n) nn m2 h2
    rw [f1] at f2
    exact f2
end Fr

namespace Fr
open PySem PySem.Spec PyProof.Rows L2
abbrev s_System_len : Stmt := inClass (topS 54) 1
theorem sc_System_len : FnScope ["self"] ["self"] (defScope s_System_len) := ⟨rfl, rfl, rfl, by decide +kernel, rfl, by decide +kernel, by decide +kernel⟩
-- slots: 0 self
abbrev s_System_eq : Stmt := inClass (topS 54) 2
theorem sc_System_eq : FnScope ["self", "other"] ["self", "other"] (defScope s_System_eq) := ⟨rfl, rfl, rfl, by decide +kernel, rfl, by decide +kernel, by decide +kernel⟩
-- slots: 0 self, 1 other
abbrev s_System_constant : Stmt := inClass (topS 54) 6
theorem sc_System_constant : FnScope ["self", "name"] ["self", "name"] (defScope s_System_constant) := ⟨rfl, rfl, rfl, by decide +kernel, rfl, by decide +kernel, by decide +kernel⟩
-- slots: 0 self, 1 name
abbrev s_System_all_reads : Stmt := inClass (topS 54) 8
theorem sc_System_all_reads : FnScope ["self", "name", "number"] ["self"] (defScope s_System_all_reads) := ⟨rfl, rfl, rfl, by decide +kernel, rfl, by decide +kernel, by decide +kernel⟩
-- slots: 0 self, 1 name, 2 number
abbrev s_Systemwith_tables : Stmt := inClass (topS 54) 15
theorem sc_Systemwith_tables : FnScope ["self", "tables", "made", "name"] ["self", "tables"] (defScope s_Systemwith_tables) := ⟨rfl, rfl, rfl, by decide +kernel, rfl, by decide +kernel, by decide +kernel⟩
-- slots: 0 self, 1 tables, 2 made, 3 name
section
variable {P : Program} {w : World} {K : PySem.W.Frag} {mg : Str → Option Value} {base : Heap}
def spLenS (K : PySem.W.Frag) (C : Addr) : Sp := fun vs H Q _ => ∃ (s : Addr) (d m : Int) (ts : List Tb), vs = [.ref s] ∧ SysAt K C H s d m ts ∧ Q (.int (ts.length : Nat)) H
theorem ok_lenS {f C : Addr} {fd : FuncData} (F : Fun K "__len__" "System.__len__" s_System_len f fd) (T : Txt mg) (TC : TxtC K mg C) : FnOk P w K mg base CX0 1 f fd ["self"] (spLenS K C) := by
  refine F.ok sc_System_len (fun vs H Q E h => ?_) (fun cdv A outer s H vs Q E hr h => ?_)
  · obtain ⟨s, d, m, ts, rfl, _⟩ := h
    rfl
  · obtain ⟨s, d, m, ts, rfl, S, q⟩ := h
    refine ⟨_, (pss_one (ps_ret (pe_callB call_lenD (by rfl) T.b_len PySem.boot_len (pa_cons (pe_fld (pv 0) rfl) pa_nil)))), ?_⟩
    obtain ⟨dx, t, kvs, h1, h2, h3⟩ := S.ob
    refine ⟨_, rfl, s, C, dx, _, _, rfl, h1, TC.cl, TC.nT, flds_t _ _ _, t, kvs, rfl, h2, ?_⟩
    rw [h3.len]
    exact q
def spSysEq (K : PySem.W.Frag) (C : Addr) : Sp := fun vs H Q _ => ∃ (a b : Addr) (d m d' m' : Int) (ts us : List Tb), vs = [.ref a, .ref b] ∧ SysAt K C H a d m ts ∧ SysAt K C H b d' m' us ∧ (∀ t ∈ ts, SeqAt.shaped t.k = true) ∧ (∀ t ∈ us, SeqAt.shaped t.k = true) ∧
  Q (.bl (decide (d = d') && (decide (m = m') && tabEq ts us))) H
theorem dec_int (a b : Int) : decide (V.int a = V.int b) = decide (a = b) := decide_eq_decide.mpr ⟨fun h => V.int.inj h, fun h => congrArg V.int h⟩
theorem ok_eqS {f C : Addr} {fd : FuncData} (F : Fun K "__eq__" "System.__eq__" s_System_eq f fd) (T : Txt mg) (TC : TxtC K mg C) (zi : mg "isinstance" = none) (isC : C8.InsC K C) : FnOk P w K mg base CX0 1 f fd ["self", "other"] (spSysEq K C) := by
  refine F.ok sc_System_eq (fun vs H Q E h => ?_) (fun cdv A outer s H vs Q E hr h => ?_)
  · obtain ⟨a, b, d, m, d', m', ts, us, rfl, _⟩ := h
    rfl
  · obtain ⟨a, b, d, m, d', m', ts, us, rfl, S, S', st, su, q⟩ := h
    refine ⟨_, (pss_one (ps_ret (pe_and (pe_callB (C8.call_isC isC) (by rfl) zi (by decide +kernel) (pa_cons (pv 1) (pa_cons (pe_glob (v := .ref C) (by rfl) TC.g_System rfl) pa_nil))) (pe_and (pe_cmpR op_eq (pe_fld (pv 0) rfl) (pe_fld (pv 1) rfl) (nomark _)) (pe_and (pe_cmpR op_eq (pe_fld (pv 0) rfl) (pe_fld (pv 1) rfl) (nomark _)) (pe_one (pe_cmpR (op_eqKv hr.units1) (pe_fld (pv 0) rfl) (pe_fld (pv 1) rfl) (nomark _)))))))), ?_⟩
    obtain ⟨dx, t, kvs, h1, h2, h3⟩ := S.ob
    obtain ⟨dx', t', kvs', h1', h2', h3'⟩ := S'.ob
    refine ⟨_, rfl, b, dx', _, rfl, h1', _, rfl, iteT ?_⟩
    refine ⟨_, rfl, a, C, dx, _, _, rfl, h1, TC.cl, TC.nD, flds_d _ _ _, _, rfl, b, C, dx', _, _, rfl, h1', TC.cl, TC.nD, flds_d _ _ _, rfl, _, rfl, ?_⟩
    rw [dec_int]
    cases e1 : decide (d = d') with
    | false =>
      rw [e1] at q
      exact iteF q
    | true =>
      rw [e1, Bool.true_and] at q
      refine iteT ?_
      refine ⟨_, rfl, a, C, dx, _, _, rfl, h1, TC.cl, TC.nM, flds_m _ _ _, _, rfl, b, C, dx', _, _, rfl, h1', TC.cl, TC.nM, flds_m _ _ _, rfl, _, rfl, ?_⟩
      rw [dec_int]
      cases e2 : decide (m = m') with
      | false =>
        rw [e2] at q
        exact iteF q
      | true =>
        rw [e2, Bool.true_and] at q
        refine iteT ?_
        refine ⟨_, rfl, a, C, dx, _, _, rfl, h1, TC.cl, TC.nT, flds_t _ _ _, _, rfl, b, C, dx', _, _, rfl, h1', TC.cl, TC.nT, flds_t _ _ _, t, t', kvs, kvs', _, rfl, rfl, h2, h2', fun _ => kvEq_of h3' su h3 st, ?_⟩
        unfold tabEq at q
        rw [h3.len, h3'.len]
        exact q
def spConst (K : PySem.W.Frag) (C : Addr) : Sp := fun vs H Q _ => ∃ (s : Addr) (d m : Int) (ts : List Tb) (x : Str) (tb : Tb), vs = [.ref s, .str x] ∧ SysAt K C H s d m ts ∧ x ∈ ts.map (·.n) ∧ ts.find? (fun t => decide (t.n = x)) = some tb ∧ ∀ H', Same H H' → Q (.int tb.c) H'
theorem ok_const {f C : Addr} {fd : FuncData} (F : Fun K "constant" "System.constant" s_System_constant f fd) (T : Txt mg) (TC : TxtC K mg C) (c_check_table : C8.Cal P w K mg base 3 "check_table" (spCheckTable K C) []) : FnOk P w K mg base CX0 4 f fd ["self", "name"] (spConst K C) := by
  refine F.ok sc_System_constant (fun vs H Q E h => ?_) (fun cdv A outer s H vs Q E hr h => ?_)
  · obtain ⟨s, d, m, ts, x, tb, rfl, _⟩ := h
    rfl
  · obtain ⟨s, d, m, ts, x, tb, rfl, S, hx, hf, q⟩ := h
    have hu := hu_of hr
    refine ⟨_, (pss_cons (ps_expr (C8.pe_c c_check_table hr (by decide) (by rfl) (pa_cons (pv 0) (pa_cons (pv 1) pa_nil))))
  (pss_one (ps_ret (pe_ix ix_tup (pe_dget hu (pe_fld (pv 0) rfl) (pv 1) (fun _ _ => rfl)) pe_int (fun _ _ => rfl))))), ?_⟩
    refine ⟨_, rfl, _, rfl, s, d, m, ts, x, rfl, S, hx, fun H1 sm => ?_⟩
    obtain ⟨dx, t, kvs, h1, h2, h3⟩ := (S.mono sm).ob
    obtain ⟨v, e1, e2⟩ := h3.get hf
    obtain ⟨a, ys, rfl, ht, hd⟩ := dtup e2
    obtain ⟨y1, y2, rfl, g1, g2⟩ := dps2 hd
    obtain rfl := dint g1
    refine ⟨_, rfl, s, C, dx, _, _, rfl, h1, TC.cl, TC.nT, flds_t _ _ _, _, rfl, t, _, rfl, ?_, a, _, 0, _, rfl, rfl, ht, rfl, q H1 sm⟩
    have g := DGet.k (k := Sum.inr x) h2
    rw [e1] at g
    exact g
def spAll (K : PySem.W.Frag) (C : Addr) : Sp := fun vs H Q _ => ∃ (s : Addr) (d m : Int) (ts : List Tb), vs = [.ref s] ∧ SysAt K C H s d m ts ∧ (ts.map (·.n)).Nodup ∧ (ts.map fun t => t.rs.length).sum ≤ 1000 ∧ ∀ p H', H p = none → Same H H' → LD K H' p ((named ts).map nrD) → Q (.ref p) H'
theorem DGet.frz {H : Hp} {a : Addr} {o : PySem.Obj} {kvs : List (Key × V)} {k : Key} (e : H a = some (.frz o (.dK kvs))) : DGet H a (kV k) (valV kvs k) := .inl ⟨kvs, k, .inr ⟨o, e⟩, rfl, rfl⟩
theorem kv_at {H : Hp} : ∀ {kvs : List (Key × V)} {ts : List Tb} {i : Nat} {k : Key} {v : V}, KvAt K H kvs ts → kvs[i]? = some (k, v) → ∃ t, ts[i]? = some t ∧ k = Sum.inr t.n ∧ Dp K H v t.k
  | [], _, _, _, _, h, e => by cases e
  | p :: kvs, _, 0, k, v, h, e => by
    cases h with
    | cons h1 h2 =>
      cases e
      exact ⟨_, rfl, h1⟩
  | p :: kvs, _, i + 1, k, v, h, e => by
    cases h with
    | cons h1 h2 => exact kv_at (i := i) h2 (by simpa using e)
theorem st_upd {H : Hp} {t : Addr} {u v : HO} (h : H t = some u) (n : tupo u = false) : ST H (upd H t v) := fun b o e d => by
  have hb : b ≠ t := fun z => by
    rw [z, h] at e
    cases e
    rw [n] at d
    cases d
  rw [upd_ne hb]
  exact e
theorem ok_all {f C : Addr} {fd : FuncData} (F : Fun K "all_reads" "System.all_reads" s_System_all_reads f fd) (T : Txt mg) (TC : TxtC K mg C) : FnOk P w K mg base CX0 1 f fd ["self"] (spAll K C) := by
  refine F.ok sc_System_all_reads (fun vs H Q E h => ?_) (fun cdv A outer sh H vs Q E hr h => ?_)
  · obtain ⟨s, d, m, ts, rfl, _⟩ := h
    rfl
  · obtain ⟨s, d, m, ts, rfl, S, hn, hfew, q⟩ := h
    have hu := hu_of hr
    refine ⟨_, (pss_one (ps_ret (pe_lock (pe_lc2 (own := [("name", 1), ("number", 2)]) (vs1 := [2]) (g := gName 1) (g1 := gName 2) (tt := tYes) (tt1 := tYes) (by rfl) sc_System_all_reads.nd (pi_keys (pe_fld (pv 0) rfl)) (blkOk_by (N := ["self", "name", "number"]) (sc := defScope s_System_all_reads) (by decide +kernel)) (by decide) (fun _ _ _ _ _ => (pg_name (i := 1) sc_System_all_reads.nd rfl (by first | exact Or.inl rfl | exact Or.inr rfl))) (fun _ _ _ _ _ => pts_nil) (fun _ _ _ _ _ => (pi_range1 (by rfl) T.b_range (pa_cons (pe_callB (r := Evl.rLenS K) call_len_seq (by rfl) T.b_len PySem.boot_len (pa_cons (pe_ix (r := rIxT K) ix_tup (pe_dget hu (pe_fldK (K' := K) (pv 0)) (pv 1) (fun _ _ => rfl)) pe_int (fun _ _ => rfl)) pa_nil)) pa_nil))) (fun _ _ _ _ _ => (pg_name (i := 2) sc_System_all_reads.nd rfl (by first | exact Or.inl rfl | exact Or.inr rfl))) (fun _ _ _ _ _ => pts_nil) (fun _ _ _ _ _ => (pe_tup (pa_cons (pv 1) (pa_cons (pv 2) pa_nil)))))))), ?_⟩
    obtain ⟨dx, t, kvs, h1, h2, h3⟩ := S.ob
    have nst : s ≠ t := fun z => by
      rw [z, h2] at h1
      cases h1
    refine ⟨t, .dK kvs, h2, True.intro, fun od => ?_⟩
    have l1 : (upd H t (.frz od (.dK kvs))) s = some (.ins C dx (flds d m t)) := by rw [upd_ne nst]; exact h1
    have l2 : (upd H t (.frz od (.dK kvs))) t = some (.frz od (.dK kvs)) := upd_same
    have l3 : KvAt K (upd H t (.frz od (.dK kvs))) kvs ts := kvt (st_upd h2 rfl) h3
    have back : ∀ H', Same (upd H t (.frz od (.dK kvs))) H' → Same H (upd H' t (.dK kvs)) := fun H' e => unlock h2 e
    generalize hL : upd H t (.frz od (.dK kvs)) = HL at l1 l2 l3 back
    refine ⟨_, rfl, s, C, dx, _, _, rfl, l1, TC.cl, TC.nT, flds_t _ _ _, t, od, rfl, Or.inl ⟨kvs, l2, fun D hD => ?_⟩⟩
    refine lc2_it (walk_keys (o := od) (d := t) (kvs := kvs)) (fun i H' => ∃ (B : Hp) (xs : List V), Same HL B ∧ B D = none ∧ Same B H' ∧ H' D = some (.lst xs) ∧ DpAll K B xs ((named (ts.take i)).map nrD))
      ⟨HL, [], same_refl, hD, snew hD, upd_same, .nil⟩ (fun i H' _ ⟨B, xs, b1, _, b3, _⟩ => b3 _ _ (b1 _ _ l2)) ?_ ?_
    · rintro i x Hi _ hi ⟨B, xs, b1, b2, b3, b4, b5⟩ ⟨rfl, k, v, hk, rfl⟩ Nx hNx
      obtain ⟨tb, ht, rfl, hv⟩ := kv_at l3 hk
      have hf := find_nodup' hn (List.mem_of_getElem? ht)
      obtain ⟨v', e1, e2⟩ := l3.get hf
      have sBi := same_tr b1 b3
      refine ⟨rfl, yes_if ?_⟩
      obtain ⟨a, ys, rfl, hta, hda⟩ := dtup (dpm sBi _ _ e2)
      obtain ⟨y1, y2, rfl, g1, g2⟩ := dps2 hda
      obtain ⟨b, zs, rfl, htb, hdb⟩ := dtup g2
      have hzl : zs.length = tb.rs.length := by rw [dps_len hdb, List.length_map]
      have hrl : tb.rs.length ≤ 1000 := Nat.le_trans (mem_le_sum (f := fun t : Tb => t.rs.length) (List.mem_of_getElem? ht)) hfew
      refine ⟨_, rfl, s, C, dx, _, _, rfl, sBi _ _ l1, TC.cl, TC.nT, flds_t _ _ _, _, rfl, t, _, rfl, ?_, a, _, 1, _, rfl, rfl, hta, rfl, b, zs, rfl, Or.inr htb, (zs.length : Int), rfl, by omega, by omega, ?_⟩
      · have g := DGet.frz (k := Sum.inr tb.n) (sBi _ _ l2)
        rw [e1] at g
        exact g
      · have htn : ((zs.length : Int)).toNat = tb.rs.length := by omega
        rw [htn]
        refine in2_it walk_range (fun j H' => ∃ (B : Hp) (xs : List V), Same HL B ∧ B D = none ∧ Same B H' ∧ H' D = some (.lst xs) ∧ DpAll K B xs ((named (ts.take i) ++ (List.range j).map fun n => (tb.n, n)).map nrD))
          ⟨B, xs, b1, b2, b3, b4, by rw [List.range_zero, List.map_nil, List.append_nil]; exact b5⟩ (fun _ _ _ _ => True.intro) ?_ ?_
        · rintro j y _ Hj hj ⟨B2, xs2, c1, c2, c3, c4, c5⟩ ⟨rfl, rfl⟩
          refine ⟨rfl, yes_if ?_⟩
          refine ⟨_, rfl, _, rfl, (by show 2 ≤ sizeLine; decide), fun u hu2 => ?_⟩
          have nu : u ≠ D := fun z => by
            rw [z, c4] at hu2
            cases hu2
          have bu := free_of c3 hu2
          have c3' : Same (upd B2 u (.tup [.str tb.n, .int (0 + (j : Int))])) (upd Hj u (.tup [.str tb.n, .int (0 + (j : Int))])) := sgrow c3
          have bD : (upd B2 u (.tup [.str tb.n, .int (0 + (j : Int))])) D = none := by
            rw [upd_ne nu.symm]
            exact c2
          have hxl : xs2.length ≤ 2000 := by
            rw [dps_len c5, List.length_map, List.length_append, named_len, List.length_map, List.length_range]
            have e := congrArg (fun l : List Tb => (l.map fun t => t.rs.length).sum) (List.take_append_drop i ts)
            simp only [List.map_append, List.sum_append] at e
            omega
          refine ⟨xs2, by rw [upd_ne nu.symm]; exact c4, Nat.lt_of_le_of_lt hxl (by rw [sizeLine_eq]; decide), _, xs2 ++ [.ref u], same_tr c1 (snew bu), bD, swrite c3' bD, upd_same, ?_⟩
          have e : named (ts.take i) ++ (List.range (j + 1)).map (fun n => (tb.n, n)) = (named (ts.take i) ++ (List.range j).map fun n => (tb.n, n)) ++ [(tb.n, j)] := by
            rw [List.range_succ, List.map_append, List.append_assoc]
            rfl
          rw [e, List.map_append]
          refine dps_snoc (dpsm (snew bu) _ _ c5) (.tup (Or.inl (Or.inl upd_same)) (.cons (.str _) (.cons ?_ .nil)))
          rw [Int.zero_add]
          exact .int _
        · rintro H' ⟨B2, xs2, c1, c2, c3, c4, c5⟩
          refine hNx _ ⟨B2, xs2, c1, c2, c3, c4, ?_⟩
          rw [named_take ht]
          exact c5
    · rintro H' ⟨B, xs, b1, b2, b3, b4, b5⟩
      have hlt : kvs.length = ts.length := h3.len
      rw [hlt, List.take_length] at b5
      have tD : D ≠ t := fun z => by
        rw [z, l2] at hD
        cases hD
      refine ⟨b3 _ _ (b1 _ _ l2), q D _ ?_ (back _ (same_tr b1 b3)) ⟨xs, by rw [upd_ne tD]; exact b4, dpst (st_unlock b3 (b1 _ _ l2) rfl) _ _ (noLs_map noL_nr _) b5⟩⟩
      rw [← hL, upd_ne tD] at hD
      exact hD
end
end Fr

namespace Fr
open PySem PySem.Spec PyProof.Rows L2
theorem putF_flds (d m : Int) (t t' : Addr) : putF "_tables" (.ref t') (flds d m t) = flds d m t' := by
  unfold flds
  simp only [putF, if_neg nDM, if_neg nDT, if_neg nMT, if_true]
def bare : Tb := ⟨"a", 0, []⟩
theorem bare_ok {d m : Int} (h1 : 1 ≤ d) (h3 : d ≤ 3) (hm : 2 ≤ m) : OkSys d m [bare] :=
  ⟨h1, h3, hm, by decide, by decide, ⟨(by intro t ht; rw [List.mem_singleton.mp ht]; decide +kernel), (by simp), (by decide), (by intro t ht r hr; rw [List.mem_singleton.mp ht] at hr; cases hr), (by intro t ht r hr; rw [List.mem_singleton.mp ht] at hr; cases hr)⟩⟩
theorem keys_kv {K : PySem.W.Frag} {H : Hp} : ∀ {kvs : List (Key × V)} {ts : List Tb}, KvAt K H kvs ts → kvs.map (·.1) = (ts.map (·.n)).map Sum.inr
  | [], _, h => by cases h; rfl
  | p :: kvs, _, h => by
    cases h with
    | cons h1 h2 =>
      rw [List.map_cons, List.map_cons, List.map_cons, keys_kv h2, h1.1]
section
variable {P : Program} {w : World} {K : PySem.W.Frag} {mg : Str → Option Value} {base : Heap}
def spWith (K : PySem.W.Frag) (C : Addr) (TT : List (Addr × Str)) : Sp := fun vs H Q _ => ∃ (s t : Addr) (d m : Int) (ts us : List Tb) (kvs : List (Key × V)), vs = [.ref s, .ref t] ∧ SysAt K C H s d m ts ∧ 1 ≤ d ∧ d ≤ 3 ∧ 2 ≤ m ∧ H t = some (.dK kvs) ∧ KvAt K H kvs us ∧ (us.map (·.n)).Nodup ∧ us.length ≤ 60 ∧ LamX.Tabs TT H ∧
  ∀ x H', H x = none → LamX.ExtN H H' → LamX.Tabs TT H' → SysAt K C H' x d m (srt us) → Q (.ref x) H'
theorem ok_with {f C : Addr} {fd : FuncData} {TT : List (Addr × Str)} (F : Fun K "_with_tables" "System._with_tables" s_Systemwith_tables f fd) (T : Txt mg) (TC : TxtC K mg C) (m_System3 : C8.Mak P w K mg base 5 "System" C (spInit K C TT) []) : FnOk P w K mg base CX0 7 f fd ["self", "tables"] (spWith K C TT) := by
  refine F.ok sc_Systemwith_tables (fun vs H Q E h => ?_) (fun cdv A outer sh H vs Q E hr h => ?_)
  · obtain ⟨s, t, d, m, ts, us, kvs, rfl, _⟩ := h
    rfl
  · obtain ⟨s, t, d, m, ts, us, kvs, rfl, S, hd1, hd3, hm2, ht, hkv, hnd, hlen, hT, q⟩ := h
    have hu := hu_of hr
    refine ⟨_, (pss_cons (ps_set (i := 2) sc_Systemwith_tables.nd rfl (by first | exact Or.inl rfl | exact Or.inr rfl) (C8.pe_mk m_System3 hr (by decide) (by rfl) (pa_cons (pe_fld (pv 0) rfl) (pa_cons (pe_lst (pa_cons (pe_tup (pa_cons pe_str (pa_cons pe_int (pa_cons (pe_lst pa_nil) pa_nil)))) pa_nil)) (pa_cons (pe_fld (pv 0) rfl) pa_nil)))))
  (pss_cons (ps_fld (pv 2) (pe_dc (own := [("name", 3)]) (g := gName 3) (tt := tYes) (by rfl) sc_Systemwith_tables.nd (pi_list (pe_callB (call_sortedD rfl) (by rfl) T.b_sorted (by decide +kernel) (pa_cons (pv 1) pa_nil))) (blkOk_by (N := ["self", "tables", "made", "name"]) (sc := defScope s_Systemwith_tables) (by decide +kernel)) (fun _ _ _ _ _ => (pg_name (i := 3) sc_Systemwith_tables.nd rfl (by first | exact Or.inl rfl | exact Or.inr rfl))) (fun _ _ _ _ _ => pts_nil) (fun _ _ _ _ _ => (pv 3)) (fun _ _ _ _ _ => (pe_dget hu (pv 1) (pv 3) (fun _ _ => rfl)))) rfl)
  (pss_one (ps_ret (pv 2))))), ?_⟩
    obtain ⟨dx, tt, kvs0, h1, h2, h3⟩ := S.ob
    -- made = System(..)
    refine ⟨_, rfl, s, C, dx, _, _, rfl, h1, TC.cl, TC.nD, flds_d _ _ _, Nat.zero_le _, fun l0 hl0 => ⟨(by show 3 ≤ sizeLine; decide), fun t0 ht0 => ⟨(by show 1 ≤ sizeLine; decide), fun l1 hl1 => ?_⟩⟩⟩
    have s1 : Same H (upd (upd (upd H l0 (.lst [])) t0 (.tup [.str "a", .int 0, .ref l0])) l1 (.lst [.ref t0])) := same_tr (snew hl0) (same_tr (snew ht0) (snew hl1))
    have D1 : Dp K (upd (upd (upd H l0 (.lst [])) t0 (.tup [.str "a", .int 0, .ref l0])) l1 (.lst [.ref t0])) (.ref l1) (.list ([bare].map Tb.d)) := by
      refine .lst (Or.inl (Or.inl upd_same)) (.cons (.tup (Or.inl (Or.inl (snew hl1 _ _ upd_same))) (.cons (.str _) (.cons (.int _) (.cons (.lst (Or.inl (Or.inl (snew hl1 _ _ (snew ht0 _ _ upd_same)))) .nil) .nil)))) .nil)
    generalize upd (upd (upd H l0 (.lst [])) t0 (.tup [.str "a", .int 0, .ref l0])) l1 (.lst [.ref t0]) = H1 at s1 D1
    refine ⟨_, rfl, s, C, dx, _, _, rfl, s1 _ _ h1, TC.cl, TC.nM, flds_m _ _ _, fun x dx2 nx ndx nex => ?_⟩
    have sx : Same H1 (upd (upd H1 dx2 (.own x)) x (.ins C dx2 [])) := same_tr (snew ndx) (snew (by rw [upd_ne nex.symm]; exact nx))
    refine ⟨x, dx2, d, m, .ref l1, [bare], rfl, upd_same, (hT.ext s1).ext sx, bare_ok hd1 hd3 hm2, dpm sx _ _ D1, fun H2 E2 hT2 S2 => ⟨rfl, ?_⟩⟩
    have xH : H x = none := free_of s1 nx
    have e2 : LamX.ExtN H H2 := fun b o e n => E2 b o (sx b o (s1 b o e)) (ne_of_none (s1 b o e) nx) n
    obtain ⟨dx3, t3, kvs3, o1, o2, o3⟩ := S2.ob
    have ht2 := e2 _ _ ht (fun ps z => by cases z)
    have hk2 := hkv.ext e2
    -- sorted(tables)
    refine ⟨_, rfl, t, kvs, us.map (·.n), rfl, Or.inl ht2, keys_kv hk2, by rw [List.length_map]; omega, fun ys p perm so hp => ?_⟩
    have ey := sorted_names perm so
    have sl : (srt us).length = us.length := List.length_mergeSort _
    have nds : ((srt us).map (·.n)).Nodup := ((srt_perm us).map (·.n)).nodup_iff.mpr hnd
    have s3 : Same H2 (upd H2 p (.lst (ys.map V.str))) := snew hp
    have hyl : (ys.map V.str).length = us.length := by rw [List.length_map, ey, List.length_map, sl]
    refine ⟨p, rfl, ⟨_, Or.inl (Or.inl upd_same)⟩, fun D hD => dc_it (walk_list (K := K) (a := p) (xs := ys.map V.str)) (fun i H' => ∃ kvs', Same (upd H2 p (.lst (ys.map V.str))) (upd H' D (.dK kvs')) ∧ H' D = some (.dK kvs') ∧ KvAt K H2 kvs' ((srt us).take i) ∧ ∀ b, b ≠ D → (upd H2 p (.lst (ys.map V.str))) b = H' b)
      ⟨[], fun b o e => by rw [upd_ne (ne_of_none e hD), upd_ne (ne_of_none e hD)]; exact e, upd_same, .nil, fun b hb => (upd_ne hb).symm⟩ (fun i H' _ ⟨kvs', b1, b2, _, b4⟩ => Or.inl (Or.inl (by rw [← b4 p fun z => by rw [← z, upd_same] at hD; cases hD]; exact upd_same))) ?_ ?_⟩
    · rintro i y _ Hi hi ⟨kvs', b1, b2, b3, b4⟩ ⟨rfl, hy⟩
      rw [List.getElem?_map, ey, List.getElem?_map] at hy
      obtain ⟨z, hz, rfl⟩ := Option.map_eq_some_iff.mp hy
      obtain ⟨u, hu1, rfl⟩ := Option.map_eq_some_iff.mp hz
      have humem : u ∈ us := (srt_perm us).mem_iff.mp (List.mem_of_getElem? hu1)
      have hf := find_nodup' hnd humem
      obtain ⟨v, e1, e3⟩ := hk2.get hf
      have tD : t ≠ D := ne_of_none (s3 _ _ ht2) hD
      have htI : Hi t = some (.dK kvs) := by rw [← b4 t tD]; exact s3 _ _ ht2
      refine ⟨rfl, yes_if ?_⟩
      refine ⟨_, rfl, _, rfl, _, rfl, t, v, rfl, ?_, kvs', Sum.inr u.n, rfl, b2, ?_, ?_⟩
      · have g := DGet.k (k := Sum.inr u.n) htI
        rw [e1] at g
        exact g
      · have : kvs'.length ≤ 60 := by
          rw [b3.len, List.length_take]
          omega
        exact Nat.lt_of_le_of_lt this (by rw [sizeLine_eq]; decide)
      · have hno : valV kvs' (Sum.inr u.n) = none := b3.noVal (by
          rw [List.map_take]
          exact notin_take nds (by rw [List.getElem?_map, hu1]; rfl))
        rw [putK_new _ hno]
        refine ⟨kvs' ++ [(Sum.inr u.n, v)], fun b o e => ?_, upd_same, ?_, fun b hb => by rw [upd_ne hb]; exact b4 b hb⟩
        · have hb : b ≠ D := ne_of_none e hD
          rw [upd_ne hb, upd_ne hb, ← b4 b hb]
          exact e
        · rw [List.take_add_one, hu1]
          exact b3.app (.cons ⟨rfl, e3⟩ .nil)
    · rintro Hf ⟨kvs', b1, b2, b3, b4⟩
      rw [hyl, ← sl, List.take_length] at b3
      have xD : x ≠ D := ne_of_none (s3 _ _ o1) hD
      have hxf : Hf x = some (.ins C dx3 (flds d m t3)) := by rw [← b4 x xD]; exact s3 _ _ o1
      refine ⟨_, rfl, x, C, dx3, _, rfl, hxf, TC.cl, TC.nT, (by show 3 < 1000; decide), _, rfl, ?_⟩
      rw [putF_flds]
      have sf : Same H2 Hf := fun b o e => by
        have hb : b ≠ D := ne_of_none (s3 _ _ e) hD
        rw [← b4 b hb]
        exact s3 _ _ e
      refine q x _ xH (fun b o e n => ?_) (tabs_ins (hT2.ext sf) hxf) ⟨dx3, D, kvs', upd_same, by rw [upd_ne xD.symm]; exact b2, b3.monoD (SD.upd (.of sf) hxf rfl)⟩
      rw [upd_ne (ne_of_none e xH)]
      exact sf _ _ (e2 _ _ e n)
end
end Fr

namespace Fr
open PySem PySem.Spec PyProof.Rows L2
theorem OkT.perm {d : Int} {ts us : List Tb} (p : ts.Perm us) (O : OkT d ts) : OkT d us := by
  refine ⟨fun t ht => O.names t (p.mem_iff.mpr ht), (p.map (·.n)).nodup_iff.mp O.nodup, ?_, fun t ht => O.reads t (p.mem_iff.mpr ht), fun t ht r hr => (p.map (·.n)).mem_iff.mp (O.here t (p.mem_iff.mpr ht) r hr)⟩
  rw [← (p.map fun t => t.rs.length).sum_nat]
  exact O.few
section
variable {P : Program} {w : World} {K : PySem.W.Frag} {mg : Str → Option Value} {base : Heap}
theorem mk_sys {C : Addr} {TT : List (Addr × Str)} {H : Hp} {d m : Int} {v : V} {ts : List Tb} {R : Hp → Prop} {E : XK} (hT : LamX.Tabs TT H) (O : OkSys d m ts) (hv : Dp K H v (.list (ts.map Tb.d))) {x dx : Addr} (nx : H x = none) (ndx : H dx = none) (nex : dx ≠ x)
    (q : ∀ H', LamX.ExtN H H' → LamX.Tabs TT H' → SysAt K C H' x d m (srt ts) → R H') : spInit K C TT [.ref x, .int d, v, .int m] (upd (upd H dx (.own x)) x (.ins C dx [])) (fun v H2 => v = .non ∧ R H2) E := by
  have sx : Same H (upd (upd H dx (.own x)) x (.ins C dx [])) := same_tr (snew ndx) (snew (by rw [upd_ne nex.symm]; exact nx))
  exact ⟨x, dx, d, m, v, ts, rfl, upd_same, hT.ext sx, O, dpm sx _ _ hv, fun H2 E2 hT2 S2 => ⟨rfl, q H2 (fun b o e n => E2 b o (sx b o e) (ne_of_none e nx) n) hT2 S2⟩⟩
theorem eq_sys {C a b : Addr} {H : Hp} {d m : Int} {ts : List Tb} {Q : VK} (S : SysAt K C H a d m ts) (S' : SysAt K C H b d m ts) (O : OkT d ts) (q : Q (.bl true) H) : rEqOwn C (spSysEq K C) (.ref a) (.ref b) H Q := by
  have sh : ∀ t ∈ ts, SeqAt.shaped t.k = true := fun t ht => (lay_k O ht).shaped (by decide)
  obtain ⟨dx, t, kvs, h1, _⟩ := id S.ob
  obtain ⟨dx', t', kvs', h1', _⟩ := id S'.ob
  refine ⟨a, b, dx, dx', _, _, rfl, rfl, h1, h1', a, b, d, m, d, m, ts, ts, rfl, S, S', sh, sh, _, rfl, ?_⟩
  rw [tabEq_refl O.nodup sh, decide_eq_true rfl, decide_eq_true rfl]
  exact q
theorem no_fld {d m : Int} {t : Addr} {x : Str} (h : decide (x = "_dimensions" ∨ x = "_modulus" ∨ x = "_tables") = false) : (flds d m t).lookup x = none := by
  have h := of_decide_eq_false h
  exact flds_no _ _ _ (fun e => h (.inl e)) (fun e => h (.inr (.inl e))) fun e => h (.inr (.inr e))
end
section
variable {K : PySem.W.Frag} {TT : List (Addr × Str)} {r : Addr} {m m' : Nat} {B B' H H' : Hp}
theorem LS.ext (h : LS TT r m B H) (x : LamX.ExtN H H') (t : LamX.Tabs TT H') : LS TT r m B H' := by
  obtain ⟨a, b, c, e, n⟩ := h.rs.ok
  exact ⟨⟨same_of_ext h.rs.s h.nt x, h.rs.n, a, b, c, x _ _ e (fun ps z => by cases z), n⟩, t, h.nt⟩
theorem LS.up (h : LS TT r m B H) : Same B (bs H r) := fun b o e => bs_of (h.rs.s b o e) (ne_of_none e h.rs.n) fun ps z => h.nt b ps (by rw [e, z])
theorem LS.re (h : LS TT r m B H) : LS TT r m (bs H r) H := LS.own h.rs.ok h.tb
theorem LS.call (h : LS TT r m B H) (R : RS r m' B' H') (s : Same (cutr H r) B') : LS TT r m' B H' :=
  ⟨⟨fun b o e => R.s _ _ (s _ _ (by rw [cutr_ne (ne_of_none e h.rs.n)]; exact h.rs.s b o e)), h.rs.n, R.ok⟩, tabs_cut h.tb h.rs.ok (same_tr s R.s), h.nt⟩
theorem LD.bs {l : Addr} {ds : List PyData} (h : LD K H l ds) (n : noLs ds = true) (ok : RngOk H r m) (ne : r ≠ l) : LD K (Fr.bs H r) l ds := by
  obtain ⟨xs, h1, h2⟩ := h
  exact ⟨xs, bs_of h1 ne.symm (fun ps z => by cases z), dpst (ST.bs ok) _ _ n h2⟩
theorem ST.cut (ok : RngOk H r m) : ST H (cutr H r) := fun b o e d => by
  obtain ⟨x, y, z, h1, _⟩ := ok
  rw [cutr_ne fun q => by rw [q, h1] at e; cases e; cases d]
  exact e
theorem sd_to (s : Same B H) (n : B r = none) (x : LamX.ExtN H H') : SD B (Fr.bs H' r) := fun b o e d => by
  have nt : ∀ ps, o ≠ .tbl ps := fun ps z => by
    rw [z] at d
    cases d
  exact bs_of (x _ _ (s _ _ e) nt) (ne_of_none e n) nt
theorem LD.to {l : Addr} {ds : List PyData} (h : LD K B l ds) (s : Same B H) (n : B r = none) (x : LamX.ExtN H H') : LD K (Fr.bs H' r) l ds := by
  obtain ⟨xs, h1, h2⟩ := h
  exact ⟨xs, sd_to s n x _ _ h1 rfl, dpsd (sd_to s n x) _ _ h2⟩
theorem SysAt.re {C s : Addr} {d md : Int} {ts : List Tb} (h : SysAt K C H s d md ts) (ok : RngOk H r m) : SysAt K C (Fr.bs H r) s d md ts := h.bs ok fun _ => kvt (ST.bs ok)
end
/-- an expression, up to what holds behind it -/
def tCsqE (t : TE) : TE := fun σ H Q => ∃ N : V → Hp → Prop, (∀ v H, N v H → Q v H) ∧ t σ H N
theorem pe_csqE {X : Cx} {e : Expr} {t : TE} (h : PE X e t) : PE X e (tCsqE t) := ⟨fun pins s σ H Q I ⟨N, hN, q⟩ => thn (h.run pins s σ H _ I q) fun v s1 ⟨x, H1, I1, r, n⟩ => ⟨x, H1, I1, r, hN _ _ n⟩⟩
theorem dps_take {K : PySem.W.Frag} {H : Hp} : ∀ (n : Nat) {vs : List V} {ds : List PyData}, DpAll K H vs ds → DpAll K H (vs.take n) (ds.take n)
  | 0, _, _, _ => by rw [List.take_zero, List.take_zero]; exact .nil
  | n + 1, _, _, h => by
    cases h with
    | nil => exact .nil
    | cons h1 h2 => exact .cons h1 (dps_take n h2)
theorem LS.keep {TT : List (Addr × Str)} {r p : Addr} {m : Nat} {B H : Hp} {o : HO} (h : LS TT r m B H) (e : H p = some o) (k : B p = none) (n : r ≠ p) (t : ∀ ps, o ≠ .tbl ps) : LS TT r m (upd B p o) H :=
  ⟨h.rs.keep e k n, h.tb, fun b ps z => by
    by_cases hb : b = p
    · rw [hb, upd_same] at z
      exact t ps (Option.some.inj z)
    · rw [upd_ne hb] at z
      exact h.nt b ps z⟩
theorem LD.dr {K : PySem.W.Frag} {H H' : Hp} {l r : Addr} {m m' : Nat} {ds : List PyData} (h : LD K H l ds) (n : noLs ds = true) (ok : RngOk H r m) (d : Dr r m' H H') (ne : r ≠ l) : LD K H' l ds := h.st (ST.dr ok d) n (d.ne _ ne.symm)
theorem srt_srt {ts : List Tb} (n : (ts.map (·.n)).Nodup) : srt (srt ts) = srt ts := (srt_same (srt_perm ts).symm n).symm
theorem LS.sub {TT : List (Addr × Str)} {r : Addr} {m : Nat} {B0 B H : Hp} (h : LS TT r m B H) (s : Same B0 B) : LS TT r m B0 H := by
  refine ⟨⟨same_tr s h.rs.s, ?_, h.rs.ok⟩, h.tb, fun b ps z => h.nt b ps (s _ _ z)⟩
  cases e : B0 r with
  | none => rfl
  | some o =>
    have z := s _ _ e
    rw [h.rs.n] at z
    cases z
end Fr

namespace Fr
open PySem PySem.Spec PyProof.Rows L2
theorem countIn_strs (k : Str) : ∀ ks : List Str, countIn (.str k) (ks.map PyData.str) = ((ks.count k : Nat) : Int)
  | [] => rfl
  | x :: ks => by
    rw [List.map_cons, countIn, countIn_strs k ks, List.count_cons]
    show (if (x == k) = true then 1 else 0) + _ = _
    by_cases h : x = k
    · rw [h]
      simp
      omega
    · have h' : (x == k) = false := beq_eq_false_iff_ne.mpr h
      rw [h']
      simp
section
variable {X : Cx}
def rCountS (K : PySem.W.Frag) : V → List V → Hp → VK → Prop := fun x xs H Q => ∃ (a : Addr) (ks : List Str) (k : Str), x = .ref a ∧ xs = [.str k] ∧ SqL K H a (ks.map V.str) ∧ Q (.int (ks.count k : Nat)) H
theorem mt_count : MtR X "list.count" (rCountS X.K) := by
  intro pins s σ H x xs v us Q I rx rxs h
  obtain ⟨a, ks, k, rfl, rfl, hl, q⟩ := h
  cases rx
  obtain ⟨u, rfl, t, rfl⟩ := vals1 rxs
  obtain ⟨its, r, hp, hz⟩ := I.list hl
  refine count_list_strs (vs := its) hp.isList r.strs ?_
  rw [countIn_strs]
  exact ⟨.int (ks.count k : Nat), H, I.tok _, ⟨_, rfl⟩, q⟩
/-- sorted(t), t a tuple of ints -/
def rSortedIT (K : PySem.W.Frag) : List V → Hp → VK → Prop := fun vs H Q => ∃ (a : Addr) (ns : List Int), vs = [V.ref a] ∧ SqT K H a (ns.map V.int) ∧
  ∀ (ns' : List Int) (p : Addr), ns'.Perm ns → ns'.Pairwise (· ≤ ·) → H p = none → Q (.ref p) (upd H p (.lst (ns'.map V.int)))
theorem cr_sortedIT : CallR X (.builtin "sorted") (rSortedIT X.K) := by
  intro pins s σ H vs us Q I r h
  obtain ⟨a, ns, rfl, hs, q⟩ := h
  obtain ⟨its, rv, ⟨o, ho, hc, n, hd⟩, hz⟩ := I.tuple hs
  rw [Vals.ref1 r]
  have hi := rv.ints
  have hlz : its.length ≤ sizeLine := by rw [← rv.length]; exact hz
  refine Calls.call_function_entry kind_sorted plain_sorted entry_sorted (args_sorted1 _) ?_
  unfold Builtin.«sorted»
  refine wpAny_bind (m := checkCount "sorted" 1 1 _) (wpAny_pure ?_)
  refine wpAny_bind (wpAny_collect_seq a (.inr rfl) ho hc hd (fun h1 keep => ?_) (by rw [List.size_toArray]; exact hlz))
  have I1 : Inv X pins σ H { s with heap := h1 } := I.kept (t' := s.toks) keep
  refine wpAny_bind (wpAny_newList ?_ hlz)
  have hL : (h1.push (seqObj "list" its.toArray 0)).get? h1.objs.size = some (seqObj "list" its.toArray 0) := Heap.get?_push_size _ rfl
  refine wpAny_bind (wpAny_holding (wpAny_call_entry slot_list_sort ⟨_, hL, rfl⟩ entry_list_sort (SrtO.list_sort_ord SrtO.swo_int hL hlz (fun h2 => SrtO.ints_sortable hi h2) fun out so sb => ⟨_, rfl, ?_⟩) (args_list_sort _)))
  obtain ⟨k1, k2, k3⟩ := SrtO.ints_out hi so sb
  obtain ⟨ep, he'⟩ := PyProof.Rows.sortedHeap_at (vs := its) (out := out.toArray) hL
  have hlen : ((out.map SrtO.iv).map V.int).length ≤ sizeLine := by
    rw [List.length_map, k2.length_eq]
    rw [List.length_map] at hz
    exact hz
  refine wpAny_pure ⟨_, rfl, .ref h1.objs.size, upd H h1.objs.size (.lst ((out.map SrtO.iv).map V.int)), ?_, rfl, q _ _ k2 k3 (I1.hok.fresh (Nat.le_refl _))⟩
  refine I1.laid (t' := s.toks) (fun b ob hb => ?_) (Nat.le_refl _) ⟨hlen, out, ep, vals_of_ints k1, by simpa using he'⟩
  have hlt : b < h1.objs.size := Heap.lt_size hb
  have hlt2 : b < (h1.push (seqObj "list" its.toArray 0)).objs.size := by rw [Heap.size_push]; exact Nat.lt_succ_of_lt hlt
  rw [PyProof.Rows.sortedHeap_old (Nat.ne_of_lt hlt) hlt2]
  exact Heap.get?_push_of_some _ hb
/-- walked in a comprehension's block -/
theorem pi_tupK {K' : PySem.W.Frag} {tg l : Expr} {tl : TE} (hl : PE X l tl) (hK : X.K = K' := by rfl) : PI X tg l (iTup K' tl) := by
  subst hK
  exact pi_tup hl
theorem pi_listK {K' : PySem.W.Frag} {tg l : Expr} {tl : TE} (hl : PE X l tl) (hK : X.K = K' := by rfl) : PI X tg l (iList K' tl) := by
  subst hK
  exact pi_list hl
/-- list(d.values()) -/
def tLstVals (te : TE) : TE := fun σ H Q => te σ H fun x H1 => ∃ (d : Addr) (kvs : List (Key × V)), x = .ref d ∧ H1 d = some (.dK kvs) ∧ ∀ q, H1 q = none → Q (.ref q) (upd H1 q (.lst (kvs.map (·.2))))
theorem pe_listVals {e : Expr} {te : TE} {p apos cpos pos : Pos} (hc : X.calm = true) (hg : Gl X "list") (hm : X.mg "list" = none) (he : PE X e te) (hbase : attributeBase e "values" X.env (eval e X.env) = eval e X.env := by rfl) (hline : (apos.endLine == cpos.line) = true := by rfl)
    (na : starEach [.Call (.Attribute e "values" apos) [] [] cpos] X.env = (false, eval (.Call (.Attribute e "values" apos) [] [] cpos) X.env) :: starEach [] X.env := by rfl) : PE X (.Call (.Name "list" p) [.Call (.Attribute e "values" apos) [] [] cpos] [] pos) (tLstVals te) := by
  refine ⟨fun pins s σ H Q I h => ?_⟩
  refine Call_ (ld_blt I hg hm boot_list (PyProof.Rows.callWith_type1 (args_cons ?_ na) na))
  refine wpAny_Call_method (T := "dict") (id := "dict.values") hbase rfl hline PySem.F.plainAttrs_dict PySem.F.slot_dict_values PySem.F.type_dict_values (thn (he.run pins s σ H _ I h) fun u s1 ⟨x, H1, I1, rx, d, kvs, ex, hd, q⟩ => ?_)
  subst ex
  obtain rfl : u = Value.ref d := rx
  obtain ⟨z, lo, vs, rk, hdd⟩ := (show ObjOk X.prog X.w H1 s1.heap d (.dK kvs) from I1.hok d _ hd)
  obtain ⟨ep, hat⟩ := hdd.dictAt
  have hl : kvs.length = vs.length := Paired.length rk
  refine ⟨hdd.typeIs, hdd.mapOf.noDict, ?_⟩
  have I2 : Inv X pins σ H1 { s1 with heap := s1.heap.push { cls := .type "dict_values", data := .fields #[.ref d] } } := I1.kept (t' := s1.toks) fun b ob q => Heap.get?_push_of_some _ q
  have fin : wpAny (model X.prog X.w) X.A (call (.type "list") [.ref s1.heap.objs.size]) (EP X pins σ Q) X.xe { s1 with heap := s1.heap.push { cls := .type "dict_values", data := .fields #[.ref d] } } := by
    refine PySem.W.kdl_call (PySem.W.kdl_values (knd := mixKind X.prog X.w) (r := s1.heap.objs.size) (d := d) (kvs := vs) (ep := ep)) (I2.ok.hd hc) ⟨⟨_, Heap.get?_push_size _ rfl, rfl, rfl⟩, hat.push _⟩ (by rw [← hl]; exact z) fun h' tk acc' c' hkeep hS hacc => ?_
    refine ⟨.ref _, upd H1 _ (.lst (kvs.map (·.2))), I2.laid hkeep (Nat.le_refl _) (show ObjOk X.prog X.w _ _ _ (.lst (kvs.map (·.2))) from ⟨?_, acc'.toList, c', ?_, ?_⟩), rfl, q _ (I2.hok.fresh (Nat.le_refl _))⟩
    · rw [List.length_map]; exact z
    · have el : acc'.toList.length = acc'.size := by simp
      refine vals_of_at (by rw [List.length_map, el, hacc.1, hl]) fun j x w h1 h2 => ?_
      obtain ⟨k, hky⟩ := hacc.2 j w (by rw [← Array.getElem?_toList]; exact h2)
      rw [List.getElem?_map] at h1
      obtain ⟨kv, h3, rfl⟩ := Option.map_eq_some_iff.mp h1
      obtain ⟨y, h4, h5⟩ := KV.at' rk hky
      rw [h3] at h4
      cases h4
      exact h5
    · rw [Array.toArray_toList]; exact hS
  show wpAny _ _ (callWith cpos (.builtin "dict.values") [.ref d] [] []) _ X.xe s1
  exact method_meetsIn PySem.F.slot_dict_values PySem.F.entry_dict_values rfl (PySem.evalArgs_none ⟨rfl, hdd.typeIs, PySem.F.args_dict_values_1 _, _, meets_dict_values (mixKind X.prog X.w) d lo, ⟨vs, hdd⟩, args_nil fin⟩)
end
end Fr

namespace Fr
open PySem PySem.Spec PyProof.Rows L2
section
variable {prog : Program} {w : World} {A : Around} {E : Value → Shared → Prop} {s : Shared}
theorem max_intTup {l : Addr} {xs : Array (Int × Tok)} {Q : Value → Shared → Prop} (hh : A.handled = none) (hl : s.heap.IsTuple l (intItems xs)) (hne : 0 < xs.size)
    (h : ∀ v h' tk, (intItems xs)[argBest (fun i j => decide (numAt xs i > numAt xs j)) (xs.size - 1)]? = some v → (∀ b o, s.heap.get? b = some o → h'.get? b = some o) → Q v { s with heap := h', toks := tk }) :
    wpAny (model prog w) A (call (.builtin "max") [.ref l]) Q E s := by
  refine call_max_walk (wpAny_pyIter_tuple hl ?_)
  obtain ⟨o, ho, hc, n, hd⟩ := hl
  have hlt : l < s.heap.objs.size := Heap.lt_size ho
  refine ⟨_, [_, l], [_], _, _, _, _, rfl, Walks.tuple (A := A.in1) hh _ l (Nat.ne_of_lt hlt) (intItems xs), ⟨⟨_, Heap.get?_push_size _ rfl, rfl, rfl⟩, ⟨o, Heap.get?_push_of_some _ ho, hc, n, hd⟩⟩, fun d hdm => ?_, by simpa [intItems] using hne, CmpOf.ints_gt (numAt xs) (fun _ _ => intItems_at), fun v h' tk hP hk => ?_⟩
  · show d < (s.heap.push _).objs.size
    rw [Heap.size_push]
    rcases List.mem_cons.mp hdm with rfl | hdm
    · exact Nat.lt_succ_self _
    · rcases List.mem_cons.mp hdm with rfl | hdm
      · exact Nat.lt_succ_of_lt hlt
      · cases hdm
  · refine h v h' tk (by simpa [intItems] using hP) fun d o e => hk d o (fun hm => ?_) (Heap.get?_push_of_some _ e)
    rcases List.mem_cons.mp hm with e1 | hm
    · have := Heap.lt_size e
      rw [e1] at this
      exact Nat.lt_irrefl _ this
    · cases hm
end
def rMaxT (K : PySem.W.Frag) : List V → Hp → VK → Prop := fun vs H Q => ∃ (a : Addr) (ns : List Int), vs = [V.ref a] ∧ SqT K H a (ns.map V.int) ∧ 0 < ns.length ∧ ∀ m, m ∈ ns → (∀ y, y ∈ ns → y ≤ m) → Q (.int m) H
theorem cr_maxT {X : Cx} (hc : X.calm = true) : CallR X (.builtin "max") (rMaxT X.K) := by
  intro pins s σ H vs us Q I r h
  obtain ⟨a, ns, rfl, hs, hne, q⟩ := h
  obtain ⟨its, rv, hl, _⟩ := I.tuple hs
  rw [Vals.ref1 r]
  obtain ⟨xs, e⟩ := rv.ints.allInts.items
  have hn : numsOf (intItems xs).toList = ns := by rw [← e]; exact rv.ints.numsOf
  rw [nums_intItems] at hn
  subst hn
  rw [e] at hl
  have hsz : 0 < xs.size := by simpa using hne
  refine max_intTup (I.ok.hd hc) hl hsz fun v h' tk hv hk => ?_
  obtain ⟨t, rfl⟩ := intItems_at hv
  obtain ⟨h1, h2⟩ := argBest_gt (numAt xs) (xs.size - 1)
  refine ⟨.int _, H, I.kept hk, ⟨_, rfl⟩, q _ ?_ fun a ha => ?_⟩
  · rw [numAt_eq]; exact PySem.getD_mem (by rw [List.length_map, Array.length_toList]; omega)
  · obtain ⟨j, hj, rfl⟩ := mem_getD ha
    rw [List.length_map, Array.length_toList] at hj
    rw [← numAt_eq]; exact h2 j (by omega)
end Fr

namespace Fr
open PySem PySem.Spec PyProof.Rows L2
/-- what the written part says of an error class -/
structure ErrC (K : PySem.W.Frag) (C : Addr) : Prop where
  oex : OexC K C
  ga : PySem.W.findIn K (.ref C) "__getattribute__" = some (some (.builtin "BaseException.__getattribute__"))
  gg : PySem.W.findIn K (.ref C) "__getattr__" = some none
  hd : PySem.W.hasDictIn K C = true
  kc : PySem.W.findIn K (.ref C) "__class__" = some (some (.builtin "object.__class__"))
  kg : PySem.W.specialIn K (.builtin "object.__class__") "__get__" = some (some (.builtin "getset_descriptor.__get__"))
  kt : PySem.W.takesIn K (.builtin "object.__class__") = some true
  km : PySem.W.mroIn K C (.type "object") = some true
/-- an error at a with these attributes -/
def ErrAt (H : Hp) (a C : Addr) (fs : List (Str × V)) : Prop := ∃ d : Addr, H a = some (exo a C (some d)) ∧ H d = some (exd d fs)
theorem ErrAt.mono {H H' : Hp} {a C : Addr} {fs : List (Str × V)} (h : ErrAt H a C fs) (e : Same H H') : ErrAt H' a C fs := by
  obtain ⟨d, h1, h2⟩ := h
  exact ⟨d, e _ _ h1, e _ _ h2⟩
section
variable {X : Cx} {C fI : Addr} {k : Nat} {fd : FuncData} {ps : List Str} {sp : Sp} {x f : Str} {p pos : Pos} {e : Expr} {es : List Expr} {t : TA} {te : TE}
/-- C(e, ..), the error itself -/
def tMkV (C : Addr) (sp : Sp) (t : TA) : TE := fun σ H Q => t σ H fun vs H1 => vs.length ≤ 1000 ∧ ∀ a, H1 a = none → sp (.ref a :: vs) (upd H1 a (exo a C none)) (fun v H2 => v = .non ∧ Q (.ref a) H2) C8.E0
theorem pe_mkV (T : OexC X.K C) (iC : PySem.W.findIn X.K (.ref C) "__init__" = some (some (.ref fI))) (tI : PySem.W.typeIn X.K (.ref fI) = some (.type "function")) (F : FnOk X.prog X.w X.K X.mg X.base CX0 k fI fd ps sp) (hr : Room (k + 1) X.A) (hb : Binds X.K fd ps [])
    (hg : Gl X x) (hm : X.mg x = some (.ref C)) (ha : PA X (e :: es) t) (hdb : (x == ("__debug__" : Str)) = false := by decide) (he : starEach (e :: es) X.env = (false, eval e X.env) :: starEach es X.env := by rfl) (hpl : (backTo pos (starEach es X.env)).any (·.1) = false := by rfl) :
    PE X (.Call (.Name x p) (e :: es) [] pos) (tMkV C sp t) := by
  constructor
  intro pins s σ H Q I h
  obtain ⟨nm, q, N, bs, bm, sn, sub, ab, col, dd, k0, k1, k2, k3, k5, hC, hbm⟩ := T.cls
  refine wpAny_Call_Name_kw (ld_glob I hg hm (PySem.W.callWith_K (h₀ := X.base) I.ok.mod.kin T.kC (thn (ha.run pos pins s σ H _ I h) ?_) he hpl) hdb)
  rintro us s1 ⟨vs, H1, I1, r1, hz, q1⟩
  refine ⟨I1.kIn, ?_⟩
  show wpAny _ _ (call (.ref C) us) _ _ _
  obtain ⟨hp, g, dr, tk, os⟩ := s1
  have big : hp.objs.size ≤ hp.objs.size + 1 := Nat.le_succ _
  have hq := q1 (hp.objs.size + 1) (I1.hok.fresh big)
  have old : ∀ b o, hp.get? b = some o → ((hp.push (PySem.W.kdv_tup us)).push (PySem.HandSPX.excO C hp.objs.size)).get? b = some o := fun b o z => Heap.get?_push_of_some _ (Heap.get?_push_of_some _ z)
  have new : ((hp.push (PySem.W.kdv_tup us)).push (PySem.HandSPX.excO C hp.objs.size)).get? (hp.objs.size + 1) = some (PySem.HandSPX.excO C hp.objs.size) := by heap_get
  have J : Inv X pins σ (upd H1 (hp.objs.size + 1) (exo (hp.objs.size + 1) C none)) ⟨(hp.push (PySem.W.kdv_tup us)).push (PySem.HandSPX.excO C hp.objs.size), g, dr, tk, os⟩ := I1.laid (t' := tk) (o := exo (hp.objs.size + 1) C none) old big (exo_ok new)
  have rr : Vals (V.ref (hp.objs.size + 1) :: vs) (Value.ref (hp.objs.size + 1) :: us) := .cons rfl r1
  have hl : ((Value.ref (hp.objs.size + 1) :: us) ++ ([] : List Value)).length = ps.length := by
    rw [List.append_nil, ← rr.length]
    exact F.len _ _ _ _ hq
  have hu : us.length ≤ sizeLine := by
    rw [← Paired.length r1, sizeLine_eq]
    omega
  have bd := hb ⟨(hp.push (PySem.W.kdv_tup us)).push (PySem.HandSPX.excO C hp.objs.size), g, dr, tk, os⟩ (Value.ref (hp.objs.size + 1) :: us) J.kIn hl
  rw [List.append_nil] at bd
  refine wpAny_call (PySem.HandSPX.call_own PySem.F.excBase_ValueError (fun Y => PySem.HandSPX.refsVE_contains Y bm hbm) (I1.kIn _ _ hC) (PySem.W.looks_findIn I1.kIn iC) (fun self => PySem.W.bind_fn I1.kIn self tI) hu
    (codeAny_mono (FnOk.run F _ X.stack _ _ ⟨Value.ref (hp.objs.size + 1) :: us, []⟩ (Value.ref (hp.objs.size + 1) :: us) _ _ C8.E0 (hr.make C us []) (J.env0.make C us []) bd rr hq) ?_))
  intro rs s2 z
  match rs, z with
  | .error er, z => exact pass0 (X := X) pins σ _ _ er s2 J z
  | .ok .next, z => exact z.elim
  | .ok .brk, z => exact z.elim
  | .ok .cont, z => exact z.elim
  | .ok (.ret u), z =>
    obtain ⟨v, H2, I3, rv, ev, q3⟩ := J.after z
    subst ev
    exact ⟨rv, .ref (hp.objs.size + 1), H2, I3, rfl, q3⟩
/-- e.f, e an error -/
def tErrF (K : PySem.W.Frag) (f : Str) (te : TE) : TE := fun σ H Q => te σ H fun x H1 => ∃ (a C : Addr) (fs : List (Str × V)) (v : V), x = .ref a ∧ ErrC K C ∧ ErrAt H1 a C fs ∧ PySem.W.findIn K (.ref C) f = some none ∧ fs.lookup f = some v ∧ Q v H1
theorem pe_errF (he : PE X e te) (hb : attributeBase e f X.env (eval e X.env) = eval e X.env := by rfl) : PE X (.Attribute e f pos) (tErrF X.K f te) := by
  constructor
  intro pins s σ H Q I h
  refine attr_of hb (thn (he.run pins s σ H _ I h) ?_)
  rintro u s1 ⟨x, H1, I1, rx, a, C, fs, v, rfl, T, ⟨d, h1, h2⟩, no, hl, q⟩
  obtain rfl : u = Value.ref a := rx
  obtain ⟨t1, ho⟩ := exo_at I1.hok h1
  obtain ⟨mA, hns, rel⟩ := exd_at I1.hok h2
  obtain ⟨od, hod, lk⟩ := lookIn_ns hns
  obtain ⟨u, hu, ru⟩ := RelO.some_of (v := v) (o := mA f) (by rw [← hl]; exact rel f)
  exact HandSPX.exc_get I1.kIn (od := some od) ⟨ho, rfl, rfl, hod⟩ T.ga T.gg T.oex.exC (PySem.W.findObj_own T.hd no rfl (by rw [lk, hu])) (handed_of ru) ⟨v, H1, I1.tok _, ru, q⟩
/-- isinstance(e, c), e an error -/
def rIsX (K : PySem.W.Frag) : List V → Hp → VK → Prop := fun xs H Q => ∃ (a C : Addr) (fs : List (Str × V)) (c : V) (cv : Value) (b : Bool), xs = [.ref a, c] ∧ ErrC K C ∧ ErrAt H a C fs ∧ ClsV c cv ∧ PySem.W.kitOne K (.ref C) cv = some b ∧ Q (.bl b) H
theorem call_isX : CallR X (.builtin "isinstance") (rIsX X.K) := by
  intro pins s σ H xs us Q I r h
  obtain ⟨a, C, fs, c, cv, b, rfl, T, ⟨d, h1, h2⟩, hc, e, q⟩ := h
  obtain ⟨u1, u2, rfl, r1, r2⟩ := vals2 r
  obtain rfl := hc.eq r2
  obtain rfl : u1 = Value.ref a := r1
  obtain ⟨t1, ho⟩ := exo_at I.hok h1
  obtain ⟨mA, hns, rel⟩ := exd_at I.hok h2
  obtain ⟨od, hod, lk⟩ := lookIn_ns hns
  have is : PySem.W.InstAt s.heap a _ C (some od) := ⟨ho, rfl, rfl, hod⟩
  have cl : (PySem.W.clsIn X.K C).isSome = true := by
    obtain ⟨cd, hcd, _⟩ := PySem.W.any_some T.hd
    rw [hcd]
    rfl
  exact PySem.W.kia_one (PySem.W.kitx_exc cl T.ga T.gg T.oex.exC T.kc T.kg T.kt T.km) I.kIn is e (fun z => by cases z) fun tk => ⟨.bl b, H, I.tok tk, rfl, q⟩
end
end Fr

namespace Fr
open PySem PySem.Spec PyProof.Rows L2
/-- an error as a thing that is tracked: its class, its dict -/
def exq (a : Addr) (cls : Value) (d : Option Addr) : HO := .ext fun h => ∃ (o : PySem.Obj) (vs : Array Value), h.get? a = some o ∧ Zc cls d o ∧ o.data = .fields vs
theorem exq_ok {P : Program} {w : World} {H : Hp} {h : Heap} {a : Addr} {cls : Value} {d : Option Addr} {o : PySem.Obj} {vs : Array Value} (e : h.get? a = some o) (z : Zc cls d o) (f : o.data = .fields vs) : ObjOk P w H h a (exq a cls d) :=
  ⟨⟨o, vs, e, z, f⟩, ⟨_, e⟩, fun h1 h2 q k => by
    obtain ⟨o', vs', e', z', f'⟩ := q
    exact ⟨o', vs', k _ e', z', f'⟩⟩
section
variable {X : Cx} {pins : List (Addr × PySem.Obj)} {σ : L2.St} {H : Hp} {s : Shared} {a : Addr} {o : HO}
/-- a thing of the heap that was not tracked is tracked from now on -/
theorem inv_adopt (I : Inv X pins σ H s) (na : H a = none) (old : X.s_0.heap.get? a = none) (nl : a ≠ X.env.locals) (nc : ∀ x c, X.env.cells.lookup x = some c → c ≠ a) (np : ∀ p ∈ X.pn ++ pins, p.1 ≠ a) (new : ObjOk X.prog X.w (upd H a o) s.heap a o) : Inv X pins σ (upd H a o) s := by
  have up : ∀ {b : Addr} {u : HO}, H b = some u → upd H a o b = some u := fun {b u} e => by
    rw [upd_ne (ne_of_none e na)]
    exact e
  have u := I.base
  refine { I with base := { keep := u.keep, slot := u.slot, free := ?_, there := u.there, tups := ?_, frzs := ?_, tbls := ?_ }, free := ?_, freeC := ?_, pin := ?_, hok := ?_ }
  · intro b q e n hx
    have hb : b ≠ a := fun z => by
      rw [z, old] at e
      cases e
    rw [upd_ne hb]
    exact u.free b q e n hx
  · exact fun b xs e => up (u.tups b xs e)
  · exact fun b q v e => up (u.frzs b q v e)
  · intro b ps e
    obtain ⟨more, z⟩ := u.tbls b ps e
    exact ⟨more, up z⟩
  · rw [upd_ne nl.symm]
    exact I.free
  · intro x c e
    rw [upd_ne (nc x c e)]
    exact I.freeC x c e
  · intro p hp
    obtain ⟨z1, z2, z3⟩ := I.pin p hp
    exact ⟨z1, by rw [upd_ne (np p hp)]; exact z2, z3⟩
  · intro b q e
    by_cases hb : b = a
    · subst hb
      rw [upd_same] at e
      cases e
      exact new
    · rw [upd_ne hb] at e
      exact (I.hok b q e).stay (fun _ _ _ z => z) (fun c z => up z) fun c xs z => up z
end
/-- what a body must know of its error when the clause keeps it: slot i is the clause's name, slot j the variable -/
def wKeep (K : PySem.W.Frag) (c : Value) (i j : Nat) (D : Ends) : WX := fun cls d σ H => PySem.W.exmOne K cls c = some true ∧ ∀ a, H a = none → D.nx ((((σ.set i (some (.ref a))).set j (some (.ref a)))).set i none) (upd H a (exq a cls d))
section
variable {X : Cx} {x n y : Str} {c : Value} {i j : Nat} {body : List Stmt} {np yp ep pos pos' apos : Pos} {tb : WX → TS}
theorem ps_try_keep (hs : X.stack = X.env :: X.outer) (hf : X.env.frame = some X.env.locals) (hex : X.ex = []) (hN : X.N.Nodup) (hi : X.N[i]? = some n) (hj : X.N[j]? = some y) (hln : X.env.kindOf n = some .local) (hly : X.env.kindOf y = some .local) (hij : i ≠ j) (hc : Names X x c)
    (hb : ∀ (W : WX) (pn : List (Addr × PySem.Obj)) (xe : Value → Shared → Prop), Takes (X.tr pn xe) W → PassesOwn (model X.prog X.w) X.A X.env xe → PSs (X.tr pn xe) body (tb W))
    (hsw : swapsWith (.Name n ep) (some (.Name y yp)) apos.line X.env = pure false := by rfl) (hd : (n == ("__debug__" : Str)) = false := by decide) (hcd : (n == ("__classdict__" : Str)) = false := by decide) :
    PS X (.Try body [.ExceptHandler (some (.Name x np)) (some n) [.Assign [.Name y yp] (.Name n ep) apos] pos'] [] [] pos) (fun D σ H => tb (wKeep X.K c i j D) D σ H) := by
  constructor
  intro pins s σ H D I h
  have ok := I.ok
  have fra : X.A.frames = some (X.env :: X.outer) := ok.frames.trans (congrArg some hs)
  obtain ⟨xe, hxe⟩ : ∃ xe : Value → Shared → Prop, xe = fun e s₁ => wpAny (model X.prog X.w) X.A (noteFrame e X.env) (fun _ s₂ => wpAny (model X.prog X.w) X.A (setFlight e none) (fun _ s₃ =>
    wpAny (model X.prog X.w) X.A (handleBy e X.env [.ExceptHandler (some (.Name x np)) (some n) [.Assign [.Name y yp] (.Name n ep) apos] pos']) (SP X pins D) X.xe s₃) X.xe s₂) X.xe s₁ := ⟨_, rfl⟩
  have pas : PassesOwn (model X.prog X.w) X.A X.env xe := by rw [hxe]; exact PassesOwn.looking
  have caught : Takes (X.tr (X.pn ++ pins) xe) (wKeep X.K c i j D) := by
    rw [hxe]
    rintro u s1 ⟨a, B, sI, pins', σ1, H1, cls, d, rfl, J0, nb, up, sky, na, os, ag, hb1, hyes⟩
    have J : Inv X pins σ1 H1 sI := J0.ofTry ok
    have sky1 : Sky B (X.env :: X.outer) a (Zc cls d) X.env.locals s1.heap := hs ▸ sky
    show wpAny (model X.prog X.w) X.A (noteFrame (.ref a) X.env) _ _ _
    refine Sky.land Zc.steady fra hf sky1 fun g3 fly3 u3 => ?_
    have K3 : Inv X pins σ1 H1 { s1 with heap := g3 } := J.landed nb fly3.1 (up.trans u3) os ag
    obtain ⟨q3, vs3, at3, z3, dat3⟩ := fly3.there
    have out : a ∉ frs (X.env :: X.outer) := fun hm => by
      obtain ⟨_, q', e', nof⟩ := fly3.2.2.1.mem hm
      rw [at3] at e'
      cases e'
      exact nof _ dat3
    have aL : a ≠ X.env.locals := fun z => out (List.mem_filterMap.mpr ⟨X.env, List.mem_cons_self, by rw [hf, z]⟩)
    have aF : a ∉ X.fs := fun hm => by
      obtain ⟨e, he, q⟩ := List.mem_filterMap.mp hm
      exact out (List.mem_filterMap.mpr ⟨e, List.mem_cons_of_mem _ he, q⟩)
    have gone : sI.heap.get? a = none := by
      cases q : sI.heap.get? a with
      | none => rfl
      | some w =>
        have z := nb a w q (by rw [hs]; exact out)
        rw [fly3.2.1] at z
        cases z
    have S3 := K3.suite at3 dat3 na aL aF
    refine wpAny_handleBy_cons (codeAny_handlers_test ?_) (by intro q; cases q)
    have ty3 : PySem.W.Looks (model X.prog X.w) g3 (typeOf (.ref a)) cls := fun A Q E s k q => wpAny_typeOf_ref (k _ _ at3) (by rw [z3.1]; exact q)
    have hit := PySem.W.exm_one (M := model X.prog X.w) K3.kIn ty3 hb1
    have asks : ∀ {Q : Value → Shared → Prop} {E : Value → Shared → Prop}, Q c { s1 with heap := g3 } → wpAny (model X.prog X.w) (X.A.mark (some (.ref a))) (eval (.Name x np) X.env) Q E { s1 with heap := g3 } := fun {Q E} q => by
      obtain ⟨hg, nd, hm | ⟨hm, hv, nn⟩⟩ := hc
      · exact ld_glob S3 hg hm q nd
      · exact ld_blt S3 hg hm hv q nn nd
    refine asks (hit.here ?_)
    refine codeAny_handlers_suite_as (HandSPX.lands_againZ fly3 fun g4 fly4 u4 => ?_)
    have K4 : Inv X pins σ1 H1 { s1 with heap := g4 } := J.landed nb fly4.1 ((up.trans u3).trans u4) os ag
    obtain ⟨q4, vs4, at4, z4, dat4⟩ := fly4.there
    have S4 := K4.suite at4 dat4 na aL aF
    have one : PSs (X.suite a ((a, q4) :: (X.pn ++ pins))) [.Assign [.Name y yp] (.Name n ep) apos] (tAsg (tVar i) (gName j)) :=
      pss_one (ps_set (X := X.suite a ((a, q4) :: (X.pn ++ pins))) hN hj (.inl hly) (pe_var (X := X.suite a ((a, q4) :: (X.pn ++ pins))) hi (.inl hln) hd hcd) hsw (.inr hly))
    refine store_ok (X := X.suite a ((a, q4) :: (X.pn ++ pins))) (v := .ref a) S4 hN hi (.inl hln) rfl (fun s5 S5 => ?_) (.inr hln)
    have hlen : i < σ1.length := by
      rw [K4.len]
      exact (List.getElem?_eq_some_iff.mp hi).1
    refine wpAny_mono (one.run [] s5 _ H1 { nx := fun σ' H' => σ' = (σ1.set i (some (.ref a))).set j (some (.ref a)) ∧ H' = H1, rt := fun _ _ => False, bk := fun _ _ => False, ct := fun _ _ => False } S5 ⟨.ref a, List.getElem?_set_self hlen, rfl, rfl⟩) (fun f s6 q => ?_) (fun _ _ z => False.elim z)
    cases f with
    | brk => obtain ⟨_, _, _, z⟩ := q; exact z.elim
    | cont => obtain ⟨_, _, _, z⟩ := q; exact z.elim
    | ret u => obtain ⟨_, _, _, _, _, z⟩ := q; exact z.elim
    | next =>
      obtain ⟨σ6, H6, S6, rfl, rfl⟩ := q
      obtain ⟨at6, _⟩ := S6.pin (a, q4) (List.mem_append_left _ List.mem_cons_self)
      have K6 : Inv X pins _ H6 s6 := S6.unsuite ok
      have K7 := inv_adopt K6 na ?_ aL ?_ ?_ (exq_ok at6 z4 dat4)
      · exact gone_ok K7 hN hi hln fun s7 K8 => ⟨_, _, K8, hyes a na⟩
      · cases q : X.s_0.heap.get? a with
        | none => rfl
        | some w =>
          obtain ⟨w', z⟩ := J.base.there a w q (by rw [hex]; exact fun z => nomatch z)
          rw [gone] at z
          cases z
      · intro v k e z
        subst z
        obtain ⟨w, q, z, _⟩ := J.cell v _ e
        rw [gone] at z
        cases z
      · intro p hp z
        obtain ⟨e, _⟩ := J.pin p hp
        rw [z, gone] at e
        cases e
  have R := (hb (wKeep X.K c i j D) (X.pn ++ pins) xe caught pas).run [] s σ H D (I.toTry _) h
  rw [hxe] at R
  refine wpAny_Try_except (wpAny_mono R (fun f s1 q => ?_) fun _ _ z => z)
  cases f with
  | next =>
    obtain ⟨σ1, H1, J, z⟩ := q
    exact wpAny_execs_nil ⟨σ1, H1, J.ofTry ok, z⟩
  | brk =>
    obtain ⟨σ1, H1, J, z⟩ := q
    exact ⟨σ1, H1, J.ofTry ok, z⟩
  | cont =>
    obtain ⟨σ1, H1, J, z⟩ := q
    exact ⟨σ1, H1, J.ofTry ok, z⟩
  | ret u =>
    obtain ⟨v, σ1, H1, J, r, z⟩ := q
    exact ⟨v, σ1, H1, J.ofTry ok, r, z⟩
end
end Fr

namespace Fr
open PySem PySem.Spec PyProof.Rows L2
section
variable {P : Program} {w : World} {K : PySem.W.Frag} {mg : Str → Option Value} {base : Heap}
/-- the promise of a def whose body may raise -/
theorem fun_okX {x qual : Str} {st : Stmt} {f : Addr} {fd : FuncData} {N ps : List Str} {k : Nat} {sp : Sp} (F : Fun K x qual st f fd) (S : FnScope N ps (defScope st)) (len : ∀ vs H Q E, sp vs H Q E → vs.length = ps.length)
    (body : ∀ (cdv : Value) (A : Around) (outer : List Env) (s : Shared) (H : Hp) (vs : List V) (Q : VK) (E : XK), Room k (A.deeper (envOfC qual (defScope st) s.heap.objs.size f cdv)) → sp vs H Q E →
      ∃ t, PSs (cxOf (L2.CX P w) P w K mg base N qual (defScope st) f cdv A outer s H E) (defBody st) t ∧ t { nx := fun _ H' => Q .non H', rt := Q } (start N vs) H) : FnOk P w K mg base (L2.CX P w) (k + 1) f fd ps sp := by
  obtain ⟨oc, od, kV, doc, pm, an, cdv, ct, osl, rfl, lk, hcd⟩ := F.ex
  exact fn_of lk hcd S len fun A outer s H vs Q E hr hsp => body cdv A outer s H vs Q E hr hsp
/-- a def that raises, by its name -/
structure CalX (P : Program) (w : World) (K : PySem.W.Frag) (mg : Str → Option Value) (base : Heap) (k : Nat) (x : Str) (sp : Sp) : Prop where
  ex : ∃ (f : Addr) (fd : FuncData) (ps : List Str), FnOk P w K mg base (L2.CX P w) k f fd ps sp ∧ mg x = some (.ref f) ∧ PySem.W.keepIn K (.ref f) = true ∧ Binds K fd ps []
theorem pe_cx {X : Cx} {k j : Nat} {x : Str} {sp : Sp} {W : WX} {e : Expr} {es : List Expr} {t : TA} {p pos : Pos} (c : CalX X.prog X.w X.K X.mg X.base k x sp) (hr : Room j X.A) (hk : k ≤ j) (hg : Gl X x) (tk : Takes X W) (ha : PA X (e :: es) t)
    (hdb : (x == ("__debug__" : Str)) = false := by decide) (he : starEach (e :: es) X.env = (false, eval e X.env) :: starEach es X.env := by rfl) (hpl : (backTo pos (starEach es X.env)).any (·.1) = false := by rfl) : PE X (.Call (.Name x p) (e :: es) [] pos) (tCallS sp (WE W) t) := by
  obtain ⟨f, fd, ps, F, hm, kp, b⟩ := c.ex
  exact pe_callS F (hr.mono hk) hg hm kp b (fun σ => passAt tk σ) ha hdb he hpl
/-- two promises of one def, one of them without errors -/
theorem fn_or {k : Nat} {f : Addr} {fd : FuncData} {ps : List Str} {sp0 sp1 : Sp} (F0 : FnOk P w K mg base CX0 k f fd ps sp0) (F1 : FnOk P w K mg base (L2.CX P w) k f fd ps sp1) : FnOk P w K mg base (L2.CX P w) k f fd ps (fun vs H Q E => sp0 vs H Q E ∨ sp1 vs H Q E) :=
  ⟨fun vs H Q E h => h.elim (F0.len vs H Q E) (F1.len vs H Q E), fun A outer s H args us vs Q E hr e0 hb r h => h.elim
    (fun h => codeAny_mono (F0.run A outer s H args us vs Q E hr e0 hb r h) fun rs s' z => by
      cases rs with
      | error e => exact False.elim z
      | ok fl => cases fl <;> exact z) (F1.run A outer s H args us vs Q E hr e0 hb r)⟩
end
def ErrQ (H : Hp) (a C : Addr) (fs : List (Str × V)) : Prop := ∃ d : Addr, H a = some (exq a (.ref C) (some d)) ∧ H d = some (.xd fs)
theorem ErrQ.mono {H H' : Hp} {a C : Addr} {fs : List (Str × V)} (h : ErrQ H a C fs) (e : Same H H') : ErrQ H' a C fs := by
  obtain ⟨d, h1, h2⟩ := h
  exact ⟨d, e _ _ h1, e _ _ h2⟩
theorem ErrQ.look {X : Cx} {pins : List (Addr × PySem.Obj)} {σ : L2.St} {H : Hp} {s : Shared} {a C : Addr} {fs : List (Str × V)} (I : Inv X pins σ H s) (h : ErrQ H a C fs) :
    ∃ (o od : PySem.Obj) (mA : Str → Option Value), PySem.W.InstAt s.heap a o C (some od) ∧ (∀ f, RelO (fs.lookup f) (mA f)) ∧ ∀ f, PySem.W.lookIn f od = some (mA f) := by
  obtain ⟨d, h1, h2⟩ := h
  obtain ⟨⟨o, vs, e, z, df⟩, _⟩ := (show ObjOk X.prog X.w H s.heap a (exq a (.ref C) (some d)) from I.hok a _ h1)
  obtain ⟨mA, hns, rel⟩ := (show ObjOk X.prog X.w H s.heap d (.xd fs) from I.hok d _ h2)
  obtain ⟨od, hod, lk⟩ := lookIn_ns hns
  refine ⟨o, od, mA, ⟨e, z.1, ?_, ?_⟩, rel, lk⟩
  · unfold PySem.W.notCls
    rw [df]
  · rw [z.2]
    exact hod
section
variable {X : Cx} {f : Str} {pos : Pos} {e : Expr} {te : TE}
/-- e.f, e a caught error -/
def tErrG (K : PySem.W.Frag) (f : Str) (te : TE) : TE := fun σ H Q => te σ H fun x H1 => ∃ (a C : Addr) (fs : List (Str × V)) (v : V), x = .ref a ∧ ErrC K C ∧ ErrQ H1 a C fs ∧ PySem.W.findIn K (.ref C) f = some none ∧ fs.lookup f = some v ∧ Q v H1
theorem pe_errG (he : PE X e te) (hb : attributeBase e f X.env (eval e X.env) = eval e X.env := by rfl) : PE X (.Attribute e f pos) (tErrG X.K f te) := by
  constructor
  intro pins s σ H Q I h
  refine attr_of hb (thn (he.run pins s σ H _ I h) ?_)
  rintro u s1 ⟨x, H1, I1, rx, a, C, fs, v, rfl, T, eq, no, hl, q⟩
  obtain rfl : u = Value.ref a := rx
  obtain ⟨o, od, mA, J, rel, lk⟩ := eq.look I1
  obtain ⟨u, hu, ru⟩ := RelO.some_of (v := v) (o := mA f) (by rw [← hl]; exact rel f)
  exact HandSPX.exc_get I1.kIn J T.ga T.gg T.oex.exC (PySem.W.findObj_own T.hd no rfl (by rw [lk, hu])) (handed_of ru) ⟨v, H1, I1.tok _, ru, q⟩
/-- isinstance(e, c), e a caught error -/
def rIsQ (K : PySem.W.Frag) : List V → Hp → VK → Prop := fun xs H Q => ∃ (a C : Addr) (fs : List (Str × V)) (c : V) (cv : Value) (b : Bool), xs = [.ref a, c] ∧ ErrC K C ∧ ErrQ H a C fs ∧ ClsV c cv ∧ PySem.W.kitOne K (.ref C) cv = some b ∧ Q (.bl b) H
theorem ErrC.cl {K : PySem.W.Frag} {C : Addr} (T : ErrC K C) : (PySem.W.clsIn K C).isSome = true := by
  obtain ⟨cd, hcd, _⟩ := PySem.W.any_some T.hd
  rw [hcd]
  rfl
theorem call_isQ : CallR X (.builtin "isinstance") (rIsQ X.K) := by
  intro pins s σ H xs us Q I r h
  obtain ⟨a, C, fs, c, cv, b, rfl, T, eq, hc, e, q⟩ := h
  obtain ⟨u1, u2, rfl, r1, r2⟩ := vals2 r
  obtain rfl := hc.eq r2
  obtain rfl : u1 = Value.ref a := r1
  obtain ⟨o, od, mA, J, _, _⟩ := eq.look I
  exact PySem.W.kia_one (PySem.W.kitx_exc T.cl T.ga T.gg T.oex.exC T.kc T.kg T.kt T.km) I.kIn J e (fun z => by cases z) fun tk => ⟨.bl b, H, I.tok tk, rfl, q⟩
/-- isinstance(e, (c, ..)), e a caught error -/
def rIsQT (K : PySem.W.Frag) : List V → Hp → VK → Prop := fun xs H Q => ∃ (a C tp : Addr) (fs : List (Str × V)) (cs : List V) (ws : List Value) (b : Bool), xs = [.ref a, .ref tp] ∧ ErrC K C ∧ ErrQ H a C fs ∧ H tp = some (.tup cs) ∧ Paired ClsV cs ws ∧ PySem.W.kitAny K (.ref C) ws = some b ∧ Q (.bl b) H
theorem call_isQT : CallR X (.builtin "isinstance") (rIsQT X.K) := by
  intro pins s σ H xs us Q I r h
  obtain ⟨a, C, tp, fs, cs, ws, b, rfl, T, eq, ht, hc, e, q⟩ := h
  obtain ⟨u1, u2, rfl, r1, r2⟩ := vals2 r
  obtain rfl : u2 = Value.ref tp := r2
  obtain rfl : u1 = Value.ref a := r1
  obtain ⟨o, od, mA, J, _, _⟩ := eq.look I
  obtain ⟨_, its, rv, to, h1, h2, n, h3⟩ := (show ObjOk X.prog X.w H s.heap tp (.tup cs) from I.hok tp _ ht)
  obtain rfl := ClsV.all hc rv
  obtain ⟨oc, odd, dt, sl⟩ := to
  simp only at h2 h3
  subst h2 h3
  exact PySem.W.kia_tup (PySem.W.kitx_exc T.cl T.ga T.gg T.oex.exC T.kc T.kg T.kt T.km) I.kIn J h1 e (fun z => by cases z) fun tk => ⟨.bl b, H, I.tok tk, rfl, q⟩
end
end Fr

namespace Fr
open PySem PySem.Spec PyProof.Rows L2
abbrev s_ReadError_init : Stmt := inClass (topS 3) 0
theorem sc_ReadError_init : FnScope ["self", "value"] ["self", "value"] (defScope s_ReadError_init) := ⟨rfl, rfl, rfl, by decide +kernel, rfl, by decide +kernel, by decide +kernel⟩
-- slots: 0 self, 1 value
section
variable {P : Program} {w : World} {K : PySem.W.Frag} {mg : Str → Option Value} {base : Heap}
/-- self.value = value, the error being made -/
def spErrI (K : PySem.W.Frag) : Sp := fun vs H Q _ => ∃ (a C : Addr) (y : V), vs = [.ref a, y] ∧ OexC K C ∧ H a = some (exo a C none) ∧ PySem.W.findIn K (.ref C) "value" = some none ∧ ∀ dx, H dx = none → dx ≠ a → Q .non (upd (upd H dx (exd dx [(("value" : Str), y)])) a (exo a C (some dx)))
theorem ok_errI {f : Addr} {fd : FuncData} (F : Fun K "__init__" "ReadError.__init__" s_ReadError_init f fd) : FnOk P w K mg base CX0 1 f fd ["self", "value"] (spErrI K) := by
  refine F.ok sc_ReadError_init (fun vs H Q E h => ?_) (fun cdv A outer sh H vs Q E hr h => ?_)
  · obtain ⟨a, C, y, rfl, _⟩ := h
    rfl
  · obtain ⟨a, C, y, rfl, T, ha, no, q⟩ := h
    exact ⟨_, pss_one (ps_ost (pv 0) (pv 1)), _, rfl, _, rfl, a, C, rfl, T, no, Or.inl ⟨ha, q⟩⟩
/-- an error class of the program, to be raised -/
structure MkR (P : Program) (w : World) (K : PySem.W.Frag) (mg : Str → Option Value) (base : Heap) (k : Nat) (x : Str) (C : Addr) : Prop where
  err : ErrC K C
  no : PySem.W.findIn K (.ref C) "value" = some none
  ex : ∃ (f : Addr) (fd : FuncData) (ps : List Str), PySem.W.findIn K (.ref C) "__init__" = some (some (.ref f)) ∧ PySem.W.typeIn K (.ref f) = some (.type "function") ∧ FnOk P w K mg base CX0 k f fd ps (spErrI K) ∧ Binds K fd ps [] ∧ mg x = some (.ref C)
theorem ps_err {X : Cx} {W : WX} {k j : Nat} {x : Str} {C : Addr} {e : Expr} {t : TA} {p pos pos' : Pos} (c : MkR X.prog X.w X.K X.mg X.base k x C) (hc : X.calm = true) (tk : Takes X W) (hr : Room j X.A) (hk : k + 1 ≤ j) (hg : Gl X x) (ha : PA X [e] t)
    (hdb : (x == ("__debug__" : Str)) = false := by decide) (he : starEach [e] X.env = (false, eval e X.env) :: starEach [] X.env := by rfl) : PS X (.Raise (some (.Call (.Name x p) [e] [] pos)) none pos') (fun _ σ H => tMkO C (spErrI X.K) [] t σ H fun cls d H' => W cls d σ H') := by
  obtain ⟨f, fd, ps, i, ty, F, b, hm⟩ := c.ex
  exact ps_raise hc tk (pmk_oex c.err.oex i ty F (hr.mono hk) b .nil pass0 hg hm ha hdb he rfl)
theorem err_raise {C : Addr} {y : V} {Q : XK} {H1 : Hp} {vs : List V} (e : vs = [y]) (T : OexC K C) (no : PySem.W.findIn K (.ref C) "value" = some none) (q : ∀ d, H1 d = none → Q (.ref C) (some d) (upd H1 d (.xd [(("value" : Str), y)]))) :
    vs.length ≤ 1000 ∧ ∀ a, H1 a = none → spErrI K (.ref a :: (vs ++ [])) (upd H1 a (exo a C none))
      (fun v H2 => v = .non ∧ ∃ (d : Addr) (fs : List (Str × V)), H2 a = some (exo a C (some d)) ∧ H2 d = some (exd d fs) ∧ H1 d = none ∧ Q (.ref C) (some d) (upd (L2.del H2 a) d (.xd fs))) (fun _ _ _ => False) := by
  subst e
  refine ⟨(by show 1 ≤ 1000; decide), fun a ha => ⟨a, C, y, rfl, T, upd_same, no, fun dx hdx ne => ⟨rfl, dx, _, upd_same, by rw [upd_ne ne]; exact upd_same, ?_, ?_⟩⟩⟩
  · rw [upd_ne ne] at hdx
    exact hdx
  · have hd : H1 dx = none := by
      rw [upd_ne ne] at hdx
      exact hdx
    have e : upd (L2.del (upd (upd (upd H1 a (exo a C none)) dx (exd dx [(("value" : Str), y)])) a (exo a C (some dx))) a) dx (.xd [(("value" : Str), y)]) = upd H1 dx (.xd [(("value" : Str), y)]) := by
      funext b
      by_cases h1 : b = dx
      · rw [h1, upd_same, upd_same]
      · rw [upd_ne h1, upd_ne h1]
        by_cases h2 : b = a
        · rw [h2, del_same, ha]
        · rw [del_ne h2, upd_ne h2, upd_ne h1, upd_ne h2]
    rw [e]
    exact q dx hd
end
end Fr

namespace Fr
open PySem PySem.Spec PyProof.Rows L2
def rnD (x : Str × Int) : PyData := .tuple [.str x.1, .int x.2]
/-- the read is there -/
def isNm (ts : List Tb) (x : Str × Int) : Bool := decide (0 ≤ x.2) && decide ((x.1, x.2.toNat) ∈ named ts)
theorem isNm_iff {ts : List Tb} {x : Str × Int} : isNm ts x = true ↔ ∃ t ∈ ts, t.n = x.1 ∧ 0 ≤ x.2 ∧ x.2 < (t.rs.length : Int) := by
  unfold isNm
  rw [Bool.and_eq_true, decide_eq_true_eq, decide_eq_true_eq, mem_named]
  constructor
  · rintro ⟨h, t, ht, e, l⟩
    exact ⟨t, ht, e, h, by omega⟩
  · rintro ⟨t, ht, e, h, l⟩
    exact ⟨h, t, ht, e, by omega⟩
section
variable {P : Program} {w : World} {K : PySem.W.Frag} {mg : Str → Option Value} {base : Heap}
end
end Fr

namespace Fr
open PySem PySem.Spec PyProof.Rows L2
abbrev s_links_of : Stmt := topS 30
theorem sc_links_of : FnScope ["system", "links", "name", "number", "table", "vector", "_"] ["system"] (defScope s_links_of) := ⟨rfl, rfl, rfl, by decide +kernel, rfl, by decide +kernel, by decide +kernel⟩
-- slots: 0 system, 1 links, 2 name, 3 number, 4 table, 5 vector, 6 _
/-- a link: who reads, the number, the read -/
structure Lk where
  n : Str
  i : Nat
  r : Rd1
def Lk.k (l : Lk) : List Key := [Sum.inr l.n, Sum.inl (l.i : Int)]
def Lk.d (l : Lk) : PyData := .tuple [.str l.n, .str l.r.t, .tuple (l.r.v.map .int)]
def links (ts : List Tb) : List Lk := ts.flatMap fun t => t.rs.zipIdx.map fun p => ⟨t.n, p.2, p.1⟩
theorem nam1_links (t : Tb) : (t.rs.zipIdx.map fun p => (⟨t.n, p.2, p.1⟩ : Lk)).map (fun l => (l.n, l.i)) = nam1 t := by
  unfold nam1
  rw [List.map_map]
  refine List.ext_getElem? fun i => ?_
  rw [List.getElem?_map, List.getElem?_map, List.getElem?_zipIdx]
  cases h : t.rs[i]? with
  | none =>
    rw [List.getElem?_eq_none (by rw [List.length_range]; exact List.getElem?_eq_none_iff.mp h)]
    rfl
  | some r =>
    have hi := (List.getElem?_eq_some_iff.mp h).1
    rw [List.getElem?_range hi]
    simp
theorem links_named : ∀ ts : List Tb, (links ts).map (fun l => (l.n, l.i)) = named ts
  | [] => rfl
  | t :: ts => by
    show ((t.rs.zipIdx.map fun p => (⟨t.n, p.2, p.1⟩ : Lk)) ++ links ts).map (fun l => (l.n, l.i)) = nam1 t ++ named ts
    rw [List.map_append, nam1_links, links_named ts]
theorem mem_links {ts : List Tb} {l : Lk} : l ∈ links ts ↔ ∃ t ∈ ts, t.n = l.n ∧ t.rs[l.i]? = some l.r := by
  unfold links
  rw [List.mem_flatMap]
  constructor
  · rintro ⟨t, ht, h⟩
    obtain ⟨p, hp, rfl⟩ := List.mem_map.mp h
    refine ⟨t, ht, rfl, ?_⟩
    exact List.mem_zipIdx_iff_getElem?.mp hp
  · rintro ⟨t, ht, e, h⟩
    refine ⟨t, ht, List.mem_map.mpr ⟨(l.r, l.i), List.mem_zipIdx_iff_getElem?.mpr h, ?_⟩⟩
    rw [e]
def LkAt (K : PySem.W.Frag) (H : Hp) (kvs : List (List Key × V)) (ls : List Lk) : Prop := Paired (fun (kv : List Key × V) (l : Lk) => kv.1 = l.k ∧ Dp K H kv.2 l.d) kvs ls
theorem LkAt.mono {K : PySem.W.Frag} {H H' : Hp} (e : SD H H') : ∀ {kvs : List (List Key × V)} {ls : List Lk}, LkAt K H kvs ls → LkAt K H' kvs ls
  | [], _, h => by cases h; exact .nil
  | kv :: kvs, _, h => by
    cases h with
    | cons h1 h2 => exact .cons ⟨h1.1, dpd e _ _ h1.2⟩ (LkAt.mono e h2)
theorem LkAt.len {K : PySem.W.Frag} {H : Hp} {kvs : List (List Key × V)} {ls : List Lk} (h : LkAt K H kvs ls) : kvs.length = ls.length := Paired.length h
theorem LkAt.snoc {K : PySem.W.Frag} {H : Hp} {l : Lk} {u : V} : ∀ {kvs : List (List Key × V)} {ls : List Lk}, LkAt K H kvs ls → Dp K H u l.d → LkAt K H (kvs ++ [(l.k, u)]) (ls ++ [l])
  | [], _, h, hu => by cases h; exact .cons ⟨rfl, hu⟩ .nil
  | kv :: kvs, _, h, hu => by
    cases h with
    | cons h1 h2 => exact .cons h1 (LkAt.snoc h2 hu)
theorem lk_inj {a b : Lk} (h : a.k = b.k) : (a.n, a.i) = (b.n, b.i) := by
  unfold Lk.k at h
  injection h with h1 h2
  injection h2 with h2 _
  have e1 := Sum.inr.inj h1
  have e2 := Sum.inl.inj h2
  rw [e1, Int.ofNat.inj e2]
theorem LkAt.noVal {K : PySem.W.Frag} {H : Hp} {l : Lk} : ∀ {kvs : List (List Key × V)} {ls : List Lk}, LkAt K H kvs ls → (l.n, l.i) ∉ ls.map (fun l => (l.n, l.i)) → valV kvs l.k = none
  | [], _, h, _ => by cases h; rfl
  | kv :: kvs, _, h, n => by
    cases h with
    | @cons _ g _ ls h1 h2 =>
      rw [valV_neg (fun z => n (by rw [← lk_inj (h1.1.symm.trans z)]; exact List.mem_cons_self))]
      exact LkAt.noVal h2 fun z => n (List.mem_cons_of_mem _ z)
/-- what the dict holds at a named read -/
theorem LkAt.val {K : PySem.W.Frag} {H : Hp} {x : Str} {n : Int} : ∀ {kvs : List (List Key × V)} {ls : List Lk}, LkAt K H kvs ls →
    (valV kvs [Sum.inr x, Sum.inl n] = none ∧ ∀ l ∈ ls, ¬ (l.n = x ∧ (l.i : Int) = n)) ∨ ∃ l ∈ ls, l.n = x ∧ (l.i : Int) = n ∧ ∃ u, valV kvs [Sum.inr x, Sum.inl n] = some u ∧ Dp K H u l.d
  | [], _, h => by
    cases h
    exact .inl ⟨rfl, fun l hl => by cases hl⟩
  | kv :: kvs, _, h => by
    cases h with
    | @cons _ g _ ls h1 h2 =>
      by_cases e : g.n = x ∧ (g.i : Int) = n
      · refine .inr ⟨g, List.mem_cons_self, e.1, e.2, kv.2, valV_pos ?_, h1.2⟩
        rw [h1.1]
        unfold Lk.k
        rw [e.1, e.2]
      · have ne : ¬ kv.1 = [Sum.inr x, Sum.inl n] := fun z => e (by
          rw [h1.1] at z
          unfold Lk.k at z
          injection z with z1 z2
          injection z2 with z2 _
          exact ⟨Sum.inr.inj z1, Sum.inl.inj z2⟩)
        rcases LkAt.val (x := x) (n := n) h2 with ⟨a, b⟩ | ⟨l, a, b, c, u, d, f⟩
        · refine .inl ⟨by rw [valV_neg ne]; exact a, fun l hl => ?_⟩
          rcases List.mem_cons.mp hl with rfl | hl
          · exact e
          · exact b l hl
        · exact .inr ⟨l, List.mem_cons_of_mem _ a, b, c, u, by rw [valV_neg ne]; exact d, f⟩
end Fr

namespace Fr
open PySem PySem.Spec PyProof.Rows L2
theorem nam1_nodup (t : Tb) : (nam1 t).Nodup := by
  unfold nam1
  refine List.Pairwise.map _ (fun a b h z => h ?_) List.nodup_range
  exact (Prod.mk.inj z).2
theorem named_nodup : ∀ {ts : List Tb}, (ts.map (·.n)).Nodup → (named ts).Nodup
  | [], _ => List.nodup_nil
  | t :: ts, n => by
    rw [List.map_cons, List.nodup_cons] at n
    show (nam1 t ++ named ts).Nodup
    rw [List.nodup_append]
    refine ⟨nam1_nodup t, named_nodup n.2, fun a ha b hb => ?_⟩
    rintro rfl
    obtain ⟨x, i⟩ := a
    obtain ⟨u, hu, e, _⟩ := mem_named.mp hb
    unfold nam1 at ha
    obtain ⟨j, _, hj⟩ := List.mem_map.mp ha
    have e2 := (Prod.mk.inj hj).1
    exact n.1 (List.mem_map.mpr ⟨u, hu, by rw [e, e2]⟩)
theorem notin_takeG {α : Type} {xs : List α} {i : Nat} {x : α} (n : xs.Nodup) (h : xs[i]? = some x) : x ∉ xs.take i := fun m => by
  obtain ⟨j, hj, e⟩ := List.mem_iff_getElem.mp m
  rw [List.length_take] at hj
  rw [List.getElem_take] at e
  obtain ⟨hi, e2⟩ := List.getElem?_eq_some_iff.mp h
  have := (List.getElem_inj n).mp (e.trans e2.symm)
  omega
section
variable {P : Program} {w : World} {K : PySem.W.Frag} {mg : Str → Option Value} {base : Heap}
def spLinks (K : PySem.W.Frag) (C : Addr) : Sp := fun vs H Q _ => ∃ (s : Addr) (d m : Int) (ts : List Tb), vs = [.ref s] ∧ SysAt K C H s d m ts ∧ (ts.map (·.n)).Nodup ∧ (ts.map fun t => t.rs.length).sum ≤ 100 ∧ ∀ p H' kvs, H p = none → Same H H' → H' p = some (.dT kvs) → LkAt K H' kvs (links ts) → Q (.ref p) H'
theorem ok_links {f C : Addr} {fd : FuncData} (F : Fun K "links_of" "links_of" s_links_of f fd) (T : Txt mg) (TC : TxtC K mg C) (t_reads : C8.Met P w K mg base 4 C "reads" (spReads K C) []) (t_all_reads : C8.Met P w K mg base 1 C "all_reads" (spAll K C) []) : FnOk P w K mg base CX0 5 f fd ["system"] (spLinks K C) := by
  refine F.ok sc_links_of (fun vs H Q E h => ?_) (fun cdv A outer sh H vs Q E hr h => ?_)
  · obtain ⟨s, d, m, ts, rfl, _⟩ := h
    rfl
  · obtain ⟨s, d, m, ts, rfl, S, hnd, hfew, q⟩ := h
    have hu := hu_of hr
    refine ⟨_, (pss_cons (ps_set (i := 1) sc_links_of.nd rfl (by first | exact Or.inl rfl | exact Or.inr rfl) pe_dnewT)
  (pss_cons (ps_for PassesOwn.never rfl (pi_list (C8.pe_mt0 t_all_reads hr (by decide) (pv 0))) (pg_tup rfl (pgs_cons (pg_name (i := 2) sc_links_of.nd rfl (by first | exact Or.inl rfl | exact Or.inr rfl)) (pgs_cons (pg_name (i := 3) sc_links_of.nd rfl (by first | exact Or.inl rfl | exact Or.inr rfl)) pgs_nil)))
    (pss_cons (ps_asg (pe_ix ix_list (C8.pe_mt t_reads hr (by decide) (pv 0) (pa_cons (pv 2) pa_nil)) (pv 3) (fun _ _ => rfl)) (pg_tup rfl (pgs_cons (pg_name (i := 4) sc_links_of.nd rfl (by first | exact Or.inl rfl | exact Or.inr rfl)) (pgs_cons (pg_name (i := 5) sc_links_of.nd rfl (by first | exact Or.inl rfl | exact Or.inr rfl)) (pgs_cons (pg_name (i := 6) sc_links_of.nd rfl (by first | exact Or.inl rfl | exact Or.inr rfl)) pgs_nil)))))
    (pss_one (ps_dput hu (pv 1) (pe_tup (pa_cons (pv 2) (pa_cons (pv 3) pa_nil))) (pe_tup (pa_cons (pv 2) (pa_cons (pv 4) (pa_cons (pv 5) pa_nil)))) rfl))))
  (pss_one (ps_ret (pv 1))))), ?_⟩
    refine fun p hp => ?_
    have S1 := S.mono (snew (o := .dT []) hp)
    have p1 : (upd H p (.dT [])) p = some (.dT []) := upd_same
    have nfl : ∀ {t : Addr} {z : Str}, ¬ z = "_dimensions" → ¬ z = "_modulus" → ¬ z = "_tables" → (flds d m t).lookup z = none := fun a b c => flds_no _ _ _ a b c
    obtain ⟨dx, tt, tkv, h1, h2, h3⟩ := id S1.ob
    refine ⟨_, rfl, s, dx, _, rfl, h1, nfl (by decide +kernel) (by decide +kernel) (by decide +kernel), s, d, m, ts, rfl, S1, hnd, Nat.le_trans hfew (by decide), fun a H2 ha s2 L2' => ?_⟩
    obtain ⟨xs, hx, hxd⟩ := L2'
    have xl : xs.length = (links ts).length := by rw [dps_len hxd, List.length_map, ← links_named, List.length_map]
    have ll : (links ts).length ≤ 100 := by
      rw [← List.length_map (f := fun l : Lk => (l.n, l.i)), links_named, named_len]
      exact hfew
    have lnd : ((links ts).map fun l => (l.n, l.i)).Nodup := by rw [links_named]; exact named_nodup hnd
    have p2 := s2 _ _ p1
    have nap : a ≠ p := (ne_of_none p1 ha).symm
    refine ⟨a, rfl, ⟨_, Or.inl (Or.inl hx)⟩, ?_⟩
    refine for_it (walk_list (K := K) (a := a) (xs := xs)) (fun i σ H' => ∃ (y2 y3 y4 y5 y6 : Option V) (Bi : Hp) (kvs : List (List Key × V)), σ = [some (.ref s), some (.ref p), y2, y3, y4, y5, y6] ∧ Same H Bi ∧ Bi p = none ∧ Same Bi H' ∧ H' p = some (.dT kvs) ∧ LkAt K Bi kvs ((links ts).take i) ∧ H' a = some (.lst xs) ∧ DpAll K H' xs ((named ts).map nrD))
      ⟨_, _, _, _, _, H, [], rfl, same_refl, hp, same_tr (snew hp) s2, p2, .nil, hx, hxd⟩ (fun i σ H' _ ⟨_, _, _, _, _, _, _, _, _, _, _, _, _, c, _⟩ => Or.inl (Or.inl c)) ?_ ?_
    · rintro i y σ _ H3 hi ⟨y2, y3, y4, y5, y6, Bi, kvs, rfl, b1, b2, b3, b4, b5, b6, b7⟩ ⟨rfl, hy⟩
      obtain ⟨dd, e1, e2⟩ := dps_get b7 hy
      rw [← links_named, List.map_map, List.getElem?_map] at e1
      obtain ⟨lk, hlk, rfl⟩ := Option.map_eq_some_iff.mp e1
      obtain ⟨tb, htb, hn, hrd⟩ := mem_links.mp (List.mem_of_getElem? hlk)
      have e2 : Dp K H3 y (nrD (lk.n, lk.i)) := e2
      obtain ⟨ya, ys, rfl, ht, hd⟩ := dtup e2
      obtain ⟨y1, y2', rfl, g1, g2⟩ := dps2 hd
      obtain rfl := dstr g1
      obtain rfl := dint g2
      have s3 := same_tr b1 b3
      have S3 := S.mono s3
      obtain ⟨dx3, t3, tkv3, o1, o2, o3⟩ := id S3.ob
      have hmem : lk.n ∈ ts.map (·.n) := List.mem_map.mpr ⟨tb, htb, hn⟩
      have hf : ts.find? (fun t => decide (t.n = lk.n)) = some tb := find_nodup hnd htb hn
      refine ⟨ya, _, rfl, ht, rfl, _, _, rfl, _, _, rfl, rfl, ?_⟩
      refine ⟨_, rfl, s, dx3, _, rfl, o1, nfl (by decide +kernel) (by decide +kernel) (by decide +kernel), _, rfl, Bi, s, d, m, ts, lk.n, tb, rfl, b3, S.mono b1, hmem, hf, fun l H4 rs hl s4 hl4 hrs => ?_⟩
      have rl : rs.length = tb.rs.length := by rw [dps_len hrs, List.length_map]
      have hi2 := (List.getElem?_eq_some_iff.mp hrd).1
      obtain ⟨v, a1, a2, a3⟩ := atI_in (xs := rs) (i := (lk.i : Int)) (by omega) (by omega)
      rw [Int.toNat_natCast] at a3
      have b34 := same_tr b3 s4
      obtain ⟨rd, ra, rb, c3, rfl, c4, c5, c6⟩ := rd_at hrs a3
      rw [hrd] at c3
      cases c3
      refine ⟨_, rfl, l, _, _, _, rfl, rfl, Or.inl (Or.inl hl4), a1, ra, _, rfl, sqt b34 c5, rfl, _, _, rfl, _, _, rfl, _, _, rfl, rfl, ?_⟩
      refine ⟨_, rfl, _, rfl, _, rfl, (by show 3 ≤ sizeLine; decide), fun u hu1 => ⟨_, rfl, _, rfl, _, rfl, (by show 2 ≤ sizeLine; decide), fun kb hkb => ?_⟩⟩
      have p4 := s4 _ _ b4
      have bu := free_of b34 hu1
      have c1 := sgrow (o := .tup [.str lk.n, .str lk.r.t, .ref rb]) (p := u) b34
      have bB := snew (o := .tup [.str lk.n, .str lk.r.t, .ref rb]) bu
      have p5 := snew (o := .tup [.str lk.n, .str lk.r.t, .ref rb]) hu1 _ _ p4
      have np : p ≠ u := ne_of_none p4 hu1
      have bp : (upd Bi u (.tup [.str lk.n, .str lk.r.t, .ref rb])) p = none := by rw [upd_ne np]; exact b2
      have uB : (upd Bi u (.tup [.str lk.n, .str lk.r.t, .ref rb])) u = some (.tup [.str lk.n, .str lk.r.t, .ref rb]) := upd_same
      have s5 := same_tr s4 (snew (o := .tup [.str lk.n, .str lk.r.t, .ref rb]) hu1)
      generalize upd Bi u (.tup [.str lk.n, .str lk.r.t, .ref rb]) = B2 at c1 bB bp uB
      generalize upd H4 u (.tup [.str lk.n, .str lk.r.t, .ref rb]) = H5 at c1 p5 s5 hkb ⊢
      have k6 : (upd H5 kb (.tup [.str lk.n, .int (lk.i : Int)])) kb = some (.tup (lk.k.map kV)) := upd_same
      have p6 := snew (o := .tup [.str lk.n, .int (lk.i : Int)]) hkb _ _ p5
      have c2 := same_tr c1 (snew (o := .tup [.str lk.n, .int (lk.i : Int)]) hkb)
      have s6 := same_tr s5 (snew (o := .tup [.str lk.n, .int (lk.i : Int)]) hkb)
      have hkl : kvs.length < sizeLine := by
        rw [b5.len, List.length_take, sizeLine_eq]
        omega
      refine ⟨p, _, rfl, DPut.t (k := lk.k) p6 k6 hkl, ?_⟩
      have hno : valV kvs lk.k = none := b5.noVal (by
        rw [List.map_take]
        exact notin_takeG lnd (by rw [List.getElem?_map, hlk]; rfl))
      rw [putK_new _ hno]
      refine ⟨_, _, _, _, _, B2, _, rfl, same_tr b1 bB, bp, swrite c2 bp, upd_same, ?_, by rw [upd_ne nap]; exact s6 _ _ b6, dpsd (SD.upd (.of s6) p6 rfl) _ _ b7⟩
      rw [List.take_add_one, hlk]
      exact (b5.mono (.of bB)).snoc (.tup (Or.inl (Or.inl uB)) (.cons (.str _) (.cons (.str _) (.cons (.tup (sqt bB c6) (ints_dps _)) .nil))))
    · rintro σ H3 ⟨y2, y3, y4, y5, y6, Bi, kvs, rfl, b1, b2, b3, b4, b5, b6, b7⟩
      rw [xl, List.take_length] at b5
      exact ⟨_, rfl, q p H3 kvs hp (same_tr b1 b3) b4 (b5.mono (.of b3))⟩
end
end Fr

namespace Dt
abbrev Vec := Nat → Int
/-- a sum over the members of a list, with signs; F gets the list without the member -/
def S {α : Type} (f : α → Int) : (List α → Int) → List α → Int
  | _, [] => 0
  | F, v :: l => f v * F l - S f (fun m => F (v :: m)) l
def sh (v : Vec) : Vec := fun i => v (i + 1)
def D : Nat → List Vec → Int
  | 0, _ => 1
  | k + 1, l => S (fun v => v 0) (fun m => D k (m.map sh)) l
section
variable {α : Type} {f g : α → Int}
theorem S_congr {n : Nat} : ∀ {l : List α} {F G : List α → Int}, l.length = n + 1 → (∀ m, m.length = n → F m = G m) → S f F l = S f G l := by
  induction n with
  | zero =>
    intro l F G hl h
    match l, hl with
    | [v], _ => simp only [S]; rw [h [] rfl]
  | succ n ih =>
    intro l F G hl h
    match l, hl with
    | v :: l, hl =>
      simp only [S]
      rw [h l (by simpa using hl), ih (by simpa using hl) fun m hm => h (v :: m) (by simp [hm])]
theorem S_zero : ∀ (l : List α), S f (fun _ => 0) l = 0
  | [] => rfl
  | v :: l => by simp only [S]; rw [S_zero l]; omega
theorem S_lin (a b : Int) : ∀ (l : List α) (F G : List α → Int), S f (fun m => a * F m + b * G m) l = a * S f F l + b * S f G l
  | [], _, _ => by simp [S]
  | v :: l, F, G => by
    simp only [S]
    rw [S_lin a b l (fun m => F (v :: m)) (fun m => G (v :: m))]
    grind
theorem S_neg (l : List α) (F : List α → Int) : S f (fun m => - F m) l = - S f F l := by
  have := S_lin (f := f) (-1) 0 l F F
  have e : (fun m => -1 * F m + 0 * F m) = fun m => - F m := by
    funext m; omega
  rw [e] at this
  omega
theorem S_anti : ∀ (l : List α) (F : List α → Int), S f (fun m => S g F m) l = - S g (fun m => S f F m) l
  | [], _ => rfl
  | v :: l, F => by
    simp only [S]
    have e1 := S_lin (f := f) (g v) (-1) l F (fun m => S g (fun m => F (v :: m)) m)
    have e2 := S_lin (f := g) (f v) (-1) l F (fun m => S f (fun m => F (v :: m)) m)
    have e3 : (fun m => g v * F m + -1 * S g (fun m => F (v :: m)) m) = fun m => g v * F m - S g (fun m => F (v :: m)) m := by
      funext m; omega
    have e4 : (fun m => f v * F m + -1 * S f (fun m => F (v :: m)) m) = fun m => f v * F m - S f (fun m => F (v :: m)) m := by
      funext m; omega
    rw [e3] at e1
    rw [e4] at e2
    rw [e1, e2, S_anti l fun m => F (v :: m)]
    omega
theorem S_map {β : Type} {σ : α → β} {h : β → Int} : ∀ (l : List α) (F : List β → Int), S (fun v => h (σ v)) (fun m => F (m.map σ)) l = S h F (l.map σ)
  | [], _ => rfl
  | v :: l, F => by
    simp only [S, List.map_cons]
    rw [S_map l fun m => F (σ v :: m)]
/-- two neighbours exchanged -/
def Alt (n : Nat) (F : List α → Int) : Prop := ∀ p u v q, p.length + q.length + 2 = n → F (p ++ u :: v :: q) = - F (p ++ v :: u :: q)
theorem Alt.cons {n : Nat} {F : List α → Int} (h : Alt (n + 1) F) (x : α) : Alt n fun m => F (x :: m) := fun p u v q e => h (x :: p) u v q (by rw [List.length_cons]; omega)
theorem S_alt {n : Nat} : ∀ (p : List α) (F : List α → Int), Alt n F → ∀ u v q, p.length + q.length + 2 = n + 1 → S f F (p ++ u :: v :: q) = - S f F (p ++ v :: u :: q) := by
  induction n with
  | zero => intro p F _ u v q e; omega
  | succ n ih =>
    intro p F h u v q e
    cases p with
    | nil =>
      rw [List.length_nil] at e
      simp only [S, List.nil_append]
      have e1 : S f (fun m => F (u :: v :: m)) q = S f (fun m => - F (v :: u :: m)) q := by
        cases q with
        | nil => rfl
        | cons y q =>
          rw [List.length_cons] at e
          exact S_congr (n := q.length) rfl fun m hm => h [] u v m (by rw [List.length_nil]; omega)
      rw [e1, S_neg]
      omega
    | cons x p =>
      rw [List.length_cons] at e
      simp only [S, List.cons_append]
      rw [h p u v q (by omega), ih p _ (h.cons x) u v q (by omega)]
      grind
/-- linear at each place -/
def add (a b : Int) (u w : Vec) : Vec := fun i => a * u i + b * w i
def Lin (n : Nat) (F : List Vec → Int) : Prop := ∀ a b p u w q, p.length + q.length + 1 = n → F (p ++ add a b u w :: q) = a * F (p ++ u :: q) + b * F (p ++ w :: q)
theorem Lin.cons {n : Nat} {F : List Vec → Int} (h : Lin (n + 1) F) (x : Vec) : Lin n fun m => F (x :: m) := fun a b p u w q e => h a b (x :: p) u w q (by rw [List.length_cons]; omega)
theorem S_linP {f : Vec → Int} (hf : ∀ a b u w, f (add a b u w) = a * f u + b * f w) {n : Nat} : ∀ (p : List Vec) (F : List Vec → Int), Lin n F → ∀ a b u w q, p.length + q.length + 1 = n + 1 → S f F (p ++ add a b u w :: q) = a * S f F (p ++ u :: q) + b * S f F (p ++ w :: q) := by
  induction n with
  | zero =>
    intro p F h a b u w q e
    have e1 : p = [] := List.length_eq_zero_iff.mp (by omega)
    have e2 : q = [] := List.length_eq_zero_iff.mp (by omega)
    subst e1; subst e2
    simp only [S, List.nil_append]
    rw [hf]
    grind
  | succ n ih =>
    intro p F h a b u w q e
    cases p with
    | nil =>
      rw [List.length_nil] at e
      simp only [S, List.nil_append]
      have e1 : S f (fun m => F (add a b u w :: m)) q = S f (fun m => a * F (u :: m) + b * F (w :: m)) q := by
        cases q with
        | nil => rfl
        | cons y q =>
          rw [List.length_cons] at e
          exact S_congr (n := q.length) rfl fun m hm => h a b [] u w m (by rw [List.length_nil]; omega)
      rw [e1, S_lin, hf]
      grind
    | cons x p =>
      rw [List.length_cons] at e
      simp only [S, List.cons_append]
      rw [h a b p u w q (by omega), ih p _ (h.cons x) a b u w q (by omega)]
      grind
end
theorem D_alt : ∀ k, Alt k (D k)
  | 0 => fun p u v q e => absurd e (by omega)
  | 1 => fun p u v q e => absurd e (by omega)
  | k + 2 => fun p u v q e => S_alt p _ (fun p u v q e => by
      simp only [List.map_append, List.map_cons]
      exact D_alt (k + 1) (p.map sh) (sh u) (sh v) (q.map sh) (by simp; omega)) u v q e
theorem D_lin : ∀ k, Lin k (D k)
  | 0 => fun a b p u w q e => absurd e (by omega)
  | k + 1 => fun a b p u w q e => S_linP (fun _ _ _ _ => rfl) p _ (fun a b p u w q e => by
      simp only [List.map_append, List.map_cons]
      exact D_lin k a b (p.map sh) (sh u) (sh w) (q.map sh) (by simp; omega)) a b u w q e
/-- a row that stands twice -/
theorem D_twice : ∀ (k t : Nat), t < k → ∀ l : List Vec, l.length = k + 1 → S (fun v => v t) (D k) l = 0
  | 0, _, h, _, _ => absurd h (by omega)
  | k + 1, 0, _, l, hl => by
    have := S_anti (f := fun v : Vec => v 0) (g := fun v : Vec => v 0) l (fun m => D k (m.map sh))
    have e : S (fun v : Vec => v 0) (D (k + 1)) l = S (fun v : Vec => v 0) (fun m => S (fun v : Vec => v 0) (fun m => D k (m.map sh)) m) l := rfl
    omega
  | k + 1, t + 1, h, l, hl => by
    have h1 := S_anti (f := fun v : Vec => v (t + 1)) (g := fun v : Vec => v 0) l (fun m => D k (m.map sh))
    have e : S (fun v : Vec => v (t + 1)) (D (k + 1)) l = S (fun v : Vec => v (t + 1)) (fun m => S (fun v : Vec => v 0) (fun m => D k (m.map sh)) m) l := rfl
    have e2 : S (fun v : Vec => v 0) (fun m => S (fun v : Vec => v (t + 1)) (fun m => D k (m.map sh)) m) l = S (fun v : Vec => v 0) (fun _ => 0) l := by
      refine S_congr (n := k + 1) hl fun m hm => ?_
      have e3 := S_map (σ := sh) (h := fun v : Vec => v t) m (D k)
      have e4 : (fun v : Vec => (fun v : Vec => v t) (sh v)) = fun v : Vec => v (t + 1) := rfl
      rw [e4] at e3
      rw [e3]
      exact D_twice k t (by omega) _ (by rw [List.length_map]; exact hm)
    rw [e, h1, e2, S_zero]
    rfl
end Dt

namespace Dt
def sm (n : Nat) (f : Nat → Int) : Int := match n with
  | 0 => 0
  | n + 1 => sm n f + f n
theorem sm_congr {n : Nat} {f g : Nat → Int} (h : ∀ i, i < n → f i = g i) : sm n f = sm n g := by
  induction n with
  | zero => rfl
  | succ n ih => simp only [sm]; rw [ih fun i hi => h i (by omega), h n (by omega)]
theorem sm_zero {n : Nat} {f : Nat → Int} (h : ∀ i, i < n → f i = 0) : sm n f = 0 := by
  induction n with
  | zero => rfl
  | succ n ih => simp only [sm]; rw [ih fun i hi => h i (by omega), h n (by omega)]; rfl
theorem sm_add {n : Nat} {f g : Nat → Int} : sm n (fun i => f i + g i) = sm n f + sm n g := by
  induction n with
  | zero => rfl
  | succ n ih => simp only [sm]; rw [ih]; omega
theorem sm_mul {n : Nat} {f : Nat → Int} {a : Int} : sm n (fun i => a * f i) = a * sm n f := by
  induction n with
  | zero => simp [sm]
  | succ n ih => simp only [sm]; rw [ih]; grind
theorem sm_one {n j : Nat} {f : Nat → Int} (hj : j < n) (h : ∀ i, i < n → i ≠ j → f i = 0) : sm n f = f j := by
  induction n with
  | zero => omega
  | succ n ih =>
    simp only [sm]
    by_cases e : j = n
    · subst e
      rw [sm_zero fun i hi => h i (by omega) (by omega)]
      omega
    · rw [ih (by omega) fun i hi => h i (by omega), h n (by omega) (by omega)]
      omega
theorem sm_pos {n : Nat} {f : Nat → Int} (h : 0 < sm n f) : ∃ i, i < n ∧ 0 < f i := by
  induction n with
  | zero => simp [sm] at h
  | succ n ih =>
    simp only [sm] at h
    by_cases e : 0 < f n
    · exact ⟨n, by omega, e⟩
    · obtain ⟨i, h1, h2⟩ := ih (by omega)
      exact ⟨i, by omega, h2⟩
/-- the vector with a 1 at t -/
def e (t : Nat) : Vec := fun i => if i = t then 1 else 0
section
variable {α : Type} {f g : α → Int}
theorem S_f0 : ∀ {l : List α} {F : List α → Int}, (∀ v ∈ l, f v = 0) → S f F l = 0
  | [], _, _ => rfl
  | v :: l, F, h => by
    simp only [S]
    rw [h v (List.mem_cons_self ..), S_f0 fun w hw => h w (List.mem_cons_of_mem _ hw)]
    omega
theorem S_flin (a b : Int) : ∀ (l : List α) (F : List α → Int), S (fun v => a * f v + b * g v) F l = a * S f F l + b * S g F l
  | [], _ => by simp [S]
  | v :: l, F => by
    simp only [S]
    rw [S_flin a b l]
    grind
theorem S_fsum {n : Nat} {w : Nat → Int} {f : Nat → α → Int} (l : List α) (F : List α → Int) : S (fun v => sm n fun t => w t * f t v) F l = sm n fun t => w t * S (f t) F l := by
  induction n with
  | zero => exact S_f0 fun _ _ => rfl
  | succ n ih =>
    have z := S_flin (f := fun v => sm n fun t => w t * f t v) (g := f n) 1 (w n) l F
    have z1 : (fun v => 1 * (sm n fun t => w t * f t v) + w n * f n v) = fun v => sm (n + 1) fun t => w t * f t v := by
      funext v; simp only [sm]; omega
    rw [z1, ih] at z
    rw [z]
    simp only [sm]
    omega
end
/-- only the first rows count -/
inductive All2 {α : Type} (R : α → α → Prop) : List α → List α → Prop
  | nil : All2 R [] []
  | cons {a b : α} {l m : List α} : R a b → All2 R l m → All2 R (a :: l) (b :: m)
theorem All2.app {α : Type} {R : α → α → Prop} : ∀ {l m l' m' : List α}, All2 R l m → All2 R l' m' → All2 R (l ++ l') (m ++ m')
  | _, _, _, _, .nil, k => k
  | _, _, _, _, .cons h t, k => .cons h (t.app k)
theorem All2.refl {α : Type} {R : α → α → Prop} (h : ∀ a, R a a) : ∀ l : List α, All2 R l l
  | [] => .nil
  | a :: l => .cons (h a) (refl h l)
theorem All2.map {α β : Type} {R : α → α → Prop} {Q : β → β → Prop} {σ : α → β} (h : ∀ a b, R a b → Q (σ a) (σ b)) : ∀ {l m : List α}, All2 R l m → All2 Q (l.map σ) (m.map σ)
  | _, _, .nil => .nil
  | _, _, .cons r t => .cons (h _ _ r) (t.map h)
theorem S_loc {f : Vec → Int} {R : Vec → Vec → Prop} (hf : ∀ u w, R u w → f u = f w) : ∀ {l l' : List Vec} {F F' : List Vec → Int}, All2 R l l' → (∀ m m', All2 R m m' → F m = F' m') → S f F l = S f F' l'
  | _, _, _, _, .nil, _ => rfl
  | _, _, F, F', .cons (a := u) (b := w) h t, hF => by
    simp only [S]
    rw [hf u w h, hF _ _ t, S_loc hf t fun m m' hm => hF _ _ (.cons h hm)]
def Same (k : Nat) (u w : Vec) : Prop := ∀ i, i < k → u i = w i
theorem D_loc : ∀ (k : Nat) {l l' : List Vec}, All2 (Same k) l l' → D k l = D k l'
  | 0, _, _, _ => rfl
  | k + 1, l, l', h => S_loc (R := Same (k + 1)) (fun u w r => r 0 (by omega)) h fun m m' hm => D_loc k (hm.map fun u w r i hi => r (i + 1) (by omega))
/-- a linear form is known by its coefficients -/
theorem form {k : Nat} {φ : Vec → Int} (hl : ∀ a b u w, φ (add a b u w) = a * φ u + b * φ w) (hk : ∀ u w, Same k u w → φ u = φ w) (x : Vec) : φ x = sm k fun t => φ (e t) * x t := by
  have z : ∀ n, φ (fun i => if i < n then x i else 0) = sm n fun t => φ (e t) * x t := fun n => by
    induction n with
    | zero =>
      have h := hl 0 0 x x
      have h2 : add 0 0 x x = fun i => if i < 0 then x i else 0 := by
        funext i; simp [add]
      rw [h2] at h
      rw [h]
      simp [sm]
    | succ n ih =>
      have h := hl 1 (x n) (fun i => if i < n then x i else 0) (e n)
      have h2 : add 1 (x n) (fun i => if i < n then x i else 0) (e n) = fun i => if i < n + 1 then x i else 0 := by
        funext i
        unfold add e
        by_cases h1 : i < n
        · simp [h1, show i < n + 1 by omega, show i ≠ n by omega]
        · by_cases h3 : i = n
          · simp [h3]
          · simp [h1, h3, show ¬ i < n + 1 by omega]
      rw [h2, ih] at h
      rw [h]
      simp only [sm]
      grind
  rw [← z k]
  exact hk _ _ fun i hi => by simp [hi]
section
variable {k : Nat}
theorem put_lin {p q : List Vec} (h : p.length + q.length + 1 = k) : ∀ a b u w, D k (p ++ add a b u w :: q) = a * D k (p ++ u :: q) + b * D k (p ++ w :: q) := fun a b u w => D_lin k a b p u w q h
theorem put_loc {p q : List Vec} : ∀ u w, Same k u w → D k (p ++ u :: q) = D k (p ++ w :: q) := fun u w h => D_loc k ((All2.refl (fun _ _ _ => rfl) p).app (.cons h (All2.refl (fun _ _ _ => rfl) q)))
/-- the members of B one after the other in the place of c -/
def R (k : Nat) (c : Vec) (φ : Vec → Int) : List Vec → List Vec → List Vec → Int
  | _, [], _ => 0
  | p, v :: B, s => φ v * D k (p ++ c :: (B ++ s)) + R k c φ (p ++ [v]) B s
theorem R_of {c : Vec} {φ : Vec → Int} : ∀ (B p : List Vec), p.length + B.length = k → S φ (fun m => D k (p ++ c :: m)) B = R k c φ p B []
  | [], _, _ => rfl
  | v :: B, p, h => by
    rw [List.length_cons] at h
    simp only [S, R]
    rw [List.append_nil]
    have z : S φ (fun m => D k (p ++ c :: v :: m)) B = S φ (fun m => - D k ((p ++ [v]) ++ c :: m)) B := by
      cases B with
      | nil => rfl
      | cons y B =>
        rw [List.length_cons] at h
        refine S_congr (n := B.length) rfl fun m hm => ?_
        rw [D_alt k p c v m (by omega), List.append_assoc]
        rfl
    rw [z, S_neg, R_of B (p ++ [v]) (by rw [List.length_append, List.length_singleton]; omega)]
    omega
theorem R_app {c : Vec} {φ : Vec → Int} {s : List Vec} {B2 : List Vec} : ∀ (B1 p : List Vec), R k c φ p (B1 ++ B2) s = R k c φ p B1 (B2 ++ s) + R k c φ (p ++ B1) B2 s
  | [], p => by simp [R]
  | v :: B1, p => by
    rw [List.cons_append]
    simp only [R]
    rw [R_app B1 (p ++ [v]), List.append_assoc, List.append_assoc]
    simp only [List.singleton_append]
    omega
theorem R_zero {c : Vec} {φ : Vec → Int} {s : List Vec} : ∀ (B p : List Vec), (∀ v ∈ B, φ v = 0) → R k c φ p B s = 0
  | [], _, _ => rfl
  | v :: B, p, h => by
    simp only [R]
    rw [h v (List.mem_cons_self ..), R_zero B _ fun w hw => h w (List.mem_cons_of_mem _ hw)]
    omega
/-- Cramer, under a linear form -/
theorem cramer {φ : Vec → Int} (hl : ∀ a b u w, φ (add a b u w) = a * φ u + b * φ w) (hk : ∀ u w, Same k u w → φ u = φ w) {B : List Vec} (hB : B.length = k) (c : Vec) : D k B * φ c = R k c φ [] B [] := by
  rw [← R_of B [] (by simpa using hB)]
  have e1 : φ = fun x => sm k fun t => φ (e t) * (fun t (v : Vec) => v t) t x := by
    funext x; exact form hl hk x
  have e2 : S φ (fun m => D k ([] ++ c :: m)) B = sm k fun t => φ (e t) * S (fun v : Vec => v t) (fun m => D k (c :: m)) B := by
    conv => lhs; rw [e1]
    exact S_fsum (w := fun t => φ (e t)) (f := fun t (v : Vec) => v t) B _
  rw [e2, form hl hk c, ← sm_mul]
  refine sm_congr fun t ht => ?_
  have z := D_twice k t ht (c :: B) (by rw [List.length_cons, hB])
  simp only [S] at z
  grind
end
end Dt

namespace Dt
section
variable {k : Nat}
theorem pass (u : Vec) : ∀ (m p q : List Vec), p.length + m.length + q.length + 1 = k → D k (p ++ u :: (m ++ q)) = (-1) ^ m.length * D k (p ++ (m ++ u :: q))
  | [], p, q, h => by simp
  | v :: m, p, q, h => by
    rw [List.length_cons] at h
    have z := D_alt k p u v (m ++ q) (by rw [List.length_append]; omega)
    have z2 := pass u m (p ++ [v]) q (by rw [List.length_append, List.length_singleton]; omega)
    simp only [List.append_assoc, List.singleton_append] at z2
    rw [List.cons_append, z, z2, List.length_cons, Int.pow_succ, List.cons_append]
    grind
theorem twice {u : Vec} {p m q : List Vec} (h : p.length + m.length + q.length + 2 = k) : D k (p ++ u :: (m ++ u :: q)) = 0 := by
  have z := pass (k := k) u m p (u :: q) (by rw [List.length_cons]; omega)
  have z2 := D_alt k (p ++ m) u u q (by rw [List.length_append]; omega)
  have z3 : D k ((p ++ m) ++ u :: u :: q) = 0 := by omega
  rw [List.append_assoc] at z3
  rw [z, z3, Int.mul_zero]
theorem swap {u v : Vec} {p m q : List Vec} (h : p.length + m.length + q.length + 2 = k) : D k (p ++ u :: (m ++ v :: q)) = - D k (p ++ v :: (m ++ u :: q)) := by
  have z0 := twice (k := k) (u := add 1 1 u v) (p := p) (m := m) (q := q) h
  rw [put_lin (p := p) (q := m ++ add 1 1 u v :: q) (by rw [List.length_append, List.length_cons]; omega)] at z0
  have z1 := put_lin (k := k) (p := p ++ u :: m) (q := q) (by rw [List.length_append, List.length_cons]; omega) 1 1 u v
  have z2 := put_lin (k := k) (p := p ++ v :: m) (q := q) (by rw [List.length_append, List.length_cons]; omega) 1 1 u v
  simp only [List.append_assoc, List.cons_append] at z1 z2
  rw [z1, z2, twice (u := u) h, twice (u := v) h] at z0
  omega
/-- Pluecker -/
theorem pluecker {u v c y : Vec} {p m q : List Vec} (h : p.length + m.length + q.length + 2 = k) :
    D k (p ++ u :: (m ++ v :: q)) * D k (p ++ c :: (m ++ y :: q)) = D k (p ++ c :: (m ++ v :: q)) * D k (p ++ u :: (m ++ y :: q)) - D k (p ++ u :: (m ++ c :: q)) * D k (p ++ y :: (m ++ v :: q)) := by
  have len1 : p.length + (m ++ y :: q).length + 1 = k := by rw [List.length_append, List.length_cons]; omega
  have z := cramer (k := k) (φ := fun x => D k (p ++ x :: (m ++ y :: q))) (put_lin len1) put_loc (B := p ++ u :: (m ++ v :: q)) (by simp; omega) c
  have dup : ∀ w, w ∈ p ∨ w ∈ m ∨ w ∈ q → D k (p ++ w :: (m ++ y :: q)) = 0 := by
    rintro w (hw | hw | hw)
    · obtain ⟨p1, p2, rfl⟩ := List.append_of_mem hw
      rw [List.append_assoc, List.cons_append]
      rw [List.length_append, List.length_cons] at h
      exact twice (by rw [List.length_append, List.length_cons]; omega)
    · obtain ⟨p1, p2, rfl⟩ := List.append_of_mem hw
      rw [List.append_assoc, List.cons_append]
      rw [List.length_append, List.length_cons] at h
      exact twice (by rw [List.length_append, List.length_cons]; omega)
    · obtain ⟨p1, p2, rfl⟩ := List.append_of_mem hw
      have e1 : m ++ y :: (p1 ++ w :: p2) = (m ++ y :: p1) ++ w :: p2 := by simp
      rw [e1]
      rw [List.length_append, List.length_cons] at h
      exact twice (by rw [List.length_append, List.length_cons]; omega)
  rw [z, R_app, R_zero p [] fun w hw => dup w (.inl hw)]
  simp only [R, List.nil_append, List.append_nil]
  rw [R_app, R_zero m _ fun w hw => dup w (.inr (.inl hw))]
  simp only [R, List.append_nil]
  rw [R_zero q _ fun w hw => dup w (.inr (.inr hw))]
  have s1 := swap (k := k) (u := v) (v := y) (p := p) (m := m) (q := q) h
  rw [s1]
  simp only [List.append_assoc, List.cons_append, List.singleton_append]
  grind
def W (k : Nat) (B : List Vec) : Int := D k B
theorem cut {B : List Vec} {r i : Nat} (h1 : r < i) (h2 : i < B.length) : ∃ p u m v q, B = p ++ u :: (m ++ v :: q) ∧ p.length = r ∧ p.length + m.length + 1 = i ∧ B[r]? = some u ∧ B[i]? = some v := by
  refine ⟨B.take r, B[r], (B.drop (r + 1)).take (i - r - 1), B[i], B.drop (i + 1), ?_, by simp; omega, by simp; omega, by simp, by simp⟩
  apply List.ext_getElem?
  intro j
  by_cases a : j < r
  · rw [List.getElem?_append_left (by simp; omega)]
    simp [a]
  · rw [List.getElem?_append_right (by simp; omega)]
    have e1 : (B.take r).length = r := by simp; omega
    rw [e1]
    obtain ⟨d, rfl⟩ : ∃ d, j = r + d := ⟨j - r, by omega⟩
    cases d with
    | zero => simp
    | succ d =>
      rw [show r + (d + 1) - r = d + 1 by omega, List.getElem?_cons_succ]
      by_cases b : d < i - r - 1
      · rw [List.getElem?_append_left (by simp; omega)]
        simp [b]
        congr 1; omega
      · rw [List.getElem?_append_right (by simp; omega)]
        have e2 : ((B.drop (r + 1)).take (i - r - 1)).length = i - r - 1 := by simp; omega
        rw [e2]
        obtain ⟨f, rfl⟩ : ∃ f, d = i - r - 1 + f := ⟨d - (i - r - 1), by omega⟩
        rw [show i - r - 1 + f - (i - r - 1) = f by omega]
        cases f with
        | zero =>
          rw [show r + (i - r - 1 + 0 + 1) = i by omega, List.getElem?_cons_zero]
          exact List.getElem?_eq_getElem h2
        | succ f =>
          rw [List.getElem?_cons_succ]
          simp
          congr 1; omega
theorem set_at {α : Type} {p q : List α} {u x : α} {r : Nat} (h : p.length = r) : (p ++ u :: q).set r x = p ++ x :: q := by
  subst h
  simp
theorem W_pl {B : List Vec} {r i : Nat} (hB : B.length = k) (hr : r < k) (hi : i < k) (ne : r ≠ i) (c y : Vec) : W k B * W k ((B.set r c).set i y) = W k (B.set r c) * W k (B.set i y) - W k (B.set i c) * W k (B.set r y) := by
  unfold W
  by_cases h : r < i
  · obtain ⟨p, u, m, v, q, rfl, e1, e2, _, _⟩ := cut (B := B) h (by omega)
    simp only [List.length_append, List.length_cons] at hB
    have s2 : ∀ x w : Vec, (p ++ x :: (m ++ v :: q)).set i w = p ++ x :: (m ++ w :: q) := fun x w => by
      have e3 : p ++ x :: (m ++ v :: q) = (p ++ x :: m) ++ v :: q := by simp
      rw [e3, set_at (by simp; omega)]
      simp
    rw [set_at e1, s2, s2, s2, set_at e1]
    exact pluecker (by omega)
  · obtain ⟨p, u, m, v, q, rfl, e1, e2, _, _⟩ := cut (B := B) (r := i) (i := r) (by omega) (by omega)
    simp only [List.length_append, List.length_cons] at hB
    have s2 : ∀ x w : Vec, (p ++ x :: (m ++ v :: q)).set r w = p ++ x :: (m ++ w :: q) := fun x w => by
      have e3 : p ++ x :: (m ++ v :: q) = (p ++ x :: m) ++ v :: q := by simp
      rw [e3, set_at (by simp; omega)]
      simp
    rw [s2, set_at e1, set_at e1, set_at e1, s2]
    have z := pluecker (k := k) (u := u) (v := v) (c := y) (y := c) (p := p) (m := m) (q := q) (by omega)
    grind
theorem W_two {B : List Vec} {r i : Nat} {u : Vec} (hB : B.length = k) (hr : r < k) (hi : i < k) (ne : r ≠ i) (hu : B[r]? = some u) : W k (B.set i u) = 0 := by
  unfold W
  by_cases h : r < i
  · obtain ⟨p, u', m, v, q, rfl, e1, e2, h3, _⟩ := cut (B := B) h (by omega)
    simp only [List.length_append, List.length_cons] at hB
    rw [hu] at h3
    cases h3
    have e3 : p ++ u :: (m ++ v :: q) = (p ++ u :: m) ++ v :: q := by simp
    rw [e3, set_at (by simp; omega), List.append_assoc]
    exact twice (by omega)
  · obtain ⟨p, u', m, v, q, rfl, e1, e2, _, h3⟩ := cut (B := B) (r := i) (i := r) (by omega) (by omega)
    simp only [List.length_append, List.length_cons] at hB
    rw [hu] at h3
    cases h3
    rw [set_at e1]
    exact twice (by omega)
theorem sm_shift {n : Nat} {f : Nat → Int} : sm (n + 1) f = f 0 + sm n fun i => f (i + 1) := by
  induction n with
  | zero => simp [sm]
  | succ n ih =>
    have z : sm (n + 1 + 1) f = sm (n + 1) f + f (n + 1) := rfl
    rw [z, ih]
    simp only [sm]
    omega
theorem R_sm {c : Vec} {φ : Vec → Int} {s : List Vec} : ∀ (B p : List Vec), R k c φ p B s = sm B.length fun i => φ (B.getD i (e 0)) * D k (p ++ (B.set i c ++ s))
  | [], _ => rfl
  | v :: B, p => by
    rw [List.length_cons, sm_shift]
    simp only [R]
    rw [R_sm B (p ++ [v])]
    congr 1
    refine sm_congr fun i hi => ?_
    simp
/-- Cramer by places -/
theorem W_cramer {φ : Vec → Int} (hl : ∀ a b u w, φ (add a b u w) = a * φ u + b * φ w) (hk : ∀ u w, Same k u w → φ u = φ w) {B : List Vec} (hB : B.length = k) (c : Vec) : W k B * φ c = sm k fun i => φ (B.getD i (e 0)) * W k (B.set i c) := by
  unfold W
  rw [cramer hl hk hB c, R_sm, hB]
  refine sm_congr fun i hi => ?_
  simp
theorem set_cut {α : Type} {B : List α} {i : Nat} (hi : i < B.length) : ∃ p u q, B = p ++ u :: q ∧ p.length = i := ⟨B.take i, B[i], B.drop (i + 1), by simp, by simp; omega⟩
theorem W_lin {B : List Vec} {i : Nat} (hB : B.length = k) (hi : i < k) : ∀ a b u w, W k (B.set i (add a b u w)) = a * W k (B.set i u) + b * W k (B.set i w) := fun a b u w => by
  obtain ⟨p, x, q, rfl, rfl⟩ := set_cut (B := B) (i := i) (by omega)
  rw [List.length_append, List.length_cons] at hB
  rw [set_at rfl, set_at rfl, set_at rfl]
  exact put_lin (by omega) a b u w
theorem W_loc {B : List Vec} {i : Nat} (hB : B.length = k) (hi : i < k) : ∀ u w, Same k u w → W k (B.set i u) = W k (B.set i w) := fun u w h => by
  obtain ⟨p, x, q, rfl, rfl⟩ := set_cut (B := B) (i := i) (by omega)
  rw [set_at rfl, set_at rfl]
  exact put_loc u w h
theorem set_self {α : Type} {B : List α} {i : Nat} {u : α} (h : B[i]? = some u) : B.set i u = B := by
  apply List.ext_getElem?
  intro j
  rw [List.getElem?_set]
  by_cases e : i = j
  · subst e
    obtain ⟨z, _⟩ := List.getElem?_eq_some_iff.mp h
    rw [if_pos rfl, if_pos z, h]
  · rw [if_neg e]
/-- a coordinate, as a form -/
theorem coord {t : Nat} (ht : t < k) : (∀ a b u w, (fun v : Vec => v t) (add a b u w) = a * (fun v : Vec => v t) u + b * (fun v : Vec => v t) w) ∧ ∀ u w, Same k u w → (fun v : Vec => v t) u = (fun v : Vec => v t) w := ⟨fun _ _ _ _ => rfl, fun _ _ h => h t ht⟩
end
def units (k : Nat) : List Vec := (List.range k).map e
theorem units_len (k : Nat) : (units k).length = k := by simp [units]
theorem units_at {k i : Nat} (h : i < k) : (units k)[i]? = some (e i) := by simp [units, h]
theorem sh_e (t : Nat) : sh (e (t + 1)) = e t := by
  funext i
  unfold sh e
  by_cases h : i = t
  · simp [h]
  · simp [h]
theorem W_units : ∀ k, W k (units k) = 1
  | 0 => rfl
  | k + 1 => by
    have e1 : units (k + 1) = e 0 :: (List.range k).map fun t => e (t + 1) := by
      unfold units
      rw [List.range_succ_eq_map, List.map_cons, List.map_map]
      rfl
    rw [e1]
    unfold W
    simp only [D, S]
    rw [S_f0 fun v hv => by
      obtain ⟨t, _, rfl⟩ := List.mem_map.mp hv
      rfl]
    rw [List.map_map]
    have e2 : (sh ∘ fun t => e (t + 1)) = e := by
      funext t
      exact sh_e t
    rw [e2]
    have z := W_units k
    unfold W units at z
    rw [z]
    rfl
theorem W_unit_set {k i : Nat} (hi : i < k) (a : Vec) : W k ((units k).set i a) = a i := by
  have z := W_cramer (k := k) (φ := fun v => v i) (coord hi).1 (coord hi).2 (B := units k) (units_len k) a
  rw [W_units, Int.one_mul] at z
  rw [z, sm_one hi fun j hj ne => by
    rw [List.getD_eq_getElem?_getD, units_at hj]
    show (e j) i * _ = 0
    unfold e
    rw [if_neg (Ne.symm ne), Int.zero_mul]]
  rw [List.getD_eq_getElem?_getD, units_at hi]
  show _ = (e i) i * _
  unfold e
  rw [if_pos rfl, Int.one_mul]
def fact : Nat → Nat
  | 0 => 1
  | n + 1 => (n + 1) * fact n
theorem S_bound {α : Type} {f : α → Int} {P : α → Prop} {c M : Nat} (hf : ∀ v, P v → (f v).natAbs ≤ c) : ∀ (l : List α) (F : List α → Int), (∀ v ∈ l, P v) → (∀ m, m.length + 1 = l.length → (∀ v ∈ m, P v) → (F m).natAbs ≤ M) → (S f F l).natAbs ≤ l.length * (c * M)
  | [], _, _, _ => by simp [S]
  | v :: l, F, hl, hF => by
    simp only [S]
    have h1 := hF l rfl fun w hw => hl w (List.mem_cons_of_mem _ hw)
    have h2 := S_bound hf l (fun m => F (v :: m)) (fun w hw => hl w (List.mem_cons_of_mem _ hw)) fun m hm hp => hF (v :: m) (by rw [List.length_cons, List.length_cons, hm]) fun w hw => by
      rcases List.mem_cons.mp hw with rfl | hw
      · exact hl _ (List.mem_cons_self ..)
      · exact hp w hw
    have h3 : (f v * F l).natAbs ≤ c * M := by
      rw [Int.natAbs_mul]
      exact Nat.mul_le_mul (hf v (hl v (List.mem_cons_self ..))) h1
    rw [List.length_cons, Nat.succ_mul]
    omega
theorem D_bound {c : Nat} : ∀ (k : Nat) (l : List Vec), l.length = k → (∀ v ∈ l, ∀ i, i < k → (v i).natAbs ≤ c) → (D k l).natAbs ≤ fact k * c ^ k
  | 0, _, _, _ => by simp [D, fact]
  | k + 1, l, hl, h => by
    have z := S_bound (f := fun v : Vec => v 0) (P := fun v : Vec => ∀ i, i < k + 1 → (v i).natAbs ≤ c) (c := c) (M := fact k * c ^ k) (fun v hv => hv 0 (by omega)) l (fun m => D k (m.map sh)) h (fun m hm hp => D_bound k (m.map sh) (by rw [List.length_map]; omega) fun v hv i hi => by
      obtain ⟨w, hw, rfl⟩ := List.mem_map.mp hv
      exact hp w hw (i + 1) (by omega))
    show (S _ _ l).natAbs ≤ _
    refine Nat.le_trans z ?_
    rw [hl]
    show (k + 1) * (c * (fact k * c ^ k)) ≤ (k + 1) * fact k * c ^ (k + 1)
    rw [Nat.pow_succ]
    have e : (k + 1) * (c * (fact k * c ^ k)) = (k + 1) * fact k * (c ^ k * c) := by grind
    rw [e]
    exact Nat.le_refl _
end Dt

namespace Sx
open Dt
structure Cfg where
  across : List Nat
  down : List Nat
structure Pr where
  n : Nat
  m : Nat
  col : Nat → Vec
  b : Vec
section
variable (P : Pr)
def Bs (x : Cfg) : List Vec := x.down.map P.col ++ [e P.m]
def sc (x : Cfg) : Int := W (P.m + 1) (Bs P x)
def g (x : Cfg) (i : Nat) (v : Vec) : Int := W (P.m + 1) ((Bs P x).set i v)
/-- the factor of the unknown across at c -/
def gc (x : Cfg) (i c : Nat) : Int := g P x i (P.col (x.across.getD c 0))
structure Ok (x : Cfg) : Prop where
  la : x.across.length = P.n
  ld : x.down.length = P.m
  nd : (x.across ++ x.down).Nodup
  lt : ∀ v ∈ x.across ++ x.down, v < P.n + P.m
  pos : 0 < sc P x
  feas : ∀ i, i < P.m → 0 ≤ g P x i P.b
def Enters (x : Cfg) (c : Nat) : Prop := c < P.n ∧ gc P x P.m c < 0 ∧ ∀ c', c' < P.n → gc P x P.m c' < 0 → x.across.getD c 0 ≤ x.across.getD c' 0
def Leaves (x : Cfg) (c r : Nat) : Prop := r < P.m ∧ 0 < gc P x r c ∧ ∀ r', r' < P.m → 0 < gc P x r' c → g P x r P.b * gc P x r' c ≤ g P x r' P.b * gc P x r c ∧ (g P x r P.b * gc P x r' c = g P x r' P.b * gc P x r c → x.down.getD r 0 ≤ x.down.getD r' 0)
def swp (x : Cfg) (r c : Nat) : Cfg := ⟨x.across.set c (x.down.getD r 0), x.down.set r (x.across.getD c 0)⟩
def Step (x y : Cfg) : Prop := ∃ c r, Enters P x c ∧ Leaves P x c r ∧ y = swp x r c
end
section
variable {P : Pr} {x : Cfg}
theorem Bs_len (h : x.down.length = P.m) : (Bs P x).length = P.m + 1 := by unfold Bs; simp [h]
theorem Bs_at (h : x.down.length = P.m) {i : Nat} (hi : i < P.m) : (Bs P x)[i]? = some (P.col (x.down.getD i 0)) := by
  unfold Bs
  rw [List.getElem?_append_left (by simp; omega), List.getElem?_map, List.getD_eq_getElem?_getD]
  rw [List.getElem?_eq_getElem (by omega)]
  rfl
theorem Bs_last (h : x.down.length = P.m) : (Bs P x)[P.m]? = some (e P.m) := by
  unfold Bs
  rw [List.getElem?_append_right (by simp; omega)]
  simp [h]
theorem Bs_swp (h : x.down.length = P.m) {r c : Nat} (hr : r < P.m) : Bs P (swp x r c) = (Bs P x).set r (P.col (x.across.getD c 0)) := by
  unfold Bs swp
  rw [List.set_append_left _ _ (by simp; omega), List.map_set]
theorem sc_swp (h : x.down.length = P.m) {r c : Nat} (hr : r < P.m) : sc P (swp x r c) = gc P x r c := by
  unfold sc gc g
  rw [Bs_swp h hr]
theorem g_row (h : x.down.length = P.m) {r c : Nat} (hr : r < P.m) (y : Vec) : g P (swp x r c) r y = g P x r y := by
  unfold g
  rw [Bs_swp h hr, List.set_set]
theorem g_swp (h : x.down.length = P.m) {r c i : Nat} (hr : r < P.m) (hi : i < P.m + 1) (ne : i ≠ r) (y : Vec) : sc P x * g P (swp x r c) i y = gc P x r c * g P x i y - gc P x i c * g P x r y := by
  unfold g gc sc
  rw [Bs_swp h hr]
  exact W_pl (Bs_len h) (by omega) hi (Ne.symm ne) _ _
theorem g_basic (h : x.down.length = P.m) {i j : Nat} (hi : i < P.m + 1) (hj : j < P.m) (ne : i ≠ j) : g P x i (P.col (x.down.getD j 0)) = 0 := by
  unfold g
  exact W_two (Bs_len h) (show j < P.m + 1 by omega) hi (Ne.symm ne) (Bs_at h hj)
theorem g_own (h : x.down.length = P.m) {i : Nat} (hi : i < P.m) : g P x i (P.col (x.down.getD i 0)) = sc P x := by
  unfold g sc
  rw [set_self (Bs_at h hi)]
theorem g_last (h : x.down.length = P.m) : g P x P.m (e P.m) = sc P x := by
  unfold g sc
  rw [set_self (Bs_last h)]
/-- the unknown that left -/
theorem g_old (h : x.down.length = P.m) {r c i : Nat} (hs : sc P x ≠ 0) (hr : r < P.m) (hi : i < P.m + 1) (ne : i ≠ r) : g P (swp x r c) i (P.col (x.down.getD r 0)) = - gc P x i c := by
  have z := g_swp (c := c) h hr hi ne (P.col (x.down.getD r 0))
  rw [g_basic h hi hr ne, g_own h hr] at z
  have z2 : sc P x * g P (swp x r c) i (P.col (x.down.getD r 0)) = sc P x * (- gc P x i c) := by grind
  exact Int.eq_of_mul_eq_mul_left hs z2
/-- Cramer for a configuration -/
theorem g_cramer (h : x.down.length = P.m) {φ : Vec → Int} (hl : ∀ a b u w, φ (add a b u w) = a * φ u + b * φ w) (hk : ∀ u w, Same (P.m + 1) u w → φ u = φ w) (v : Vec) :
    sc P x * φ v = (sm P.m fun i => φ (P.col (x.down.getD i 0)) * g P x i v) + φ (e P.m) * g P x P.m v := by
  have z := W_cramer hl hk (Bs_len (P := P) h) v
  unfold sc
  rw [z]
  simp only [sm]
  congr 1
  · refine sm_congr fun i hi => ?_
    rw [List.getD_eq_getElem?_getD, Bs_at h hi]
    rfl
  · rw [List.getD_eq_getElem?_getD, Bs_last h]
    rfl
theorem g_lin (h : x.down.length = P.m) {i : Nat} (hi : i < P.m + 1) : ∀ a b u w, g P x i (add a b u w) = a * g P x i u + b * g P x i w := W_lin (Bs_len h) hi
theorem g_loc (h : x.down.length = P.m) {i : Nat} (hi : i < P.m + 1) : ∀ u w, Same (P.m + 1) u w → g P x i u = g P x i w := W_loc (Bs_len h) hi
theorem nodup_swap {l m : List Nat} {i j : Nat} (h : (l ++ m).Nodup) (hi : i < l.length) (hj : j < m.length) : (l.set i m[j] ++ m.set j l[i]).Perm (l ++ m) := by
  obtain ⟨p, u, q, rfl, rfl⟩ := set_cut hi
  obtain ⟨p', u', q', rfl, rfl⟩ := set_cut hj
  simp only [List.getElem_append_right (Nat.le_refl _), Nat.sub_self, List.getElem_cons_zero]
  rw [set_at rfl, set_at rfl]
  have e1 : (p ++ u' :: q ++ (p' ++ u :: q')).Perm (u' :: (p ++ q ++ (p' ++ u :: q'))) := by
    have := List.perm_middle (a := u') (l₁ := p) (l₂ := q)
    exact this.append_right _
  have e2 : (p ++ q ++ (p' ++ u :: q')).Perm (u :: (p ++ q ++ (p' ++ q'))) := by
    have := List.perm_middle (a := u) (l₁ := p ++ q ++ p') (l₂ := q')
    simpa using this
  have e3 : (p ++ u :: q ++ (p' ++ u' :: q')).Perm (u :: (p ++ q ++ (p' ++ u' :: q'))) := by
    have := List.perm_middle (a := u) (l₁ := p) (l₂ := q)
    exact this.append_right _
  have e4 : (p ++ q ++ (p' ++ u' :: q')).Perm (u' :: (p ++ q ++ (p' ++ q'))) := by
    have := List.perm_middle (a := u') (l₁ := p ++ q ++ p') (l₂ := q')
    simpa using this
  exact e1.trans ((e2.cons u').trans ((List.Perm.swap u u' _).trans ((e4.symm.cons u).trans e3.symm)))
theorem Ok.step {y : Cfg} (h : Ok P x) (s : Step P x y) : Ok P y := by
  obtain ⟨c, r, ⟨hc, hneg, _⟩, ⟨hr, hpos, hrat⟩, rfl⟩ := s
  have ha : c < x.across.length := by rw [h.la]; exact hc
  have hd : r < x.down.length := by rw [h.ld]; exact hr
  have pm : ((swp x r c).across ++ (swp x r c).down).Perm (x.across ++ x.down) := by
    have z := nodup_swap h.nd ha hd
    unfold swp
    rw [List.getD_eq_getElem?_getD, List.getD_eq_getElem?_getD, List.getElem?_eq_getElem ha, List.getElem?_eq_getElem hd]
    exact z
  refine ⟨by unfold swp; simp [h.la], by unfold swp; simp [h.ld], (pm.nodup_iff).mpr h.nd, fun v hv => h.lt v (pm.mem_iff.mp hv), by rw [sc_swp h.ld hr]; exact hpos, fun i hi => ?_⟩
  by_cases ne : i = r
  · rw [ne, g_row h.ld hr]
    exact h.feas r hr
  · have z := g_swp (c := c) h.ld hr (show i < P.m + 1 by omega) ne P.b
    have f1 := h.feas i hi
    have f2 := h.feas r hr
    have nn : 0 ≤ gc P x r c * g P x i P.b - gc P x i c * g P x r P.b := by
      by_cases q : 0 < gc P x i c
      · have := (hrat i hi q).1
        grind
      · have q1 : gc P x i c ≤ 0 := by omega
        have a1 : 0 ≤ gc P x r c * g P x i P.b := Int.mul_nonneg (by omega) f1
        have a2 : gc P x i c * g P x r P.b ≤ 0 := Int.mul_nonpos_of_nonpos_of_nonneg q1 f2
        omega
    rw [← z] at nn
    exact Int.le_of_mul_le_mul_left (a := sc P x) (by rw [Int.mul_zero]; exact nn) h.pos
end
end Sx

namespace Sx
open Dt
section
variable {P : Pr} {x : Cfg}
theorem getD_inj {l : List Nat} (h : l.Nodup) {i j : Nat} (hi : i < l.length) (hj : j < l.length) (e : l.getD i 0 = l.getD j 0) : i = j := by
  rw [List.getD_eq_getElem?_getD, List.getD_eq_getElem?_getD, List.getElem?_eq_getElem hi, List.getElem?_eq_getElem hj] at e
  exact (List.getElem_inj h).mp e
theorem getD_mem {l : List Nat} {i : Nat} (hi : i < l.length) : l.getD i 0 ∈ l := by
  rw [List.getD_eq_getElem?_getD, List.getElem?_eq_getElem hi]
  exact List.getElem_mem hi
theorem Step.det {y z : Cfg} (h : Ok P x) (s : Step P x y) (t : Step P x z) : y = z := by
  obtain ⟨c, r, ⟨hc, h1, h2⟩, ⟨hr, h3, h4⟩, rfl⟩ := s
  obtain ⟨c', r', ⟨hc', h1', h2'⟩, ⟨hr', h3', h4'⟩, rfl⟩ := t
  have nda := (List.nodup_append.mp h.nd).1
  have ndd := (List.nodup_append.mp h.nd).2.1
  have ec : c = c' := getD_inj nda (by rw [h.la]; exact hc) (by rw [h.la]; exact hc') (Nat.le_antisymm (h2 c' hc' h1') (h2' c hc h1))
  subst ec
  have a := h4 r' hr' h3'
  have b := h4' r hr h3
  have er : r = r' := getD_inj ndd (by rw [h.ld]; exact hr) (by rw [h.ld]; exact hr') (Nat.le_antisymm (a.2 (Int.le_antisymm a.1 b.1)) (b.2 (Int.le_antisymm b.1 a.1)))
  subst er
  rfl
theorem few {N : Nat} : ∀ {l : List Nat}, l.Nodup → (∀ v ∈ l, v < N) → l.length ≤ N := by
  induction N with
  | zero =>
    intro l _ h
    cases l with
    | nil => exact Nat.le_refl _
    | cons v l => exact absurd (h v (List.mem_cons_self ..)) (by omega)
  | succ N ih =>
    intro l nd h
    have z := ih (l := l.erase N) (nd.erase N) fun v hv => by
      have := h v (List.mem_of_mem_erase hv)
      have ne := (List.Nodup.mem_erase_iff nd).mp hv
      omega
    have := List.length_erase (a := N) (l := l)
    split at this <;> omega
theorem all_in {N : Nat} {l : List Nat} (nd : l.Nodup) (h : ∀ v ∈ l, v < N) (len : l.length = N) {v : Nat} (hv : v < N) : v ∈ l := by
  refine Classical.byContradiction fun q => ?_
  have z := few (N := N) (l := v :: l) (List.nodup_cons.mpr ⟨q, nd⟩) fun w hw => by
    rcases List.mem_cons.mp hw with rfl | hw
    · exact hv
    · exact h w hw
  rw [List.length_cons] at z
  omega
theorem pigeon {M : Nat} {h : Nat → Nat} (hb : ∀ k, h k < M) : ∃ i j, i < j ∧ h i = h j := by
  refine Classical.byContradiction fun q => ?_
  have nd : ((List.range (M + 1)).map h).Nodup := by
    unfold List.Nodup
    rw [List.pairwise_map]
    exact List.Pairwise.imp (fun {a b} hab e => q ⟨a, b, hab, e⟩) List.pairwise_lt_range
  have z := few nd fun v hv => by
    obtain ⟨k, _, rfl⟩ := List.mem_map.mp hv
    exact hb k
  rw [List.length_map, List.length_range] at z
  omega
def code (N : Nat) : List Nat → Nat
  | [] => 0
  | v :: l => v + N * code N l
theorem code_lt {N : Nat} : ∀ {l : List Nat}, (∀ v ∈ l, v < N) → code N l < N ^ l.length
  | [], _ => by simp [code]
  | v :: l, h => by
    have h1 := h v (List.mem_cons_self ..)
    have h2 := code_lt (l := l) fun w hw => h w (List.mem_cons_of_mem _ hw)
    rw [List.length_cons, Nat.pow_succ]
    show v + N * code N l < _
    have h3 : N * (code N l + 1) ≤ N * N ^ l.length := Nat.mul_le_mul_left _ h2
    rw [Nat.mul_succ] at h3
    rw [Nat.mul_comm (N ^ l.length)]
    omega
theorem code_inj {N : Nat} : ∀ {l m : List Nat}, (∀ v ∈ l, v < N) → (∀ v ∈ m, v < N) → l.length = m.length → code N l = code N m → l = m
  | [], [], _, _, _, _ => rfl
  | [], _ :: _, _, _, h, _ => by cases h
  | _ :: _, [], _, _, h, _ => by cases h
  | v :: l, w :: m, h1, h2, hl, e => by
    have a1 := h1 v (List.mem_cons_self ..)
    have a2 := h2 w (List.mem_cons_self ..)
    have e' : v + N * code N l = w + N * code N m := e
    have m1 : (v + N * code N l) % N = v := by rw [Nat.add_mul_mod_self_left, Nat.mod_eq_of_lt a1]
    have m2 : (w + N * code N m) % N = w := by rw [Nat.add_mul_mod_self_left, Nat.mod_eq_of_lt a2]
    have vw : v = w := by rw [← m1, e', m2]
    subst vw
    have e2 : code N l = code N m := Nat.eq_of_mul_eq_mul_left (show 0 < N by omega) (by omega)
    rw [code_inj (fun x hx => h1 x (List.mem_cons_of_mem _ hx)) (fun x hx => h2 x (List.mem_cons_of_mem _ hx)) (by simpa using hl) e2]
/-- how good a configuration is: the sum's value, over the scale -/
def val (P : Pr) (x : Cfg) : Int := g P x P.m P.b
def LeV (P : Pr) (x y : Cfg) : Prop := val P x * sc P y ≤ val P y * sc P x
theorem LeV.tr {y z : Cfg} (hx : Ok P x) (hy : Ok P y) (hz : Ok P z) (a : LeV P x y) (b : LeV P y z) : LeV P x z := by
  unfold LeV at *
  have h1 := Int.mul_le_mul_of_nonneg_right a (Int.le_of_lt hz.pos)
  have h2 := Int.mul_le_mul_of_nonneg_right b (Int.le_of_lt hx.pos)
  refine Int.le_of_mul_le_mul_right (a := sc P y) ?_ hy.pos
  grind
theorem step_val {c r : Nat} (h : Ok P x) (hr : r < P.m) : sc P x * val P (swp x r c) - sc P (swp x r c) * val P x = - (gc P x P.m c * g P x r P.b) := by
  have z := g_swp (c := c) h.ld hr (show P.m < P.m + 1 by omega) (by omega) P.b
  unfold val
  rw [sc_swp h.ld hr, z]
  grind
theorem step_le {y : Cfg} (h : Ok P x) (s : Step P x y) : LeV P x y := by
  obtain ⟨c, r, ⟨hc, h1, _⟩, ⟨hr, h3, _⟩, rfl⟩ := s
  have z := step_val (c := c) h hr
  have f := h.feas r hr
  have q : gc P x P.m c * g P x r P.b ≤ 0 := Int.mul_nonpos_of_nonpos_of_nonneg (by omega) f
  unfold LeV
  grind
/-- the unknown v stands at 0 -/
def At0 (P : Pr) (x : Cfg) (v : Nat) : Prop := ∀ i, i < P.m → x.down.getD i 0 = v → g P x i P.b = 0
theorem getD_set {l : List Nat} {i j v : Nat} : (l.set i v).getD j 0 = if i = j ∧ j < l.length then v else l.getD j 0 := by
  rw [List.getD_eq_getElem?_getD, List.getElem?_set, List.getD_eq_getElem?_getD]
  by_cases e : i = j
  · subst e
    rw [if_pos rfl]
    by_cases h : i < l.length
    · rw [if_pos h, if_pos ⟨rfl, h⟩]
      rfl
    · rw [if_neg h, if_neg (fun q => h q.2), List.getElem?_eq_none (by omega)]
  · rw [if_neg e, if_neg fun q => e q.1]
theorem at0_step {c r v : Nat} (h : Ok P x) (hr : r < P.m) (hc : c < P.n) (hp : 0 < gc P x r c) (z0 : g P x r P.b = 0) : At0 P x v ↔ At0 P (swp x r c) v := by
  have key : ∀ i, i < P.m → i ≠ r → (g P (swp x r c) i P.b = 0 ↔ g P x i P.b = 0) := fun i hi ne => by
    have z := g_swp (c := c) h.ld hr (show i < P.m + 1 by omega) ne P.b
    rw [z0, Int.mul_zero, Int.sub_zero] at z
    constructor
    · intro q
      rw [q, Int.mul_zero] at z
      rcases Int.mul_eq_zero.mp z.symm with w | w
      · omega
      · exact w
    · intro q
      rw [q, Int.mul_zero] at z
      rcases Int.mul_eq_zero.mp z with w | w
      · have := h.pos; omega
      · exact w
  have dn : ∀ i, i < P.m → i ≠ r → (swp x r c).down.getD i 0 = x.down.getD i 0 := fun i hi ne => by
    unfold swp
    rw [getD_set, if_neg fun q => ne q.1.symm]
  constructor
  · intro a i hi e
    by_cases ne : i = r
    · rw [ne, g_row h.ld hr]
      exact z0
    · rw [dn i hi ne] at e
      exact (key i hi ne).mpr (a i hi e)
  · intro a i hi e
    by_cases ne : i = r
    · rw [ne]
      exact z0
    · rw [← dn i hi ne] at e
      exact (key i hi ne).mp (a i hi e)
/-- what every step of a round does -/
structure Turn (P : Pr) (x y : Cfg) (c r : Nat) : Prop where
  ent : Enters P x c
  lev : Leaves P x c r
  eq : y = swp x r c
/-- no round -/
theorem no_round {f : Nat → Cfg} {p : Nat} (hp : 0 < p) (ok : ∀ k, Ok P (f k)) (st : ∀ k, Step P (f k) (f (k + 1))) (per : ∀ k, f (k + p) = f k) : False := by
  have hm : ∀ k j, LeV P (f k) (f (k + j)) := fun k j => by
    induction j with
    | zero => exact Int.le_refl _
    | succ j ih => exact LeV.tr (ok _) (ok _) (ok _) ih (step_le (ok _) (st (k + j)))
  -- each step leaves the sum as it is
  have deg : ∀ k c r, Turn P (f k) (f (k + 1)) c r → g P (f k) r P.b = 0 := fun k c r t => by
    have a := step_le (ok k) (st k)
    have b : LeV P (f (k + 1)) (f k) := by
      have z := hm (k + 1) (p - 1)
      rw [show k + 1 + (p - 1) = k + p by omega, per] at z
      exact z
    have s := step_val (c := c) (ok k) t.lev.1
    rw [← t.eq] at s
    unfold LeV at a b
    have q : gc P (f k) P.m c * g P (f k) r P.b = 0 := by grind
    rcases Int.mul_eq_zero.mp q with w | w
    · have := t.ent.2.1; omega
    · exact w
  have tn : ∀ k, ∃ c r, Turn P (f k) (f (k + 1)) c r := fun k => by
    obtain ⟨c, r, h1, h2, h3⟩ := st k
    exact ⟨c, r, h1, h2, h3⟩
  have zero : ∀ k j v, At0 P (f k) v ↔ At0 P (f (k + j)) v := fun k j v => by
    induction j with
    | zero => exact Iff.rfl
    | succ j ih =>
      obtain ⟨c, r, t⟩ := tn (k + j)
      have z := at0_step (v := v) (ok (k + j)) t.lev.1 t.ent.1 t.lev.2.1 (deg _ _ _ t)
      rw [← t.eq] at z
      exact ih.trans z
  have perm : ∀ k q, f (k + p * q) = f k := fun k q => by
    induction q with
    | zero => rfl
    | succ q ih => rw [Nat.mul_succ, ← Nat.add_assoc, per, ih]
  have later : ∀ k k', ∃ j, f (k' + j) = f k ∧ 0 < j := fun k k' => ⟨k + p * (k' + 1) - k', by
    have h : k' + 1 ≤ p * (k' + 1) := by
      have := Nat.mul_le_mul_right (k' + 1) hp
      omega
    rw [show k' + (k + p * (k' + 1) - k') = k + p * (k' + 1) by omega, perm], by
    have h : k' + 1 ≤ p * (k' + 1) := by
      have := Nat.mul_le_mul_right (k' + 1) hp
      omega
    omega⟩
  have allz : ∀ k k' v, At0 P (f k) v → At0 P (f k') v := fun k k' v h => by
    obtain ⟨j, e, _⟩ := later k' k
    rw [← e]
    exact (zero k j v).mp h
  -- who enters between
  let en : Nat → Nat := fun k => (f k).across.getD (Classical.choose (tn k)) 0
  have enT : ∀ k, ∃ r, Turn P (f k) (f (k + 1)) (Classical.choose (tn k)) r := fun k => Classical.choose_spec (tn k)
  have enter : ∀ k j v, v ∉ (f k).down → v ∈ (f (k + j)).down → ∃ k', en k' = v := fun k j v h1 h2 => by
    induction j with
    | zero => exact absurd h2 h1
    | succ j ih =>
      by_cases q : v ∈ (f (k + j)).down
      · exact ih q
      · obtain ⟨r, t⟩ := enT (k + j)
        refine ⟨k + j, ?_⟩
        have h2' : v ∈ (f (k + j + 1)).down := h2
        rw [t.eq] at h2'
        unfold swp at h2'
        rcases List.mem_or_eq_of_mem_set h2' with w | w
        · exact absurd w q
        · exact w.symm
  have bound : ∀ k, en k < P.n + P.m := fun k => by
    obtain ⟨r, t⟩ := enT k
    exact (ok k).lt _ (List.mem_append_left _ (getD_mem (by rw [(ok k).la]; exact t.ent.1)))
  obtain ⟨k0, top⟩ : ∃ k0, ∀ k, en k ≤ en k0 := by
    have : ∀ N, (∃ k, N ≤ en k) → ∃ k0, ∀ k, en k ≤ en k0 := fun N => by
      -- by how far N is from the bound
      have : ∀ d N, P.n + P.m - N ≤ d → (∃ k, N ≤ en k) → ∃ k0, ∀ k, en k ≤ en k0 := fun d => by
        induction d with
        | zero =>
          rintro N h ⟨k, hk⟩
          have := bound k
          omega
        | succ d ih =>
          rintro N h ⟨k, hk⟩
          by_cases q : ∃ k', en k < en k'
          · obtain ⟨k', hk'⟩ := q
            have := bound k
            exact ih (en k + 1) (by omega) ⟨k', hk'⟩
          · exact ⟨k, fun k' => by
              rcases Nat.lt_or_ge (en k) (en k') with w | w
              · exact absurd ⟨k', w⟩ q
              · exact w⟩
      exact this _ N (Nat.le_refl _)
    exact this 0 ⟨0, Nat.zero_le _⟩
  -- t enters at k0, and leaves at k1
  obtain ⟨r0, t0⟩ := enT k0
  have inA : ∀ k r, Turn P (f k) (f (k + 1)) (Classical.choose (tn k)) r → en k ∈ (f k).across := fun k r t => getD_mem (by rw [(ok k).la]; exact t.ent.1)
  have dis : ∀ k v, v ∈ (f k).across → v ∉ (f k).down := fun k v h1 h2 => (List.nodup_append.mp (ok k).nd).2.2 v h1 v h2 rfl
  have in1 : en k0 ∈ (f (k0 + 1)).down := by
    rw [t0.eq]
    unfold swp
    have := t0.lev.1
    exact List.mem_iff_getElem?.mpr ⟨r0, by rw [List.getElem?_set, if_pos rfl, if_pos (by rw [(ok k0).ld]; exact this)]⟩
  have leave : ∀ j, en k0 ∈ (f (k0 + 1)).down → en k0 ∉ (f (k0 + 1 + j)).down → ∃ k1 c1 r1, Turn P (f k1) (f (k1 + 1)) c1 r1 ∧ (f k1).down.getD r1 0 = en k0 := fun j h1 h2 => by
    induction j with
    | zero => exact absurd h1 h2
    | succ j ih =>
      by_cases q : en k0 ∈ (f (k0 + 1 + j)).down
      · obtain ⟨c, r, t⟩ := tn (k0 + 1 + j)
        refine ⟨_, c, r, t, ?_⟩
        have h2' : en k0 ∉ (f (k0 + 1 + j + 1)).down := h2
        rw [t.eq] at h2'
        obtain ⟨i, hi, e⟩ := List.mem_iff_getElem.mp q
        by_cases ei : i = r
        · subst ei
          rw [List.getD_eq_getElem?_getD, List.getElem?_eq_getElem hi]
          exact e
        · refine absurd ?_ h2'
          unfold swp
          exact List.mem_iff_getElem?.mpr ⟨i, by rw [List.getElem?_set, if_neg (Ne.symm ei), List.getElem?_eq_getElem hi, e]⟩
      · exact ih q
  obtain ⟨k1, c1, r1, t1, e1⟩ := leave (p - 1) in1 (by
    rw [show k0 + 1 + (p - 1) = k0 + p by omega, per]
    exact dis k0 _ (inA k0 r0 t0))
  -- e enters at k1; it is less than t
  have ec : c1 = Classical.choose (tn k1) := by
    obtain ⟨r', t'⟩ := enT k1
    exact getD_inj (List.nodup_append.mp (ok k1).nd).1 (by rw [(ok k1).la]; exact t1.ent.1) (by rw [(ok k1).la]; exact t'.ent.1) (Nat.le_antisymm (t1.ent.2.2 _ t'.ent.1 t'.ent.2.1) (t'.ent.2.2 _ t1.ent.1 t1.ent.2.1))
  have ee : (f k1).across.getD c1 0 = en k1 := by rw [ec]
  have memA : (f k1).across.getD c1 0 ∈ (f k1).across := getD_mem (by rw [(ok k1).la]; exact t1.ent.1)
  have memD : en k0 ∈ (f k1).down := by
    rw [← e1]
    exact getD_mem (by rw [(ok k1).ld]; exact t1.lev.1)
  have ne : (f k1).across.getD c1 0 ≠ en k0 := fun z => dis k1 _ memA (by rw [z]; exact memD)
  have lt : (f k1).across.getD c1 0 < en k0 := by
    have := top k1
    omega
  -- what is below t gains nothing at k0
  have gain : ∀ v, v < en k0 → v < P.n + P.m → (v ∈ (f k0).across ∨ v ∈ (f k0).down) → 0 ≤ g P (f k0) P.m (P.col v) := fun v hv _ hm => by
    rcases hm with hm | hm
    · obtain ⟨c, hc, e⟩ := List.mem_iff_getElem.mp hm
      have e2 : (f k0).across.getD c 0 = v := by
        rw [List.getD_eq_getElem?_getD, List.getElem?_eq_getElem hc]
        exact e
      rw [(ok k0).la] at hc
      rcases Int.lt_or_le (g P (f k0) P.m (P.col v)) 0 with w | w
      · have z := t0.ent.2.2 c hc (by unfold gc; rw [e2]; exact w)
        rw [e2] at z
        have z2 : en k0 ≤ v := z
        omega
      · exact w
    · obtain ⟨c, hc, e⟩ := List.mem_iff_getElem.mp hm
      have e2 : (f k0).down.getD c 0 = v := by
        rw [List.getD_eq_getElem?_getD, List.getElem?_eq_getElem hc]
        exact e
      rw [(ok k0).ld] at hc
      have z := g_basic (ok k0).ld (show P.m < P.m + 1 by omega) hc (by omega)
      rw [e2] at z
      rw [z]
      exact Int.le_refl _
  have full : ∀ k v, v < P.n + P.m → v ∈ (f k).across ∨ v ∈ (f k).down := fun k v hv => by
    have nd := (ok k).nd
    have len : ((f k).across ++ (f k).down).length = P.n + P.m := by rw [List.length_append, (ok k).la, (ok k).ld]
    exact List.mem_append.mp (all_in nd (ok k).lt len hv)
  have cr := g_cramer (ok k1).ld (φ := fun v => g P (f k0) P.m v) (g_lin (ok k0).ld (show P.m < P.m + 1 by omega)) (g_loc (ok k0).ld (show P.m < P.m + 1 by omega)) (P.col ((f k1).across.getD c1 0))
  have ltA : (f k1).across.getD c1 0 < P.n + P.m := (ok k1).lt _ (List.mem_append_left _ memA)
  have ge : 0 ≤ g P (f k0) P.m (P.col ((f k1).across.getD c1 0)) := gain _ lt ltA (full k0 _ ltA)
  have neg : g P (f k1) P.m (P.col ((f k1).across.getD c1 0)) < 0 := t1.ent.2.1
  have z0 : g P (f k0) P.m (e P.m) = sc P (f k0) := g_last (ok k0).ld
  have posS : 0 < sm P.m fun i => g P (f k0) P.m (P.col ((f k1).down.getD i 0)) * g P (f k1) i (P.col ((f k1).across.getD c1 0)) := by
    have a1 : 0 ≤ sc P (f k1) * g P (f k0) P.m (P.col ((f k1).across.getD c1 0)) := Int.mul_nonneg (Int.le_of_lt (ok k1).pos) ge
    have a2 : g P (f k0) P.m (e P.m) * g P (f k1) P.m (P.col ((f k1).across.getD c1 0)) < 0 := by
      rw [z0]
      exact Int.mul_neg_of_pos_of_neg (ok k0).pos neg
    omega
  obtain ⟨i, hi, hpi⟩ := sm_pos posS
  have memi : (f k1).down.getD i 0 ∈ (f k1).down := getD_mem (by rw [(ok k1).ld]; exact hi)
  have lti : (f k1).down.getD i 0 < P.n + P.m := (ok k1).lt _ (List.mem_append_right _ memi)
  have nz : g P (f k0) P.m (P.col ((f k1).down.getD i 0)) ≠ 0 := fun z => by
    rw [z, Int.zero_mul] at hpi
    omega
  have nb : (f k1).down.getD i 0 ∉ (f k0).down := fun hm => by
    obtain ⟨c, hc, e'⟩ := List.mem_iff_getElem.mp hm
    have e2 : (f k0).down.getD c 0 = (f k1).down.getD i 0 := by
      rw [List.getD_eq_getElem?_getD (l := (f k0).down), List.getElem?_eq_getElem hc]
      exact e'
    rw [(ok k0).ld] at hc
    have z := g_basic (ok k0).ld (show P.m < P.m + 1 by omega) hc (by omega)
    rw [e2] at z
    exact nz z
  -- it is fickle
  obtain ⟨j, ej, _⟩ := later k1 k0
  obtain ⟨k', ek'⟩ := enter k0 j _ nb (by rw [ej]; exact memi)
  have le : (f k1).down.getD i 0 ≤ en k0 := by rw [← ek']; exact top k'
  have tneg : g P (f k0) P.m (P.col (en k0)) < 0 := t0.ent.2.1
  have r1pos : 0 < g P (f k1) r1 (P.col ((f k1).across.getD c1 0)) := t1.lev.2.1
  have ner : i ≠ r1 := fun z => by
    rw [z, e1] at hpi
    have := Int.mul_neg_of_neg_of_pos tneg r1pos
    omega
  have net : (f k1).down.getD i 0 ≠ en k0 := fun z => ner (getD_inj (List.nodup_append.mp (ok k1).nd).2.1 (by rw [(ok k1).ld]; exact hi) (by rw [(ok k1).ld]; exact t1.lev.1) (by rw [z, e1]))
  have gi : 0 ≤ g P (f k0) P.m (P.col ((f k1).down.getD i 0)) := gain _ (by omega) lti (full k0 _ lti)
  have gpos : 0 < gc P (f k1) i c1 := by
    rcases Int.lt_or_le 0 (gc P (f k1) i c1) with w | w
    · exact w
    · have := Int.mul_nonpos_of_nonneg_of_nonpos gi w
      unfold gc at this
      omega
  -- it stands at 0
  have b0 : g P (f k1) i P.b = 0 := allz k0 k1 _ (fun i' hi' e' => absurd (by rw [← e']; exact getD_mem (by rw [(ok k0).ld]; exact hi')) nb) i hi rfl
  have rb0 := deg k1 c1 r1 t1
  have := (t1.lev.2.2 i hi gpos).2 (by rw [b0, rb0, Int.zero_mul, Int.zero_mul])
  rw [e1] at this
  omega
/-- the method ends -/
theorem ends (h : Ok P x) : Acc (fun y x => Step P x y) x := by
  refine Classical.byContradiction fun na => ?_
  let T := { y : Cfg // Ok P y ∧ ¬ Acc (fun y x => Step P x y) y }
  have next : ∀ t : T, ∃ u : T, Step P t.1 u.1 := fun t => by
    refine Classical.byContradiction fun q => t.2.2 ⟨_, fun y s => Classical.byContradiction fun ny => q ⟨⟨y, t.2.1.step s, ny⟩, s⟩⟩
  let nx : T → T := fun t => Classical.choose (next t)
  have nxs : ∀ t, Step P t.1 (nx t).1 := fun t => Classical.choose_spec (next t)
  let F : Nat → T := fun k => Nat.rec ⟨x, h, na⟩ (fun _ t => nx t) k
  have FS : ∀ k, Step P (F k).1 (F (k + 1)).1 := fun k => nxs (F k)
  have lens : ∀ k, ((F k).1.across ++ (F k).1.down).length = P.n + P.m := fun k => by rw [List.length_append, (F k).2.1.la, (F k).2.1.ld]
  obtain ⟨i, j, hij, e⟩ := pigeon (M := (P.n + P.m) ^ (P.n + P.m)) (h := fun k => code (P.n + P.m) ((F k).1.across ++ (F k).1.down)) fun k => by
    have z := code_lt (F k).2.1.lt
    rw [lens k] at z
    exact z
  have el := code_inj (F i).2.1.lt (F j).2.1.lt (by rw [lens, lens]) e
  have ea := List.append_inj el (by rw [(F i).2.1.la, (F j).2.1.la])
  have ex : (F i).1 = (F j).1 := by
    have h1 : ∀ a b : Cfg, a.across = b.across → a.down = b.down → a = b := fun a b h1 h2 => by
      cases a; cases b
      simp only at h1 h2
      rw [h1, h2]
    exact h1 _ _ ea.1 ea.2
  have same : ∀ k, (F (j + k)).1 = (F (i + k)).1 := fun k => by
    induction k with
    | zero => exact ex.symm
    | succ k ih =>
      have s1 := FS (j + k)
      rw [ih] at s1
      exact Step.det (F (i + k)).2.1 s1 (FS (i + k))
  refine no_round (f := fun k => (F (i + k)).1) (p := j - i) (by omega) (fun k => (F (i + k)).2.1) (fun k => FS (i + k)) fun k => ?_
  show (F (i + (k + (j - i)))).1 = (F (i + k)).1
  rw [show i + (k + (j - i)) = j + k by omega]
  exact same k
/-- how many steps are left -/
def Left (P : Pr) : Nat → Cfg → Prop
  | 0, x => ∀ y, ¬ Step P x y
  | n + 1, x => ∀ y, Step P x y → Left P n y
theorem left_ex (h : Ok P x) : ∃ n, Left P n x := by
  have a := ends h
  induction a with
  | intro x _ ih =>
    by_cases q : ∃ y, Step P x y
    · obtain ⟨y, s⟩ := q
      obtain ⟨n, hn⟩ := ih y s (h.step s)
      exact ⟨n + 1, fun z t => by rw [← Step.det h s t]; exact hn⟩
    · exact ⟨0, fun y s => q ⟨y, s⟩⟩
end
end Sx

namespace Sx
open Dt
section
variable {P : Pr} {x : Cfg}
/-- a number of the grid; the last column has the limits -/
def ent (P : Pr) (x : Cfg) (i j : Nat) : Int := if j < P.n then gc P x i j else g P x i P.b
theorem ent_row {r c j : Nat} (h : Ok P x) (hr : r < P.m) (hc : c < P.n) (hj : j ≤ P.n) : ent P (swp x r c) r j = if j = c then sc P x else ent P x r j := by
  unfold ent
  by_cases e : j = c
  · subst e
    rw [if_pos rfl, if_pos hc]
    unfold gc
    rw [g_row h.ld hr]
    unfold swp
    simp only [getD_set]
    rw [if_pos ⟨trivial, by rw [h.la]; exact hc⟩, g_own h.ld hr]
  · rw [if_neg e]
    by_cases hn : j < P.n
    · rw [if_pos hn, if_pos hn]
      unfold gc
      rw [g_row h.ld hr]
      unfold swp
      simp only [getD_set]
      rw [if_neg fun q => e q.1.symm]
    · rw [if_neg hn, if_neg hn, g_row h.ld hr]
theorem ent_else {r c i j : Nat} (h : Ok P x) (hr : r < P.m) (hc : c < P.n) (hi : i ≤ P.m) (ne : i ≠ r) (hj : j ≤ P.n) :
    ent P (swp x r c) i j = if j = c then - ent P x i c else (ent P x i j * ent P x r c - ent P x i c * ent P x r j) / sc P x := by
  have ec : ∀ i, ent P x i c = gc P x i c := fun i => by unfold ent; rw [if_pos hc]
  rw [ec, ec]
  by_cases e : j = c
  · subst e
    rw [if_pos rfl]
    unfold ent
    rw [if_pos hc]
    have z := g_old (c := j) (i := i) h.ld (by have := h.pos; omega) hr (by omega) ne
    rw [← z]
    unfold gc
    have w : (swp x r j).across.getD j 0 = x.down.getD r 0 := by
      unfold swp
      simp only [getD_set]
      rw [if_pos ⟨trivial, by rw [h.la]; exact hc⟩]
    rw [w]
  · rw [if_neg e]
    have key : ∀ y : Vec, g P (swp x r c) i y = (g P x i y * gc P x r c - gc P x i c * g P x r y) / sc P x := fun y => by
      have z := g_swp (c := c) h.ld hr (show i < P.m + 1 by omega) ne y
      rw [show g P x i y * gc P x r c - gc P x i c * g P x r y = sc P x * g P (swp x r c) i y by rw [z]; grind]
      rw [Int.mul_ediv_cancel_left _ (by have := h.pos; omega)]
    unfold ent
    by_cases hn : j < P.n
    · rw [if_pos hn, if_pos hn, if_pos hn]
      have w : (swp x r c).across.getD j 0 = x.across.getD j 0 := by
        unfold swp
        simp only [getD_set]
        rw [if_neg fun q => e q.1.symm]
      show g P (swp x r c) i (P.col ((swp x r c).across.getD j 0)) = _
      rw [w, key]
      rfl
    · rw [if_neg hn, if_neg hn, if_neg hn, key]
/-- all numbers of the columns -/
def Small (P : Pr) (C : Nat) : Prop := 1 ≤ C ∧ (∀ v, v < P.n + P.m → ∀ i, i < P.m + 1 → (P.col v i).natAbs ≤ C) ∧ ∀ i, i < P.m + 1 → (P.b i).natAbs ≤ C
def big (P : Pr) (C : Nat) : Nat := fact (P.m + 1) * C ^ (P.m + 1)
theorem Bs_small {C : Nat} (h : Ok P x) (s : Small P C) : ∀ v ∈ Bs P x, ∀ i, i < P.m + 1 → (v i).natAbs ≤ C := fun v hv i hi => by
  unfold Bs at hv
  rcases List.mem_append.mp hv with hv | hv
  · obtain ⟨w, hw, rfl⟩ := List.mem_map.mp hv
    exact s.2.1 w (h.lt w (List.mem_append_right _ hw)) i hi
  · rw [List.mem_singleton.mp hv]
    unfold e
    have := s.1
    split <;> omega
theorem sc_big {C : Nat} (h : Ok P x) (s : Small P C) : (sc P x).natAbs ≤ big P C := D_bound _ _ (Bs_len h.ld) (Bs_small h s)
theorem g_big {C : Nat} (h : Ok P x) (s : Small P C) {i : Nat} {v : Vec} (hv : ∀ t, t < P.m + 1 → (v t).natAbs ≤ C) : (g P x i v).natAbs ≤ big P C := by
  refine D_bound _ _ (by rw [List.length_set]; exact Bs_len h.ld) fun w hw t ht => ?_
  rcases List.mem_or_eq_of_mem_set hw with hw | rfl
  · exact Bs_small h s w hw t ht
  · exact hv t ht
theorem ent_big {C : Nat} (h : Ok P x) (s : Small P C) {i j : Nat} : (ent P x i j).natAbs ≤ big P C := by
  unfold ent
  by_cases hn : j < P.n
  · rw [if_pos hn]
    exact g_big h s fun t ht => s.2.1 _ (h.lt _ (List.mem_append_left _ (getD_mem (by rw [h.la]; exact hn)))) t ht
  · rw [if_neg hn]
    exact g_big h s fun t ht => s.2.2 t ht
/-- the value of an unknown, times the scale -/
def X (P : Pr) (x : Cfg) (v : Nat) : Int := sm P.m fun i => if x.down.getD i 0 = v then g P x i P.b else 0
/-- the price of a row, times the scale -/
def Y (P : Pr) (x : Cfg) (i : Nat) : Int := g P x P.m (e i)
theorem X_at (h : Ok P x) {i : Nat} (hi : i < P.m) : X P x (x.down.getD i 0) = g P x i P.b := by
  unfold X
  rw [sm_one hi fun j hj ne => if_neg fun q => ne (getD_inj (List.nodup_append.mp h.nd).2.1 (by rw [h.ld]; exact hj) (by rw [h.ld]; exact hi) q), if_pos rfl]
theorem X_not {v : Nat} (h : Ok P x) (hv : v ∉ x.down) : X P x v = 0 := sm_zero fun i hi => if_neg fun q => hv (by
  rw [← q]
  exact getD_mem (by rw [h.ld]; exact hi))
theorem X_nonneg (h : Ok P x) (v : Nat) : 0 ≤ X P x v := by
  have : ∀ n, n ≤ P.m → 0 ≤ sm n fun i => if x.down.getD i 0 = v then g P x i P.b else 0 := fun n => by
    induction n with
    | zero => intro _; exact Int.le_refl _
    | succ n ih =>
      intro hn
      have a := ih (by omega)
      have b := h.feas n (by omega)
      simp only [sm]
      split <;> omega
  exact this _ (Nat.le_refl _)
theorem sm_comm {n m : Nat} {f : Nat → Nat → Int} : (sm n fun i => sm m fun j => f i j) = sm m fun j => sm n fun i => f i j := by
  induction n with
  | zero => exact (sm_zero fun _ _ => rfl).symm
  | succ n ih =>
    simp only [sm]
    rw [ih, ← sm_add]
/-- a form over the unknowns -/
theorem X_form (h : Ok P x) {φ : Vec → Int} (hl : ∀ a b u w, φ (add a b u w) = a * φ u + b * φ w) (hk : ∀ u w, Same (P.m + 1) u w → φ u = φ w) :
    sc P x * φ P.b = (sm (P.n + P.m) fun v => φ (P.col v) * X P x v) + φ (e P.m) * val P x := by
  rw [g_cramer h.ld hl hk P.b]
  congr 1
  have e1 : (sm (P.n + P.m) fun v => φ (P.col v) * X P x v) = sm (P.n + P.m) fun v => sm P.m fun i => φ (P.col v) * (if x.down.getD i 0 = v then g P x i P.b else 0) := sm_congr fun v hv => by
    unfold X
    rw [← sm_mul]
  rw [e1, sm_comm]
  refine sm_congr fun i hi => ?_
  have lt : x.down.getD i 0 < P.n + P.m := h.lt _ (List.mem_append_right _ (getD_mem (by rw [h.ld]; exact hi)))
  rw [sm_one lt fun v hv ne => by rw [if_neg (Ne.symm ne), Int.mul_zero], if_pos rfl]
/-- no unknown makes the sum greater -/
def Best (P : Pr) (x : Cfg) : Prop := ∀ c, c < P.n → 0 ≤ gc P x P.m c
theorem best_all (h : Ok P x) (b : Best P x) {v : Nat} (hv : v < P.n + P.m) : 0 ≤ g P x P.m (P.col v) := by
  have len : (x.across ++ x.down).length = P.n + P.m := by rw [List.length_append, h.la, h.ld]
  rcases List.mem_append.mp (all_in h.nd h.lt len hv) with hm | hm
  · obtain ⟨c, hc, e'⟩ := List.mem_iff_getElem.mp hm
    have e2 : x.across.getD c 0 = v := by
      rw [List.getD_eq_getElem?_getD, List.getElem?_eq_getElem hc]
      exact e'
    rw [h.la] at hc
    have := b c hc
    unfold gc at this
    rw [e2] at this
    exact this
  · obtain ⟨c, hc, e'⟩ := List.mem_iff_getElem.mp hm
    have e2 : x.down.getD c 0 = v := by
      rw [List.getD_eq_getElem?_getD, List.getElem?_eq_getElem hc]
      exact e'
    rw [h.ld] at hc
    have z := g_basic h.ld (show P.m < P.m + 1 by omega) hc (by omega)
    rw [e2] at z
    rw [z]
    exact Int.le_refl _
theorem Y_form (h : Ok P x) (v : Vec) : g P x P.m v = (sm P.m fun t => Y P x t * v t) + sc P x * v P.m := by
  have z := form (g_lin h.ld (show P.m < P.m + 1 by omega)) (g_loc h.ld (show P.m < P.m + 1 by omega)) v
  rw [z]
  simp only [sm]
  rw [g_last h.ld]
  rfl
end
def prOf (n m : Nat) (A : Nat → Nat → Int) (L w : Nat → Int) : Pr :=
  ⟨n, m, fun v => if v < n then (fun i => if i < m then A i v else if i = m then - w v else 0) else e (v - n), fun i => if i < m then L i else 0⟩
def begins (n m : Nat) : Cfg := ⟨List.range n, (List.range m).map fun i => n + i⟩
section
variable {n m : Nat} {A : Nat → Nat → Int} {L w : Nat → Int}
theorem begin_Bs : Bs (prOf n m A L w) (begins n m) = units (m + 1) := by
  unfold Bs begins prOf units
  rw [List.map_map, List.range_succ, List.map_append]
  congr 1
  refine List.map_congr_left fun i hi => ?_
  show (if n + i < n then _ else e (n + i - n)) = e i
  rw [if_neg (by omega), show n + i - n = i by omega]
theorem begin_g {i : Nat} (hi : i < m + 1) (v : Vec) : g (prOf n m A L w) (begins n m) i v = v i := by
  unfold g
  rw [begin_Bs]
  exact W_unit_set hi v
theorem begin_sc : sc (prOf n m A L w) (begins n m) = 1 := by
  unfold sc
  rw [begin_Bs]
  exact W_units (m + 1)
theorem begin_ok (hL : ∀ i, i < m → 0 ≤ L i) : Ok (prOf n m A L w) (begins n m) := by
  refine ⟨by simp [begins, prOf], by simp [begins, prOf], ?_, ?_, by rw [begin_sc]; decide, fun i hi => ?_⟩
  · have e1 : (begins n m).across ++ (begins n m).down = List.range (n + m) := by
      unfold begins
      rw [List.range_add]
    rw [e1]
    exact List.nodup_range
  · intro v hv
    have e1 : (begins n m).across ++ (begins n m).down = List.range (n + m) := by
      unfold begins
      rw [List.range_add]
    rw [e1] at hv
    exact List.mem_range.mp hv
  · have hi' : i < m := hi
    rw [begin_g (by omega)]
    show 0 ≤ (if i < m then L i else 0)
    rw [if_pos hi']
    exact hL i hi'
theorem begin_ent {i j : Nat} (hi : i < m + 1) (hj : j < n + 1) : ent (prOf n m A L w) (begins n m) i j = if j < n then (if i < m then A i j else - w j) else if i < m then L i else 0 := by
  unfold ent
  by_cases hn : j < n
  · rw [if_pos (show j < (prOf n m A L w).n from hn), if_pos hn]
    unfold gc
    rw [begin_g hi]
    have e1 : (begins n m).across.getD j 0 = j := by
      unfold begins
      rw [List.getD_eq_getElem?_getD, List.getElem?_range hn]
      rfl
    rw [e1]
    show (if j < n then (fun i => if i < m then A i j else if i = m then - w j else 0) else e (j - n)) i = _
    rw [if_pos hn]
    by_cases hm : i < m
    · simp [hm]
    · have : i = m := by omega
      simp [this]
  · rw [if_neg (show ¬ j < (prOf n m A L w).n from hn), if_neg hn, begin_g hi]
    rfl
/-- what is reached from the begin -/
inductive Reach (P : Pr) : Cfg → Cfg → Prop
  | refl (x : Cfg) : Reach P x x
  | step {x y z : Cfg} : Reach P x y → Step P y z → Reach P x z
theorem Reach.ok {P : Pr} {x y : Cfg} (r : Reach P x y) (h : Ok P x) : Ok P y := by
  induction r with
  | refl => exact h
  | step _ s ih => exact ih.step s
theorem Reach.trans {P : Pr} {x y z : Cfg} (a : Reach P x y) (b : Reach P y z) : Reach P x z := by
  induction b with
  | refl => exact a
  | step _ s ih => exact .step ih s
/-- there is one end -/
theorem Reach.end_one {P : Pr} {x y z : Cfg} (h : Ok P x) (a : Reach P x y) (b : Reach P x z) (ha : ∀ u, ¬ Step P y u) (hb : ∀ u, ¬ Step P z u) : y = z := by
  have line : ∀ {y z : Cfg}, Reach P x y → Reach P x z → Reach P y z ∨ Reach P z y := fun {y z} a b => by
    induction a with
    | refl => exact .inl b
    | @step y1 y2 r s ih =>
      rcases ih with q | q
      · have first : ∀ {u v : Cfg}, Reach P u v → u = v ∨ ∃ u', Step P u u' ∧ Reach P u' v := fun {u v} r => by
          induction r with
          | refl => exact .inl rfl
          | step _ s ih =>
            rcases ih with rfl | ⟨u', s', r'⟩
            · exact .inr ⟨_, s, .refl _⟩
            · exact .inr ⟨u', s', .step r' s⟩
        rcases first q with rfl | ⟨u', s', r'⟩
        · exact .inr (.step (.refl _) s)
        · rw [← Step.det (r.ok h) s s'] at r'
          exact .inl r'
      · exact .inr (.step q s)
  have stop : ∀ {u v : Cfg}, Reach P u v → (∀ w, ¬ Step P u w) → u = v := fun {u v} r hu => by
    induction r with
    | refl => rfl
    | step _ s ih => exact absurd s (by rw [← ih]; exact hu _)
  rcases line a b with q | q
  · exact stop q ha
  · exact (stop q hb).symm
end
/-- the order of the rows by which one leaves -/
def Ra (P : Pr) (x : Cfg) (c r s : Nat) : Prop := g P x r P.b * gc P x s c ≤ g P x s P.b * gc P x r c ∧ (g P x r P.b * gc P x s c = g P x s P.b * gc P x r c → x.down.getD r 0 ≤ x.down.getD s 0)
theorem Ra.refl {P : Pr} {x : Cfg} {c r : Nat} : Ra P x c r r := ⟨Int.le_refl _, fun _ => Nat.le_refl _⟩
theorem Ra.tr {P : Pr} {x : Cfg} {c r f s : Nat} (hr : 0 < gc P x r c) (hf : 0 < gc P x f c) (hs : 0 < gc P x s c) (a : Ra P x c r f) (b : Ra P x c f s) : Ra P x c r s := by
  unfold Ra at *
  obtain ⟨a1, a2⟩ := a
  obtain ⟨b1, b2⟩ := b
  generalize g P x r P.b = gr at *
  generalize g P x f P.b = gf at *
  generalize g P x s P.b = gs at *
  generalize gc P x r c = ar at *
  generalize gc P x f c = af at *
  generalize gc P x s c = as at *
  have h1 : gr * af * as ≤ gf * ar * as := Int.mul_le_mul_of_nonneg_right a1 (Int.le_of_lt hs)
  have h2 : gf * as * ar ≤ gs * af * ar := Int.mul_le_mul_of_nonneg_right b1 (Int.le_of_lt hr)
  have h3 : (gr * as) * af ≤ (gs * ar) * af := by grind
  refine ⟨Int.le_of_mul_le_mul_right h3 hf, fun e => ?_⟩
  have q1 : gr * af * as = gs * af * ar := by
    have z : gr * as * af = gs * ar * af := by rw [e]
    have z1 : gr * as * af = gr * af * as := by rw [Int.mul_assoc, Int.mul_comm as af, ← Int.mul_assoc]
    have z2 : gs * ar * af = gs * af * ar := by rw [Int.mul_assoc, Int.mul_comm ar af, ← Int.mul_assoc]
    omega
  have q2 : gf * as * ar = gf * ar * as := by rw [Int.mul_assoc, Int.mul_comm as ar, ← Int.mul_assoc]
  have e1 : gr * af * as = gf * ar * as := by omega
  have e2 : gf * as * ar = gs * af * ar := by omega
  have e3 : gr * af = gf * ar := Int.eq_of_mul_eq_mul_right (by omega) e1
  have e4 : gf * as = gs * af := Int.eq_of_mul_eq_mul_right (by omega) e2
  exact Nat.le_trans (a2 e3) (b2 e4)
end Sx

namespace Fr
open PySem PySem.Spec PyProof.Rows L2
abbrev s_Tableau_entering : Stmt := inClass (topS 41) 1
theorem sc_Tableau_entering : FnScope ["self", "found", "column", "unknown"] ["self"] (defScope s_Tableau_entering) := ⟨rfl, rfl, rfl, by decide +kernel, rfl, by decide +kernel, by decide +kernel⟩
-- slots: 0 self, 1 found, 2 column, 3 unknown
abbrev s_Tableau_leaving : Stmt := inClass (topS 41) 2
theorem sc_Tableau_leaving : FnScope ["self", "column", "rows", "row", "found", "more"] ["self", "column"] (defScope s_Tableau_leaving) := ⟨rfl, rfl, rfl, by decide +kernel, rfl, by decide +kernel, by decide +kernel⟩
-- slots: 0 self, 1 column, 2 rows, 3 row, 4 found, 5 more
abbrev s_Tableau_exchange : Stmt := inClass (topS 41) 3
theorem sc_Tableau_exchange : FnScope ["self", "row", "column", "pivot_row", "pivot", "line", "factor", "place", "number"] ["self", "row", "column"] (defScope s_Tableau_exchange) := ⟨rfl, rfl, rfl, by decide +kernel, rfl, by decide +kernel, by decide +kernel⟩
-- slots: 0 self, 1 row, 2 column, 3 pivot_row, 4 pivot, 5 line, 6 factor, 7 place, 8 number
structure TxtT (K : PySem.W.Frag) (mg : Str → Option Value) (C : Addr) : Prop where
  cl : Cls K C
  nG : NoAttr K C "grid"
  nS : NoAttr K C "scale"
  nA : NoAttr K C "across"
  nD : NoAttr K C "down"
  g_Tableau : mg "Tableau" = some (.ref C)
def tabF (G : Addr) (s : Int) (A D : Addr) : List (Str × V) := [("grid", .ref G), ("scale", .int s), ("across", .ref A), ("down", .ref D)]
def rowV (P : Sx.Pr) (x : Sx.Cfg) (i : Nat) : List V := (List.range (P.n + 1)).map fun j => V.int (Sx.ent P x i j)
def natV (l : List Nat) : List V := l.map fun (v : Nat) => V.int (v : Int)
structure Fits (P : Sx.Pr) : Prop where
  n : P.n ≤ 1000
  m : P.m ≤ 1000
  c : ∃ C, Sx.Small P C ∧ Sx.big P C < 2 ^ 4000
structure Tab (C : Addr) (H : Hp) (t : Addr) (P : Sx.Pr) (x : Sx.Cfg) (G A D : Addr) (rs : List Addr) : Prop where
  ins : ∃ dx, H t = some (.ins C dx (tabF G (Sx.sc P x) A D))
  grid : H G = some (.lst (rs.map V.ref))
  len : rs.length = P.m + 1
  row : ∀ i a, rs[i]? = some a → H a = some (.lst (rowV P x i))
  ac : H A = some (.lst (natV x.across))
  dn : H D = some (.lst (natV x.down))
  nd : (G :: A :: D :: rs).Nodup
  ok : Sx.Ok P x
theorem Tab.same {C : Addr} {H H' : Hp} {t : Addr} {P : Sx.Pr} {x : Sx.Cfg} {G A D : Addr} {rs : List Addr} (h : Tab C H t P x G A D rs) (e : Same H H') : Tab C H' t P x G A D rs := by
  obtain ⟨⟨dx, h1⟩, h2, h3, h4, h5, h6, h7, h8⟩ := h
  exact ⟨⟨dx, e _ _ h1⟩, e _ _ h2, h3, fun i a q => e _ _ (h4 i a q), e _ _ h5, e _ _ h6, h7, h8⟩
theorem natV_len (l : List Nat) : (natV l).length = l.length := by simp [natV]
theorem natV_at {l : List Nat} {i : Nat} (h : i < l.length) : (natV l)[i]? = some (V.int ((l.getD i 0 : Nat) : Int)) := by
  unfold natV
  rw [List.getElem?_map, List.getD_eq_getElem?_getD, List.getElem?_eq_getElem h]
  rfl
theorem rowV_len (P : Sx.Pr) (x : Sx.Cfg) (i : Nat) : (rowV P x i).length = P.n + 1 := by simp [rowV]
theorem rowV_at {P : Sx.Pr} {x : Sx.Cfg} {i j : Nat} (h : j < P.n + 1) : (rowV P x i)[j]? = some (V.int (Sx.ent P x i j)) := by
  unfold rowV
  rw [List.getElem?_map, List.getElem?_range h]
  rfl
theorem Tab.at {C : Addr} {H : Hp} {t : Addr} {P : Sx.Pr} {x : Sx.Cfg} {G A D : Addr} {rs : List Addr} (h : Tab C H t P x G A D rs) {i : Nat} (hi : i < P.m + 1) : ∃ a, rs[i]? = some a ∧ H a = some (.lst (rowV P x i)) ∧ (rs.map V.ref)[i]? = some (.ref a) := by
  have hl := h.len
  have e : rs[i]? = some rs[i] := List.getElem?_eq_getElem (by omega)
  exact ⟨_, e, h.row i _ e, by rw [List.getElem?_map, e]; rfl⟩
theorem atI_m1 {α : Type} {xs : List α} {n : Nat} {v : α} (h : xs[n]? = some v) (hn : xs.length = n + 1) : atI xs (-1) = some v := by
  have e : ixN xs.length (-1) = some n := by
    unfold ixN
    rw [hn, if_neg (by decide), if_pos (by omega)]
    congr 1
    omega
  unfold atI
  rw [e]
  exact h
theorem cut_from (xs : List V) (i : Nat) : cutV xs (some (i : Int)) none = xs.drop i := by
  unfold cutV
  rw [HT.sIx_none]
  have e : HT.sIx xs.length 0 (some (i : Int)) = min i xs.length := by
    show (if (i : Int) < 0 then ((i : Int) + (xs.length : Int)).toNat else min (i : Int).toNat xs.length) = _
    rw [if_neg (by omega), Int.toNat_natCast]
  rw [e]
  by_cases h : i ≤ xs.length
  · rw [Nat.min_eq_left h, List.take_of_length_le (by rw [List.length_drop]; exact Nat.le_refl _)]
  · rw [Nat.min_eq_right (by omega), List.drop_length, List.drop_eq_nil_of_le (by omega), List.take_nil]
theorem ent_gc {P : Sx.Pr} {x : Sx.Cfg} {i c : Nat} (h : c < P.n) : Sx.ent P x i c = Sx.gc P x i c := by
  unfold Sx.ent
  rw [if_pos h]
theorem ent_b {P : Sx.Pr} {x : Sx.Cfg} {i : Nat} : Sx.ent P x i P.n = Sx.g P x i P.b := by
  unfold Sx.ent
  rw [if_neg (Nat.lt_irrefl _)]
section
variable {P : Program} {w : World} {K : PySem.W.Frag} {mg : Str → Option Value} {base : Heap}
def spEntering (K : PySem.W.Frag) (C : Addr) : Sp := fun vs H Q _ => ∃ (t : Addr) (L : Sx.Pr) (x : Sx.Cfg) (G A D : Addr) (rs : List Addr), vs = [.ref t] ∧ Tab C H t L x G A D rs ∧ Fits L ∧
  ∀ y H', Same H H' → ((y = .non ∧ Sx.Best L x) ∨ ∃ c : Nat, y = .int (c : Nat) ∧ Sx.Enters L x c) → Q y H'
theorem ok_entering {f C : Addr} {fd : FuncData} (F : Fun K "entering" "Tableau.entering" s_Tableau_entering f fd) (T : Txt mg) (TT : TxtT K mg C) : FnOk P w K mg base CX0 1 f fd ["self"] (spEntering K C) := by
  refine F.ok sc_Tableau_entering (fun vs H Q E h => ?_) (fun cdv Ar outer s H vs Q E hr h => ?_)
  · obtain ⟨t, L, x, G, A, D, rs, rfl, _⟩ := h
    rfl
  · obtain ⟨t, L, x, G, A, D, rs, rfl, TB, FI, q⟩ := h
    refine ⟨_, (pss_cons (ps_set (i := 1) sc_Tableau_entering.nd rfl (by first | exact Or.inl rfl | exact Or.inr rfl) pe_non)
  (pss_cons (ps_for PassesOwn.never rfl (pi_enum (by rfl) T.b_enumerate (pa_cons (pe_fld (pv 0) rfl) pa_nil)) (pg_tup rfl (pgs_cons (pg_name (i := 2) sc_Tableau_entering.nd rfl (by first | exact Or.inl rfl | exact Or.inr rfl)) (pgs_cons (pg_name (i := 3) sc_Tableau_entering.nd rfl (by first | exact Or.inl rfl | exact Or.inr rfl)) pgs_nil)))
    (pss_one (ps_if (PW.pt (pw_and (pt_cmpR op_lt (pe_ix ix_list (pe_ix ix_list (pe_fld (pv 0) rfl) (pe_un un_neg pe_int) (fun _ _ => rfl)) (pv 2) (fun _ _ => rfl)) pe_int (nomark _)) (pw_and1 (PW.pt (pw_or (pt_cmpR op_isN (pv 1) pe_non (nomark _)) (pw_or1 (pt_cmpR op_lt (pv 3) (pe_ix ix_list (pe_fld (pv 0) rfl) (pv 1) (fun _ _ => rfl)) (nomark _))))))))
      (pss_one (ps_set (i := 1) sc_Tableau_entering.nd rfl (by first | exact Or.inl rfl | exact Or.inr rfl) (pv 2)))
      pss_nil)))
  (pss_one (ps_ret (pv 1))))), ?_⟩
    obtain ⟨dx, hins⟩ := TB.ins
    have la := TB.ok.la
    refine ⟨_, rfl, t, C, dx, _, _, rfl, hins, TT.cl, TT.nA, rfl, A, natV x.across, rfl, Or.inl (Or.inl TB.ac), for_it (walk_enum (K := K) (a := A) (xs := natV x.across))
      (fun i σ H2 => ∃ y1 y2 y3, σ = [some (.ref t), some y1, y2, y3] ∧ Same H H2 ∧ ((y1 = .non ∧ ∀ c, c < i → 0 ≤ Sx.gc L x L.m c) ∨ ∃ c : Nat, y1 = .int (c : Nat) ∧ c < i ∧ Sx.gc L x L.m c < 0 ∧ ∀ c', c' < i → Sx.gc L x L.m c' < 0 → x.across.getD c 0 ≤ x.across.getD c' 0))
      ⟨_, none, none, rfl, same_refl, .inl ⟨rfl, fun c h => absurd h (Nat.not_lt_zero _)⟩⟩ (fun i σ H2 _ ⟨_, _, _, _, s2, _⟩ => Or.inl (Or.inl (s2 _ _ TB.ac))) ?_ ?_⟩
    · rintro i v σ H2 H3 hi ⟨y1, y2, y3, rfl, s2, hf⟩ ⟨Tp, z1, z2, rfl, hT, rfl, e1, e2⟩
      rw [natV_len] at hi
      have hin : i < L.n := by omega
      cases e1
      replace e2 : (natV x.across)[i]? = some z2 := e2
      rw [natV_at hi] at e2
      cases e2
      have s3 : Same H (upd H2 Tp (.tup [.int (i : Nat), .int ((x.across.getD i 0 : Nat) : Int)])) := same_tr s2 (snew hT)
      have TB3 := TB.same s3
      obtain ⟨dx3, hins3⟩ := TB3.ins
      obtain ⟨ra, r1, r2, r3⟩ := TB3.at (show L.m < L.m + 1 by omega)
      have rlen : (rs.map V.ref).length = L.m + 1 := by rw [List.length_map]; exact TB.len
      refine ⟨Tp, _, rfl, Or.inl (Or.inl upd_same), rfl, _, _, rfl, _, _, rfl, rfl, ?_⟩
      refine ⟨_, rfl, t, C, dx3, _, _, rfl, hins3, TT.cl, TT.nG, rfl, 1, rfl, G, _, -1, .ref ra, rfl, rfl, Or.inl (Or.inl TB3.grid), atI_m1 r3 rlen, _, rfl, ra, _, (i : Int), _, rfl, rfl, Or.inl (Or.inl r2), atI_nat (rowV_at (by omega)), _, _, rfl, rfl, _, rfl, ?_⟩
      have ek : Sx.ent L x L.m i = Sx.gc L x L.m i := ent_gc hin
      rw [ek]
      refine ite2 (fun h1 => ?_) (fun h1 => ?_)
      · have neg := of_decide_eq_true h1
        refine ⟨_, rfl, rfl, _, rfl, ?_⟩
        rcases hf with ⟨rfl, hall⟩ | ⟨c, rfl, hc, hcn, hmin⟩
        · refine iteT ⟨_, rfl, _, _, _, rfl, s3, .inr ⟨i, rfl, by omega, neg, fun c' h1 h2 => ?_⟩⟩
          by_cases e : c' = i
          · rw [e]
            exact Nat.le_refl _
          · have := hall c' (by omega)
            omega
        · refine iteF ?_
          refine ⟨_, rfl, _, rfl, t, C, dx3, _, _, rfl, hins3, TT.cl, TT.nA, rfl, _, rfl, A, _, (c : Int), _, rfl, rfl, Or.inl (Or.inl TB3.ac), atI_nat (natV_at (by omega)), _, _, rfl, rfl, _, rfl, ?_⟩
          refine ite2 (fun h2 => ?_) (fun h2 => ?_)
          · have lt := of_decide_eq_true h2
            refine ⟨_, rfl, _, _, _, rfl, s3, .inr ⟨i, rfl, by omega, neg, fun c' h1 h2 => ?_⟩⟩
            by_cases e : c' = i
            · rw [e]
              exact Nat.le_refl _
            · have := hmin c' (by omega) h2
              omega
          · have lt : ¬ ((x.across.getD i 0 : Nat) : Int) < ((x.across.getD c 0 : Nat) : Int) := by simpa using h2
            refine ⟨_, _, _, rfl, s3, .inr ⟨c, rfl, by omega, hcn, fun c' h1 h2 => ?_⟩⟩
            by_cases e : c' = i
            · rw [e]
              omega
            · exact hmin c' (by omega) h2
      · have nneg : ¬ Sx.gc L x L.m i < 0 := by simpa using h1
        refine ⟨_, _, _, rfl, s3, ?_⟩
        rcases hf with ⟨rfl, hall⟩ | ⟨c, rfl, hc, hcn, hmin⟩
        · refine .inl ⟨rfl, fun c' h1 => ?_⟩
          by_cases e : c' = i
          · rw [e]
            omega
          · exact hall c' (by omega)
        · refine .inr ⟨c, rfl, by omega, hcn, fun c' h1 h2 => ?_⟩
          by_cases e : c' = i
          · rw [e] at h2
            exact absurd h2 nneg
          · exact hmin c' (by omega) h2
    · rintro σ H2 ⟨y1, y2, y3, rfl, s2, hf⟩
      rw [natV_len, la] at hf
      refine ⟨_, rfl, ?_⟩
      rcases hf with ⟨rfl, hall⟩ | ⟨c, rfl, hc, hcn, hmin⟩
      · exact q _ H2 s2 (.inl ⟨rfl, hall⟩)
      · exact q _ H2 s2 (.inr ⟨c, rfl, hc, hcn, hmin⟩)
theorem ent4 {L : Sx.Pr} {x : Sx.Cfg} (FI : Fits L) (ok : Sx.Ok L x) (i j : Nat) : (Sx.ent L x i j).natAbs < 2 ^ 4000 := by
  obtain ⟨C, h1, h2⟩ := FI.c
  exact Nat.lt_of_le_of_lt (Sx.ent_big ok h1) h2
theorem sc4 {L : Sx.Pr} {x : Sx.Cfg} (FI : Fits L) (ok : Sx.Ok L x) : (Sx.sc L x).natAbs < 2 ^ 4000 := by
  obtain ⟨C, h1, h2⟩ := FI.c
  exact Nat.lt_of_le_of_lt (Sx.sc_big ok h1) h2
theorem ixN_nat {n j : Nat} (h : j < n) : ixN n (j : Int) = some j := by
  unfold ixN
  rw [if_pos (by omega), if_pos (by omega)]
  simp
theorem putF_scale {G A D : Addr} {s p : Int} : putF "scale" (.int p) (tabF G s A D) = tabF G p A D := by
  have h : ¬ (("grid" : Str) = "scale") := by decide +kernel
  show (if ("grid" : Str) = "scale" then _ else (("grid" : Str), V.ref G) :: (if ("scale" : Str) = "scale" then (("scale" : Str), V.int p) :: _ else _)) = _
  rw [if_neg h, if_pos rfl]
  rfl
def cand (L : Sx.Pr) (x : Sx.Cfg) (c : Nat) (n : Nat) : List Nat := (List.range n).filter fun r => decide (0 < Sx.gc L x r c)
def spLeaving (K : PySem.W.Frag) (C : Addr) : Sp := fun vs H Q _ => ∃ (t : Addr) (c : Nat) (L : Sx.Pr) (x : Sx.Cfg) (G A D : Addr) (rs : List Addr), vs = [.ref t, .int (c : Nat)] ∧ Tab C H t L x G A D rs ∧ Fits L ∧ c < L.n ∧
  ∀ y H', Same H H' → ((y = .non ∧ ∀ r, r < L.m → Sx.gc L x r c ≤ 0) ∨ ∃ r : Nat, y = .int (r : Nat) ∧ Sx.Leaves L x c r) → Q y H'
theorem ok_leaving {f C : Addr} {fd : FuncData} (F : Fun K "leaving" "Tableau.leaving" s_Tableau_leaving f fd) (T : Txt mg) (TT : TxtT K mg C) : FnOk P w K mg base CX0 1 f fd ["self", "column"] (spLeaving K C) := by
  refine F.ok sc_Tableau_leaving (fun vs H Q E h => ?_) (fun cdv Ar outer s H vs Q E hr h => ?_)
  · obtain ⟨t, c, L, x, G, A, D, rs, rfl, _⟩ := h
    rfl
  · obtain ⟨t, c, L, x, G, A, D, rs, rfl, TB, FI, hc, q⟩ := h
    refine ⟨_, (pss_cons (ps_setLc (i := 2) (own := [("row", 3)]) (g := gName 3) (by rfl) sc_Tableau_leaving.nd rfl rfl (sw_true rfl rfl rfl (by decide +kernel)) (pi_range1 (by rfl) T.b_range (pa_cons (pe_callB call_len_seq (by rfl) T.b_len PySem.boot_len (pa_cons (pe_fld (pv 0) rfl) pa_nil)) pa_nil)) (blkOk_by (N := ["self", "column", "rows", "row", "found", "more"]) (sc := defScope s_Tableau_leaving) (by decide +kernel)) (fun _ _ _ _ _ => (pg_name (i := 3) sc_Tableau_leaving.nd rfl (by first | exact Or.inl rfl | exact Or.inr rfl))) (fun _ _ _ _ _ => (pts_one (pt_cmpR op_gt (pe_ix (r := rIxL K) ix_list (pe_ix (r := rIxL K) ix_list (pe_fldK (K' := K) (pv 0)) (pv 3) (fun _ _ => rfl)) (pv 1) (fun _ _ => rfl)) pe_int (nomark _)))) (fun _ _ _ _ _ => (pv 3)))
  (pss_cons (ps_if (pt_not (pt_truth (pv 2) (by intro _; rfl)))
    (pss_one (ps_ret pe_non))
    pss_nil)
  (pss_cons (ps_set (i := 4) sc_Tableau_leaving.nd rfl (by first | exact Or.inl rfl | exact Or.inr rfl) (pe_ix ix_list (pv 2) pe_int (fun _ _ => rfl)))
  (pss_cons (ps_for PassesOwn.never rfl (pi_list (pe_slice sl_list (pv 2) (po_some pe_int) po_none)) (pg_name (i := 3) sc_Tableau_leaving.nd rfl (by first | exact Or.inl rfl | exact Or.inr rfl))
    (pss_cons (ps_set (i := 5) sc_Tableau_leaving.nd rfl (by first | exact Or.inl rfl | exact Or.inr rfl) (pe_op op_sub (pe_op op_mulW (pe_ix ix_list (pe_ix ix_list (pe_fld (pv 0) rfl) (pv 3) (fun _ _ => rfl)) (pe_un un_neg pe_int) (fun _ _ => rfl)) (pe_ix ix_list (pe_ix ix_list (pe_fld (pv 0) rfl) (pv 4) (fun _ _ => rfl)) (pv 1) (fun _ _ => rfl))) (pe_op op_mulW (pe_ix ix_list (pe_ix ix_list (pe_fld (pv 0) rfl) (pv 4) (fun _ _ => rfl)) (pe_un un_neg pe_int) (fun _ _ => rfl)) (pe_ix ix_list (pe_ix ix_list (pe_fld (pv 0) rfl) (pv 3) (fun _ _ => rfl)) (pv 1) (fun _ _ => rfl)))))
    (pss_one (ps_if (PW.pt (pw_or (pt_cmpR op_lt (pv 5) pe_int (nomark _)) (pw_or1 (PW.pt (pw_and (pt_cmpR op_eq (pv 5) pe_int (nomark _)) (pw_and1 (pt_cmpR op_lt (pe_ix ix_list (pe_fld (pv 0) rfl) (pv 3) (fun _ _ => rfl)) (pe_ix ix_list (pe_fld (pv 0) rfl) (pv 4) (fun _ _ => rfl)) (nomark _))))))))
      (pss_one (ps_set (i := 4) sc_Tableau_leaving.nd rfl (by first | exact Or.inl rfl | exact Or.inr rfl) (pv 3)))
      pss_nil))))
  (pss_one (ps_ret (pv 4))))))), ?_⟩
    obtain ⟨dx, hins⟩ := TB.ins
    have ld := TB.ok.ld
    have m1 := FI.m
    refine ⟨_, rfl, t, C, dx, _, _, rfl, hins, TT.cl, TT.nD, rfl, D, natV x.down, rfl, Or.inl (Or.inl (Or.inl TB.dn)), _, rfl, by rw [natV_len]; omega, by rw [natV_len]; omega, fun Dl hDl => ?_⟩
    rw [natV_len, ld]
    refine lc_range (lo := 0) (n := L.m) (fun i H2 => Same H H2 ∧ H2 Dl = some (.lst (natV (cand L x c i)))) ⟨snew hDl, upd_same⟩ ?_ ?_
    · rintro i H2 hi ⟨s2, hD2⟩
      have TB2 := TB.same s2
      obtain ⟨dx2, hins2⟩ := TB2.ins
      obtain ⟨ra, r1, r2, r3⟩ := TB2.at (show i < L.m + 1 by omega)
      refine ⟨rfl, _, rfl, t, C, dx2, _, _, rfl, hins2, TT.cl, TT.nG, rfl, _, rfl, G, _, _, .ref ra, rfl, rfl, Or.inl (Or.inl TB2.grid), (by rw [Int.zero_add]; exact atI_nat r3), _, rfl, ra, _, (c : Int), _, rfl, rfl, Or.inl (Or.inl r2), atI_nat (rowV_at (by omega)), _, _, rfl, rfl, _, rfl, ?_⟩
      have ek : Sx.ent L x i c = Sx.gc L x i c := ent_gc hc
      rw [ek]
      have ec : cand L x c (i + 1) = cand L x c i ++ if 0 < Sx.gc L x i c then [i] else [] := by
        unfold cand
        rw [List.range_succ, List.filter_append]
        congr 1
        by_cases h : 0 < Sx.gc L x i c
        · rw [if_pos h, List.filter_cons_of_pos (by rw [decide_eq_true h])]
          rfl
        · rw [if_neg h, List.filter_cons_of_neg (by rw [decide_eq_false h]; exact Bool.false_ne_true)]
          rfl
      refine ite2 (fun h1 => ?_) (fun h1 => ?_)
      · have h1 := of_decide_eq_true h1
        refine ⟨_, rfl, _, hD2, ?_, smut s2 hDl, ?_⟩
        · rw [natV_len, sizeLine_eq]
          have := List.length_filter_le (fun r => decide (0 < Sx.gc L x r c)) (List.range i)
          rw [List.length_range] at this
          unfold cand
          omega
        · rw [upd_same, ec, if_pos h1]
          unfold natV
          rw [List.map_append, Int.zero_add]
          rfl
      · have h1 : ¬ 0 < Sx.gc L x i c := by simpa using h1
        rw [ec, if_neg h1, List.append_nil]
        exact ⟨s2, hD2⟩
    · rintro H2 ⟨s2, hD2⟩
      have mem : ∀ r, r ∈ cand L x c L.m ↔ r < L.m ∧ 0 < Sx.gc L x r c := fun r => by
        unfold cand
        rw [List.mem_filter, List.mem_range, decide_eq_true_iff]
      refine ⟨_, rfl, _, .inl ⟨_, Or.inl (Or.inl hD2), rfl⟩, ?_⟩
      have lenc : (cand L x c L.m).length ≤ L.m := by
        have := List.length_filter_le (fun r => decide (0 < Sx.gc L x r c)) (List.range L.m)
        rw [List.length_range] at this
        exact this
      cases hcd : cand L x c L.m with
      | nil =>
        refine iteT ?_
        refine q _ H2 s2 (.inl ⟨rfl, fun r hr => ?_⟩)
        rcases Int.lt_or_le 0 (Sx.gc L x r c) with z | z
        · have := (mem r).mpr ⟨hr, z⟩
          rw [hcd] at this
          cases this
        · exact z
      | cons r0 rest =>
        refine iteF ?_
        rw [hcd] at hD2 mem lenc
        refine ⟨_, rfl, Dl, _, 0, _, rfl, rfl, Or.inl (Or.inl hD2), atI_nat (j := 0) rfl, ?_⟩
        refine ⟨_, rfl, 1, rfl, Dl, _, rfl, Or.inl (Or.inl hD2), fun Dt hDt => ?_⟩
        have etl : cutV (natV (r0 :: rest)) (some 1) none = natV rest := by
          have z := cut_from (natV (r0 :: rest)) 1
          exact z
        rw [etl]
        have s3 : Same H (upd H2 Dt (.lst (natV rest))) := same_tr s2 (snew hDt)
        have hDt3 : (upd H2 Dt (.lst (natV rest))) Dt = some (.lst (natV rest)) := upd_same
        generalize upd H2 Dt (.lst (natV rest)) = H3 at s3 hDt3 ⊢
        refine ⟨Dt, rfl, ⟨_, Or.inl (Or.inl hDt3)⟩, for_it (walk_list (K := K) (a := Dt) (xs := natV rest)) (fun i σ H4 => ∃ (y3 y5 : Option V) (fd : Nat), σ = [some (.ref t), some (.int (c : Nat)), some (.ref Dl), y3, some (.int (fd : Nat)), y5] ∧ Same H H4 ∧ Same H3 H4 ∧ fd ∈ r0 :: rest.take i ∧ ∀ r' ∈ r0 :: rest.take i, Sx.Ra L x c fd r')
          ⟨none, none, r0, rfl, s3, same_refl, List.mem_cons_self .., fun r' hr' => by
            rw [List.take_zero] at hr'
            rw [List.mem_singleton.mp hr']
            exact Sx.Ra.refl⟩ (fun i σ H4 _ ⟨_, _, _, _, _, s4, _⟩ => Or.inl (Or.inl (s4 _ _ hDt3))) ?_ ?_⟩
        · rintro i v σ H4 H5 hi ⟨y3, y5, fd, rfl, s4, s34, hfd, hmin⟩ ⟨rfl, hx⟩
          rw [natV_len] at hi
          rw [natV_at hi] at hx
          cases hx
          have memR : rest.getD i 0 ∈ r0 :: rest := List.mem_cons_of_mem _ (Sx.getD_mem hi)
          have memF : fd ∈ r0 :: rest := by
            rcases List.mem_cons.mp hfd with z | z
            · rw [z]
              exact List.mem_cons_self ..
            · exact List.mem_cons_of_mem _ (List.mem_of_mem_take z)
          obtain ⟨lr, pr⟩ := (mem _).mp memR
          obtain ⟨lf, pf⟩ := (mem _).mp memF
          have tk : rest.take (i + 1) = rest.take i ++ [rest.getD i 0] := by
            rw [List.take_add_one, List.getElem?_eq_getElem hi, List.getD_eq_getElem?_getD, List.getElem?_eq_getElem hi]
            rfl
          generalize rest.getD i 0 = r at lr pr tk memR ⊢
          have TB5 := TB.same s4
          obtain ⟨dx5, hins5⟩ := TB5.ins
          obtain ⟨ra, a1, a2, a3⟩ := TB5.at (show r < L.m + 1 by omega)
          obtain ⟨fa, f1, f2, f3⟩ := TB5.at (show fd < L.m + 1 by omega)
          refine ⟨_, rfl, t, C, dx5, _, _, rfl, hins5, TT.cl, TT.nG, rfl, _, rfl, G, _, _, .ref ra, rfl, rfl, Or.inl (Or.inl TB5.grid), atI_nat a3, 1, rfl, ra, _, -1, _, rfl, rfl, Or.inl (Or.inl a2), atI_m1 (rowV_at (show L.n < L.n + 1 by omega)) (rowV_len _ _ _), _, rfl, t, C, dx5, _, _, rfl, hins5, TT.cl, TT.nG, rfl, _, rfl, G, _, _, .ref fa, rfl, rfl, Or.inl (Or.inl TB5.grid), atI_nat f3, _, rfl, fa, _, (c : Int), _, rfl, rfl, Or.inl (Or.inl f2), atI_nat (rowV_at (show c < L.n + 1 by omega)), _, _, rfl, rfl, wide_mul (a := 4000) (b := 4000) (ent4 FI TB.ok _ _) (ent4 FI TB.ok _ _) (by decide) (by decide) (by decide), _, rfl, t, C, dx5, _, _, rfl, hins5, TT.cl, TT.nG, rfl, _, rfl, G, _, _, .ref fa, rfl, rfl, Or.inl (Or.inl TB5.grid), atI_nat f3, 1, rfl, fa, _, -1, _, rfl, rfl, Or.inl (Or.inl f2), atI_m1 (rowV_at (show L.n < L.n + 1 by omega)) (rowV_len _ _ _), _, rfl, t, C, dx5, _, _, rfl, hins5, TT.cl, TT.nG, rfl, _, rfl, G, _, _, .ref ra, rfl, rfl, Or.inl (Or.inl TB5.grid), atI_nat a3, _, rfl, ra, _, (c : Int), _, rfl, rfl, Or.inl (Or.inl a2), atI_nat (rowV_at (show c < L.n + 1 by omega)), _, _, rfl, rfl, wide_mul (a := 4000) (b := 4000) (ent4 FI TB.ok _ _) (ent4 FI TB.ok _ _) (by decide) (by decide) (by decide), _, _, rfl, rfl, ?_⟩
          rw [ent_b, ent_b, ent_gc hc, ent_gc hc]
          -- r comes before: it is the one
          have better : Sx.Ra L x c r fd → r ∈ r0 :: rest.take (i + 1) ∧ ∀ r' ∈ r0 :: rest.take (i + 1), Sx.Ra L x c r r' := fun q => by
            rw [tk]
            refine ⟨List.mem_cons_of_mem _ (List.mem_append_right _ (List.mem_singleton.mpr rfl)), fun r' hr' => ?_⟩
            rw [← List.cons_append] at hr'
            rcases List.mem_append.mp hr' with z | z
            · have mr' : r' ∈ r0 :: rest := by
                rcases List.mem_cons.mp z with z | z
                · rw [z]
                  exact List.mem_cons_self ..
                · exact List.mem_cons_of_mem _ (List.mem_of_mem_take z)
              exact Sx.Ra.tr pr pf ((mem r').mp mr').2 q (hmin r' z)
            · rw [List.mem_singleton.mp z]
              exact Sx.Ra.refl
          have worse : Sx.Ra L x c fd r → fd ∈ r0 :: rest.take (i + 1) ∧ ∀ r' ∈ r0 :: rest.take (i + 1), Sx.Ra L x c fd r' := fun q => by
            rw [tk, ← List.cons_append]
            refine ⟨List.mem_append_left _ hfd, fun r' hr' => ?_⟩
            rcases List.mem_append.mp hr' with z | z
            · exact hmin r' z
            · rw [List.mem_singleton.mp z]
              exact q
          refine ⟨_, rfl, _, _, rfl, rfl, _, rfl, ?_⟩
          refine ite2 (fun h1 => ?_) (fun h1 => ?_)
          · have h1 := of_decide_eq_true h1
            obtain ⟨b1, b2⟩ := better ⟨by omega, fun e => absurd e (by omega)⟩
            exact ⟨_, rfl, _, _, r, rfl, s4, s34, b1, b2⟩
          · have h1 : ¬ (Sx.g L x r L.b * Sx.gc L x fd c - Sx.g L x fd L.b * Sx.gc L x r c < 0) := by simpa using h1
            refine ⟨_, rfl, rfl, _, rfl, ?_⟩
            refine ite2 (fun h2 => ?_) (fun h2 => ?_)
            · have h2 : Sx.g L x r L.b * Sx.gc L x fd c - Sx.g L x fd L.b * Sx.gc L x r c = 0 := V.int.inj (of_decide_eq_true h2)
              refine ⟨_, rfl, t, C, dx5, _, _, rfl, hins5, TT.cl, TT.nD, rfl, _, rfl, D, _, _, _, rfl, rfl, Or.inl (Or.inl TB5.dn), atI_nat (natV_at (by omega)), _, rfl, t, C, dx5, _, _, rfl, hins5, TT.cl, TT.nD, rfl, _, rfl, D, _, _, _, rfl, rfl, Or.inl (Or.inl TB5.dn), atI_nat (natV_at (by omega)), _, _, rfl, rfl, _, rfl, ?_⟩
              refine ite2 (fun h3 => ?_) (fun h3 => ?_)
              · have h3 := of_decide_eq_true h3
                obtain ⟨b1, b2⟩ := better ⟨by omega, fun _ => by omega⟩
                exact ⟨_, rfl, _, _, r, rfl, s4, s34, b1, b2⟩
              · have h3 : ¬ ((x.down.getD r 0 : Nat) : Int) < ((x.down.getD fd 0 : Nat) : Int) := by simpa using h3
                obtain ⟨b1, b2⟩ := worse ⟨by omega, fun _ => by omega⟩
                exact ⟨_, _, fd, rfl, s4, s34, b1, b2⟩
            · have h2 : ¬ (V.int (Sx.g L x r L.b * Sx.gc L x fd c - Sx.g L x fd L.b * Sx.gc L x r c) = V.int 0) := by simpa using h2
              have h2' : Sx.g L x r L.b * Sx.gc L x fd c - Sx.g L x fd L.b * Sx.gc L x r c ≠ 0 := fun e => h2 (by rw [e])
              obtain ⟨b1, b2⟩ := worse ⟨by omega, fun e => absurd e (by omega)⟩
              exact ⟨_, _, fd, rfl, s4, s34, b1, b2⟩
        · rintro σ H4 ⟨y3, y5, fd, rfl, s4, s34, hfd, hmin⟩
          rw [natV_len, List.take_length] at hfd hmin
          obtain ⟨lf, pf⟩ := (mem _).mp hfd
          exact ⟨_, rfl, q _ H4 s4 (.inr ⟨fd, rfl, lf, pf, fun r' h1 h2 => hmin r' ((mem r').mpr ⟨h1, h2⟩)⟩)⟩
structure TabR (C : Addr) (H : Hp) (t : Addr) (L : Sx.Pr) (x : Sx.Cfg) (s : Int) (G A D : Addr) (rs : List Addr) (cont : Nat → List V) : Prop where
  ins : ∃ dx, H t = some (.ins C dx (tabF G s A D))
  grid : H G = some (.lst (rs.map V.ref))
  len : rs.length = L.m + 1
  row : ∀ i a, rs[i]? = some a → H a = some (.lst (cont i))
  ac : H A = some (.lst (natV x.across))
  dn : H D = some (.lst (natV x.down))
  nd : (G :: A :: D :: rs).Nodup
section
variable {C : Addr} {H H' : Hp} {t : Addr} {L : Sx.Pr} {x : Sx.Cfg} {s : Int} {G A D : Addr} {rs : List Addr} {cont : Nat → List V}
theorem Tab.r (h : Tab C H t L x G A D rs) : TabR C H t L x (Sx.sc L x) G A D rs (rowV L x) := ⟨h.ins, h.grid, h.len, h.row, h.ac, h.dn, h.nd⟩
theorem TabR.same (h : TabR C H t L x s G A D rs cont) (e : Same H H') : TabR C H' t L x s G A D rs cont := by
  obtain ⟨⟨dx, h1⟩, h2, h3, h4, h5, h6, h7⟩ := h
  exact ⟨⟨dx, e _ _ h1⟩, e _ _ h2, h3, fun i a q => e _ _ (h4 i a q), e _ _ h5, e _ _ h6, h7⟩
theorem TabR.at (h : TabR C H t L x s G A D rs cont) {i : Nat} (hi : i < L.m + 1) : ∃ a, rs[i]? = some a ∧ H a = some (.lst (cont i)) ∧ (rs.map V.ref)[i]? = some (.ref a) := by
  have hl := h.len
  have e : rs[i]? = some rs[i] := List.getElem?_eq_getElem (by omega)
  exact ⟨_, e, h.row i _ e, by rw [List.getElem?_map, e]; rfl⟩
theorem rows_inj {l : List Addr} (h : l.Nodup) {i j : Nat} {a : Addr} (hi : l[i]? = some a) (hj : l[j]? = some a) : i = j := by
  obtain ⟨h1, e1⟩ := List.getElem?_eq_some_iff.mp hi
  obtain ⟨h2, e2⟩ := List.getElem?_eq_some_iff.mp hj
  exact (List.getElem_inj h).mp (e1.trans e2.symm)
theorem TabR.put (h : TabR C H t L x s G A D rs cont) {i : Nat} {a : Addr} (ha : rs[i]? = some a) (v : List V) : TabR C (upd H a (.lst v)) t L x s G A D rs (fun j => if j = i then v else cont j) := by
  obtain ⟨⟨dx, h1⟩, h2, h3, h4, h5, h6, h7⟩ := h
  have mem : a ∈ rs := List.mem_of_getElem? ha
  rw [List.nodup_cons, List.nodup_cons, List.nodup_cons] at h7
  obtain ⟨n1, n2, n3, n4⟩ := h7
  have gA : G ≠ a := fun e => n1 (by rw [e]; exact List.mem_cons_of_mem _ (List.mem_cons_of_mem _ mem))
  have aA : A ≠ a := fun e => n2 (by rw [e]; exact List.mem_cons_of_mem _ mem)
  have dA : D ≠ a := fun e => n3 (by rw [e]; exact mem)
  have tA : t ≠ a := ne_of h1 (h4 i a ha) (by intro z; cases z)
  refine ⟨⟨dx, by rw [upd_ne tA]; exact h1⟩, by rw [upd_ne gA]; exact h2, h3, fun j b hb => ?_, by rw [upd_ne aA]; exact h5, by rw [upd_ne dA]; exact h6, by rw [List.nodup_cons, List.nodup_cons, List.nodup_cons]; exact ⟨n1, n2, n3, n4⟩⟩
  by_cases e : j = i
  · subst e
    rw [ha] at hb
    cases hb
    rw [upd_same, if_pos rfl]
  · have ne : b ≠ a := fun q => e (rows_inj n4 (by rw [← q]; exact hb) ha)
    rw [upd_ne ne, if_neg e]
    exact h4 j b hb
theorem TabR.re (h : TabR C H t L x s G A D rs cont) {c2 : Nat → List V} (e : ∀ i, i < L.m + 1 → cont i = c2 i) : TabR C H t L x s G A D rs c2 :=
  ⟨h.ins, h.grid, h.len, fun i a q => by
    have hi : i < rs.length := (List.getElem?_eq_some_iff.mp q).1
    rw [← e i (by rw [← h.len]; exact hi)]
    exact h.row i a q, h.ac, h.dn, h.nd⟩
end
theorem range_set {n p : Nat} {f : Nat → V} {v : V} (hp : p < n) : ((List.range n).map f).set p v = (List.range n).map fun q => if q = p then v else f q := by
  refine List.ext_getElem? fun i => ?_
  rw [List.getElem?_set]
  by_cases e : p = i
  · subst e
    rw [if_pos rfl, if_pos (by simpa using hp), List.getElem?_map, List.getElem?_range hp]
    show some v = some (if p = p then v else f p)
    rw [if_pos rfl]
  · rw [if_neg e]
    by_cases hi : i < n
    · rw [List.getElem?_map, List.getElem?_map, List.getElem?_range hi]
      show some (f i) = some (if i = p then v else f i)
      rw [if_neg (Ne.symm e)]
    · rw [List.getElem?_eq_none (by simp; omega), List.getElem?_eq_none (by simp; omega)]
/-- the tableau, all else as in B -/
def TabB (C : Addr) (B H : Hp) (t : Addr) (L : Sx.Pr) (x : Sx.Cfg) : Prop := ∃ G A D rs, Tab C H t L x G A D rs ∧ Same B H ∧ B t = none ∧ ∀ a ∈ G :: A :: D :: rs, B a = none
theorem TabB.same {C : Addr} {B H H' : Hp} {t : Addr} {L : Sx.Pr} {x : Sx.Cfg} (h : TabB C B H t L x) (e : Same H H') : TabB C B H' t L x := by
  obtain ⟨G, A, D, rs, h1, h2, h3, h4⟩ := h
  exact ⟨G, A, D, rs, h1.same e, same_tr h2 e, h3, h4⟩
/-- a number of a row behind the exchange -/
def rawE (L : Sx.Pr) (x : Sx.Cfg) (r c i q : Nat) : Int := (Sx.ent L x i q * Sx.ent L x r c - Sx.ent L x i c * Sx.ent L x r q) / Sx.sc L x
def midV (L : Sx.Pr) (x : Sx.Cfg) (r c i p : Nat) : List V := (List.range (L.n + 1)).map fun q => V.int (if q < p then rawE L x r c i q else Sx.ent L x i q)
theorem mid_zero {L : Sx.Pr} {x : Sx.Cfg} {r c i : Nat} : midV L x r c i 0 = rowV L x i := by
  unfold midV rowV
  refine List.map_congr_left fun q _ => ?_
  rw [if_neg (Nat.not_lt_zero _)]
theorem mid_at {L : Sx.Pr} {x : Sx.Cfg} {r c i p q : Nat} (h : q < L.n + 1) (hp : p ≤ q) : (midV L x r c i p)[q]? = some (V.int (Sx.ent L x i q)) := by
  unfold midV
  rw [List.getElem?_map, List.getElem?_range h]
  show some (V.int (if q < p then _ else _)) = _
  rw [if_neg (by omega)]
theorem mid_put {L : Sx.Pr} {x : Sx.Cfg} {r c i p : Nat} (h : p < L.n + 1) : (midV L x r c i p).set p (V.int (rawE L x r c i p)) = midV L x r c i (p + 1) := by
  unfold midV
  rw [range_set h]
  refine List.map_congr_left fun q _ => ?_
  by_cases e : q = p
  · subst e
    rw [if_pos rfl, if_pos (by omega)]
  · rw [if_neg e]
    by_cases h : q < p
    · rw [if_pos h, if_pos (by omega)]
    · rw [if_neg h, if_neg (by omega)]
theorem mid_end {L : Sx.Pr} {x : Sx.Cfg} {r c i : Nat} (ok : Sx.Ok L x) (hr : r < L.m) (hc : c < L.n) (hi : i < L.m + 1) (ne : i ≠ r) : (midV L x r c i (L.n + 1)).set c (V.int (-Sx.ent L x i c)) = rowV L (Sx.swp x r c) i := by
  unfold midV
  rw [range_set (by omega)]
  unfold rowV
  refine List.map_congr_left fun q hq => ?_
  rw [List.mem_range] at hq
  have z := Sx.ent_else (j := q) ok hr hc (by omega) ne (by omega)
  by_cases e : q = c
  · rw [if_pos e]
    rw [if_pos e] at z
    rw [z]
  · rw [if_neg e, if_pos hq]
    rw [if_neg e] at z
    rw [z]
    rfl
theorem row_end {L : Sx.Pr} {x : Sx.Cfg} {r c : Nat} (ok : Sx.Ok L x) (hr : r < L.m) (hc : c < L.n) : (rowV L x r).set c (V.int (Sx.sc L x)) = rowV L (Sx.swp x r c) r := by
  unfold rowV
  rw [range_set (by omega)]
  refine List.map_congr_left fun q hq => ?_
  rw [List.mem_range] at hq
  rw [Sx.ent_row ok hr hc (by omega)]
  by_cases e : q = c
  · rw [if_pos e, if_pos e]
  · rw [if_neg e, if_neg e]
def spExchange (K : PySem.W.Frag) (C : Addr) : Sp := fun vs H Q _ => ∃ (t : Addr) (r c : Nat) (L : Sx.Pr) (x : Sx.Cfg) (B : Hp), vs = [.ref t, .int (r : Nat), .int (c : Nat)] ∧ TabB C B H t L x ∧ Fits L ∧ r < L.m ∧ c < L.n ∧ Sx.Ok L (Sx.swp x r c) ∧
  ∀ H', TabB C B H' t L (Sx.swp x r c) → Q .non H'
theorem ok_exchange {f C : Addr} {fd : FuncData} (F : Fun K "exchange" "Tableau.exchange" s_Tableau_exchange f fd) (T : Txt mg) (TT : TxtT K mg C) : FnOk P w K mg base CX0 1 f fd ["self", "row", "column"] (spExchange K C) := by
  refine F.ok sc_Tableau_exchange (fun vs H Q E h => ?_) (fun cdv Ar outer s H vs Q E hr h => ?_)
  · obtain ⟨t, r, c, L, x, B, rfl, _⟩ := h
    rfl
  · obtain ⟨t, r, c, L, x, B, rfl, ⟨G, A, D, rs, TB, sB, nt, nall⟩, FI, hrm, hc, ok2, q⟩ := h
    refine ⟨_, (pss_cons (ps_set (i := 3) sc_Tableau_exchange.nd rfl (by first | exact Or.inl rfl | exact Or.inr rfl) (pe_ix ix_list (pe_fld (pv 0) rfl) (pv 1) (fun _ _ => rfl)))
  (pss_cons (ps_set (i := 4) sc_Tableau_exchange.nd rfl (by first | exact Or.inl rfl | exact Or.inr rfl) (pe_ix ix_list (pv 3) (pv 2) (fun _ _ => rfl)))
  (pss_cons (ps_for PassesOwn.never rfl (pi_list (pe_op op_cat (pe_slice sl_list (pe_fld (pv 0) rfl) po_none (po_some (pv 1))) (pe_slice sl_list (pe_fld (pv 0) rfl) (po_some (pe_op op_add (pv 1) pe_int)) po_none))) (pg_name (i := 5) sc_Tableau_exchange.nd rfl (by first | exact Or.inl rfl | exact Or.inr rfl))
    (pss_cons (ps_set (i := 6) sc_Tableau_exchange.nd rfl (by first | exact Or.inl rfl | exact Or.inr rfl) (pe_ix ix_list (pv 5) (pv 2) (fun _ _ => rfl)))
    (pss_cons (ps_for PassesOwn.never rfl (pi_enum (by rfl) T.b_enumerate (pa_cons (pv 3) pa_nil)) (pg_tup rfl (pgs_cons (pg_name (i := 7) sc_Tableau_exchange.nd rfl (by first | exact Or.inl rfl | exact Or.inr rfl)) (pgs_cons (pg_name (i := 8) sc_Tableau_exchange.nd rfl (by first | exact Or.inl rfl | exact Or.inr rfl)) pgs_nil)))
      (pss_one (ps_asg (pe_op op_fdivW (pe_op op_sub (pe_op op_mulW (pe_ix ix_list (pv 5) (pv 7) (fun _ _ => rfl)) (pv 4)) (pe_op op_mulW (pv 6) (pv 8))) (pe_fld (pv 0) rfl)) (pg_sub (pv 5) (pv 7) set_list))))
    (pss_one (ps_asg (pe_un un_neg (pv 6)) (pg_sub (pv 5) (pv 2) set_list))))))
  (pss_cons (ps_asg (pe_fld (pv 0) rfl) (pg_sub (pv 3) (pv 2) set_list))
  (pss_cons (ps_fld (pv 0) (pv 4) rfl)
  (pss_one (ps_asg (pe_tup (pa_cons (pe_ix ix_list (pe_fld (pv 0) rfl) (pv 1) (fun _ _ => rfl)) (pa_cons (pe_ix ix_list (pe_fld (pv 0) rfl) (pv 2) (fun _ _ => rfl)) pa_nil))) (pg_tup rfl (pgs_cons (pg_sub (pe_fld (pv 0) rfl) (pv 2) set_list) (pgs_cons (pg_sub (pe_fld (pv 0) rfl) (pv 1) set_list) pgs_nil)))))))))), ?_⟩
    obtain ⟨dx, hins⟩ := TB.ins
    have ok1 := TB.ok
    have hm1 := FI.m
    have hn1 := FI.n
    obtain ⟨pr, p1, p2, p3⟩ := TB.at (show r < L.m + 1 by omega)
    refine ⟨_, rfl, t, C, dx, _, _, rfl, hins, TT.cl, TT.nG, rfl, _, rfl, G, _, _, .ref pr, rfl, rfl, Or.inl (Or.inl TB.grid), atI_nat p3, ?_⟩
    refine ⟨_, rfl, _, rfl, pr, _, _, _, rfl, rfl, Or.inl (Or.inl p2), atI_nat (rowV_at (by omega)), ?_⟩
    refine ⟨_, rfl, t, C, dx, _, _, rfl, hins, TT.cl, TT.nG, rfl, _, rfl, (r : Int), rfl, G, _, rfl, Or.inl (Or.inl TB.grid), fun l1 hl1 => ?_⟩
    have glen : (rs.map V.ref).length = L.m + 1 := by rw [List.length_map]; exact TB.len
    rw [cut_to _ _ (by rw [glen]; omega)]
    have s1 := snew (o := .lst ((rs.map V.ref).take r)) hl1
    have TB1 := TB.r.same s1
    have h1 : (upd H l1 (.lst ((rs.map V.ref).take r))) l1 = some (.lst ((rs.map V.ref).take r)) := upd_same
    have sB1 := same_tr sB s1
    generalize upd H l1 (.lst ((rs.map V.ref).take r)) = H1 at TB1 h1 sB1 ⊢
    obtain ⟨dx1, hins1⟩ := TB1.ins
    refine ⟨_, rfl, t, C, dx1, _, _, rfl, hins1, TT.cl, TT.nG, rfl, _, rfl, _, _, rfl, rfl, (r : Int) + 1, rfl, G, _, rfl, Or.inl (Or.inl TB1.grid), fun l2 hl2 => ?_⟩
    have ec := cut_from (rs.map V.ref) (r + 1)
    rw [show (((r + 1 : Nat)) : Int) = (r : Int) + 1 by omega] at ec
    rw [ec]
    have s2 := snew (o := .lst ((rs.map V.ref).drop (r + 1))) hl2
    have TB2 := TB1.same s2
    have h2 : (upd H1 l2 (.lst ((rs.map V.ref).drop (r + 1)))) l2 = some (.lst ((rs.map V.ref).drop (r + 1))) := upd_same
    have h12 := s2 _ _ h1
    have sB2 := same_tr sB1 s2
    generalize upd H1 l2 (.lst ((rs.map V.ref).drop (r + 1))) = H2 at TB2 h2 h12 sB2 ⊢
    refine ⟨_, _, _, _, rfl, rfl, h12, h2, ?_, fun l3 hl3 => ?_⟩
    · rw [List.length_take, List.length_drop, glen, sizeLine_eq]
      omega
    have s3 := snew (o := .lst ((rs.map V.ref).take r ++ (rs.map V.ref).drop (r + 1))) hl3
    have TB3 := TB2.same s3
    have h3 : (upd H2 l3 (.lst ((rs.map V.ref).take r ++ (rs.map V.ref).drop (r + 1)))) l3 = some (.lst ((rs.map V.ref).take r ++ (rs.map V.ref).drop (r + 1))) := upd_same
    have sB3 := same_tr sB2 s3
    have n3 : ∀ a ∈ rs, a ≠ l3 := fun a ha => by
      obtain ⟨i, hi⟩ := List.mem_iff_getElem?.mp ha
      exact ne_of_none (TB2.row i a hi) hl3
    generalize upd H2 l3 (.lst ((rs.map V.ref).take r ++ (rs.map V.ref).drop (r + 1))) = H3 at TB3 h3 sB3 ⊢
    have xlen : ((rs.map V.ref).take r ++ (rs.map V.ref).drop (r + 1)).length = L.m := by
      rw [List.length_append, List.length_take, List.length_drop, glen]
      omega
    have xat : ∀ j, j < L.m → ((rs.map V.ref).take r ++ (rs.map V.ref).drop (r + 1))[j]? = (rs.map V.ref)[if j < r then j else j + 1]? := fun j hj => by
      have lt : ((rs.map V.ref).take r).length = r := by rw [List.length_take, glen]; omega
      by_cases e : j < r
      · rw [List.getElem?_append_left (by omega), if_pos e, List.getElem?_take, if_pos e]
      · rw [List.getElem?_append_right (by omega), if_neg e, lt, List.getElem?_drop]
        congr 1
        omega
    generalize (rs.map V.ref).take r ++ (rs.map V.ref).drop (r + 1) = xs3 at h3 xlen xat ⊢
    clear TB2 h2 h12 sB2 TB1 h1 sB1 hins1 s1 s2 s3 hl1 hl2 hl3
    have n4 : ∀ a ∈ rs, B a = none := fun a ha => nall a (List.mem_cons_of_mem _ (List.mem_cons_of_mem _ (List.mem_cons_of_mem _ ha)))
    refine ⟨l3, rfl, ⟨_, Or.inl (Or.inl h3)⟩, for_it (walk_list (K := K) (a := l3) (xs := xs3)) (fun j σ H4 => ∃ (y5 y6 y7 y8 : Option V), σ = [some (.ref t), some (.int (r : Nat)), some (.int (c : Nat)), some (.ref pr), some (.int (Sx.ent L x r c)), y5, y6, y7, y8] ∧
      TabR C H4 t L x (Sx.sc L x) G A D rs (fun i => if i ≠ r ∧ (if i < r then i else i - 1) < j then rowV L (Sx.swp x r c) i else rowV L x i) ∧ Same B H4 ∧ H4 l3 = some (.lst xs3))
      ⟨none, none, none, none, rfl, TB3.re fun i _ => (if_neg fun q => Nat.not_lt_zero _ q.2).symm, sB3, h3⟩ (fun j σ H4 _ ⟨_, _, _, _, _, _, _, h4⟩ => Or.inl (Or.inl h4)) ?_ ?_⟩
    · rintro j v σ H4 H5 hj ⟨y5, y6, y7, y8, rfl, TB4, sB4, h4⟩ ⟨rfl, hx⟩
      rw [xlen] at hj
      rw [xat j hj] at hx
      have hi1 : (if j < r then j else j + 1) < L.m + 1 := by split <;> omega
      have hir : (if j < r then j else j + 1) ≠ r := by split <;> omega
      have hix : (if (if j < r then j else j + 1) < r then (if j < r then j else j + 1) else (if j < r then j else j + 1) - 1) = j := by
        by_cases e : j < r
        · rw [if_pos e, if_pos e]
        · rw [if_neg e, if_neg (by omega)]
          omega
      generalize hos : (if j < r then j else j + 1) = i at hx hi1 hir hix
      obtain ⟨a, a1, a2, a3⟩ := TB4.at hi1
      rw [a3] at hx
      cases hx
      rw [if_neg (by rw [hix]; omega)] at a2
      refine ⟨_, rfl, _, rfl, a, _, _, _, rfl, rfl, Or.inl (Or.inl a2), atI_nat (rowV_at (by omega)), ?_⟩
      have pr4 : ∀ {H' : Hp} {s' : Int} {ct : Nat → List V}, TabR C H' t L x s' G A D rs ct → H' pr = some (.lst (ct r)) := fun h => h.row r pr p1
      have p4 := pr4 TB4
      rw [if_neg (fun q => q.1 rfl)] at p4
      refine ⟨_, rfl, pr, _, rfl, Or.inl (Or.inl p4), for_it (walk_enum (K := K) (a := pr) (xs := rowV L x r)) (fun p σ H6 => ∃ (y7 y8 : Option V), σ = [some (.ref t), some (.int (r : Nat)), some (.int (c : Nat)), some (.ref pr), some (.int (Sx.ent L x r c)), some (.ref a), some (.int (Sx.ent L x i c)), y7, y8] ∧
        TabR C H6 t L x (Sx.sc L x) G A D rs (fun k => if k = i then midV L x r c i p else if k ≠ r ∧ (if k < r then k else k - 1) < j then rowV L (Sx.swp x r c) k else rowV L x k) ∧ Same B H6 ∧ H6 l3 = some (.lst xs3))
        ⟨y7, y8, rfl, TB4.re fun k _ => ?_, sB4, h4⟩ (fun p σ H6 _ ⟨_, _, _, TB6, _, _⟩ => Or.inl (Or.inl ?_)) ?_ ?_⟩
      · by_cases e : k = i
        · rw [if_pos e, mid_zero, e, if_neg (by rw [hix]; omega)]
        · rw [if_neg e]
      · have z := pr4 TB6
        rw [if_neg (Ne.symm hir), if_neg (fun q => q.1 rfl)] at z
        exact z
      · rintro p v σ H6 H7 hp ⟨y7', y8', rfl, TB6, sB6, h6⟩ ⟨Tp, z1, z2, rfl, hT, rfl, e1, e2⟩
        rw [rowV_len] at hp
        cases e1
        replace e2 : (rowV L x r)[p]? = some z2 := e2
        rw [rowV_at hp] at e2
        cases e2
        have s7 := snew (o := .tup [V.int (p : Nat), V.int (Sx.ent L x r p)]) hT
        have TB7 := TB6.same s7
        have sB7 := same_tr sB6 s7
        have h7 := s7 _ _ h6
        have hT7 : (upd H6 Tp (.tup [V.int (p : Nat), V.int (Sx.ent L x r p)])) Tp = some (.tup [V.int (p : Nat), V.int (Sx.ent L x r p)]) := upd_same
        generalize upd H6 Tp (.tup [V.int (p : Nat), V.int (Sx.ent L x r p)]) = H7 at TB7 sB7 h7 hT7 ⊢
        have a7 := TB7.row i a a1
        rw [if_pos rfl] at a7
        obtain ⟨dx7, hins7⟩ := TB7.ins
        refine ⟨Tp, _, rfl, Or.inl (Or.inl hT7), rfl, _, _, rfl, _, _, rfl, rfl, ?_⟩
        refine ⟨_, rfl, _, rfl, a, _, _, _, rfl, rfl, Or.inl (Or.inl a7), atI_nat (mid_at hp (Nat.le_refl _)), _, rfl, _, _, rfl, rfl, wide_mul (a := 4000) (b := 4000) (ent4 FI ok1 _ _) (ent4 FI ok1 _ _) (by decide) (by decide) (by decide), _, rfl, _, rfl, _, _, rfl, rfl, wide_mul (a := 4000) (b := 4000) (ent4 FI ok1 _ _) (ent4 FI ok1 _ _) (by decide) (by decide) (by decide), _, _, rfl, rfl,
          _, rfl, t, C, dx7, _, _, rfl, hins7, TT.cl, TT.nS, rfl, _, _, rfl, rfl, wide_div (b := 4000) ok1.pos (sc4 FI ok1) (by decide) (by decide), ?_⟩
        refine ⟨_, rfl, _, rfl, a, _, _, p, rfl, rfl, a7, ixN_nat (by unfold midV; simp; omega), ?_⟩
        have ep := mid_put (L := L) (x := x) (r := r) (c := c) (i := i) hp
        unfold rawE at ep
        rw [ep]
        refine ⟨_, _, rfl, (TB7.put a1 _).re fun k _ => ?_, smut sB7 (n4 a (List.mem_of_getElem? a1)), by rw [upd_ne (n3 a (List.mem_of_getElem? a1)).symm]; exact h7⟩
        by_cases e : k = i
        · rw [if_pos e, if_pos e]
        · rw [if_neg e, if_neg e, if_neg e]
      · rintro σ H6 ⟨y7', y8', rfl, TB6, sB6, h6⟩
        rw [rowV_len] at TB6
        have a7 := TB6.row i a a1
        rw [if_pos rfl] at a7
        refine ⟨_, rfl, _, rfl, _, rfl, _, rfl, a, _, _, c, rfl, rfl, a7, ixN_nat (by unfold midV; simp; omega), ?_⟩
        rw [mid_end ok1 hrm hc hi1 hir]
        refine ⟨_, _, _, _, rfl, (TB6.put a1 _).re fun k _ => ?_, smut sB6 (n4 a (List.mem_of_getElem? a1)), by rw [upd_ne (n3 a (List.mem_of_getElem? a1)).symm]; exact h6⟩
        by_cases e : k = i
        · rw [if_pos e, if_pos (by rw [e]; exact ⟨hir, by rw [hix]; omega⟩), e]
        · rw [if_neg e, if_neg e]
          have ne : k ≠ r → ((if k < r then k else k - 1) < j ↔ (if k < r then k else k - 1) < j + 1) := fun hk => by
            have e2 : (if k < r then k else k - 1) ≠ j := fun q => e (by
              rw [← hos]
              split at q <;> split <;> omega)
            omega
          by_cases h : k ≠ r ∧ (if k < r then k else k - 1) < j
          · rw [if_pos h, if_pos ⟨h.1, (ne h.1).mp h.2⟩]
          · rw [if_neg h, if_neg fun q => h ⟨q.1, (ne q.1).mpr q.2⟩]
    · rintro σ H4 ⟨y5, y6, y7, y8, rfl, TB4, sB4, h4⟩
      rw [xlen] at TB4
      have TB5 : TabR C H4 t L x (Sx.sc L x) G A D rs (fun i => if i = r then rowV L x i else rowV L (Sx.swp x r c) i) := TB4.re fun i hi => by
        by_cases e : i = r
        · rw [if_pos e, if_neg fun q => q.1 e]
        · rw [if_neg e, if_pos ⟨e, by split <;> omega⟩]
      clear TB4
      obtain ⟨dx5, hins5⟩ := TB5.ins
      have p5 := TB5.row r pr p1
      rw [if_pos rfl] at p5
      refine ⟨_, rfl, t, C, dx5, _, _, rfl, hins5, TT.cl, TT.nS, rfl, _, rfl, _, rfl, pr, _, _, c, rfl, rfl, p5, ixN_nat (by rw [rowV_len]; omega), ?_⟩
      rw [row_end ok1 hrm hc]
      have TB6 : TabR C (upd H4 pr (.lst (rowV L (Sx.swp x r c) r))) t L x (Sx.sc L x) G A D rs (rowV L (Sx.swp x r c)) := (TB5.put p1 _).re fun i _ => by
        by_cases e : i = r
        · rw [if_pos e, e]
        · rw [if_neg e, if_neg e]
      have sB6 : Same B (upd H4 pr (.lst (rowV L (Sx.swp x r c) r))) := smut sB4 (n4 pr (List.mem_of_getElem? p1))
      generalize upd H4 pr (.lst (rowV L (Sx.swp x r c) r)) = H6 at TB6 sB6 ⊢
      clear TB5 sB4 h4 p5 hins5
      obtain ⟨dx6, hins6⟩ := TB6.ins
      refine ⟨_, rfl, _, rfl, t, C, dx6, _, rfl, hins6, TT.cl, TT.nS, (by show 4 < 1000; decide), ?_⟩
      rw [putF_scale]
      have hins7 : (upd H6 t (.ins C dx6 (tabF G (Sx.ent L x r c) A D))) t = some (.ins C dx6 (tabF G (Sx.ent L x r c) A D)) := upd_same
      have lsN : ∀ {a : Addr} {xs : List V}, H6 a = some (.lst xs) → a ≠ t := fun h => (ne_of hins6 h (by intro z; cases z)).symm
      have sB7 : Same B (upd H6 t (.ins C dx6 (tabF G (Sx.ent L x r c) A D))) := smut sB6 nt
      have lsT : ∀ {a : Addr} {xs : List V}, H6 a = some (.lst xs) → (upd H6 t (.ins C dx6 (tabF G (Sx.ent L x r c) A D))) a = some (.lst xs) := fun h => by
        rw [upd_ne (lsN h)]
        exact h
      generalize upd H6 t (.ins C dx6 (tabF G (Sx.ent L x r c) A D)) = H7 at hins7 sB7 lsT ⊢
      have ac7 := lsT TB6.ac
      have dn7 := lsT TB6.dn
      have la := ok1.la
      have ld := ok1.ld
      refine ⟨_, rfl, t, C, dx6, _, _, rfl, hins7, TT.cl, TT.nD, rfl, _, rfl, D, _, _, _, rfl, rfl, Or.inl (Or.inl dn7), atI_nat (natV_at (by omega)), _, rfl, t, C, dx6, _, _, rfl, hins7, TT.cl, TT.nA, rfl, _, rfl, A, _, _, _, rfl, rfl, Or.inl (Or.inl ac7), atI_nat (natV_at (by omega)), by show 2 ≤ sizeLine; decide, fun tp htp => ?_⟩
      have s8 := snew (o := .tup [V.int ((x.down.getD r 0 : Nat) : Int), V.int ((x.across.getD c 0 : Nat) : Int)]) htp
      have h8 : (upd H7 tp (.tup [V.int ((x.down.getD r 0 : Nat) : Int), V.int ((x.across.getD c 0 : Nat) : Int)])) tp = some (.tup [V.int ((x.down.getD r 0 : Nat) : Int), V.int ((x.across.getD c 0 : Nat) : Int)]) := upd_same
      have sB8 := same_tr sB7 s8
      have rows8 : ∀ i a, rs[i]? = some a → (upd H7 tp (.tup [V.int ((x.down.getD r 0 : Nat) : Int), V.int ((x.across.getD c 0 : Nat) : Int)])) a = some (.lst (rowV L (Sx.swp x r c) i)) := fun i a ha => s8 _ _ (lsT (TB6.row i a ha))
      have g8 := s8 _ _ (lsT TB6.grid)
      have ac8 := s8 _ _ ac7
      have dn8 := s8 _ _ dn7
      have hins8 := s8 _ _ hins7
      generalize upd H7 tp (.tup [V.int ((x.down.getD r 0 : Nat) : Int), V.int ((x.across.getD c 0 : Nat) : Int)]) = H8 at h8 sB8 rows8 g8 ac8 dn8 hins8 ⊢
      have nd := TB6.nd
      rw [List.nodup_cons, List.nodup_cons, List.nodup_cons] at nd
      obtain ⟨m1, m2, m3, m4⟩ := nd
      have AD : A ≠ D := fun e => m2 (by rw [e]; exact List.mem_cons_self ..)
      have GA : G ≠ A := fun e => m1 (by rw [e]; exact List.mem_cons_self ..)
      have GD : G ≠ D := fun e => m1 (by rw [e]; exact List.mem_cons_of_mem _ (List.mem_cons_self ..))
      have tA : t ≠ A := ne_of hins8 ac8 (by intro z; cases z)
      have tD : t ≠ D := ne_of hins8 dn8 (by intro z; cases z)
      have rA : ∀ a ∈ rs, a ≠ A := fun a ha e => m2 (by rw [← e]; exact List.mem_cons_of_mem _ ha)
      have rD : ∀ a ∈ rs, a ≠ D := fun a ha e => m3 (by rw [← e]; exact ha)
      refine ⟨tp, _, rfl, Or.inl (Or.inl h8), rfl, _, _, rfl, _, rfl, t, C, dx6, _, _, rfl, hins8, TT.cl, TT.nA, rfl, _, rfl, A, _, _, c, rfl, rfl, ac8, ixN_nat (by rw [natV_len]; omega), ?_⟩
      refine ⟨_, _, rfl, _, rfl, t, C, dx6, _, _, rfl, (by rw [upd_ne tA]; exact hins8), TT.cl, TT.nD, rfl, _, rfl, D, _, _, r, rfl, rfl, (by rw [upd_ne AD.symm]; exact dn8), ixN_nat (by rw [natV_len]; omega), rfl, ?_⟩
      have esc : Sx.sc L (Sx.swp x r c) = Sx.ent L x r c := by rw [Sx.sc_swp ld hrm, ent_gc hc]
      refine q _ ⟨G, A, D, rs, ⟨⟨dx6, ?_⟩, ?_, TB6.len, fun i a ha => ?_, ?_, ?_, TB6.nd, ok2⟩, smut (smut sB8 (nall A (List.mem_cons_of_mem _ (List.mem_cons_self ..)))) (nall D (List.mem_cons_of_mem _ (List.mem_cons_of_mem _ (List.mem_cons_self ..)))), nt, nall⟩
      · rw [upd_ne tD, upd_ne tA, esc]
        exact hins8
      · rw [upd_ne GD, upd_ne GA]
        exact g8
      · rw [upd_ne (rD a (List.mem_of_getElem? ha)), upd_ne (rA a (List.mem_of_getElem? ha))]
        exact rows8 i a ha
      · rw [upd_ne AD, upd_same]
        unfold natV Sx.swp
        rw [List.map_set]
      · rw [upd_same]
        unfold natV Sx.swp
        rw [List.map_set]
end
end Fr

namespace Fr
open PySem PySem.Spec PyProof.Rows L2
abbrev s_Tableau_solution : Stmt := inClass (topS 41) 4
theorem sc_Tableau_solution : FnScope ["self", "found", "row", "unknown"] ["self"] (defScope s_Tableau_solution) := ⟨rfl, rfl, rfl, by decide +kernel, rfl, by decide +kernel, by decide +kernel⟩
-- slots: 0 self, 1 found, 2 row, 3 unknown
abbrev s_Tableau_prices : Stmt := inClass (topS 41) 5
theorem sc_Tableau_prices : FnScope ["self", "many", "found", "column", "unknown"] ["self"] (defScope s_Tableau_prices) := ⟨rfl, rfl, rfl, by decide +kernel, rfl, by decide +kernel, by decide +kernel⟩
-- slots: 0 self, 1 many, 2 found, 3 column, 4 unknown
theorem rep_flat {n : Nat} {v : V} : (List.replicate n [v]).flatten = (List.range n).map fun _ => v := by
  rw [List.flatten_replicate_singleton, List.map_const', List.length_range]
/-- the price of a row, by its slack -/
def Zp (L : Sx.Pr) (x : Sx.Cfg) (i : Nat) : Int := Sx.g L x L.m (L.col (L.n + i))
theorem Zp_sm {L : Sx.Pr} {x : Sx.Cfg} (ok : Sx.Ok L x) {i : Nat} (hi : i < L.m) : (Dt.sm L.n fun c => if x.across.getD c 0 = L.n + i then Sx.gc L x L.m c else 0) = Zp L x i := by
  have len : (x.across ++ x.down).length = L.n + L.m := by rw [List.length_append, ok.la, ok.ld]
  have nda := (List.nodup_append.mp ok.nd).1
  rcases List.mem_append.mp (Sx.all_in ok.nd ok.lt len (show L.n + i < L.n + L.m by omega)) with h | h
  · obtain ⟨c, hc, e⟩ := List.mem_iff_getElem.mp h
    have e2 : x.across.getD c 0 = L.n + i := by
      rw [List.getD_eq_getElem?_getD, List.getElem?_eq_getElem hc]
      exact e
    rw [ok.la] at hc
    rw [Dt.sm_one hc fun c' hc' ne => if_neg fun q => ne (Sx.getD_inj nda (by rw [ok.la]; exact hc') (by rw [ok.la]; exact hc) (by rw [q, e2])), if_pos e2]
    unfold Zp Sx.gc
    rw [e2]
  · rw [Dt.sm_zero fun c hc => if_neg fun q => (List.nodup_append.mp ok.nd).2.2 _ (by rw [← q]; exact Sx.getD_mem (by rw [ok.la]; exact hc)) _ h rfl]
    obtain ⟨j, hj, e⟩ := List.mem_iff_getElem.mp h
    have e2 : x.down.getD j 0 = L.n + i := by
      rw [List.getD_eq_getElem?_getD, List.getElem?_eq_getElem hj]
      exact e
    rw [ok.ld] at hj
    have z := Sx.g_basic ok.ld (show L.m < L.m + 1 by omega) hj (by omega)
    rw [e2] at z
    exact z.symm
section
variable {P : Program} {w : World} {K : PySem.W.Frag} {mg : Str → Option Value} {base : Heap}
def solV (L : Sx.Pr) (x : Sx.Cfg) : List V := (List.range L.n).map fun v => V.int (Sx.X L x v)
def priV (L : Sx.Pr) (x : Sx.Cfg) : List V := (List.range L.m).map fun i => V.int (Zp L x i)
def spSolution (K : PySem.W.Frag) (C : Addr) : Sp := fun vs H Q _ => ∃ (t : Addr) (L : Sx.Pr) (x : Sx.Cfg) (G A D : Addr) (rs : List Addr), vs = [.ref t] ∧ Tab C H t L x G A D rs ∧ Fits L ∧
  ∀ p H', Same H H' → H p = none → H' p = some (.lst (solV L x)) → Q (.ref p) H'
theorem ok_solution {f C : Addr} {fd : FuncData} (F : Fun K "solution" "Tableau.solution" s_Tableau_solution f fd) (T : Txt mg) (TT : TxtT K mg C) : FnOk P w K mg base CX0 1 f fd ["self"] (spSolution K C) := by
  refine F.ok sc_Tableau_solution (fun vs H Q E h => ?_) (fun cdv Ar outer s H vs Q E hr h => ?_)
  · obtain ⟨t, L, x, G, A, D, rs, rfl, _⟩ := h
    rfl
  · obtain ⟨t, L, x, G, A, D, rs, rfl, TB, FI, q⟩ := h
    refine ⟨_, (pss_cons (ps_set (i := 1) sc_Tableau_solution.nd rfl (by first | exact Or.inl rfl | exact Or.inr rfl) (pe_op op_rep (pe_lst (pa_cons pe_int pa_nil)) (pe_callB call_len_seq (by rfl) T.b_len PySem.boot_len (pa_cons (pe_fld (pv 0) rfl) pa_nil))))
  (pss_cons (ps_for PassesOwn.never rfl (pi_enum (by rfl) T.b_enumerate (pa_cons (pe_fld (pv 0) rfl) pa_nil)) (pg_tup rfl (pgs_cons (pg_name (i := 2) sc_Tableau_solution.nd rfl (by first | exact Or.inl rfl | exact Or.inr rfl)) (pgs_cons (pg_name (i := 3) sc_Tableau_solution.nd rfl (by first | exact Or.inl rfl | exact Or.inr rfl)) pgs_nil)))
    (pss_one (ps_if (pt_cmpR op_lt (pv 3) (pe_callB call_len_seq (by rfl) T.b_len PySem.boot_len (pa_cons (pv 1) pa_nil)) (nomark _))
      (pss_one (ps_asg (pe_ix ix_list (pe_ix ix_list (pe_fld (pv 0) rfl) (pv 2) (fun _ _ => rfl)) (pe_un un_neg pe_int) (fun _ _ => rfl)) (pg_sub (pv 1) (pv 3) set_list)))
      pss_nil)))
  (pss_one (ps_ret (pv 1))))), ?_⟩
    obtain ⟨dx, hins⟩ := TB.ins
    have la := TB.ok.la
    have ld := TB.ok.ld
    have n1 := FI.n
    have m1 := FI.m
    refine ⟨by show 1 ≤ sizeLine; decide, fun z hz => ?_⟩
    have s0 := snew (o := .lst [V.int 0]) hz
    have TB0 := TB.same s0
    have h0 : (upd H z (.lst [V.int 0])) z = some (.lst [V.int 0]) := upd_same
    generalize upd H z (.lst [V.int 0]) = H0 at s0 TB0 h0 ⊢
    obtain ⟨dx0, hins0⟩ := TB0.ins
    refine ⟨_, rfl, t, C, dx0, _, _, rfl, hins0, TT.cl, TT.nA, rfl, A, _, rfl, Or.inl (Or.inl (Or.inl TB0.ac)), ?_⟩
    refine ⟨_, _, _, rfl, rfl, h0, by rw [natV_len]; omega, by rw [natV_len]; omega, by rw [natV_len, la, Int.toNat_natCast, sizeLine_eq]; show 1 * L.n ≤ _; omega, fun p hp => ?_⟩
    rw [natV_len, la, Int.toNat_natCast, rep_flat]
    have s1 : Same H (upd H0 p (.lst ((List.range L.n).map fun _ => V.int 0))) := same_tr s0 (snew hp)
    have hpH : H p = none := free_of s0 hp
    have h1 : (upd H0 p (.lst ((List.range L.n).map fun _ => V.int 0))) p = some (.lst ((List.range L.n).map fun _ => V.int 0)) := upd_same
    generalize upd H0 p (.lst ((List.range L.n).map fun _ => V.int 0)) = H1 at s1 h1 ⊢
    have TB1 := TB.same s1
    obtain ⟨dx1, hins1⟩ := TB1.ins
    refine ⟨_, rfl, t, C, dx1, _, _, rfl, hins1, TT.cl, TT.nD, rfl, D, natV x.down, rfl, Or.inl (Or.inl TB1.dn), for_it (walk_enum (K := K) (a := D) (xs := natV x.down))
      (fun i σ H2 => ∃ y2 y3, σ = [some (.ref t), some (.ref p), y2, y3] ∧ Same H H2 ∧ H2 p = some (.lst ((List.range L.n).map fun v => V.int (Dt.sm i fun k => if x.down.getD k 0 = v then Sx.g L x k L.b else 0))))
      ⟨none, none, rfl, s1, h1⟩ (fun i σ H2 _ ⟨_, _, _, s2, _⟩ => Or.inl (Or.inl (s2 _ _ TB.dn))) ?_ ?_⟩
    · rintro i v σ H2 H3 hi ⟨y2, y3, rfl, s2, h2⟩ ⟨Tp, z1, z2, rfl, hT, rfl, e1, e2⟩
      rw [natV_len, ld] at hi
      cases e1
      replace e2 : (natV x.down)[i]? = some z2 := e2
      rw [natV_at (by omega)] at e2
      cases e2
      have s3 : Same H (upd H2 Tp (.tup [.int (i : Nat), .int ((x.down.getD i 0 : Nat) : Int)])) := same_tr s2 (snew hT)
      have h3 := snew (o := .tup [.int (i : Nat), .int ((x.down.getD i 0 : Nat) : Int)]) hT _ _ h2
      have hT3 : (upd H2 Tp (.tup [.int (i : Nat), .int ((x.down.getD i 0 : Nat) : Int)])) Tp = some (.tup [.int (i : Nat), .int ((x.down.getD i 0 : Nat) : Int)]) := upd_same
      generalize upd H2 Tp (.tup [.int (i : Nat), .int ((x.down.getD i 0 : Nat) : Int)]) = H3 at s3 h3 hT3 ⊢
      have TB3 := TB.same s3
      obtain ⟨dx3, hins3⟩ := TB3.ins
      obtain ⟨ra, r1, r2, r3⟩ := TB3.at (show i < L.m + 1 by omega)
      refine ⟨Tp, _, rfl, Or.inl (Or.inl hT3), rfl, _, _, rfl, _, _, rfl, rfl, ?_⟩
      refine ⟨_, rfl, _, rfl, p, _, rfl, Or.inl (Or.inl (Or.inl h3)), _, _, rfl, rfl, _, rfl, ?_⟩
      have same0 : ∀ v, x.down.getD i 0 ≠ v → (Dt.sm (i + 1) fun k => if x.down.getD k 0 = v then Sx.g L x k L.b else 0) = Dt.sm i fun k => if x.down.getD k 0 = v then Sx.g L x k L.b else 0 := fun v hv => by
        show Dt.sm i _ + (if x.down.getD i 0 = v then _ else _) = _
        rw [if_neg hv, Int.add_zero]
      have at0 : (Dt.sm (i + 1) fun k => if x.down.getD k 0 = x.down.getD i 0 then Sx.g L x k L.b else 0) = Sx.g L x i L.b := by
        show Dt.sm i _ + (if x.down.getD i 0 = x.down.getD i 0 then _ else _) = _
        rw [if_pos rfl, Dt.sm_zero fun k hk => if_neg fun q => ?_, Int.zero_add]
        have := Sx.getD_inj (List.nodup_append.mp TB.ok.nd).2.1 (by omega) (by omega) q
        omega
      rw [List.length_map, List.length_range]
      refine ite2 (fun h4 => ?_) (fun h4 => ?_)
      · have h4 := of_decide_eq_true h4
        refine ⟨_, rfl, t, C, dx3, _, _, rfl, hins3, TT.cl, TT.nG, rfl, _, rfl, G, _, _, .ref ra, rfl, rfl, Or.inl (Or.inl TB3.grid), atI_nat r3, 1, rfl, ra, _, -1, _, rfl, rfl, Or.inl (Or.inl r2), atI_m1 (rowV_at (show L.n < L.n + 1 by omega)) (rowV_len _ _ _), ?_⟩
        refine ⟨_, rfl, _, rfl, p, _, _, x.down.getD i 0, rfl, rfl, h3, ixN_nat (by rw [List.length_map, List.length_range]; omega), _, _, rfl, smut s3 hpH, ?_⟩
        rw [upd_same, range_set (by omega), ent_b]
        congr 2
        refine List.map_congr_left fun v _ => ?_
        by_cases e : v = x.down.getD i 0
        · rw [if_pos e, e, at0]
        · rw [if_neg e, same0 v (Ne.symm e)]
      · have h4 : ¬ ((x.down.getD i 0 : Nat) : Int) < ((L.n : Nat) : Int) := by simpa using h4
        refine ⟨_, _, rfl, s3, ?_⟩
        rw [h3]
        congr 2
        refine List.map_congr_left fun v hv => ?_
        rw [List.mem_range] at hv
        rw [same0 v (by omega)]
    · rintro σ H2 ⟨y2, y3, rfl, s2, h2⟩
      rw [natV_len, ld] at h2
      exact ⟨_, rfl, q p H2 s2 hpH h2⟩
def spPrices (K : PySem.W.Frag) (C : Addr) : Sp := fun vs H Q _ => ∃ (t : Addr) (L : Sx.Pr) (x : Sx.Cfg) (G A D : Addr) (rs : List Addr), vs = [.ref t] ∧ Tab C H t L x G A D rs ∧ Fits L ∧
  ∀ p H', Same H H' → H p = none → H' p = some (.lst (priV L x)) → Q (.ref p) H'
theorem ok_prices {f C : Addr} {fd : FuncData} (F : Fun K "prices" "Tableau.prices" s_Tableau_prices f fd) (T : Txt mg) (TT : TxtT K mg C) : FnOk P w K mg base CX0 1 f fd ["self"] (spPrices K C) := by
  refine F.ok sc_Tableau_prices (fun vs H Q E h => ?_) (fun cdv Ar outer s H vs Q E hr h => ?_)
  · obtain ⟨t, L, x, G, A, D, rs, rfl, _⟩ := h
    rfl
  · obtain ⟨t, L, x, G, A, D, rs, rfl, TB, FI, q⟩ := h
    refine ⟨_, (pss_cons (ps_set (i := 1) sc_Tableau_prices.nd rfl (by first | exact Or.inl rfl | exact Or.inr rfl) (pe_callB call_len_seq (by rfl) T.b_len PySem.boot_len (pa_cons (pe_fld (pv 0) rfl) pa_nil)))
  (pss_cons (ps_set (i := 2) sc_Tableau_prices.nd rfl (by first | exact Or.inl rfl | exact Or.inr rfl) (pe_op op_rep (pe_lst (pa_cons pe_int pa_nil)) (pe_callB call_len_seq (by rfl) T.b_len PySem.boot_len (pa_cons (pe_fld (pv 0) rfl) pa_nil))))
  (pss_cons (ps_for PassesOwn.never rfl (pi_enum (by rfl) T.b_enumerate (pa_cons (pe_fld (pv 0) rfl) pa_nil)) (pg_tup rfl (pgs_cons (pg_name (i := 3) sc_Tableau_prices.nd rfl (by first | exact Or.inl rfl | exact Or.inr rfl)) (pgs_cons (pg_name (i := 4) sc_Tableau_prices.nd rfl (by first | exact Or.inl rfl | exact Or.inr rfl)) pgs_nil)))
    (pss_one (ps_if (pt_cmpR op_ge (pv 4) (pv 1) (nomark _))
      (pss_one (ps_asg (pe_ix ix_list (pe_ix ix_list (pe_fld (pv 0) rfl) (pe_un un_neg pe_int) (fun _ _ => rfl)) (pv 3) (fun _ _ => rfl)) (pg_sub (pv 2) (pe_op op_sub (pv 4) (pv 1)) set_list)))
      pss_nil)))
  (pss_one (ps_ret (pv 2)))))), ?_⟩
    obtain ⟨dx, hins⟩ := TB.ins
    have la := TB.ok.la
    have ld := TB.ok.ld
    have n1 := FI.n
    have m1 := FI.m
    refine ⟨_, rfl, t, C, dx, _, _, rfl, hins, TT.cl, TT.nA, rfl, A, _, rfl, Or.inl (Or.inl (Or.inl TB.ac)), ?_⟩
    refine ⟨by show 1 ≤ sizeLine; decide, fun z hz => ?_⟩
    have s0 := snew (o := .lst [V.int 0]) hz
    have TB0 := TB.same s0
    have h0 : (upd H z (.lst [V.int 0])) z = some (.lst [V.int 0]) := upd_same
    generalize upd H z (.lst [V.int 0]) = H0 at s0 TB0 h0 ⊢
    obtain ⟨dx0, hins0⟩ := TB0.ins
    refine ⟨_, rfl, t, C, dx0, _, _, rfl, hins0, TT.cl, TT.nD, rfl, D, _, rfl, Or.inl (Or.inl (Or.inl TB0.dn)), ?_⟩
    refine ⟨_, _, _, rfl, rfl, h0, by rw [natV_len]; omega, by rw [natV_len]; omega, by rw [natV_len x.down, ld, Int.toNat_natCast, sizeLine_eq]; show 1 * L.m ≤ _; omega, fun p hp => ?_⟩
    rw [natV_len x.down, ld, Int.toNat_natCast, rep_flat]
    have s1 : Same H (upd H0 p (.lst ((List.range L.m).map fun _ => V.int 0))) := same_tr s0 (snew hp)
    have hpH : H p = none := free_of s0 hp
    have h1 : (upd H0 p (.lst ((List.range L.m).map fun _ => V.int 0))) p = some (.lst ((List.range L.m).map fun _ => V.int 0)) := upd_same
    generalize upd H0 p (.lst ((List.range L.m).map fun _ => V.int 0)) = H1 at s1 h1 ⊢
    have TB1 := TB.same s1
    obtain ⟨dx1, hins1⟩ := TB1.ins
    rw [natV_len x.across, la]
    refine ⟨_, rfl, t, C, dx1, _, _, rfl, hins1, TT.cl, TT.nA, rfl, A, natV x.across, rfl, Or.inl (Or.inl TB1.ac), for_it (walk_enum (K := K) (a := A) (xs := natV x.across))
      (fun i σ H2 => ∃ y3 y4, σ = [some (.ref t), some (.int ((L.n : Nat) : Int)), some (.ref p), y3, y4] ∧ Same H H2 ∧ H2 p = some (.lst ((List.range L.m).map fun v => V.int (Dt.sm i fun k => if x.across.getD k 0 = L.n + v then Sx.gc L x L.m k else 0))))
      ⟨none, none, rfl, s1, h1⟩ (fun i σ H2 _ ⟨_, _, _, s2, _⟩ => Or.inl (Or.inl (s2 _ _ TB.ac))) ?_ ?_⟩
    · rintro i v σ H2 H3 hi ⟨y3, y4, rfl, s2, h2⟩ ⟨Tp, z1, z2, rfl, hT, rfl, e1, e2⟩
      rw [natV_len, la] at hi
      cases e1
      replace e2 : (natV x.across)[i]? = some z2 := e2
      rw [natV_at (by omega)] at e2
      cases e2
      have s3 : Same H (upd H2 Tp (.tup [.int (i : Nat), .int ((x.across.getD i 0 : Nat) : Int)])) := same_tr s2 (snew hT)
      have h3 := snew (o := .tup [.int (i : Nat), .int ((x.across.getD i 0 : Nat) : Int)]) hT _ _ h2
      have hT3 : (upd H2 Tp (.tup [.int (i : Nat), .int ((x.across.getD i 0 : Nat) : Int)])) Tp = some (.tup [.int (i : Nat), .int ((x.across.getD i 0 : Nat) : Int)]) := upd_same
      generalize upd H2 Tp (.tup [.int (i : Nat), .int ((x.across.getD i 0 : Nat) : Int)]) = H3 at s3 h3 hT3 ⊢
      have TB3 := TB.same s3
      obtain ⟨dx3, hins3⟩ := TB3.ins
      obtain ⟨ra, r1, r2, r3⟩ := TB3.at (show L.m < L.m + 1 by omega)
      have rlen : (rs.map V.ref).length = L.m + 1 := by rw [List.length_map]; exact TB.len
      have ub : x.across.getD i 0 < L.n + L.m := TB.ok.lt _ (List.mem_append_left _ (Sx.getD_mem (by omega)))
      refine ⟨Tp, _, rfl, Or.inl (Or.inl hT3), rfl, _, _, rfl, _, _, rfl, rfl, ?_⟩
      refine ⟨_, rfl, _, rfl, _, _, rfl, rfl, _, rfl, ?_⟩
      have same0 : ∀ v, x.across.getD i 0 ≠ L.n + v → (Dt.sm (i + 1) fun k => if x.across.getD k 0 = L.n + v then Sx.gc L x L.m k else 0) = Dt.sm i fun k => if x.across.getD k 0 = L.n + v then Sx.gc L x L.m k else 0 := fun v hv => by
        show Dt.sm i _ + (if x.across.getD i 0 = L.n + v then _ else _) = _
        rw [if_neg hv, Int.add_zero]
      have at0 : ∀ v, x.across.getD i 0 = L.n + v → (Dt.sm (i + 1) fun k => if x.across.getD k 0 = L.n + v then Sx.gc L x L.m k else 0) = Sx.gc L x L.m i := fun v hv => by
        show Dt.sm i _ + (if x.across.getD i 0 = L.n + v then _ else _) = _
        rw [if_pos hv, Dt.sm_zero fun k hk => if_neg fun q => ?_, Int.zero_add]
        have := Sx.getD_inj (List.nodup_append.mp TB.ok.nd).1 (i := k) (j := i) (by omega) (by omega) (by rw [q, hv])
        omega
      refine ite2 (fun h4 => ?_) (fun h4 => ?_)
      · have h4 : ((L.n : Nat) : Int) ≤ ((x.across.getD i 0 : Nat) : Int) := of_decide_eq_true h4
        obtain ⟨v0, hv0⟩ : ∃ v0, x.across.getD i 0 = L.n + v0 := ⟨x.across.getD i 0 - L.n, by omega⟩
        refine ⟨_, rfl, t, C, dx3, _, _, rfl, hins3, TT.cl, TT.nG, rfl, 1, rfl, G, _, -1, .ref ra, rfl, rfl, Or.inl (Or.inl TB3.grid), atI_m1 r3 rlen, _, rfl, ra, _, (i : Int), _, rfl, rfl, Or.inl (Or.inl r2), atI_nat (rowV_at (show i < L.n + 1 by omega)), ?_⟩
        refine ⟨_, rfl, _, rfl, _, rfl, _, _, rfl, rfl, p, _, _, v0, rfl, rfl, h3, (by rw [hv0, List.length_map, List.length_range, show (((L.n + v0 : Nat) : Int) - (L.n : Int)) = (v0 : Int) by omega]; exact ixN_nat (by omega)), _, _, rfl, smut s3 hpH, ?_⟩
        rw [upd_same, range_set (by omega), ent_gc (by omega)]
        congr 2
        refine List.map_congr_left fun v _ => ?_
        by_cases e : v = v0
        · rw [if_pos e, e, at0 v0 hv0]
        · rw [if_neg e, same0 v (by omega)]
      · have h4 : ¬ (((L.n : Nat) : Int) ≤ ((x.across.getD i 0 : Nat) : Int)) := by simpa using h4
        refine ⟨_, _, rfl, s3, ?_⟩
        rw [h3]
        congr 2
        refine List.map_congr_left fun v hv => ?_
        rw [same0 v (by omega)]
    · rintro σ H2 ⟨y3, y4, rfl, s2, h2⟩
      rw [natV_len, la] at h2
      refine ⟨_, rfl, q p H2 s2 hpH ?_⟩
      rw [h2]
      unfold priV
      congr 2
      refine List.map_congr_left fun v hv => ?_
      rw [List.mem_range] at hv
      rw [Zp_sm TB.ok hv]
end
end Fr

namespace Fr
open PySem PySem.Spec PyProof.Rows L2
abbrev s_Tableau_init : Stmt := inClass (topS 41) 0
theorem sc_Tableau_init : FnScope ["self", "rows", "limits", "worths", "row", "limit", "worth"] ["self", "rows", "limits", "worths"] (defScope s_Tableau_init) := ⟨rfl, rfl, rfl, by decide +kernel, rfl, by decide +kernel, by decide +kernel⟩
-- slots: 0 self, 1 rows, 2 limits, 3 worths, 4 row, 5 limit, 6 worth
abbrev s_greatest : Stmt := topS 42
theorem sc_greatest : FnScope ["rows", "limits", "worths", "tableau", "column", "row"] ["rows", "limits", "worths"] (defScope s_greatest) := ⟨rfl, rfl, rfl, by decide +kernel, rfl, by decide +kernel, by decide +kernel⟩
-- slots: 0 rows, 1 limits, 2 worths, 3 tableau, 4 column, 5 row
theorem nGS : ¬ (("grid" : Str) = "scale") := by decide +kernel
theorem nGA : ¬ (("grid" : Str) = "across") := by decide +kernel
theorem nSA : ¬ (("scale" : Str) = "across") := by decide +kernel
theorem nGD : ¬ (("grid" : Str) = "down") := by decide +kernel
theorem nSD : ¬ (("scale" : Str) = "down") := by decide +kernel
theorem nAD : ¬ (("across" : Str) = "down") := by decide +kernel
theorem putF_s {g v : V} : putF "scale" v [("grid", g)] = ([("grid", g), ("scale", v)] : List (Str × V)) := by
  simp only [putF, if_neg nGS]
theorem putF_a {g u v : V} : putF "across" v [("grid", g), ("scale", u)] = ([("grid", g), ("scale", u), ("across", v)] : List (Str × V)) := by
  simp only [putF, if_neg nGA, if_neg nSA]
theorem putF_d {g u v z : V} : putF "down" v [("grid", g), ("scale", u), ("across", z)] = ([("grid", g), ("scale", u), ("across", z), ("down", v)] : List (Str × V)) := by
  simp only [putF, if_neg nGD, if_neg nSD, if_neg nAD]
/-- rows, limits and worths, as they are passed -/
def InAt (K : PySem.W.Frag) (H : Hp) (v1 v2 v3 : V) (n m : Nat) (A : Nat → Nat → Int) (Lm wt : Nat → Int) : Prop := ∃ (a b c : Addr) (ra : List Addr), v1 = .ref a ∧ v2 = .ref b ∧ v3 = .ref c ∧ H a = some (.lst (ra.map V.ref)) ∧ ra.length = m ∧
  (∀ i r, ra[i]? = some r → H r = some (.lst ((List.range n).map fun j => V.int (A i j)))) ∧ SqL K H b ((List.range m).map fun i => V.int (Lm i)) ∧ SqL K H c ((List.range n).map fun j => V.int (wt j))
theorem InAt.same {K : PySem.W.Frag} {H H' : Hp} {v1 v2 v3 : V} {n m : Nat} {A : Nat → Nat → Int} {Lm wt : Nat → Int} (h : InAt K H v1 v2 v3 n m A Lm wt) (e : Same H H') : InAt K H' v1 v2 v3 n m A Lm wt := by
  obtain ⟨a, b, c, ra, h1, h2, h3, h4, h5, h6, h7, h8⟩ := h
  exact ⟨a, b, c, ra, h1, h2, h3, e _ _ h4, h5, fun i r q => e _ _ (h6 i r q), sql e h7, sql e h8⟩
theorem row_begin {n m : Nat} {A : Nat → Nat → Int} {Lm wt : Nat → Int} {i : Nat} (hi : i < m) : ((List.range n).map fun j => V.int (A i j)) ++ [V.int (Lm i)] = rowV (Sx.prOf n m A Lm wt) (Sx.begins n m) i := by
  unfold rowV
  show _ = (List.range (n + 1)).map _
  rw [List.range_succ, List.map_append]
  congr 1
  · refine List.map_congr_left fun j hj => ?_
    rw [List.mem_range] at hj
    rw [Sx.begin_ent (by omega) (by omega), if_pos hj, if_pos hi]
  · show _ = [V.int (Sx.ent _ _ i n)]
    rw [Sx.begin_ent (by omega) (by omega), if_neg (Nat.lt_irrefl _), if_pos hi]
theorem row_last {n m : Nat} {A : Nat → Nat → Int} {Lm wt : Nat → Int} : ((List.range n).map fun j => V.int (-wt j)) ++ [V.int 0] = rowV (Sx.prOf n m A Lm wt) (Sx.begins n m) m := by
  unfold rowV
  show _ = (List.range (n + 1)).map _
  rw [List.range_succ, List.map_append]
  congr 1
  · refine List.map_congr_left fun j hj => ?_
    rw [List.mem_range] at hj
    rw [Sx.begin_ent (by omega) (by omega), if_pos hj, if_neg (Nat.lt_irrefl _)]
  · show _ = [V.int (Sx.ent _ _ m n)]
    rw [Sx.begin_ent (by omega) (by omega), if_neg (Nat.lt_irrefl _), if_neg (Nat.lt_irrefl _)]
section
variable {P : Program} {w : World} {K : PySem.W.Frag} {mg : Str → Option Value} {base : Heap}
def spTabInit (K : PySem.W.Frag) (C : Addr) : Sp := fun vs H Q _ => ∃ (s dx : Addr) (v1 v2 v3 : V) (n m : Nat) (A : Nat → Nat → Int) (Lm wt : Nat → Int) (B : Hp), vs = [.ref s, v1, v2, v3] ∧ H s = some (.ins C dx []) ∧ InAt K H v1 v2 v3 n m A Lm wt ∧ Same B H ∧ B s = none ∧
  n ≤ 1000 ∧ m ≤ 1000 ∧ (∀ i, i < m → 0 ≤ Lm i) ∧ ∀ H', TabB C B H' s (Sx.prOf n m A Lm wt) (Sx.begins n m) → Q .non H'
theorem ok_tabinit {f C : Addr} {fd : FuncData} (F : Fun K "__init__" "Tableau.__init__" s_Tableau_init f fd) (T : Txt mg) (TT : TxtT K mg C) : FnOk P w K mg base CX0 1 f fd ["self", "rows", "limits", "worths"] (spTabInit K C) := by
  refine F.ok sc_Tableau_init (fun vs H Q E h => ?_) (fun cdv Ar outer sh H vs Q E hr h => ?_)
  · obtain ⟨s, dx, v1, v2, v3, n, m, A, Lm, wt, B, rfl, _⟩ := h
    rfl
  · obtain ⟨s, dx, v1, v2, v3, n, m, A, Lm, wt, B, rfl, hs, ⟨a, b, c, ra, rfl, rfl, rfl, ha, lra, hrow, hb, hc⟩, sB, ns, n1, m1, hL, q⟩ := h
    refine ⟨_, (pss_cons (ps_fld (pv 0) (pe_lc (own := [("row", 4), ("limit", 5)]) (g := gTup K 2 (gCons (gName 4) (gCons (gName 5) gNil))) (tt := tYes) (by rfl) sc_Tableau_init.nd (pi_zip (by rfl) T.b_zip (pa_cons (pv 1) (pa_cons (pv 2) pa_nil))) (blkOk_by (N := ["self", "rows", "limits", "worths", "row", "limit", "worth"]) (sc := defScope s_Tableau_init) (by decide +kernel)) (fun _ _ _ _ _ => (pg_tup rfl (pgs_cons (pg_name (i := 4) sc_Tableau_init.nd rfl (by first | exact Or.inl rfl | exact Or.inr rfl)) (pgs_cons (pg_name (i := 5) sc_Tableau_init.nd rfl (by first | exact Or.inl rfl | exact Or.inr rfl)) pgs_nil)))) (fun _ _ _ _ _ => pts_nil) (fun _ _ _ _ _ => (pe_op op_cat (pv 4) (pe_lst (pa_cons (pv 5) pa_nil))))) rfl)
  (pss_cons (ps_expr (pe_bm PySem.F.plainAttrs_list PySem.F.slot_list_append PySem.F.type_list_append mt_append (pe_fld (pv 0) rfl) (pa_cons (pe_op op_cat (pe_lc (own := [("worth", 6)]) (g := gName 6) (tt := tYes) (by rfl) sc_Tableau_init.nd (pi_list (pv 3)) (blkOk_by (N := ["self", "rows", "limits", "worths", "row", "limit", "worth"]) (sc := defScope s_Tableau_init) (by decide +kernel)) (fun _ _ _ _ _ => (pg_name (i := 6) sc_Tableau_init.nd rfl (by first | exact Or.inl rfl | exact Or.inr rfl))) (fun _ _ _ _ _ => pts_nil) (fun _ _ _ _ _ => (pe_un un_neg (pv 6)))) (pe_lst (pa_cons pe_int pa_nil))) pa_nil)))
  (pss_cons (ps_fld (pv 0) pe_int rfl)
  (pss_cons (ps_fld (pv 0) (pe_listRg rfl (by rfl) T.b_list (prg_1 (by rfl) T.b_range (pe_callB call_len_seq (by rfl) T.b_len PySem.boot_len (pa_cons (pv 3) pa_nil)))) rfl)
  (pss_one (ps_fld (pv 0) (pe_listRg rfl (by rfl) T.b_list (prg_2 (by rfl) T.b_range (pe_callB call_len_seq (by rfl) T.b_len PySem.boot_len (pa_cons (pv 3) pa_nil)) (pe_op op_add (pe_callB call_len_seq (by rfl) T.b_len PySem.boot_len (pa_cons (pv 3) pa_nil)) (pe_callB call_len_seq (by rfl) T.b_len PySem.boot_len (pa_cons (pv 1) pa_nil))))) rfl)))))), ?_⟩
    have hmin : m = min (ra.map V.ref).length ((List.range m).map fun i => V.int (Lm i)).length := by
      rw [List.length_map, List.length_map, List.length_range, lra, Nat.min_self]
    refine ⟨_, rfl, _, rfl, a, b, _, _, rfl, Or.inl (Or.inl ha), hb, fun Dg hDg => lc_it (walk_zip (K := K) (a := a) (b := b) (xs := ra.map V.ref) (ys := (List.range m).map fun i => V.int (Lm i)) hmin)
      (fun i H' => Same H H' ∧ ∃ rs : List Addr, rs.length = i ∧ H' Dg = some (.lst (rs.map V.ref)) ∧ rs.Nodup ∧ ∀ j r, rs[j]? = some r → H r = none ∧ r ≠ Dg ∧ H' r = some (.lst (((List.range n).map fun k => V.int (A j k)) ++ [V.int (Lm j)])))
      ⟨snew hDg, [], rfl, upd_same, List.nodup_nil, fun j r h => by cases h⟩ (fun i H' _ ⟨s1, _⟩ => ⟨Or.inl (Or.inl (s1 _ _ ha)), sql s1 hb⟩) ?_ ?_⟩
    · rintro i v H1 H2 hi ⟨s1, rs, lrs, hD1, ndr, hrs⟩ ⟨Tp, z1, z2, rfl, hT, rfl, e1, e2⟩
      have e1' : (ra.map V.ref)[i]? = some z1 := e1
      have e2' : ((List.range m).map fun i => V.int (Lm i))[i]? = some z2 := e2
      rw [List.getElem?_map] at e1'
      obtain ⟨r, hr1, rfl⟩ := Option.map_eq_some_iff.mp e1'
      rw [List.getElem?_map, List.getElem?_range (by omega)] at e2'
      cases e2'
      have s2 := snew (o := .tup [V.ref r, V.int (Lm i)]) hT
      have hT2 : (upd H1 Tp (.tup [V.ref r, V.int (Lm i)])) Tp = some (.tup [V.ref r, V.int (Lm i)]) := upd_same
      have s12 := same_tr s1 s2
      have hD2 := s2 _ _ hD1
      have hrs2 := fun j r' h => s2 _ _ (hrs j r' h).2.2
      generalize upd H1 Tp (.tup [V.ref r, V.int (Lm i)]) = H2 at s2 hT2 s12 hD2 hrs2 ⊢
      refine ⟨Tp, _, rfl, Or.inl (Or.inl hT2), rfl, _, _, rfl, _, _, rfl, rfl, rfl, ?_⟩
      refine ⟨_, rfl, _, rfl, by show 1 ≤ sizeLine; decide, fun l1 hl1 => ?_⟩
      have s3 := snew (o := .lst [V.int (Lm i)]) hl1
      have h13 : (upd H2 l1 (.lst [V.int (Lm i)])) l1 = some (.lst [V.int (Lm i)]) := upd_same
      have s13 := same_tr s12 s3
      have hD3 := s3 _ _ hD2
      have hrs3 := fun j r' h => s3 _ _ (hrs2 j r' h)
      generalize upd H2 l1 (.lst [V.int (Lm i)]) = H3 at s3 h13 s13 hD3 hrs3 ⊢
      refine ⟨_, _, _, _, rfl, rfl, s13 _ _ (hrow i r hr1), h13, ?_, fun p hp => ?_⟩
      · rw [List.length_map, List.length_range, sizeLine_eq]
        show n + 1 ≤ _
        omega
      have s4 := snew (o := .lst (((List.range n).map fun j => V.int (A i j)) ++ [V.int (Lm i)])) hp
      have hp4 : (upd H3 p (.lst (((List.range n).map fun j => V.int (A i j)) ++ [V.int (Lm i)]))) p = some (.lst (((List.range n).map fun j => V.int (A i j)) ++ [V.int (Lm i)])) := upd_same
      have s14 := same_tr s13 s4
      have hD4 := s4 _ _ hD3
      have hrs4 := fun j r' h => s4 _ _ (hrs3 j r' h)
      have hpH : H p = none := free_of s13 hp
      have pD : p ≠ Dg := (ne_of_none hD3 hp).symm
      have pn : p ∉ rs := fun hm => by
        obtain ⟨j, hj⟩ := List.mem_iff_getElem?.mp hm
        exact ne_of_none (hrs3 j p hj) hp rfl
      generalize upd H3 p (.lst (((List.range n).map fun j => V.int (A i j)) ++ [V.int (Lm i)])) = H4 at s4 hp4 s14 hD4 hrs4 ⊢
      refine ⟨_, hD4, ?_, smut s14 hDg, rs ++ [p], by rw [List.length_append, lrs]; rfl, ?_, ?_, ?_⟩
      · rw [List.length_map, lrs, sizeLine_eq]
        omega
      · rw [upd_same, List.map_append]
        rfl
      · rw [List.nodup_append]
        refine ⟨ndr, by simp, fun x hx y hy => ?_⟩
        rw [List.mem_singleton.mp hy]
        exact fun e => pn (by rw [← e]; exact hx)
      · intro j r' hj
        by_cases e : j < rs.length
        · rw [List.getElem?_append_left e] at hj
          obtain ⟨f1, f2, _⟩ := hrs j r' hj
          exact ⟨f1, f2, by rw [upd_ne f2]; exact hrs4 j r' hj⟩
        · rw [List.getElem?_append_right (by omega)] at hj
          have ej : j - rs.length = 0 := by
            rcases Nat.eq_zero_or_pos (j - rs.length) with z | z
            · exact z
            · rw [List.getElem?_eq_none (by simp; omega)] at hj
              cases hj
          rw [ej] at hj
          cases hj
          have ji : j = i := by omega
          rw [ji]
          exact ⟨hpH, pD, by rw [upd_ne pD]; exact hp4⟩
    · rintro H1 ⟨s1, rs, lrs, hD1, ndr, hrs⟩
      have hs1 := s1 _ _ hs
      refine ⟨_, rfl, s, C, dx, _, rfl, hs1, TT.cl, TT.nG, (by show 0 < 1000; decide), ?_⟩
      have hc2 : SqL K (upd H1 s (.ins C dx (putF "grid" (.ref Dg) []))) c ((List.range n).map fun j => V.int (wt j)) := sqld (SD.upd (.of s1) hs1 rfl) hc
      have ha2 : SqL K (upd H1 s (.ins C dx (putF "grid" (.ref Dg) []))) a (ra.map V.ref) := sqld (SD.upd (.of s1) hs1 rfl) (Or.inl (Or.inl ha))
      have d2 : SD H (upd H1 s (.ins C dx (putF "grid" (.ref Dg) []))) := SD.upd (.of s1) hs1 rfl
      have hs2 : (upd H1 s (.ins C dx (putF "grid" (.ref Dg) []))) s = some (.ins C dx [("grid", .ref Dg)]) := upd_same
      have lsn : ∀ {y : Addr} {xs : List V}, H1 y = some (.lst xs) → y ≠ s := fun h => (ne_of hs1 h (by intro z; cases z)).symm
      have hD2 : (upd H1 s (.ins C dx (putF "grid" (.ref Dg) []))) Dg = some (.lst (rs.map V.ref)) := by rw [upd_ne (lsn hD1)]; exact hD1
      have hrs2 : ∀ j r, rs[j]? = some r → (upd H1 s (.ins C dx (putF "grid" (.ref Dg) []))) r = some (.lst (((List.range n).map fun k => V.int (A j k)) ++ [V.int (Lm j)])) := fun j r h => by
        rw [upd_ne (lsn (hrs j r h).2.2)]
        exact (hrs j r h).2.2
      have sB2 : Same B (upd H1 s (.ins C dx (putF "grid" (.ref Dg) []))) := smut (same_tr sB s1) ns
      have rB : ∀ r ∈ rs, B r = none ∧ r ≠ Dg := fun r hr => by
        obtain ⟨j, hj⟩ := List.mem_iff_getElem?.mp hr
        exact ⟨free_of sB (hrs j r hj).1, (hrs j r hj).2.1⟩
      have DB : B Dg = none := free_of sB hDg
      generalize upd H1 s (.ins C dx (putF "grid" (.ref Dg) [])) = H2 at hc2 ha2 d2 hs2 hD2 hrs2 sB2 ⊢
      clear lsn hs1 hD1 hrs s1
      refine ⟨_, rfl, s, C, dx, _, _, rfl, hs2, TT.cl, TT.nG, rfl, Or.inl ⟨rfl, _, Or.inl (Or.inl hD2)⟩, ?_⟩
      refine ⟨_, rfl, c, rfl, ⟨_, hc2⟩, fun D2 hD22 => lc_flat (walk_list (K := K) (a := c) (xs := (List.range n).map fun j => V.int (wt j))) (fun i => .int (-wt i)) ?_ hD22 (fun H' sm => sql sm hc2) (fun i H x H' y => yat_same y) ?_ ?_⟩
      · rw [List.length_map, List.length_range]
        omega
      · rintro i v H3 H4 hi sm ⟨rfl, hy⟩ R hR
        rw [List.getElem?_map] at hy
        rw [List.length_map, List.length_range] at hi
        rw [List.getElem?_range hi] at hy
        cases hy
        exact ⟨rfl, _, rfl, _, rfl, hR _ same_refl⟩
      · intro H3 s3 hD3
        rw [List.length_map, List.length_range] at hD3
        refine ⟨by show 1 ≤ sizeLine; decide, fun l hl => ?_⟩
        have s4 := snew (o := .lst [V.int 0]) hl
        have hl4 : (upd H3 l (.lst [V.int 0])) l = some (.lst [V.int 0]) := upd_same
        have hD4 := s4 _ _ hD3
        have s24 := same_tr s3 s4
        generalize upd H3 l (.lst [V.int 0]) = H4 at hl4 hD4 s24 ⊢
        refine ⟨_, _, _, _, rfl, rfl, hD4, hl4, ?_, fun p hp => ?_⟩
        · rw [List.length_map, List.length_range, sizeLine_eq]
          show n + 1 ≤ _
          omega
        have s5 := snew (o := .lst (((List.range n).map fun i => V.int (-wt i)) ++ [V.int 0])) hp
        have hp5 : (upd H4 p (.lst (((List.range n).map fun i => V.int (-wt i)) ++ [V.int 0]))) p = some (.lst (((List.range n).map fun i => V.int (-wt i)) ++ [V.int 0])) := upd_same
        have s25 := same_tr s24 s5
        have pH2 : H2 p = none := free_of s24 hp
        generalize upd H4 p (.lst (((List.range n).map fun i => V.int (-wt i)) ++ [V.int 0])) = H5 at hp5 s25 ⊢
        have hD5 := s25 _ _ hD2
        have hs5 := s25 _ _ hs2
        have hrs5 := fun j r h => s25 _ _ (hrs2 j r h)
        have d5 := d2.tr (.of s25)
        have sB5 := same_tr sB2 s25
        have pB : B p = none := free_of sB2 pH2
        have pD : p ≠ Dg := (ne_of_none hD2 pH2).symm
        have pn : p ∉ rs := fun hm => by
          obtain ⟨j, hj⟩ := List.mem_iff_getElem?.mp hm
          exact ne_of_none (hrs2 j p hj) pH2 rfl
        clear hD4 s4 hl4 s24 s3 hD3 s5 s25
        refine ⟨Dg, _, _, rfl, rfl, hD5, ?_, ?_⟩
        · rw [List.length_map, lrs, sizeLine_eq]
          omega
        -- the grid is whole
        have er : rs.map V.ref ++ [V.ref p] = (rs ++ [p]).map V.ref := by rw [List.map_append]; rfl
        rw [er]
        have rD : ∀ r ∈ rs, r ≠ Dg := fun r hr => (rB r hr).2
        have sD : s ≠ Dg := ne_of hs5 hD5 (by intro z; cases z)
        have hD6 : (upd H5 Dg (.lst ((rs ++ [p]).map V.ref))) Dg = some (.lst ((rs ++ [p]).map V.ref)) := upd_same
        have hs6 : (upd H5 Dg (.lst ((rs ++ [p]).map V.ref))) s = some (.ins C dx [("grid", .ref Dg)]) := by rw [upd_ne sD]; exact hs5
        have row6 : ∀ i r, (rs ++ [p])[i]? = some r → (upd H5 Dg (.lst ((rs ++ [p]).map V.ref))) r = some (.lst (rowV (Sx.prOf n m A Lm wt) (Sx.begins n m) i)) := fun i r hi => by
          by_cases e : i < rs.length
          · rw [List.getElem?_append_left e] at hi
            rw [upd_ne (rD r (List.mem_of_getElem? hi)), ← row_begin (by omega)]
            exact hrs5 i r hi
          · have hi2 := (List.getElem?_eq_some_iff.mp hi).1
            rw [List.length_append, List.length_singleton] at hi2
            have ei : i = rs.length := by omega
            rw [ei, List.getElem?_append_right (Nat.le_refl _), Nat.sub_self] at hi
            cases hi
            rw [upd_ne pD, ei, lrs, ← row_last]
            exact hp5
        have mutD : ∀ {y : Addr} {o : HO}, H2 y = none → y ≠ Dg := fun {y o} h => (ne_of_none hD2 h).symm
        have sB6 : Same B (upd H5 Dg (.lst ((rs ++ [p]).map V.ref))) := smut sB5 DB
        have nd6 : (rs ++ [p]).Nodup := by
          rw [List.nodup_append]
          refine ⟨ndr, by simp, fun x hx y hy => ?_⟩
          rw [List.mem_singleton.mp hy]
          exact fun e => pn (by rw [← e]; exact hx)
        have rB6 : ∀ r ∈ rs ++ [p], B r = none ∧ r ≠ Dg := fun r hr => by
          rcases List.mem_append.mp hr with h | h
          · exact rB r h
          · rw [List.mem_singleton.mp h]
            exact ⟨pB, pD⟩
        have len6 : (rs ++ [p]).length = m + 1 := by rw [List.length_append, lrs]; rfl
        have d6 : SD H (upd H5 Dg (.lst ((rs ++ [p]).map V.ref))) := fun b o h hd => by
          rw [upd_ne (ne_of_none h hDg)]
          exact d5 b o h hd
        generalize upd H5 Dg (.lst ((rs ++ [p]).map V.ref)) = H6 at hD6 hs6 row6 sB6 d6 ⊢
        generalize rs ++ [p] = rs at hD6 row6 nd6 rB6 len6
        clear hs5 hD5 hrs5 sB5 d5 hs2 hD2 hrs2 sB2 d2 hc2 ha2 mutD
        -- the other fields
        refine ⟨_, rfl, s, C, dx, _, rfl, hs6, TT.cl, TT.nS, (by show 1 < 1000; decide), ?_⟩
        rw [putF_s]
        have hs7 : (upd H6 s (.ins C dx [("grid", .ref Dg), ("scale", .int 1)])) s = some (.ins C dx [("grid", .ref Dg), ("scale", .int 1)]) := upd_same
        have sB7 : Same B (upd H6 s (.ins C dx [("grid", .ref Dg), ("scale", .int 1)])) := smut sB6 ns
        have d7 : SD H (upd H6 s (.ins C dx [("grid", .ref Dg), ("scale", .int 1)])) := SD.upd d6 hs6 rfl
        have k7 : ∀ {y : Addr} {xs : List V}, H6 y = some (.lst xs) → (upd H6 s (.ins C dx [("grid", .ref Dg), ("scale", .int 1)])) y = some (.lst xs) := fun h => by
          rw [upd_ne (ne_of hs6 h (by intro z; cases z)).symm]
          exact h
        generalize upd H6 s (.ins C dx [("grid", .ref Dg), ("scale", .int 1)]) = H7 at hs7 sB7 d7 k7 ⊢
        have lc7 : ((List.range n).map fun j => V.int (wt j)).length = n := by rw [List.length_map, List.length_range]
        refine ⟨_, rfl, c, _, rfl, Or.inl (sqld d7 hc), _, rfl, (by rw [lc7]; exact RgOk.of_le (by omega) (by omega) (by omega) (by omega)), fun qa hqa => ?_⟩
        have ea : rgV 0 ((((List.range n).map fun j => V.int (wt j)).length : Nat) : Int) = natV (List.range n) := by
          rw [lc7]
          unfold rgV natV
          rw [Int.sub_zero, Int.toNat_natCast]
          refine List.map_congr_left fun i _ => ?_
          rw [Int.zero_add]
        rw [ea]
        have s8 := snew (o := .lst (natV (List.range n))) hqa
        have hq8 : (upd H7 qa (.lst (natV (List.range n)))) qa = some (.lst (natV (List.range n))) := upd_same
        have hs8 := s8 _ _ hs7
        have sB8 := same_tr sB7 s8
        have d8 := d7.tr (.of s8)
        have k8 : ∀ {y : Addr} {xs : List V}, H6 y = some (.lst xs) → (upd H7 qa (.lst (natV (List.range n)))) y = some (.lst xs) := fun h => s8 _ _ (k7 h)
        have qaB : B qa = none := free_of sB7 hqa
        have qa6 : ∀ {y : Addr} {xs : List V}, H6 y = some (.lst xs) → y ≠ qa := fun h => ne_of_none (k7 h) hqa
        generalize upd H7 qa (.lst (natV (List.range n))) = H8 at hq8 hs8 sB8 d8 k8 ⊢
        refine ⟨_, rfl, s, C, dx, _, rfl, hs8, TT.cl, TT.nA, (by show 2 < 1000; decide), ?_⟩
        rw [putF_a]
        have hs9 : (upd H8 s (.ins C dx [("grid", .ref Dg), ("scale", .int 1), ("across", .ref qa)])) s = some (.ins C dx [("grid", .ref Dg), ("scale", .int 1), ("across", .ref qa)]) := upd_same
        have sB9 : Same B (upd H8 s (.ins C dx [("grid", .ref Dg), ("scale", .int 1), ("across", .ref qa)])) := smut sB8 ns
        have d9 : SD H (upd H8 s (.ins C dx [("grid", .ref Dg), ("scale", .int 1), ("across", .ref qa)])) := SD.upd d8 hs8 rfl
        have k9 : ∀ {y : Addr} {xs : List V}, H8 y = some (.lst xs) → (upd H8 s (.ins C dx [("grid", .ref Dg), ("scale", .int 1), ("across", .ref qa)])) y = some (.lst xs) := fun h => by
          rw [upd_ne (ne_of hs8 h (by intro z; cases z)).symm]
          exact h
        generalize upd H8 s (.ins C dx [("grid", .ref Dg), ("scale", .int 1), ("across", .ref qa)]) = H9 at hs9 sB9 d9 k9 ⊢
        have la7 : (ra.map V.ref).length = m := by rw [List.length_map, lra]
        refine ⟨_, rfl, c, _, rfl, Or.inl (sqld d9 hc), _, rfl, c, _, rfl, Or.inl (sqld d9 hc), _, rfl, a, _, rfl, Or.inl (sqld d9 (Or.inl (Or.inl ha))), _, _, rfl, rfl, _, _, rfl, rfl, (by rw [lc7, la7]; exact RgOk.of_le (by omega) (by omega) (by omega) (by omega)), fun qd hqd => ?_⟩
        have ed : rgV ((((List.range n).map fun j => V.int (wt j)).length : Nat) : Int) (((((List.range n).map fun j => V.int (wt j)).length : Nat) : Int) + (((ra.map V.ref).length : Nat) : Int)) = natV ((List.range m).map fun i => n + i) := by
          rw [lc7, la7]
          unfold rgV natV
          rw [show ((n : Int) + (m : Int) - (n : Int)).toNat = m by omega, List.map_map]
          refine List.map_congr_left fun i _ => ?_
          show V.int ((n : Int) + (i : Int)) = V.int (((n + i : Nat)) : Int)
          rw [Int.natCast_add]
        rw [ed]
        have s10 := snew (o := .lst (natV ((List.range m).map fun i => n + i))) hqd
        have hq10 : (upd H9 qd (.lst (natV ((List.range m).map fun i => n + i)))) qd = some (.lst (natV ((List.range m).map fun i => n + i))) := upd_same
        have hs10 := s10 _ _ hs9
        have sB10 := same_tr sB9 s10
        have k10 : ∀ {y : Addr} {xs : List V}, H6 y = some (.lst xs) → (upd H9 qd (.lst (natV ((List.range m).map fun i => n + i)))) y = some (.lst xs) := fun h => s10 _ _ (k9 (k8 h))
        have hqa10 := s10 _ _ (k9 hq8)
        have qdB : B qd = none := free_of sB9 hqd
        have qd6 : ∀ {y : Addr} {xs : List V}, H6 y = some (.lst xs) → y ≠ qd := fun h => ne_of_none (k9 (k8 h)) hqd
        have qaqd : qa ≠ qd := ne_of_none (k9 hq8) hqd
        generalize upd H9 qd (.lst (natV ((List.range m).map fun i => n + i))) = H10 at hq10 hs10 sB10 k10 hqa10 ⊢
        refine ⟨_, rfl, s, C, dx, _, rfl, hs10, TT.cl, TT.nD, (by show 3 < 1000; decide), ?_⟩
        rw [putF_d]
        have k11 : ∀ {y : Addr} {xs : List V}, H10 y = some (.lst xs) → (upd H10 s (.ins C dx [("grid", .ref Dg), ("scale", .int 1), ("across", .ref qa), ("down", .ref qd)])) y = some (.lst xs) := fun h => by
          rw [upd_ne (ne_of hs10 h (by intro z; cases z)).symm]
          exact h
        refine q _ ⟨Dg, qa, qd, rs, ⟨⟨dx, ?_⟩, k11 (k10 hD6), len6, fun i r hi => k11 (k10 (row6 i r hi)), k11 hqa10, k11 hq10, ?_, Sx.begin_ok hL⟩, smut sB10 ns, ns, fun y hy => ?_⟩
        · rw [upd_same, Sx.begin_sc]
          rfl
        · have r6 : ∀ r ∈ rs, ∃ xs, H6 r = some (.lst xs) := fun r hr => by
            obtain ⟨i, hi⟩ := List.mem_iff_getElem?.mp hr
            exact ⟨_, row6 i r hi⟩
          rw [List.nodup_cons, List.nodup_cons, List.nodup_cons]
          refine ⟨fun hm => ?_, fun hm => ?_, fun hm => ?_, nd6⟩
          · rcases List.mem_cons.mp hm with h | hm
            · exact qa6 hD6 h
            · rcases List.mem_cons.mp hm with h | hm
              · exact qd6 hD6 h
              · exact (rB6 Dg hm).2 rfl
          · rcases List.mem_cons.mp hm with h | hm
            · exact qaqd h
            · obtain ⟨xs, hx⟩ := r6 qa hm
              exact qa6 hx rfl
          · obtain ⟨xs, hx⟩ := r6 qd hm
            exact qd6 hx rfl
        · rcases List.mem_cons.mp hy with h | hy
          · rw [h]; exact DB
          · rcases List.mem_cons.mp hy with h | hy
            · rw [h]; exact qaB
            · rcases List.mem_cons.mp hy with h | hy
              · rw [h]; exact qdB
              · exact (rB6 y hy).1
/-- what `greatest` tells -/
def spGreatest (K : PySem.W.Frag) : Sp := fun vs H Q _ => ∃ (v1 v2 v3 : V) (n m : Nat) (A : Nat → Nat → Int) (Lm wt : Nat → Int), vs = [v1, v2, v3] ∧ InAt K H v1 v2 v3 n m A Lm wt ∧ Fits (Sx.prOf n m A Lm wt) ∧ (∀ i, i < m → 0 ≤ Lm i) ∧
  ∀ x, Sx.Reach (Sx.prOf n m A Lm wt) (Sx.begins n m) x →
    (∀ c H', Same H H' → Sx.Enters (Sx.prOf n m A Lm wt) x c → (∀ r, r < m → Sx.gc (Sx.prOf n m A Lm wt) x r c ≤ 0) → Q .non H') ∧
    (Sx.Best (Sx.prOf n m A Lm wt) x → ∀ p p1 p2 H', Same H H' → H' p = some (.tup [.ref p1, .ref p2, .int (Sx.sc (Sx.prOf n m A Lm wt) x)]) → H' p1 = some (.lst (solV (Sx.prOf n m A Lm wt) x)) → H' p2 = some (.lst (priV (Sx.prOf n m A Lm wt) x)) → H p1 = none → H p2 = none → Q (.ref p) H')
theorem ok_greatest {f C : Addr} {fd : FuncData} (F : Fun K "greatest" "greatest" s_greatest f fd) (T : Txt mg) (TT : TxtT K mg C) (m_Tableau : C8.Mak P w K mg base 1 "Tableau" C (spTabInit K C) []) (t_entering : C8.Met P w K mg base 1 C "entering" (spEntering K C) []) (t_leaving : C8.Met P w K mg base 1 C "leaving" (spLeaving K C) [])
    (t_exchange : C8.Met P w K mg base 1 C "exchange" (spExchange K C) []) (t_solution : C8.Met P w K mg base 1 C "solution" (spSolution K C) []) (t_prices : C8.Met P w K mg base 1 C "prices" (spPrices K C) []) : FnOk P w K mg base CX0 3 f fd ["rows", "limits", "worths"] (spGreatest K) := by
  refine F.ok sc_greatest (fun vs H Q E h => ?_) (fun cdv Ar outer sh H vs Q E hr h => ?_)
  · obtain ⟨v1, v2, v3, n, m, A, Lm, wt, rfl, _⟩ := h
    rfl
  · obtain ⟨v1, v2, v3, n, m, A, Lm, wt, rfl, IA, FI, hL, q⟩ := h
    refine ⟨_, (pss_cons (ps_set (i := 3) sc_greatest.nd rfl (by first | exact Or.inl rfl | exact Or.inr rfl) (C8.pe_mk m_Tableau hr (by decide) (by rfl) (pa_cons (pv 0) (pa_cons (pv 1) (pa_cons (pv 2) pa_nil)))))
  (pss_cons (ps_set (i := 4) sc_greatest.nd rfl (by first | exact Or.inl rfl | exact Or.inr rfl) (C8.pe_mt0 t_entering hr (by decide) (pv 3)))
  (pss_cons (ps_while PassesOwn.never (pt_cmpR op_notN (pv 4) pe_non (nomark _))
    (pss_cons (ps_set (i := 5) sc_greatest.nd rfl (by first | exact Or.inl rfl | exact Or.inr rfl) (C8.pe_mt t_leaving hr (by decide) (pv 3) (pa_cons (pv 4) pa_nil)))
    (pss_cons (ps_if (pt_cmpR op_isN (pv 5) pe_non (nomark _))
      (pss_one (ps_ret pe_non))
      pss_nil)
    (pss_cons (ps_expr (C8.pe_mt t_exchange hr (by decide) (pv 3) (pa_cons (pv 5) (pa_cons (pv 4) pa_nil))))
    (pss_one (ps_set (i := 4) sc_greatest.nd rfl (by first | exact Or.inl rfl | exact Or.inr rfl) (C8.pe_mt0 t_entering hr (by decide) (pv 3))))))))
  (pss_one (ps_ret (pe_tup (pa_cons (C8.pe_mt0 t_solution hr (by decide) (pv 3)) (pa_cons (C8.pe_mt0 t_prices hr (by decide) (pv 3)) (pa_cons (pe_fld (pv 3) rfl) pa_nil))))))))), ?_⟩
    refine ⟨_, rfl, _, rfl, _, rfl, fun s dx hs hdx nsd => ?_⟩
    have n1 := FI.n
    have m1 := FI.m
    have s0 : Same H (upd (upd H dx (.own s)) s (.ins C dx [])) := smut (snew hdx) hs
    refine ⟨s, dx, v1, v2, v3, n, m, A, Lm, wt, H, rfl, upd_same, IA.same s0, s0, hs, n1, m1, hL, fun H1 tb => ⟨rfl, ?_⟩⟩
    have nof : ∀ {G A D : Addr} {sc : Int} {z : Str}, ¬ z = "grid" → ¬ z = "scale" → ¬ z = "across" → ¬ z = "down" → (tabF G sc A D).lookup z = none := fun {G A D sc z} a b c d => by
      unfold tabF
      simp only [List.lookup, beq_false_of_ne a, beq_false_of_ne b, beq_false_of_ne c, beq_false_of_ne d]
    have ok0 : Sx.Ok (Sx.prOf n m A Lm wt) (Sx.begins n m) := Sx.begin_ok hL
    obtain ⟨k0, hk0⟩ := Sx.left_ex ok0
    have tb' := tb
    obtain ⟨G, Aa, D, rs, TB, sB, _, _⟩ := tb'
    obtain ⟨dx1, hins1⟩ := TB.ins
    refine ⟨_, rfl, s, dx1, _, rfl, hins1, nof (by decide +kernel) (by decide +kernel) (by decide +kernel) (by decide +kernel), ?_⟩
    refine ⟨s, _, _, G, Aa, D, rs, rfl, TB, FI, fun y H2 s2 he => ?_⟩
    refine ⟨fun k σ H3 => ∃ (x : Sx.Cfg) (y : V) (y5 : Option V), σ = [some v1, some v2, some v3, some (.ref s), some y, y5] ∧ Sx.Reach (Sx.prOf n m A Lm wt) (Sx.begins n m) x ∧ TabB C H H3 s (Sx.prOf n m A Lm wt) x ∧ Sx.Left (Sx.prOf n m A Lm wt) k x ∧
      ((y = .non ∧ Sx.Best (Sx.prOf n m A Lm wt) x) ∨ ∃ c : Nat, y = .int (c : Nat) ∧ Sx.Enters (Sx.prOf n m A Lm wt) x c), ⟨k0, _, y, none, rfl, .refl _, tb.same s2, hk0, he⟩, ?_⟩
    rintro k σ H3 ⟨x, y, y5, rfl, re, tb3, hk, hy⟩
    have ok3 := re.ok ok0
    obtain ⟨qn, qb⟩ := q x re
    obtain ⟨G3, A3, D3, rs3, TB3, sB3, ns3, na3⟩ := tb3
    obtain ⟨dx3, hins3⟩ := TB3.ins
    refine ⟨_, rfl, rfl, _, rfl, ?_⟩
    rcases hy with ⟨rfl, hb⟩ | ⟨c, rfl, he3⟩
    · refine iteF ?_
      refine ⟨_, rfl, s, dx3, _, rfl, hins3, nof (by decide +kernel) (by decide +kernel) (by decide +kernel) (by decide +kernel), s, _, _, G3, A3, D3, rs3, rfl, TB3, FI, fun p1 H4 s4 np1 hp1 => ?_⟩
      have TB4 := TB3.same s4
      obtain ⟨dx4, hins4⟩ := TB4.ins
      refine ⟨_, rfl, s, dx4, _, rfl, hins4, nof (by decide +kernel) (by decide +kernel) (by decide +kernel) (by decide +kernel), s, _, _, G3, A3, D3, rs3, rfl, TB4, FI, fun p2 H5 s5 np2 hp2 => ?_⟩
      obtain ⟨dx5, hins5⟩ := (TB4.same s5).ins
      refine ⟨_, rfl, s, C, dx5, _, _, rfl, hins5, TT.cl, TT.nS, rfl, (by show 3 ≤ sizeLine; decide), fun p hp => ?_⟩
      have sp := snew (o := .tup [.ref p1, .ref p2, .int (Sx.sc (Sx.prOf n m A Lm wt) x)]) hp
      exact qb hb p p1 p2 _ (same_tr (same_tr sB3 s4) (same_tr s5 sp)) upd_same (sp _ _ (s5 _ _ hp1)) (sp _ _ hp2) (free_of sB3 np1) (free_of (same_tr sB3 s4) np2)
    · refine iteT ⟨_, fun σ' H' h => h, ?_⟩
      refine ⟨_, rfl, s, dx3, _, rfl, hins3, nof (by decide +kernel) (by decide +kernel) (by decide +kernel) (by decide +kernel), _, rfl, s, c, _, _, G3, A3, D3, rs3, rfl, TB3, FI, he3.1, fun z H4 s4 hz => ?_⟩
      refine ⟨_, rfl, rfl, _, rfl, ?_⟩
      rcases hz with ⟨rfl, hall⟩ | ⟨r, rfl, hlv⟩
      · refine iteT ?_
        exact qn c H4 (same_tr sB3 s4) he3 hall
      · refine iteF ?_
        have st : Sx.Step (Sx.prOf n m A Lm wt) x (Sx.swp x r c) := ⟨c, r, he3, hlv, rfl⟩
        have tb4 : TabB C H H4 s (Sx.prOf n m A Lm wt) x := ⟨G3, A3, D3, rs3, TB3.same s4, same_tr sB3 s4, ns3, na3⟩
        obtain ⟨dx4, hins4⟩ := (TB3.same s4).ins
        refine ⟨_, rfl, s, dx4, _, rfl, hins4, nof (by decide +kernel) (by decide +kernel) (by decide +kernel) (by decide +kernel), _, rfl, _, rfl, s, r, c, _, x, H, rfl, tb4, FI, hlv.1, he3.1, ok3.step st, fun H5 tb5 => ?_⟩
        have tb5' := tb5
        obtain ⟨G5, A5, D5, rs5, TB5, sB5, ns5, na5⟩ := tb5
        obtain ⟨dx5, hins5⟩ := TB5.ins
        refine ⟨_, rfl, s, dx5, _, rfl, hins5, nof (by decide +kernel) (by decide +kernel) (by decide +kernel) (by decide +kernel), s, _, _, G5, A5, D5, rs5, rfl, TB5, FI, fun y H6 s6 he6 => ?_⟩
        cases k with
        | zero => exact absurd st (hk _)
        | succ k => exact ⟨k, Nat.lt_succ_self k, _, y, _, rfl, .step re st, tb5'.same s6, hk _ st, he6⟩
end
end Fr

namespace Fr
open PySem PySem.Spec PyProof.Rows L2
def Itdt (d : Addr) (o : PySem.Obj) (kvs : List (List Key × V)) : It :=
  ⟨fun i H => H d = some (.frz o (.dT kvs)) ∧ i < kvs.length, fun i H x H' => H' = H ∧ ∃ k, kvs[i]? = some (k, x), fun i H => H d = some (.frz o (.dT kvs)) ∧ kvs.length ≤ i⟩
theorem frzT3 {X : Cx} {pins : List (Addr × PySem.Obj)} {σ : L2.St} {H : Hp} {s : Shared} {d : Addr} {o : PySem.Obj} {kvs : List (List Key × V)} (I : Inv X pins σ H s) (h : H d = some (.frz o (.dT kvs))) :
    (d == sysModules) = false ∧ s.heap.get? d = some o ∧ o.ExactDict ∧ ∃ (es : Array DictEntry) (ep : Nat), o.data = .dict es ep ∧ es.size = kvs.length ∧
      ∀ (i : Nat) (k : List Key) (v : V), kvs[i]? = some (k, v) → ∃ (en : DictEntry) (q : Addr), es[i]? = some en ∧ en.key = .ref q ∧ H q = some (.tup (k.map kV)) ∧ RelV v en.val := by
  obtain ⟨hd, z, hs, xs, pr, o', es, ep, ho, hx, hdt, he, _⟩ := I.hok d _ h
  rw [hd] at ho
  cases ho
  refine ⟨hs, hd, hx, es, ep, hdt, ?_, fun i k v e => ?_⟩
  · have l1 : es.size = xs.length := size_of_entries he
    have l2 : kvs.length = xs.length := Paired.length pr
    omega
  · obtain ⟨b, hb, e1, e2, e3⟩ := paired_get pr e
    have q := entry_at he i
    rw [hb] at q
    exact ⟨_, b.2.1, q, rfl, e2, e3⟩
section
variable {P : Program} {w : World} {K : PySem.W.Frag} {d : Addr} {o : PySem.Obj} {es : Array DictEntry} {ep : Nat} {tg : Expr}
theorem turn_valsT {kvs : List (List Key × V)} (it : Addr) (hod : o.data = .dict es ep) : Turn P w K tg (Itdt d o kvs) [it] it (fun i h => h.IsValIter it d i kvs.length ep) where
  mem := by simp
  obj := fun i h st b hb => by
    have e : b = it := by simpa using hb
    subst e
    obtain ⟨oi, e, c, dd⟩ := st
    exact ⟨oi, e, fun v z => by rw [dd] at z; cases z⟩
  keep := fun i h h' st k => st.at fun oi e => k it (by simp) oi e
  item := by
    intro X hP hw hK hc i pins s σ H E I hf st hg
    subst hP hw hK
    obtain ⟨hd, hi⟩ := hg
    obtain ⟨f0, f1, f2, f3, f4, f5⟩ := hf it (by simp)
    obtain ⟨hs, hgd, hx, es', ep', hdt, hsz, ent⟩ := frzT3 I hd
    obtain ⟨rfl, rfl⟩ := dict_ep hod hdt
    obtain ⟨⟨k, v⟩, hkv⟩ : ∃ p, kvs[i]? = some p := ⟨kvs[i], List.getElem?_eq_getElem hi⟩
    obtain ⟨en, q, hen, hkey, hq, ru⟩ := ent i k v hkv
    rw [← hsz] at st
    have hi' : i < es'.size := by omega
    have een : es'[i] = en := by
      have z := Array.getElem?_eq_getElem hi'
      rw [hen] at z
      exact (Option.some.inj z).symm
    refine wpAny_pyNext_values_item_raw st ⟨o, hgd, hx, hdt⟩ hi' fun h' st' sb => ?_
    have I1 : Inv X pins σ H { s with heap := h' } := I.turned (t' := s.toks) (fun b ob hb e => sb.extBut b ob (fun z => hb (by rw [z])) e) f0 f1 f3 f4 f5
    obtain ⟨oi, e, c, dd⟩ := id st'
    refine ⟨es'[i].val, rfl, go_of (s := { s with heap := h' }) e c dd (by decide) ⟨v, H, I1, by rw [een]; exact ru, ⟨rfl, k, hkv⟩, ?_, fun b hb => (hf b hb).1⟩⟩
    show h'.IsValIter it d (i + 1) kvs.length _
    rw [← hsz]
    exact st'
  done := by
    intro X hP hw hK hc i pins s σ H E I hf st hg
    subst hP hw hK
    obtain ⟨hd, hi⟩ := hg
    obtain ⟨f0, f1, f2, f3, f4, f5⟩ := hf it (by simp)
    obtain ⟨hs, hgd, hx, es', ep', hdt, hsz, ent⟩ := frzT3 I hd
    obtain ⟨rfl, rfl⟩ := dict_ep hod hdt
    rw [← hsz] at st
    exact wpAny_pyNext_values_end_raw (I.ok.hd hc) st ⟨o, hgd, hx, hdt⟩ (by omega) fun h' eb => ⟨rfl, I.turned (t' := s.toks) (fun b ob hb e => eb b ob hb e) f0 f1 f3 f4 f5⟩
  self := fun A i s Q E st h => wpAny_pyIter_valiter st h
end
def iValsT (td : TE) : TI := fun σ H R => td σ H fun x H1 => ∃ d o kvs, x = .ref d ∧ H1 d = some (.frz o (.dT kvs)) ∧ R (Itdt d o kvs) H1
section
variable {X : Cx} {tg e : Expr} {td : TE} {apos cpos : Pos}
theorem pi_valuesT (he : PE X e td) (hbase : attributeBase e "values" X.env (eval e X.env) = eval e X.env := by rfl) (hline : (apos.endLine == cpos.line) = true := by rfl) : PI X tg (.Call (.Attribute e "values" apos) [] [] cpos) (iValsT td) := by
  refine ⟨fun pins s σ H R I h => ?_⟩
  refine wpAny_Call_method (T := "dict") (id := "dict.values") hbase rfl hline PySem.F.plainAttrs_dict PySem.F.slot_dict_values PySem.F.type_dict_values (thn (he.run pins s σ H _ I h) fun u s1 ⟨x, H1, I1, rx, d, o, kvs, ex, hd, q⟩ => ?_)
  subst ex
  obtain rfl : u = Value.ref d := rx
  obtain ⟨hs, hgd, hx, es, ep, hdt, hsz, ent⟩ := frzT3 I1 hd
  have raw : s1.heap.DictRaw d es ep := ⟨o, hgd, hx, hdt⟩
  refine ⟨raw.typeIs, fun b hb => by cases hb; exact ⟨o, hgd, hx.2.1⟩, ?_⟩
  have I2 : Inv X pins σ H1 { s1 with heap := s1.heap.push { cls := .type "dict_values", data := .fields #[.ref d] } } := I1.kept (t' := s1.toks) fun b ob q => Heap.get?_push_of_some _ q
  have fin : wpAny (model X.prog X.w) X.A (pyIter (.ref s1.heap.objs.size)) (PIE X pins σ tg R) X.xe { s1 with heap := s1.heap.push { cls := .type "dict_values", data := .fields #[.ref d] } } := by
    refine wpAny_pyIter_values_raw (d := d) ⟨_, Heap.get?_push_size _ rfl, rfl, rfl⟩ (raw.at fun o e => Heap.get?_push_of_some _ e) (pi_one (tk := s1.toks) I2 _ (turn_valsT _ hdt) ⟨_, Heap.get?_push_size _ rfl, rfl, ?_⟩ q)
    rw [hsz] <;> rfl
  show wpAny _ _ (callWith cpos (.builtin "dict.values") [.ref d] [] []) _ X.xe s1
  exact method_meetsIn PySem.F.slot_dict_values PySem.F.entry_dict_values rfl (PySem.evalArgs_none ⟨rfl, raw.typeIs, PySem.F.args_dict_values_1 _, _, meets_dict_values_raw d hs, ⟨⟨es, ep, raw⟩, fin⟩⟩)
end
theorem walk_valuesT {d : Addr} {o : PySem.Obj} {kvs : List (List Key × V)} : Walk (Itdt d o kvs) kvs.length (fun H => H d = some (.frz o (.dT kvs))) (fun i H x H' => H' = H ∧ ∃ k, kvs[i]? = some (k, x)) :=
  ⟨fun _ _ hi q => ⟨q, hi⟩, fun _ q => ⟨q, Nat.le_refl _⟩, fun _ _ _ _ _ _ y => y⟩
end Fr

namespace Fr
open PySem PySem.Spec PyProof.Rows L2
abbrev s_join : Stmt := topS 34
theorem sc_join : FnScope ["labels", "one", "other", "kept", "lost", "name"] ["labels", "one", "other"] (defScope s_join) := ⟨rfl, rfl, rfl, by decide +kernel, rfl, by decide +kernel, by decide +kernel⟩
-- slots: 0 labels, 1 one, 2 other, 3 kept, 4 lost, 5 name
abbrev Lab := List (Str × Str)
def labV (ls : Lab) : List (Key × V) := ls.map fun p => (Sum.inr p.1, V.str p.2)
def setd (ls : Lab) (k : Str) : Lab := if k ∈ ls.map Prod.fst then ls else ls ++ [(k, k)]
def look (ls : Lab) (k : Str) : Str := match ls.find? fun p => p.1 = k with | some p => p.2 | none => k
def joinP (ls : Lab) (a b : Str) : Lab := (setd (setd ls a) b).map fun p => if p.2 = look (setd (setd ls a) b) b then (p.1, look (setd ls a) a) else p
theorem valV_mid {A B : Lab} {k v : Str} (h : ((A ++ (k, v) :: B).map Prod.fst).Nodup) : valV (labV (A ++ (k, v) :: B)) (Sum.inr k) = some (.str v) := by
  induction A with
  | nil => exact valV_pos rfl
  | cons p A ih =>
    rw [List.cons_append, List.map_cons, List.nodup_cons] at h
    have ne : p.1 ≠ k := fun e => h.1 (by rw [e]; simp)
    show valV ((Sum.inr p.1, V.str p.2) :: labV (A ++ (k, v) :: B)) _ = _
    rw [valV_neg fun e => ne (Sum.inr.inj e)]
    exact ih h.2
theorem putK_mid {A B : Lab} {k v z : Str} (h : ((A ++ (k, v) :: B).map Prod.fst).Nodup) : putK (labV (A ++ (k, v) :: B)) (Sum.inr k) (.str z) = labV (A ++ (k, z) :: B) := by
  unfold putK
  rw [if_pos (by rw [valV_any, valV_mid h]; rfl)]
  rw [List.map_append, List.map_cons, List.nodup_append] at h
  obtain ⟨h1, h2, h3⟩ := h
  rw [List.nodup_cons] at h2
  unfold labV
  rw [List.map_append, List.map_cons, List.map_append, List.map_cons, List.map_append, List.map_cons]
  congr 1
  · rw [List.map_map]
    refine List.map_congr_left fun p hp => ?_
    show (if (Sum.inr p.1 : Key) = Sum.inr k then _ else _) = _
    rw [if_neg fun e => h3 p.1 (List.mem_map.mpr ⟨p, hp, rfl⟩) k (List.mem_cons_self ..) (Sum.inr.inj e)]
  · congr 1
    · show (if (Sum.inr k : Key) = Sum.inr k then _ else _) = _
      rw [if_pos rfl]
    · rw [List.map_map]
      refine List.map_congr_left fun p hp => ?_
      show (if (Sum.inr p.1 : Key) = Sum.inr k then _ else _) = _
      rw [if_neg fun e => h2.1 (List.mem_map.mpr ⟨p, hp, Sum.inr.inj e⟩)]
theorem valV_lab {ls : Lab} {k : Str} : (∃ A v B, ls = A ++ (k, v) :: B ∧ k ∉ A.map Prod.fst) ∨ (valV (labV ls) (Sum.inr k) = none ∧ k ∉ ls.map Prod.fst) := by
  induction ls with
  | nil => exact .inr ⟨rfl, by simp⟩
  | cons p ls ih =>
    by_cases e : p.1 = k
    · exact .inl ⟨[], p.2, ls, by rw [← e]; rfl, by simp⟩
    · rcases ih with ⟨A, v, B, h1, h2⟩ | ⟨h1, h2⟩
      · exact .inl ⟨p :: A, v, B, by rw [h1]; rfl, by rw [List.map_cons, List.mem_cons]; exact fun h => h.elim (fun z => e z.symm) h2⟩
      · refine .inr ⟨?_, by rw [List.map_cons, List.mem_cons]; exact fun h => h.elim (fun z => e z.symm) h2⟩
        show valV ((Sum.inr p.1, V.str p.2) :: labV ls) _ = none
        rw [valV_neg fun z => e (Sum.inr.inj z)]
        exact h1
theorem valV_any_mem {ls : Lab} {k : Str} (h : k ∈ ls.map Prod.fst) : valV (labV ls) (Sum.inr k) = some (.str (look ls k)) := by
  unfold look valV labV
  rw [List.find?_map]
  have e : ((fun kv : Key × V => decide (kv.1 = Sum.inr k)) ∘ fun p : Str × Str => ((Sum.inr p.1 : Key), V.str p.2)) = fun p => decide (p.1 = k) := by
    funext p
    show decide ((Sum.inr p.1 : Key) = Sum.inr k) = decide (p.1 = k)
    by_cases q : p.1 = k
    · rw [q]; simp
    · rw [decide_eq_false q, decide_eq_false fun z => q (Sum.inr.inj z)]
  rw [e]
  cases hf : ls.find? fun p => decide (p.1 = k) with
  | none =>
    exfalso
    obtain ⟨p, hp, e2⟩ := List.mem_map.mp h
    have := List.find?_eq_none.mp hf p hp
    rw [decide_eq_true_iff] at this
    exact this e2
  | some p => rfl
theorem look_mid {A B : Lab} {k v : Str} (h : k ∉ A.map Prod.fst) : look (A ++ (k, v) :: B) k = v := by
  unfold look
  have e : (A ++ (k, v) :: B).find? (fun p => decide (p.1 = k)) = some (k, v) := by
    rw [List.find?_append]
    have e1 : A.find? (fun p => decide (p.1 = k)) = none := by
      rw [List.find?_eq_none]
      intro p hp
      rw [decide_eq_true_iff]
      exact fun z => h (List.mem_map.mpr ⟨p, hp, z⟩)
    rw [e1]
    simp
  rw [e]
theorem look_new {ls : Lab} {k : Str} (h : k ∉ ls.map Prod.fst) : look (ls ++ [(k, k)]) k = k := look_mid h
theorem setd_nodup {ls : Lab} {k : Str} (h : (ls.map Prod.fst).Nodup) : ((setd ls k).map Prod.fst).Nodup := by
  unfold setd
  by_cases e : k ∈ ls.map Prod.fst
  · rw [if_pos e]
    exact h
  · rw [if_neg e, List.map_append, List.nodup_append]
    refine ⟨h, by simp, fun x hx y hy => ?_⟩
    rw [List.map_singleton, List.mem_singleton] at hy
    exact fun z => e (by
      have z' : x = k := z.trans hy
      rw [← z']
      exact hx)
theorem setd_mem {ls : Lab} {k : Str} : k ∈ (setd ls k).map Prod.fst := by
  unfold setd
  by_cases e : k ∈ ls.map Prod.fst
  · rw [if_pos e]
    exact e
  · rw [if_neg e]
    simp
theorem setd_len {ls : Lab} {k : Str} : (setd ls k).length ≤ ls.length + 1 := by
  unfold setd
  by_cases e : k ∈ ls.map Prod.fst
  · rw [if_pos e]
    omega
  · rw [if_neg e, List.length_append]
    exact Nat.le_refl _
theorem joinP_fst {ls : Lab} {a b : Str} : (joinP ls a b).map Prod.fst = (setd (setd ls a) b).map Prod.fst := by
  unfold joinP
  rw [List.map_map]
  refine List.map_congr_left fun p _ => ?_
  show (if _ then _ else _ : Str × Str).1 = p.1
  split <;> rfl
section
variable {P : Program} {w : World} {K : PySem.W.Frag} {mg : Str → Option Value} {base : Heap}
def spJoin : Sp := fun vs H Q _ => ∃ (d : Addr) (a b : Str) (ls : Lab) (B : Hp), vs = [.ref d, .str a, .str b] ∧ H d = some (.dK (labV ls)) ∧ Same B H ∧ B d = none ∧ (ls.map Prod.fst).Nodup ∧ ls.length ≤ 1000 ∧ ∀ H', Same B H' → H' d = some (.dK (labV (joinP ls a b))) → Q .non H'
theorem ok_join {f : Addr} {fd : FuncData} (F : Fun K "join" "join" s_join f fd) (T : Txt mg) : FnOk P w K mg base CX0 1 f fd ["labels", "one", "other"] spJoin := by
  refine F.ok sc_join (fun vs H Q E h => ?_) (fun cdv Ar outer s H vs Q E hr h => ?_)
  · obtain ⟨d, a, b, ls, B, rfl, _⟩ := h
    rfl
  · obtain ⟨d, a, b, ls, B, rfl, hd, sB, nd, hnd, hl, q⟩ := h
    have hu := hu_of hr
    refine ⟨_, (pss_cons (ps_set (i := 3) sc_join.nd rfl (by first | exact Or.inl rfl | exact Or.inr rfl) (pe_dsetd (pv 0) (pv 1) (pv 1) ⟨by rfl, by rfl, by rfl, by rfl⟩))
  (pss_cons (ps_set (i := 4) sc_join.nd rfl (by first | exact Or.inl rfl | exact Or.inr rfl) (pe_dsetd (pv 0) (pv 2) (pv 2) ⟨by rfl, by rfl, by rfl, by rfl⟩))
  (pss_one (ps_for PassesOwn.never rfl (pi_list (pe_callTy (call_listD rfl) (by rfl) T.b_list (by decide +kernel) (pa_cons (pv 0) pa_nil))) (pg_name (i := 5) sc_join.nd rfl (by first | exact Or.inl rfl | exact Or.inr rfl))
    (pss_one (ps_if (pt_cmpR op_eq (pe_dget hu (pv 0) (pv 5) (fun _ _ => rfl)) (pv 4) (nomark _))
      (pss_one (ps_dput hu (pv 0) (pv 5) (pv 3) rfl))
      pss_nil)))))), ?_⟩
    -- setdefault, once
    have setd_rd : ∀ (ls : Lab) (k : Str) (H : Hp) (R : VK), H d = some (.dK (labV ls)) → Same B H → ls.length < sizeLine → (∀ H', H' d = some (.dK (labV (setd ls k))) → Same B H' → R (.str (look (setd ls k) k)) H') →
        ∃ (kvs : List (Key × V)) (kk : Key), H d = some (.dK kvs) ∧ V.str k = kV kk ∧ kvs.length < sizeLine ∧ (∀ v, valV kvs kk = some v → R v H) ∧ (valV kvs kk = none → R (.str k) (upd H d (.dK (putK kvs kk (.str k))))) := fun ls k H R h1 h2 h3 h4 => by
      refine ⟨labV ls, Sum.inr k, h1, rfl, by unfold labV; rw [List.length_map]; exact h3, fun v hv => ?_, fun hn => ?_⟩
      · by_cases mem : k ∈ ls.map Prod.fst
        · have es : setd ls k = ls := if_pos mem
          have z := h4 H (by rw [es]; exact h1) h2
          rw [valV_any_mem mem] at hv
          cases hv
          rw [es] at z
          exact z
        · rcases valV_lab (ls := ls) (k := k) with ⟨A, u, Bq, e1, e2⟩ | ⟨e1, e2⟩
          · exact absurd (by rw [e1]; simp) mem
          · rw [e1] at hv
            cases hv
      · by_cases mem : k ∈ ls.map Prod.fst
        · rw [valV_any_mem mem] at hn
          cases hn
        · have es : setd ls k = ls ++ [(k, k)] := if_neg mem
          have z := h4 (upd H d (.dK (labV (ls ++ [(k, k)])))) (by rw [es]; exact upd_same) (smut h2 nd)
          rw [es, look_new mem] at z
          rw [putK_new _ hn]
          unfold labV at z ⊢
          rw [List.map_append] at z
          exact z
    refine ⟨_, rfl, d, rfl, .inl ⟨_, .inl hd⟩, _, rfl, _, rfl, setd_rd ls a H _ hd sB (by rw [sizeLine_eq]; omega) fun H1 hd1 sB1 => ?_⟩
    have l1 := setd_len (ls := ls) (k := a)
    have n1 := setd_nodup (k := a) hnd
    refine ⟨_, rfl, d, rfl, .inl ⟨_, .inl hd1⟩, _, rfl, _, rfl, setd_rd _ b H1 _ hd1 sB1 (by rw [sizeLine_eq]; omega) fun H2 hd2 sB2 => ?_⟩
    have l2 := setd_len (ls := setd ls a) (k := b)
    have n2 := setd_nodup (k := b) n1
    have l3 : (setd (setd ls a) b).length ≤ 1002 := by omega
    have ej : joinP ls a b = (setd (setd ls a) b).map fun p => if p.2 = look (setd (setd ls a) b) b then (p.1, look (setd ls a) a) else p := rfl
    rw [ej] at q
    generalize look (setd (setd ls a) b) b = lost at q ⊢
    generalize look (setd ls a) a = kept at q ⊢
    generalize setd (setd ls a) b = L2 at q hd2 l2 n2 l3 ⊢
    clear ej l1 n1 hd1 sB1 setd_rd hd
    refine ⟨_, rfl, d, _, rfl, .inl hd2, fun p hp => ?_⟩
    have s3 := snew (o := .lst ((labV L2).map fun kv => kV kv.1)) hp
    have hp3 : (upd H2 p (.lst ((labV L2).map fun kv => kV kv.1))) p = some (.lst ((labV L2).map fun kv => kV kv.1)) := upd_same
    have hd3 := s3 _ _ hd2
    have sB3 := same_tr sB2 s3
    have pd : p ≠ d := (ne_of_none hd2 hp).symm
    have ek : ((labV L2).map fun kv => kV kv.1) = (L2.map Prod.fst).map V.str := by
      unfold labV
      rw [List.map_map, List.map_map]
      rfl
    rw [ek] at hp3 hd3 sB3 ⊢
    generalize upd H2 p (.lst ((L2.map Prod.fst).map V.str)) = H3 at hp3 hd3 sB3 ⊢
    have lv : ((L2.map Prod.fst).map V.str).length = L2.length := by rw [List.length_map, List.length_map]
    refine ⟨p, rfl, ⟨_, Or.inl (Or.inl hp3)⟩, for_it (walk_list (K := K) (a := p) (xs := (L2.map Prod.fst).map V.str)) (fun i σ H4 => ∃ y5, σ = [some (.ref d), some (.str a), some (.str b), some (.str kept), some (.str lost), y5] ∧ Same B H4 ∧ H4 p = some (.lst ((L2.map Prod.fst).map V.str)) ∧
      H4 d = some (.dK (labV (((L2.take i).map fun p => if p.2 = lost then (p.1, kept) else p) ++ L2.drop i))))
      ⟨none, rfl, sB3, hp3, hd3⟩ (fun i σ H4 _ ⟨_, _, _, h4, _⟩ => Or.inl (Or.inl h4)) ?_ ?_⟩
    · rintro i v σ H4 H5 hi ⟨y5, rfl, sB4, hp4, hd4⟩ ⟨rfl, hx⟩
      rw [lv] at hi
      have e2 : L2[i]? = some L2[i] := List.getElem?_eq_getElem hi
      rw [List.getElem?_map, List.getElem?_map, e2] at hx
      cases hx
      generalize L2[i] = pr at e2 ⊢
      obtain ⟨nm, lb⟩ := pr
      have ed : L2.drop i = (nm, lb) :: L2.drop (i + 1) := by
        rw [List.drop_eq_getElem_cons hi]
        rw [List.getElem?_eq_getElem hi] at e2
        rw [Option.some.inj e2]
      have et : L2.take (i + 1) = L2.take i ++ [(nm, lb)] := by
        rw [List.take_add_one, e2]
        rfl
      have fstf : ((((L2.take i).map fun p => if p.2 = lost then (p.1, kept) else p) ++ (nm, lb) :: L2.drop (i + 1)).map Prod.fst).Nodup := by
        have z : (((L2.take i).map fun p => if p.2 = lost then (p.1, kept) else p) ++ (nm, lb) :: L2.drop (i + 1)).map Prod.fst = L2.map Prod.fst := by
          rw [List.map_append, List.map_map, ← ed, ← List.map_congr_left (f := Prod.fst) (l := L2.take i) (fun p _ => by
            show p.1 = (if p.2 = lost then (p.1, kept) else p : Str × Str).1
            split <;> rfl), ← List.map_append, List.take_append_drop]
        rw [z]
        exact n2
      rw [ed] at hd4
      have g := DGet.k (k := Sum.inr nm) hd4
      rw [valV_mid fstf] at g
      refine ⟨_, rfl, _, rfl, d, _, rfl, g, _, rfl, rfl, _, rfl, ?_⟩
      refine ite2 (fun h1 => ?_) (fun h1 => ?_)
      · have h1 : lb = lost := V.str.inj (of_decide_eq_true h1)
        refine ⟨_, rfl, _, rfl, _, rfl, d, _, rfl, DPut.k (k := Sum.inr nm) hd4 ?_, ?_⟩
        · unfold labV
          rw [List.length_map, List.length_append, List.length_map, ← ed, ← List.length_append, List.length_append, List.length_take, List.length_drop, sizeLine_eq]
          omega
        · rw [putK_mid fstf]
          refine ⟨_, rfl, smut sB4 nd, by rw [upd_ne pd]; exact hp4, ?_⟩
          rw [upd_same, et, List.map_append, List.map_singleton, if_pos h1, List.append_assoc]
          rfl
      · have h1 : ¬ V.str lb = V.str lost := by simpa using h1
        refine ⟨_, rfl, sB4, hp4, ?_⟩
        rw [hd4, et, List.map_append, List.map_singleton, if_neg (fun z => h1 (by rw [show lb = lost from z])), List.append_assoc]
        rfl
    · rintro σ H4 ⟨y5, rfl, sB4, hp4, hd4⟩
      rw [lv, List.take_length, List.drop_length, List.append_nil] at hd4
      exact q H4 sB4 hd4
end
end Fr

namespace Fr
open PySem PySem.Spec PyProof.Rows L2
/-- the pairs, each a new tuple; the key's own tuple -/
def Itit (d : Addr) (o : PySem.Obj) (kvs : List (List Key × V)) : It :=
  ⟨fun i H => H d = some (.frz o (.dT kvs)) ∧ i < kvs.length, fun i H x H' => ∃ T k v q, kvs[i]? = some (k, v) ∧ x = .ref T ∧ H q = some (.tup (k.map kV)) ∧ H T = none ∧ H' = upd H T (.tup [.ref q, v]), fun i H => H d = some (.frz o (.dT kvs)) ∧ kvs.length ≤ i⟩
theorem frzT2 {X : Cx} {pins : List (Addr × PySem.Obj)} {σ : L2.St} {H : Hp} {s : Shared} {d : Addr} {o : PySem.Obj} {kvs : List (List Key × V)} (I : Inv X pins σ H s) (h : H d = some (.frz o (.dT kvs))) :
    (d == sysModules) = false ∧ s.heap.get? d = some o ∧ o.ExactDict ∧ ∃ (es : Array DictEntry) (ep : Nat), o.data = .dict es ep ∧ es.size = kvs.length ∧
      ∀ (i : Nat) (k : List Key) (v : V), kvs[i]? = some (k, v) → ∃ (en : DictEntry) (q : Addr), es[i]? = some en ∧ en.key = .ref q ∧ H q = some (.tup (k.map kV)) ∧ RelV v en.val := by
  obtain ⟨hd, z, hs, xs, pr, o', es, ep, ho, hx, hdt, he, _⟩ := I.hok d _ h
  rw [hd] at ho
  cases ho
  refine ⟨hs, hd, hx, es, ep, hdt, ?_, fun i k v e => ?_⟩
  · have l1 : es.size = xs.length := size_of_entries he
    have l2 : kvs.length = xs.length := Paired.length pr
    omega
  · obtain ⟨b, hb, e1, e2, e3⟩ := paired_get pr e
    have q := entry_at he i
    rw [hb] at q
    exact ⟨_, b.2.1, q, rfl, e2, e3⟩
section
variable {P : Program} {w : World} {K : PySem.W.Frag} {d : Addr} {o : PySem.Obj} {es : Array DictEntry} {ep : Nat}
theorem turn_itemsT {kvs : List (List Key × V)} {elts : List Expr} {kk : Nat} {tpos : Pos} (it : Addr) (hod : o.data = .dict es ep) :
    Turn P w K (.Tuple elts kk tpos) (Itit d o kvs) [it] it (fun i h => ∃ ok ov, IsItemIter h it d i kvs.length ep ok ov) where
  mem := by simp
  obj := fun i h st b hb => by
    have e : b = it := by simpa using hb
    subst e
    obtain ⟨ok, ov, e⟩ := st
    exact ⟨_, e, fun v z => nomatch z⟩
  keep := fun i h h' st k => let ⟨ok, ov, e⟩ := st; ⟨ok, ov, k it (by simp) _ e⟩
  item := by
    intro X hP hw hK hc i pins s σ H E I hf st hg
    subst hP hw hK
    obtain ⟨hd, hi⟩ := hg
    obtain ⟨hs, hgd, hx, es', ep', hdt, hsz, ent⟩ := frzT2 I hd
    obtain ⟨rfl, rfl⟩ := dict_ep hod hdt
    obtain ⟨⟨k, v⟩, hkv⟩ : ∃ p, kvs[i]? = some p := ⟨kvs[i], List.getElem?_eq_getElem hi⟩
    obtain ⟨en, q, hen, hkey, hq, ru⟩ := ent i k v hkv
    obtain ⟨ok, ov, he⟩ := st
    rw [← hsz] at he
    have hlt : it < s.heap.objs.size := Heap.lt_size he
    have hi' : i < es'.size := by omega
    have een : es'[i] = en := by
      have z := Array.getElem?_eq_getElem hi'
      rw [hen] at z
      exact (Option.some.inj z).symm
    refine DT.nextI he ⟨o, hgd, hx, hdt⟩ hi' fun h' ho hT hz hk => ?_
    rw [een] at ho hT
    refine ⟨_, rfl, wpAny_letOwnedTupleGo_items (s := { s with heap := h' }) ho fun h'' he' sb => ?_⟩
    have hT2 : h''.get? s.heap.objs.size = some { cls := .type "tuple", data := .seq #[en.key, en.val] } := (sb.2 _ (Nat.ne_of_gt hlt)).trans hT
    have new : ObjOk X.prog X.w (upd H s.heap.objs.size (.tup [.ref q, v])) h'' s.heap.objs.size (.tup [.ref q, v]) :=
      ⟨by show 2 ≤ sizeLine; decide, [en.key, en.val], .cons hkey (.cons ru .nil), ⟨_, hT2, rfl, _, rfl⟩⟩
    have I1 : Inv X pins σ (upd H s.heap.objs.size (.tup [.ref q, v])) { s with heap := h'' } :=
      I.turnedNew (t' := s.toks) (ch := [it]) (fun b ob hb e => (sb.2 b (by simpa using hb)).trans (hk b ob (by simpa using hb) e)) hf (Nat.le_refl _) new
    refine ⟨.ref s.heap.objs.size, _, I1, rfl, ⟨_, k, v, q, hkv, rfl, hq, I.hok.fresh (Nat.le_refl _), rfl⟩, ⟨en.key, en.val, ?_⟩, fun b hb => ?_⟩
    · rw [← hsz]; exact he'
    · have e : b = it := by simpa using hb
      rw [e, upd_ne (Nat.ne_of_lt hlt)]
      exact (hf it (by simp)).1
  done := by
    intro X hP hw hK hc i pins s σ H E I hf st hg
    subst hP hw hK
    obtain ⟨hd, hi⟩ := hg
    obtain ⟨f0, f1, f2, f3, f4, f5⟩ := hf it (by simp)
    obtain ⟨hs, hgd, hx, es', ep', hdt, hsz, ent⟩ := frzT2 I hd
    obtain ⟨rfl, rfl⟩ := dict_ep hod hdt
    obtain ⟨ok, ov, he⟩ := st
    rw [← hsz] at he
    exact DT.endI (I.ok.hd hc) he ⟨o, hgd, hx, hdt⟩ (by omega) fun h' eb => ⟨rfl, I.turned (t' := s.toks) (fun b ob hb e => eb b ob hb e) f0 f1 f3 f4 f5⟩
  self := fun A i s Q E st h => let ⟨_, _, e⟩ := st; PySem.W.kcp_self e h
end
def iItemsT (td : TE) : TI := fun σ H R => td σ H fun x H1 => ∃ d o kvs, x = .ref d ∧ H1 d = some (.frz o (.dT kvs)) ∧ R (Itit d o kvs) H1
section
variable {X : Cx} {e : Expr} {td : TE} {apos cpos : Pos}
theorem pi_itemsT {elts : List Expr} {kk : Nat} {tpos : Pos} (he : PE X e td) (hbase : attributeBase e "items" X.env (eval e X.env) = eval e X.env := by rfl) (hline : (apos.endLine == cpos.line) = true := by rfl) :
    PI X (.Tuple elts kk tpos) (.Call (.Attribute e "items" apos) [] [] cpos) (iItemsT td) := by
  refine ⟨fun pins s σ H R I h => ?_⟩
  refine wpAny_Call_method (T := "dict") (id := "dict.items") hbase rfl hline F.plainAttrs_dict F.slot_dict_items F.type_dict_items (thn (he.run pins s σ H _ I h) fun u s1 ⟨x, H1, I1, rx, d, o, kvs, ex, hd, q⟩ => ?_)
  subst ex
  obtain rfl : u = Value.ref d := rx
  obtain ⟨hs, hgd, hx, es, ep, hdt, hsz, ent⟩ := frzT2 I1 hd
  have hr : DT.Raw s1.heap d es ep := ⟨o, hgd, hx, hdt⟩
  refine ⟨hr.typeIs, ?_, ?_⟩
  · exact fun b hb => by cases hb; exact ⟨o, hgd, hx.2.1⟩
  have I2 : Inv X pins σ H1 { s1 with heap := s1.heap.push { cls := .type "dict_items", data := .fields #[.ref d] } } := I1.kept (t' := s1.toks) fun b ob q => Heap.get?_push_of_some _ q
  have fin : wpAny (model X.prog X.w) X.A (pyIter (.ref s1.heap.objs.size)) (PIE X pins σ (.Tuple elts kk tpos) R) X.xe { s1 with heap := s1.heap.push { cls := .type "dict_items", data := .fields #[.ref d] } } := by
    refine DT.iterI (d := d) ⟨_, Heap.get?_push_size _ rfl, rfl, rfl⟩ (hr.push _) (pi_one (tk := s1.toks) I2 _ (turn_itemsT _ hdt) ⟨.none, .none, ?_⟩ q)
    rw [← hsz]
    exact Heap.get?_push_size _ rfl
  show wpAny _ _ (callWith cpos (.builtin "dict.items") [.ref d] [] []) _ X.xe s1
  exact method_meetsIn F.slot_dict_items F.entry_dict_items rfl (PySem.evalArgs_none ⟨rfl, hr.typeIs, F.args_dict_items_1 _, _, DT.meetsItems (es := es) (ep := ep) hs, hr, fin⟩)
theorem walk_itemsT {d : Addr} {o : PySem.Obj} {kvs : List (List Key × V)} : Walk (Itit d o kvs) kvs.length (fun H => H d = some (.frz o (.dT kvs))) (fun i H x H' => ∃ T k v q, kvs[i]? = some (k, v) ∧ x = .ref T ∧ H q = some (.tup (k.map kV)) ∧ H T = none ∧ H' = upd H T (.tup [.ref q, v])) :=
  ⟨fun _ _ hi q => ⟨q, hi⟩, fun _ q => ⟨q, Nat.le_refl _⟩, fun _ _ _ _ _ _ y => y⟩
end
end Fr

namespace Fr
open PySem PySem.Spec PyProof.Rows L2
section
variable {X : Cx}
/-- t * 1: the same tuple -/
def rRepT1 (K : PySem.W.Frag) : R2 := fun x y H Q => ∃ l xs, x = .ref l ∧ y = .int 1 ∧ SqT K H l xs ∧ Q (.ref l) H
theorem tuple_mul1 (l : Addr) (items : Array Value) (n : Nat) (dd : Option Addr) (sl : Array (Option Value)) (u : Tok) :
    Meets (Builtin.«tuple.__mul__» ⟨[.ref l, .int 1 u], []⟩) (fun _ R s => s.heap.get? l = some { cls := .type "tuple", dict := dd, data := .seq items n, slots := sl } ∧ R (.ok (.ret (Value.ref l))) s) :=
  .of_wp fun prog w A R s h => by
    obtain ⟨hp, g, d, tk, os⟩ := s
    obtain ⟨hl, h⟩ := h
    have f1 := AutoSeq1.idx_int
    have c1 : (items.isEmpty || (1 : Int) == 1) = true := by rw [show ((1 : Int) == 1) = true from rfl, Bool.or_true]
    wp_walk using wpAny_loadPart' hl
    repeat (first
      | (refine wpAny_ite_true (decide_eq_true (by rw [c1])) ?_; wp_walk using wpAny_loadPart' hl)
      | (refine wpAny_ite_true (by rw [c1]) ?_; wp_walk using wpAny_loadPart' hl))
    all_goals first | exact ⟨_, rfl, h⟩ | exact h | skip
theorem op_repT1 : OpR X (binaryOp .Mult) (rRepT1 X.K) := by
  intro pins s σ H x y v u Q I rx ry h
  obtain ⟨l, xs, rfl, rfl, hT, q⟩ := h
  cases rx
  obtain ⟨t, rfl⟩ := ry
  obtain ⟨its, r, ⟨⟨cls, dd, data, sl⟩, ho, hc, n, hd⟩, hs⟩ := I.tuple hT
  simp only at hc hd
  subst hc hd
  exact wpAny_binaryOp_repeat_ref (T := "tuple") (U := "int") (by decide) ⟨_, ho, rfl⟩ (fun s' => typeIs_int s' 1 t) noFill_tuple_mul F.fills_int_mul F.slot_int_rmul repeat_tuple F.slot_int_index.lookup
    (call_meets F.slot_int_rmul (typeIs_int s 1 t) F.entry_int_rmul (F.args_int_rmul_2 _ _) (int_rmul_tuple 1 t l its.toArray n dd sl)
      ⟨ho, rfl, ⟨_, ho, rfl⟩, call_meets F.slot_tuple_mul ⟨_, ho, rfl⟩ F.entry_tuple_mul (F.args_tuple_mul_2 _ _) (tuple_mul1 l its.toArray n dd sl t) ⟨ho, .ref l, H, I, rfl, q⟩⟩)
/-- a tuple of one item times k, k from 1 on -/
def rRepU (K : PySem.W.Frag) : R2 := fun x y H Q => ∃ l k xs, x = .ref l ∧ y = .int k ∧ SqT K H l xs ∧ xs ≠ [] ∧ 1 ≤ k ∧ k ≤ 1000 ∧ xs.length ≤ 1000 ∧ (k = 1 → Q (.ref l) H) ∧ (2 ≤ k → ∀ p, H p = none → Q (.ref p) (upd H p (.tup (List.replicate k.toNat xs).flatten)))
theorem op_repU : OpR X (binaryOp .Mult) (rRepU X.K) := by
  intro pins s σ H x y v u Q I rx ry h
  obtain ⟨l, k, xs, rfl, rfl, hT, ne, k1, k2, sz, q1, q2⟩ := h
  by_cases e : k = 1
  · subst e
    exact op_repT1 pins s σ H _ _ v u Q I rx ry ⟨l, xs, rfl, rfl, hT, q1 rfl⟩
  · exact op_repT pins s σ H _ _ v u Q I rx ry ⟨l, k, xs, rfl, rfl, hT, ne, by omega, k2, sz, q2 (by omega)⟩
/-- y = {.. for ..}, y a name of a def: the new dict is stored before the comprehension's names are let go -/
theorem sw_trueD {kx vx : Expr} {gs : List Comprehension} {scope : Scope} {pos py : Pos} {y : Str} {l : Nat} {env : Env} (hk : env.scope.kind = .function) (hy : env.scope.names.lookup y = some .local) (hl : (py.line == pos.line) = true)
    (ha : (scope.names.any fun (n, k) => n == y && (k == .local || k == .cell)) = false) : swapsWith (.DictComp kx vx gs scope pos) (some (.Name y py)) l env = pure true := by
  have ky : env.kindOf y = some .local := hy
  have hb : env.blockKind = .function := by unfold Env.blockKind; rw [hk]; rfl
  unfold swapsWith
  simp only [hb, ky, ha, Expr.pos, hl]
  rfl
theorem ps_setDc {i : Nat} {y : Str} {py : Pos} {kx vx tg iter : Expr} {ifs : List Expr} {scope : Scope} {own : List (Str × Nat)} {pos spos : Pos} {wi : TI} {g : TG} {tt : TT} {tk tv : TE} (hc : X.calm = true) (hN : X.N.Nodup) (hy : X.N[i]? = some y) (hyl : X.env.scope.names.lookup y = some .local)
    (hsw : swapsWith (.DictComp kx vx [⟨tg, iter, ifs, 0⟩] scope pos) (some (.Name y py)) spos.line X.env = pure true) (hi : PI X tg iter wi) (ok : BlkOk X.N X.env.scope scope own)
    (hg : ∀ (s : Shared) (H : Hp) (C : Addr) (cl : List (Str × Addr)) (fp : List Addr), PG (X.blk s H scope (compEnvC scope cl C X.env) fp) tg g) (ht : ∀ (s : Shared) (H : Hp) (C : Addr) (cl : List (Str × Addr)) (fp : List Addr), PTs (X.blk s H scope (compEnvC scope cl C X.env) fp) ifs tt)
    (hk : ∀ (s : Shared) (H : Hp) (C : Addr) (cl : List (Str × Addr)) (fp : List Addr), PE (X.blk s H scope (compEnvC scope cl C X.env) fp) kx tk)
    (he : ∀ (s : Shared) (H : Hp) (C : Addr) (cl : List (Str × Addr)) (fp : List Addr), PE (X.blk s H scope (compEnvC scope cl C X.env) fp) vx tv) (hs : ∀ x, foldedSetIterable iter X.env x = pure x := by intro _; rfl) :
    PS X (.Assign [.Name y py] (.DictComp kx vx [⟨tg, iter, ifs, 0⟩] scope pos) spos) (tAsg (tDc wi g tt tk tv (own.map (·.2))) (gName i)) := by
  refine ⟨fun pins s σ H D I h => ?_⟩
  rw [exec_Assign_Name_used _ _ _ _ hsw]
  refine wpAny_bind (wpAny_standAt (wpAny_bind ?_))
  show wpAny _ X.A (do let _ ← comprehension (.DictComp kx vx [⟨tg, iter, ifs, 0⟩] scope pos) scope X.env (firstIterPos [⟨tg, iter, ifs, 0⟩] pos) newDict false (eval iter X.env) (some (assign (.Name y py) X.env))) _ _ s
  have h : tDc wi g tt tk tv (own.map (·.2)) σ H (fun x H1 => gName i x σ H1 D.nx) := h
  refine wpAny_bind (thn (dc_core (Qf := fun _ s' => SP X pins D .next s') hc hN I hi ok hg ht hk he hs h fun L C s' m H' I' q hn f => ?_) fun _ s' hq => wpAny_pure (wpAny_pure hq))
  show wpAny _ _ (assign (.Name y py) X.env (.ref L)) _ _ _
  refine wpAny_assign_Name (store_ok2 (v := V.ref L) I' hN hy (.inl hyl) rfl (fun s2 I2 ⟨a, sb, ha⟩ => ?_) (.inr hyl))
  obtain ⟨f0, f1, f2, f3, f4, f5⟩ := f
  have haC : C ≠ a := by
    rcases ha with z | z
    · rw [z]; exact f1
    · exact fun e => f4 y a z e.symm
  refine ⟨m, hn.sameBut sb haC, fun h3 sb3 => ?_⟩
  exact ⟨_, H', I2.turned (t' := s2.toks) (fun b o hb e => (sb3.2 b hb).trans e) f0 f1 f3 f4 f5, q⟩
end
end Fr

namespace Fr
open PySem PySem.Spec PyProof.Rows L2
section
variable {prog : Program} {w : World} {d r : Addr} {es : Array DictEntry} {ep : Nat}
theorem kdl_valuesR : PySem.W.KdlSrc prog w "dict_values" r d es.size (fun i v => ∃ hi : i < es.size, v = es[i].val) (fun h => h.IsValuesView r d ∧ h.DictRaw d es ep) where
  type := fun _ hm => hm.1.typeIs
  there := fun _ hm => ⟨let ⟨_, ho, _⟩ := hm.1; Heap.lt_size ho, let ⟨_, ho, _⟩ := hm.2; Heap.lt_size ho⟩
  keep := fun _ _ hm hk => ⟨let ⟨o, ho, x⟩ := hm.1; ⟨o, hk r (.inl rfl) o ho, x⟩, hm.2.at fun o e => hk d (.inr rfl) o e⟩
  notList := by decide
  notTuple := by decide
  hint := fun _ _ _ _ hm hq => PySem.W.kdl_hint_values hm.1.typeIs hq
  iter := fun _ _ hh hm => ⟨_, _, (fun _ _ hq => wpAny_pyIter_values_raw hm.1 hm.2 hq), Walks.rawValues hh _ d (Nat.ne_of_lt (let ⟨_, ho, _⟩ := hm.2; Heap.lt_size ho)) es ep, ⟨⟨_, Heap.get?_push_size _ rfl, rfl, rfl⟩, hm.2.at fun o e => Heap.get?_push_of_some _ e⟩⟩
end
def tLstValsT (te : TE) : TE := fun σ H Q => te σ H fun x H1 => ∃ (d : Addr) (kvs : List (List Key × V)), x = .ref d ∧ H1 d = some (.dT kvs) ∧ ∀ q, H1 q = none → Q (.ref q) (upd H1 q (.lst (kvs.map (·.2))))
theorem pe_listValsT {X : Cx} {e : Expr} {te : TE} {p apos cpos pos : Pos} (hc : X.calm = true) (hg : Gl X "list") (hm : X.mg "list" = none) (he : PE X e te) (hbase : attributeBase e "values" X.env (eval e X.env) = eval e X.env := by rfl) (hline : (apos.endLine == cpos.line) = true := by rfl)
    (na : starEach [.Call (.Attribute e "values" apos) [] [] cpos] X.env = (false, eval (.Call (.Attribute e "values" apos) [] [] cpos) X.env) :: starEach [] X.env := by rfl) : PE X (.Call (.Name "list" p) [.Call (.Attribute e "values" apos) [] [] cpos] [] pos) (tLstValsT te) := by
  refine ⟨fun pins s σ H Q I h => ?_⟩
  refine Call_ (ld_blt I hg hm boot_list (PyProof.Rows.callWith_type1 (args_cons ?_ na) na))
  refine wpAny_Call_method (T := "dict") (id := "dict.values") hbase rfl hline PySem.F.plainAttrs_dict PySem.F.slot_dict_values PySem.F.type_dict_values (thn (he.run pins s σ H _ I h) fun u s1 ⟨x, H1, I1, rx, d, kvs, ex, hd, q⟩ => ?_)
  subst ex
  obtain rfl : u = Value.ref d := rx
  obtain ⟨z, lo, xs, pr, o, es, ep, ho, hx, hdt, hes, _⟩ := (show ObjOk X.prog X.w H1 s1.heap d (.dT kvs) from I1.hok d _ hd)
  have raw : s1.heap.DictRaw d es ep := ⟨o, ho, hx, hdt⟩
  have l1 : es.size = xs.length := size_of_entries hes
  have l2 : kvs.length = xs.length := Paired.length pr
  refine ⟨raw.typeIs, fun b hb => by cases hb; exact ⟨o, ho, hx.2.1⟩, ?_⟩
  have I2 : Inv X pins σ H1 { s1 with heap := s1.heap.push { cls := .type "dict_values", data := .fields #[.ref d] } } := I1.kept (t' := s1.toks) fun b ob q => Heap.get?_push_of_some _ q
  have fin : wpAny (model X.prog X.w) X.A (call (.type "list") [.ref s1.heap.objs.size]) (EP X pins σ Q) X.xe { s1 with heap := s1.heap.push { cls := .type "dict_values", data := .fields #[.ref d] } } := by
    refine PySem.W.kdl_call (kdl_valuesR (r := s1.heap.objs.size) (d := d) (es := es) (ep := ep)) (I2.ok.hd hc) ⟨⟨_, Heap.get?_push_size _ rfl, rfl, rfl⟩, raw.at fun o e => Heap.get?_push_of_some _ e⟩ (by omega) fun h' tk acc' c' hkeep hS hacc => ?_
    refine ⟨.ref _, upd H1 _ (.lst (kvs.map (·.2))), I2.laid hkeep (Nat.le_refl _) (show ObjOk X.prog X.w _ _ _ (.lst (kvs.map (·.2))) from ⟨?_, acc'.toList, c', ?_, ?_⟩), rfl, q _ (I2.hok.fresh (Nat.le_refl _))⟩
    · rw [List.length_map]; exact z
    · have el : acc'.toList.length = acc'.size := by simp
      refine vals_of_at (by rw [List.length_map, el, hacc.1]; omega) fun j x w h1 h2 => ?_
      obtain ⟨hj, e1⟩ := hacc.2 j w (by rw [← Array.getElem?_toList]; exact h2)
      rw [List.getElem?_map] at h1
      obtain ⟨kv, h3, rfl⟩ := Option.map_eq_some_iff.mp h1
      obtain ⟨k, v⟩ := kv
      obtain ⟨b, hb, _, _, e3⟩ := paired_get pr h3
      have y := entry_at hes j
      rw [hb] at y
      have z2 := Array.getElem?_eq_getElem hj
      rw [z2] at y
      have y2 := Option.some.inj y
      rw [e1, y2]
      exact e3
    · rw [Array.toArray_toList]; exact hS
  show wpAny _ _ (callWith cpos (.builtin "dict.values") [.ref d] [] []) _ X.xe s1
  exact method_meetsIn PySem.F.slot_dict_values PySem.F.entry_dict_values rfl (PySem.evalArgs_none ⟨rfl, raw.typeIs, PySem.F.args_dict_values_1 _, _, meets_dict_values_raw d lo, ⟨⟨es, ep, raw⟩, args_nil fin⟩⟩)
end Fr

namespace Fr
open PySem PySem.Spec PyProof.Rows L2
/-- a set that is just made -/
def newSet (w : World) : PySem.Obj := { cls := .type "set", dict := none, data := .set #[] 0 (.fresh 0 0 (!w.params.followText "set-order")) }
section
variable {P : Program} {w : World} {A : Around} {E : Value → Shared → Prop} {s : Shared}
/-- the items of an iterator are put into the set at z one by one; J i: what is true after i of them -/
theorem set_loop {it : Addr} {fp wr : List Addr} {G : Array GenState → Array GenState → Prop} {n : Nat} {Pv : Nat → Value → Prop} {St : Nat → Shared → Prop} {R : Result → Shared → Prop} (W : WalksS P w A.in1 it fp wr G n Pv St) (z : Addr) (hz : z ∉ fp)
    (base : Heap) (hbw : ∀ b ∈ wr, base.get? b = none) (hbz : base.get? z = none) (J : Nat → Heap → Prop)
    (keep : ∀ i h h', J i h → (∀ b o, base.get? b = some o → h'.get? b = some o) → (∀ o, h.get? z = some o → h'.get? z = some o) → J i h')
    (step : ∀ i v (t : Shared) (Q : Bool → Shared → Prop), Pv i v → J i t.heap → (∀ b o, base.get? b = some o → t.heap.get? b = some o) → (∀ b h' tk, Heap.SameBut z t.heap h' → t.toks ≤ tk → J (i + 1) h' → Q b { t with heap := h', toks := tk }) → wpAny (model P w) A.in1 (setAdd z v) Q (fun e s' => R (.error e) s') t) :
    ∀ (left i : Nat) (t : Shared), i + left = n → St i t → (∀ b o, base.get? b = some o → t.heap.get? b = some o) → J i t.heap →
      (∀ t', Moved (z :: wr) G t t' → J n t'.heap → (∀ b o, base.get? b = some o → t'.heap.get? b = some o) → R (.ok (.ret .none)) t') →
      codeAny (model P w) A (.builtin "set.update.loop" ⟨[.ref z, .ref it], []⟩) R t := by
  have zw : z ∉ wr := fun m => hz (W.sub _ m)
  have wider : ∀ b ∈ wr, b ∈ z :: wr := fun b m => List.mem_cons_of_mem _ m
  intro left
  induction left with
  | zero =>
    intro i t e st kb j fin
    obtain rfl : i = n := e
    refine codeAny_builtin PyProof.Rows.F.entry_set_update_loop ?_
    rw [Around.under_plainId PyProof.Rows.F.plain_set_update_loop _]
    show wpAny _ A.in1 (pyNext (.ref it) >>= _) _ _ t
    refine wpAny_bind (W.done t _ _ st fun t' mv => ?_)
    have kb' : ∀ b o, base.get? b = some o → t'.heap.get? b = some o := fun b o h => mv.heap b o (fun m => by rw [hbw b m] at h; cases h) (kb b o h)
    exact wpAny_pure (fin t' (mv.mono wider) (keep _ _ _ j kb' fun o h => mv.heap z o zw h) kb')
  | succ left ih =>
    intro i t e st kb j fin
    refine codeAny_builtin PyProof.Rows.F.entry_set_update_loop ?_
    rw [Around.under_plainId PyProof.Rows.F.plain_set_update_loop _]
    show wpAny _ A.in1 (pyNext (.ref it) >>= _) _ _ t
    refine wpAny_bind (W.item i t _ _ (by omega) st fun v t' pv st' mv => ?_)
    have kb' : ∀ b o, base.get? b = some o → t'.heap.get? b = some o := fun b o h => mv.heap b o (fun m => by rw [hbw b m] at h; cases h) (kb b o h)
    show wpAny _ A.in1 (holding [v] (setAdd z v) >>= _) _ _ t'
    refine wpAny_bind (wpAny_holding (step i v t' _ pv (keep _ _ _ j kb' fun o h => mv.heap z o zw h) kb' fun b h' tk sb le j' => ?_))
    have oth : ∀ c o, c ≠ z → t'.heap.get? c = some o → h'.get? c = some o := fun c o ne h => (sb.2 c ne).trans h
    have kb2 : ∀ b o, base.get? b = some o → h'.get? b = some o := fun b o h => oth b o (fun q => by rw [q, hbz] at h; cases h) (kb' b o h)
    refine wpAny_pure ⟨plainId_quiet PyProof.Rows.F.plain_set_update_loop _, ih (i + 1) _ (by omega) (W.frame _ t' _ _ st' le fun c m o h => oth c o (fun q => hz (by rw [← q]; exact m)) h) kb2 j' fun t2 mv2 j2 kb3 => ?_⟩
    exact fin t2 (Moved.trans W.gtrans ((mv.mono wider).then_heap le fun c o m h => oth c o (fun q => m (by rw [q]; exact List.mem_cons_self)) h) mv2) j2 kb3
set_option maxHeartbeats 8000000 in
/-- set(list) -/
theorem call_set_gen {l : Addr} {items : Array Value} {Q : Value → Shared → Prop} (hh : A.handled = none) (hl : s.heap.IsList l items) (J : Nat → Heap → Prop)
    (keep : ∀ i h h', J i h → (∀ b o, s.heap.get? b = some o → h'.get? b = some o) → (∀ o, h.get? s.heap.objs.size = some o → h'.get? s.heap.objs.size = some o) → J i h')
    (start : ∀ h, h.get? s.heap.objs.size = some (newSet w) → (∀ b o, s.heap.get? b = some o → h.get? b = some o) → J 0 h)
    (step : ∀ (A' : Around) (E' : Value → Shared → Prop) i v (t : Shared) (Q : Bool → Shared → Prop), A'.handled = none → A'.units ≤ A.units + 4 → items[i]? = some v → J i t.heap → (∀ b o, s.heap.get? b = some o → t.heap.get? b = some o) → (∀ b h' tk, Heap.SameBut s.heap.objs.size t.heap h' → t.toks ≤ tk → J (i + 1) h' → Q b { t with heap := h', toks := tk }) → wpAny (model P w) A' (setAdd s.heap.objs.size v) Q E' t)
    (fin : ∀ h' tk, J items.size h' → (∀ b o, s.heap.get? b = some o → h'.get? b = some o) → Q (.ref s.heap.objs.size) { s with heap := h', toks := tk }) :
    wpAny (model P w) A (call (.type "set") [.ref l]) Q E s := by
  obtain ⟨c, tl, hmro⟩ := F.called_set.mro
  have hmade := F.called_set.made
  have hsub := F.called_set.sub
  refine wpAny_call (codeAny_of_tree ?_)
  show wpAny _ _ (callAny (.type "set") _) _ _ _
  refine wpAny_pure ⟨Code.quiet_builtin _ (by decide +kernel), codeAny_builtin F.entry_type_call ?_⟩
  rw [Around.under_plain (weight_type_call_type "set" [.ref l] []) rfl]
  have h1 := F.called_set.notType
  have h2 := F.called_set.canCreate
  have hct := F.typeCall_set_1 (.ref l)
  repeat (any_goals (first | assumption | wp_step))
  refine codeAny_mono (code_set_led1 (.ref l) (E := E) (Q₁ := fun u t => u = .ref s.heap.objs.size ∧ t = { s with heap := s.heap.push (newSet w) }) ⟨rfl, rfl⟩) fun r s₁ hr => ?_
  cases r with
  | error e => exact hr
  | ok fl =>
    cases fl with
    | ret obj =>
      obtain ⟨rfl, rfl⟩ := hr
      have hS : (s.heap.push (newSet w)).get? s.heap.objs.size = some (newSet w) := Heap.get?_push_size _ rfl
      have hT : Shared.TypeIs { s with heap := s.heap.push (newSet w) } (.ref s.heap.objs.size) "set" := ⟨_, hS, rfl⟩
      have hli := F.called_set.init.lookup
      have hbi := F.called_set.init.bind (.ref s.heap.objs.size)
      repeat (any_goals (first | assumption | wp_step))
      refine codeAny_mono (codeAny_call_builtin (R := wants (fun r t => r = .none ∧ ∃ h' tk, t = { s with heap := h', toks := tk } ∧ J items.size h' ∧ (∀ b o, s.heap.get? b = some o → h'.get? b = some o)) E) F.called_set.init.plain F.entry_set_init (check_set_init_1 hT ?_)) fun r₂ s₂ hr₂ => ?_
      · obtain ⟨ol, hol, hcl, nl, hdl⟩ := hl
        obtain ⟨ocls, odict, odata, oslots⟩ := ol
        simp only at hcl hdl
        subst hcl
        subst hdl
        have hol' : (s.heap.push (newSet w)).get? l = some { cls := .type "list", dict := odict, data := .seq items nl, slots := oslots } := Heap.get?_push_of_some _ hol
        have hsls := F.sub_list_set
        have hslf := F.sub_list_frozenset
        have hne : (Value.type "list" == Value.type "dict") = false := by decide
        have hl1 : (s.heap.push (newSet w)).IsList l items := ⟨_, hol', rfl, nl, rfl⟩
        unfold Builtin.«set.__init__» noKeywords Builtin.Frozenset.updateFrom
        generalize hPI : pyIter = PI
        wp_walk
        subst hPI
        refine wpAny_pyIter_list hl1 ?_
        refine wpAny_bind (wpAny_runValue ?_)
        have lS : l < s.heap.objs.size := Heap.lt_size hol
        have nohan : A.in1.in1.in1.handled = none := by simp [hh]
        have sz : (s.heap.push (newSet w)).objs.size = s.heap.objs.size + 1 := Heap.size_push ..
        have apart : l ≠ (s.heap.push (newSet w)).objs.size := by rw [sz]; exact Nat.ne_of_lt (Nat.lt_succ_of_lt lS)
        have outz : s.heap.objs.size ∉ [(s.heap.push (newSet w)).objs.size, l] := by
          rw [sz]
          simp only [List.mem_cons, List.not_mem_nil, or_false, not_or]
          exact ⟨Nat.ne_of_lt (Nat.lt_succ_self _), Nat.ne_of_gt lS⟩
        have noold : ∀ b, s.heap.objs.size ≤ b → s.heap.get? b = none := fun b hb => by
          cases q : s.heap.get? b with
          | none => rfl
          | some o => exact absurd (Nat.lt_of_lt_of_le (Heap.lt_size q) hb) (Nat.lt_irrefl _)
        have grown : ∀ (o : PySem.Obj) b u, s.heap.get? b = some u → ((s.heap.push (newSet w)).push o).get? b = some u := fun o b u h => Heap.get?_push_of_some _ (Heap.get?_push_of_some _ h)
        refine set_loop ((Walks.list nohan _ l apart items).toS) s.heap.objs.size outz s.heap (fun b m => noold b (by rw [List.mem_singleton.mp m, sz]; exact Nat.le_succ _)) (noold _ (Nat.le_refl _)) J keep
          (fun i v t Q pv j kb q => step _ _ i v t Q (by simp [hh]) (by show A.units + 1 + 1 + 1 ≤ _; exact Nat.le_succ _) pv j kb q) items.size 0 _ (Nat.zero_add _) ⟨⟨_, Heap.get?_push_size _ rfl, rfl, rfl⟩, (hl1.push _)⟩ (grown _) (start _ (Heap.get?_push_of_some _ hS) (grown _)) fun t' mv j kb => ?_
        obtain ⟨h', g', d', tk', os'⟩ := t'
        have e1 : g' = s.gens := mv.gens
        have e2 : d' = s.drawn := mv.drawn
        have e3 : os' = s.os := mv.os
        subst e1 e2 e3
        show wpAny _ _ _ _ _ _
        refine wpAny_pure ?_
        show wpAny _ _ (ret Value.none) _ _ _
        exact wpAny_pure ⟨rfl, h', tk', rfl, j, kb⟩
      · cases r₂ with
        | error e => exact hr₂
        | ok fl₂ =>
          cases fl₂ with
          | ret r =>
            obtain ⟨rfl, h', tk, rfl, j, kb⟩ := hr₂
            repeat (any_goals (first | assumption | wp_step))
            exact fin h' tk j kb
          | _ => exact hr₂.elim
    | _ => exact hr.elim
end
end Fr

namespace Fr
open PySem PySem.Spec PyProof.Rows L2
def GdS (w : World) (e : Int × Value) : Prop := ∃ k tk, e.2 = Value.str k tk ∧ e.1 = hashStr w k
def keyS (e : Int × Value) : Str := strOf e.2
/-- the payload of a set of the texts L -/
structure SPay (w : World) (es : Array (Int × Value)) (t : SetTable) (L : List Str) : Prop where
  gd : ∀ e ∈ es.toList, GdS w e
  pm : (es.toList.map keyS).Perm L
  nd : L.Nodup
  fit : t.fits es.size = true
  ris : Ris t.place.toList
  led : w.params.followText "set-order" = true ∨ t.led = true
section
variable {P : Program} {w : World} {A : Around} {E : Value → Shared → Prop} {s : Shared} {es : Array (Int × Value)} {t : SetTable} {L : List Str}
theorem SPay.el (R : SPay w es t L) : ElemsOf (strKind P w) es.toList := fun e he => by
  obtain ⟨k, tk, h1, h2⟩ := R.gd e he
  exact ⟨⟨k, by rw [h1]; exact strKind_is P w k tk, h2⟩, by rw [h1] <;> rfl⟩
theorem SPay.size (R : SPay w es t L) : es.size = L.length := by
  rw [← R.pm.length_eq, List.length_map, Array.length_toList]
theorem SPay.is (R : SPay w es t L) {e : Int × Value} (he : e ∈ es.toList) (k : Str) : (strKind P w).is k e.2 = true ↔ keyS e = k := by
  obtain ⟨k0, tk, h1, _⟩ := R.gd e he
  unfold keyS
  rw [h1]
  show Value.isStrOf k (Value.str k0 tk) = true ↔ k0 = k
  simp [Value.isStrOf]
theorem SPay.found (R : SPay w es t L) {k : Str} : (∃ e ∈ es.toList, (strKind P w).is k e.2 = true) ↔ k ∈ L := by
  rw [← R.pm.mem_iff, List.mem_map]
  exact ⟨fun ⟨e, he, q⟩ => ⟨e, he, (R.is he k).mp q⟩, fun ⟨e, he, q⟩ => ⟨e, he, (R.is he k).mpr q⟩⟩
/-- the same texts in another table -/
theorem SPay.swap (R : SPay w es t L) {es' : Array (Int × Value)} {t' : SetTable} (p : es'.toList.Perm es.toList) (f : t'.fits es'.size = true) (r : Ris t'.place.toList) (l : t'.led = t.led) : SPay w es' t' L :=
  ⟨fun e he => R.gd e (p.mem_iff.mp he), (p.map keyS).trans R.pm, R.nd, f, r, R.led.imp id fun z => by rw [l]; exact z⟩
/-- one text more -/
theorem SPay.more (R : SPay w es t L) {k : Str} {tk : Tok} (hk : k ∉ L) {es' : Array (Int × Value)} {t' : SetTable} (p : es'.toList.Perm (es.push (hashStr w k, Value.str k tk)).toList) (f : t'.fits es'.size = true) (r : Ris t'.place.toList) (l : t'.led = t.led) : SPay w es' t' (k :: L) := by
  rw [Array.toList_push] at p
  have q : es'.toList.Perm ((hashStr w k, Value.str k tk) :: es.toList) := p.trans (List.perm_append_singleton _ _)
  refine ⟨fun e he => ?_, (q.map keyS).trans (R.pm.cons k), List.nodup_cons.mpr ⟨hk, R.nd⟩, f, r, R.led.imp id fun z => by rw [l]; exact z⟩
  rcases List.mem_cons.mp (q.mem_iff.mp he) with z | z
  · exact ⟨k, tk, by rw [z], by rw [z]⟩
  · exact R.gd e z
/-- a set of the texts L stands at a -/
def SetS (w : World) (h : Heap) (a : Addr) (L : List Str) : Prop := ∃ o es ep t, h.get? a = some o ∧ o.ExactSet ∧ o.data = .set es ep t ∧ SPay w es t L
theorem SetS.at {h h' : Heap} {a : Addr} (R : SetS w h a L) (k : ∀ o, h.get? a = some o → h'.get? a = some o) : SetS w h' a L := by
  obtain ⟨o, es, ep, t, ho, r⟩ := R
  exact ⟨o, es, ep, t, k o ho, r⟩
theorem setS_new {h : Heap} {a : Addr} (ho : h.get? a = some (newSet w)) : SetS w h a [] :=
  ⟨_, #[], 0, _, ho, ⟨rfl, rfl, rfl⟩, rfl, fun e he => (List.not_mem_nil he).elim, .nil, List.nodup_nil, by rfl, by exact List.Pairwise.nil, by
    show _ ∨ (SetTable.fresh 0 0 _).led = true
    cases w.params.followText "set-order" <;> simp [SetTable.fresh]⟩
/-- what is laid anew -/
theorem setS_lay {a : Addr} {o : PySem.Obj} {ep : Nat} {es0 : Array (Int × Value)} {t0 : SetTable} {g : Bool → Sem Unit} (hg : ∀ (b : Bool) (s₁ : Shared) (Q' : Unit → Shared → Prop), Q' () s₁ → wpAny (model P w) A (g b) Q' E s₁)
    (ho : s.heap.get? a = some o) (hex : o.ExactSet) (hd : o.data = .set es0 ep t0) (R : SPay w es t L) (hb : L.length < scanBound) {x : Bool} {Z : Option Bool → Shared → Prop} (fin : ∀ h', Heap.SameBut a s.heap h' → SetS w h' a L → Z (some true) { s with heap := h' }) :
    wpAny (model P w) A (do
        storeSet a es t
        if (!x && t.tooFull) = true then do
            g (relayAll t es (SetTable.grown es.size)).2.2
            storeSet a (relayAll t es (SetTable.grown es.size)).1 (relayAll t es (SetTable.grown es.size)).2.1
            pure (some true)
          else pure (some true)) Z E s := by
  have hb1 : es.size < scanBound := by rw [R.size]; exact hb
  refine wpAny_bind (wpAny_storeSet_of ho hd ?_ (fits_of_scanBound hb1))
  have ho1 := store_at (es' := es) (t' := t) ho hd
  have sb1 := Heap.SameBut.update s.heap a (Obj.putSet es t)
  by_cases c : (!x && t.tooFull) = true
  · rw [if_pos c]
    have R2 := R.swap (relayAll_perm t es (SetTable.grown es.size)) (relayAll_fits t es (SetTable.grown es.size)) (relayAll_ris t es (SetTable.grown es.size)) (relayAll_led t es (SetTable.grown es.size))
    generalize relayAll t es (SetTable.grown es.size) = Y at R2 ⊢
    obtain ⟨es2, t3, gave⟩ := Y
    refine wpAny_bind (hg _ _ _ (wpAny_bind (wpAny_storeSet_of ho1 rfl ?_ (fits_of_scanBound (by rw [R2.size]; exact hb)))))
    exact wpAny_pure (fin _ (sb1.trans (Heap.SameBut.update _ a _)) ⟨_, es2, _, t3, store_at ho1 rfl, hex, rfl, R2⟩)
  · rw [if_neg c]
    exact wpAny_pure (fin _ sb1 ⟨_, es, _, t, ho1, hex, rfl, R⟩)
theorem setS_addH {a : Addr} {k : Str} {tk : Tok} {Q : Bool → Shared → Prop} (R : SetS w s.heap a L) (room : L.length + 1 < scanBound)
    (hQ : ∀ b h' L', Heap.SameBut a s.heap h' → SetS w h' a L' → (∀ j, j ∈ L' ↔ j ∈ L ∨ j = k) → L'.length ≤ L.length + 1 → Q b { s with heap := h' }) :
    wpAny (model P w) A (setAddHashed a (.str k tk) (hashStr w k)) Q E s := by
  obtain ⟨o, es, ep, t, ho, hex, hd, pay⟩ := R
  have hel : ElemsOf (strKind P w) es.toList := pay.el
  have sc : (Value.str k tk).scannable = true := rfl
  have hb : es.size < scanBound := by rw [pay.size]; omega
  have rl : ∀ (b : Bool) (r : String) {s₁ : Shared} {Q' : Unit → Shared → Prop}, Q' () s₁ → wpAny (model P w) A (match b with | true => rule r | false => pure ()) Q' E s₁ :=
    fun b r s₁ Q' q => by cases b <;> first | exact wpAny_pure q | exact wpAny_rule q
  unfold setAddHashed setAddHashedIn
  refine wpAny_holding (wpAny_bind (wpAny_setState_of ho hd pay.fit ?_))
  dsimp only
  rw [byScan_of sc hb hel]
  simp only [↓reduceIte]
  unfold setAddByScan
  refine wpAny_bind (wpAny_bind (wpAny_rule (wpAny_bind (wpAny_setScan_of (strKind_is P w k tk) ho hd pay.fit hel ?_))))
  cases hfi : List.findIdx? (fun e => (strKind P w).is k e.2) es.toList with
  | some j =>
    dsimp only
    obtain ⟨hj, pj, _⟩ := List.findIdx?_eq_some_iff_getElem.mp hfi
    have hm : k ∈ L := pay.found.mp ⟨es.toList[j], List.getElem_mem hj, pj⟩
    exact wpAny_pure (wpAny_pure (hQ _ s.heap L (Heap.SameBut.refl a s.heap) ⟨o, es, ep, t, ho, hex, hd, pay⟩ (fun i => ⟨Or.inl, fun z => z.elim id fun e => e ▸ hm⟩) (Nat.le_succ _)))
  | none =>
    dsimp only
    have hm : k ∉ L := fun z => by
      obtain ⟨e, he, q⟩ := (pay.found (P := P)).mpr z
      have c := List.findIdx?_eq_none_iff.mp hfi e he
      rw [q] at c
      cases c
    have p1 := layNew_perm t es (hashStr w k) (.str k tk)
    have p2 := layNew_fits t es (hashStr w k) (.str k tk)
    have p3 := layNew_ris t es (hashStr w k) (.str k tk) pay.ris
    have p4 := layNew_led t es (hashStr w k) (.str k tk)
    generalize layNew t es (hashStr w k) (.str k tk) = Y at p1 p2 p3 p4 ⊢
    obtain ⟨es1, t1, wasDummy, gave⟩ := Y
    dsimp only at p1 p2 p3 p4 ⊢
    have pay1 : SPay w es1 t1 (k :: L) := pay.more hm p1 p2 p3 p4
    have fin : ∀ h', Heap.SameBut a s.heap h' → SetS w h' a (k :: L) → Q true { s with heap := h' } := fun h' sb r => hQ _ h' _ sb r (fun j => List.mem_cons.trans Or.comm) (Nat.le_refl _)
    refine wpAny_bind (rl _ _ ?_)
    by_cases pl : t1.plain = true
    · rw [if_pos pl]
      refine wpAny_bind ?_
      rw [hashByValue_scannable 8 sc]
      refine wpAny_pure (setS_lay ?_ ho hex hd (pay1.swap (t' := { t1 with plain := false }) (.refl _) (SetTable.fits_plain_off p2) p3 rfl) room ?_)
      · intro b s₁ Q' q
        cases b <;> first | exact wpAny_pure q | exact wpAny_rule q
      · intro h' sb r
        dsimp only
        exact wpAny_pure (fin h' sb r)
    · rw [if_neg pl]
      refine wpAny_bind (wpAny_pure ?_)
      simp only [↓reduceIte]
      refine setS_lay ?_ ho hex hd pay1 room ?_
      · intro b s₁ Q' q
        cases b <;> first | exact wpAny_pure q | exact wpAny_rule q
      · intro h' sb r
        dsimp only
        exact wpAny_pure (fin h' sb r)
theorem setS_add {a : Addr} {k : Str} {tk : Tok} {Q : Bool → Shared → Prop} (R : SetS w s.heap a L) (room : L.length + 1 < scanBound)
    (hQ : ∀ b h' L' tk', Heap.SameBut a s.heap h' → s.toks ≤ tk' → SetS w h' a L' → (∀ j, j ∈ L' ↔ j ∈ L ∨ j = k) → L'.length ≤ L.length + 1 → Q b { s with heap := h', toks := tk' }) :
    wpAny (model P w) A (setAdd a (.str k tk)) Q E s := by
  unfold setAdd
  refine wpAny_holding (wpAny_bind (wpAny_pyHash_str ?_))
  exact setS_addH (s := { s with toks := s.toks + 1 }) R room fun b h' L' sb r m l => hQ b h' L' _ sb (Nat.le_succ _) r m l
/-- sorted(set of texts) -/
theorem sorted_setS {a : Addr} {Q : Value → Shared → Prop} (R : SetS w s.heap a L) (hh : A.handled = none) (few : L.length < 64)
    (hQ : ∀ s' p (out : Array Value) (c : Nat) (ys : List Str), (∀ b o, s.heap.get? b = some o → s'.heap.get? b = some o) → s'.gens = s.gens → s'.os = s.os → s.heap.objs.size ≤ p →
      s'.heap.get? p = some (seqObj "list" out c) → StrsAre out.toList ys → ys.Perm L → sortedS ys = true → Q (.ref p) s') :
    wpAny (model P w) A (call (.builtin "sorted") [.ref a]) Q E s := by
  obtain ⟨o, es, ep, t, ho, hex, hd, pay⟩ := R
  have hb : es.size < scanBound := by
    rw [pay.size]
    have : (64 : Nat) ≤ scanBound := by decide
    omega
  refine Calls.call_function_entry kind_sorted plain_sorted entry_sorted (args_sorted1 _) ?_
  unfold Builtin.«sorted»
  refine wpAny_bind (m := checkCount "sorted" 1 1 _) (wpAny_pure (wpAny_bind (collect_set (A := A.in1) hh ⟨o, ho, hex.1, hd⟩ pay.fit hb pay.ris pay.led fun s1 vs k1 hz g1 o1 pm => ?_)))
  have len : vs.length = L.length := by rw [pm.length_eq, List.length_map, Array.length_toList, pay.size]
  have hS : StrsAre vs (vs.map strOf) := strsAre_map vs fun v hv => by
    obtain ⟨e, he, q⟩ := List.mem_map.mp (pm.mem_iff.mp hv)
    obtain ⟨k, tk, h1, _⟩ := pay.gd e he
    exact ⟨k, tk, q.symm.trans h1⟩
  have pk : (vs.map strOf).Perm L := by
    have q := pm.map strOf
    rw [List.map_map] at q
    exact q.trans pay.pm
  refine wpAny_bind (wpAny_newList ?_ (by rw [len, sizeLine_eq]; omega))
  have hoL : (s1.heap.push (seqObj "list" vs.toArray 0)).get? s1.heap.objs.size = some (seqObj "list" vs.toArray 0) := Heap.get?_push_size _ rfl
  refine wpAny_bind (wpAny_holding (wpAny_call_entry slot_list_sort ⟨_, hoL, rfl⟩ entry_list_sort (list_sort_treeK strKind_oneLt hoL hS.keysOf (fun v₁ v₂ rest e => keyKind_strs (by rw [← e]; exact hS)) (by rw [len]; exact few) fun st' a1 a2 => ⟨_, rfl, ?_⟩) (args_list_sort _)))
  obtain ⟨ys, b1, b2, b3⟩ := sorted_out_str hS a1 a2
  obtain ⟨c, hc⟩ := sortedHeap_at (vs := vs) (out := (arrOf st').map (·.2)) hoL
  refine wpAny_pure ⟨_, rfl, hQ _ s1.heap.objs.size _ c ys (fun b u e => ?_) g1 o1 hz hc b1 (b2.trans pk) b3⟩
  have q := k1 b u e
  have hlt := Heap.lt_size q
  exact (sortedHeap_old (Nat.ne_of_lt hlt) (by rw [size_push']; exact Nat.lt_succ_of_lt hlt)).trans (Heap.get?_push_of_some _ q)
end
def SetSO (w : World) (a : Addr) (L : List Str) : HO := .ext fun h => SetS w h a L
section
variable {X : Cx}
theorem setSO_new {P : Program} {w : World} {H : Hp} {h : Heap} {a : Addr} {L : List Str} (R : SetS w h a L) : ObjOk P w H h a (SetSO w a L) := by
  have ⟨o, _, _, _, ho, _⟩ := R
  exact ⟨R, ⟨o, ho⟩, fun _ _ p k => SetS.at p k⟩
/-- set(list of texts) -/
def rSetS (K : PySem.W.Frag) (w : World) : List V → Hp → VK → Prop := fun vs H Q => ∃ (l : Addr) (xs : List Str), vs = [.ref l] ∧ SqL K H l (xs.map V.str) ∧ xs.length < 4000 ∧
  ∀ (L : List Str) (p : Addr), L.Nodup → (∀ k, k ∈ L ↔ k ∈ xs) → H p = none → Q (.ref p) (upd H p (SetSO w p L))
theorem cr_setS (hc : X.calm = true) : CallR X (.type "set") (rSetS X.K X.w) := by
  intro pins s σ H vs us Q I r h
  obtain ⟨l, xs, rfl, hs, few, q⟩ := h
  obtain ⟨its, rv, hl, _⟩ := I.list hs
  rw [Vals.ref1 r]
  have st := rv.strs
  have len : its.length = xs.length := by rw [st.length]
  have big : (4001 : Nat) ≤ scanBound := by decide
  refine call_set_gen (I.ok.hd hc) hl.isList (fun i h => ∃ L, SetS X.w h s.heap.objs.size L ∧ (∀ k, k ∈ L ↔ k ∈ xs.take i) ∧ L.length ≤ i) (fun i h h' ⟨L, a1, a2⟩ _ k => ⟨L, a1.at k, a2⟩) (fun h ho _ => ⟨[], setS_new ho, fun k => by simp, Nat.le_refl _⟩) ?_ ?_
  · rintro A' E' i v t Q' - - hv ⟨L, a1, a2, a3⟩ - fin
    rw [List.getElem?_toArray] at hv
    obtain ⟨x, tk, hx, rfl⟩ : ∃ x tk, xs[i]? = some x ∧ v = .str x tk := by
      have hi : i < its.length := (List.getElem?_eq_some_iff.mp hv).1
      obtain ⟨u, e1, e2⟩ := Vals.get rv (i := i) (x := .str xs[i]) (by rw [List.getElem?_map, List.getElem?_eq_getElem (by omega), Option.map_some])
      rw [hv] at e1
      obtain rfl := Option.some.inj e1
      obtain ⟨tk, e⟩ := e2
      exact ⟨xs[i], tk, List.getElem?_eq_getElem (by omega), e⟩
    have hi : i < xs.length := (List.getElem?_eq_some_iff.mp hx).1
    refine setS_add a1 (by omega) fun b h' L' tk' sb le r m l => fin b h' tk' sb le ⟨L', r, fun j => ?_, by omega⟩
    rw [m j, a2 j, List.take_add_one, hx]
    simp
  · rintro h' tk ⟨L, a1, a2, a3⟩ kb
    have hn : H s.heap.objs.size = none := I.hok.fresh (Nat.le_refl _)
    rw [List.size_toArray, len, List.take_length] at a2
    have nd : L.Nodup := by
      obtain ⟨_, _, _, _, _, _, _, pay⟩ := a1
      exact pay.nd
    exact ⟨.ref _, upd H s.heap.objs.size (SetSO X.w s.heap.objs.size L), I.laid (t' := tk) kb (Nat.le_refl _) (setSO_new a1), rfl, q L _ nd a2 hn⟩
/-- sorted(set of texts) -/
def rSortSS (w : World) : List V → Hp → VK → Prop := fun vs H Q => ∃ (a : Addr) (L : List Str), vs = [.ref a] ∧ H a = some (SetSO w a L) ∧ L.length < 64 ∧
  ∀ (ys : List Str) (p : Addr), ys.Perm L → sortedS ys = true → H p = none → Q (.ref p) (upd H p (.lst (ys.map V.str)))
theorem cr_sortSS (hc : X.calm = true) : CallR X (.builtin "sorted") (rSortSS X.w) := by
  intro pins s σ H vs us Q I r h
  obtain ⟨a, L, rfl, ha, few, q⟩ := h
  have R : SetS X.w s.heap a L := (I.hok a _ ha).1
  rw [Vals.ref1 r]
  refine sorted_setS R (I.ok.hd hc) few fun s' p out c ys k g o hp hg hS pm srt => ?_
  have hn : H p = none := I.hok.fresh hp
  have hlen : (ys.map V.str).length ≤ sizeLine := by rw [List.length_map, pm.length_eq, sizeLine_eq]; omega
  have J : Inv X pins σ (upd H p (.lst (ys.map V.str))) { s with heap := s'.heap, gens := s'.gens, drawn := s'.drawn, toks := s'.toks } :=
    I.call (ch := []) (Un.laid k hp hn) (I.hok.laid k hp ⟨hlen, out.toList, c, vals_of_strs hS, hg⟩) (by rw [g]; exact I.bare) (fun _ z => nomatch z)
  have e : s' = { s with heap := s'.heap, gens := s'.gens, drawn := s'.drawn, toks := s'.toks } := by
    cases s'
    cases s
    cases o
    rfl
  rw [e]
  exact ⟨.ref p, _, J, rfl, q ys p pm srt hn⟩
end
end Fr

namespace Fr
open PySem PySem.Spec PyProof.Rows L2
abbrev s_pieces : Stmt := topS 31
theorem sc_pieces : FnScope ["links", "labels", "reader", "table", "_", "found", "label", "read", "link"] ["links"] (defScope s_pieces) := ⟨rfl, rfl, rfl, by decide +kernel, rfl, by decide +kernel, by decide +kernel⟩
-- slots: 0 links, 1 labels, 2 reader, 3 table, 4 _, 5 found, 6 label, 7 read, 8 link
def labelsP (ls : List Lk) : Lab := ls.foldl (fun L l => joinP L l.n l.r.t) []
def addS (acc : List Str) (x : Str) : List Str := if x ∈ acc then acc else acc ++ [x]
def dedup (xs : List Str) : List Str := xs.foldl addS []
def piecesP (ls : List Lk) : List (List Lk) := (dedup ((labelsP ls).map Prod.snd)).map fun lab => ls.filter fun l => decide (look (labelsP ls) l.n = lab)
theorem setd_sub {L : Lab} {k x : Str} (h : x ∈ L.map Prod.fst) : x ∈ (setd L k).map Prod.fst := by
  unfold setd
  by_cases e : k ∈ L.map Prod.fst
  · rw [if_pos e]
    exact h
  · rw [if_neg e, List.map_append]
    exact List.mem_append_left _ h
theorem joinP_keys {L : Lab} {a b : Str} : a ∈ (joinP L a b).map Prod.fst ∧ b ∈ (joinP L a b).map Prod.fst ∧ ∀ x ∈ L.map Prod.fst, x ∈ (joinP L a b).map Prod.fst := by
  rw [joinP_fst]
  exact ⟨setd_sub setd_mem, setd_mem, fun x h => setd_sub (setd_sub h)⟩
theorem joinP_nodup {L : Lab} {a b : Str} (h : (L.map Prod.fst).Nodup) : ((joinP L a b).map Prod.fst).Nodup := by
  rw [joinP_fst]
  exact setd_nodup (setd_nodup h)
theorem joinP_len {L : Lab} {a b : Str} : (joinP L a b).length ≤ L.length + 2 := by
  have z := congrArg List.length (joinP_fst (ls := L) (a := a) (b := b))
  rw [List.length_map, List.length_map] at z
  rw [z]
  have l1 := setd_len (ls := L) (k := a)
  have l2 := setd_len (ls := setd L a) (k := b)
  omega
theorem fold_all (ls : List Lk) : ∀ L : Lab, (L.map Prod.fst).Nodup → (((ls.foldl (fun L l => joinP L l.n l.r.t) L).map Prod.fst).Nodup ∧ (∀ x ∈ L.map Prod.fst, x ∈ (ls.foldl (fun L l => joinP L l.n l.r.t) L).map Prod.fst) ∧ (ls.foldl (fun L l => joinP L l.n l.r.t) L).length ≤ L.length + 2 * ls.length ∧
    ∀ l ∈ ls, l.n ∈ (ls.foldl (fun L l => joinP L l.n l.r.t) L).map Prod.fst ∧ l.r.t ∈ (ls.foldl (fun L l => joinP L l.n l.r.t) L).map Prod.fst) := by
  induction ls with
  | nil => exact fun L h => ⟨h, fun _ h => h, Nat.le_refl _, fun l hl => by cases hl⟩
  | cons l ls ih =>
    intro L h
    obtain ⟨k1, k2, k3⟩ := joinP_keys (L := L) (a := l.n) (b := l.r.t)
    obtain ⟨h1, h2, h3, h4⟩ := ih (joinP L l.n l.r.t) (joinP_nodup h)
    rw [List.foldl_cons]
    refine ⟨h1, fun x hx => h2 x (k3 x hx), ?_, fun l' hl => ?_⟩
    · have := joinP_len (L := L) (a := l.n) (b := l.r.t)
      rw [List.length_cons]
      omega
    · rcases List.mem_cons.mp hl with rfl | hl
      · exact ⟨h2 _ k1, h2 _ k2⟩
      · exact h4 l' hl
theorem labelsP_snoc (ls : List Lk) (l : Lk) : labelsP (ls ++ [l]) = joinP (labelsP ls) l.n l.r.t := by
  unfold labelsP
  rw [List.foldl_append]
  rfl
theorem dedup_snoc (xs : List Str) (x : Str) : dedup (xs ++ [x]) = addS (dedup xs) x := by
  unfold dedup
  rw [List.foldl_append]
  rfl
theorem dedup_all : ∀ xs acc : List Str, acc.Nodup → ((xs.foldl addS acc).Nodup ∧ ∀ x, x ∈ xs.foldl addS acc ↔ x ∈ acc ∨ x ∈ xs)
  | [], acc, h => ⟨h, fun x => by simp⟩
  | y :: xs, acc, h => by
    have hn : (addS acc y).Nodup := by
      unfold addS
      by_cases e : y ∈ acc
      · rw [if_pos e]
        exact h
      · rw [if_neg e, List.nodup_append]
        refine ⟨h, by simp, fun x hx z hz => ?_⟩
        rw [List.mem_singleton.mp hz]
        exact fun q => e (by rw [← q]; exact hx)
    obtain ⟨h1, h2⟩ := dedup_all xs (addS acc y) hn
    refine ⟨h1, fun x => ?_⟩
    rw [List.foldl_cons, h2 x, List.mem_cons]
    unfold addS
    by_cases e : y ∈ acc
    · rw [if_pos e]
      constructor
      · rintro (h | h)
        · exact .inl h
        · exact .inr (.inr h)
      · rintro (h | rfl | h)
        · exact .inl h
        · exact .inl e
        · exact .inr h
    · rw [if_neg e, List.mem_append, List.mem_singleton]
      constructor
      · rintro ((h | h) | h)
        · exact .inl h
        · exact .inr (.inl h)
        · exact .inr (.inr h)
      · rintro (h | h | h)
        · exact .inl (.inl h)
        · exact .inl (.inr h)
        · exact .inr h
theorem look_mem {L : Lab} {k : Str} (h : k ∈ L.map Prod.fst) : look L k ∈ L.map Prod.snd := by
  unfold look
  cases hf : L.find? fun p => decide (p.1 = k) with
  | none =>
    exfalso
    obtain ⟨p, hp, e⟩ := List.mem_map.mp h
    have := List.find?_eq_none.mp hf p hp
    rw [decide_eq_true_iff] at this
    exact this e
  | some p => exact List.mem_map.mpr ⟨p, List.mem_of_find?_eq_some hf, rfl⟩
abbrev Fnd := List (Str × Addr)
def fndV (fs : Fnd) : List (Key × V) := fs.map fun p => (Sum.inr p.1, V.ref p.2)
def putA (fs : Fnd) (x : Str) (p : Addr) : Fnd := if x ∈ fs.map Prod.fst then fs.map (fun q => if q.1 = x then (q.1, p) else q) else fs ++ [(x, p)]
theorem any_fnd {fs : Fnd} {x : Str} : ((fndV fs).any fun kv => decide (kv.1 = Sum.inr x)) = decide (x ∈ fs.map Prod.fst) := by
  unfold fndV
  rw [List.any_map]
  induction fs with
  | nil => rfl
  | cons q fs ih =>
    rw [List.any_cons, ih, List.map_cons]
    show (decide ((Sum.inr q.1 : Key) = Sum.inr x) || _) = _
    rw [Bool.eq_iff_iff, Bool.or_eq_true, decide_eq_true_iff, decide_eq_true_iff, decide_eq_true_iff, List.mem_cons]
    constructor
    · rintro (h | h)
      · exact .inl (Sum.inr.inj h).symm
      · exact .inr h
    · rintro (h | h)
      · exact .inl (by rw [h])
      · exact .inr h
theorem putK_fnd {fs : Fnd} {x : Str} {p : Addr} : putK (fndV fs) (Sum.inr x) (.ref p) = fndV (putA fs x p) := by
  unfold putK putA
  rw [any_fnd]
  by_cases h : x ∈ fs.map Prod.fst
  · rw [if_pos (decide_eq_true h), if_pos h]
    unfold fndV
    rw [List.map_map, List.map_map]
    refine List.map_congr_left fun q _ => ?_
    show (if (Sum.inr q.1 : Key) = Sum.inr x then (Sum.inr q.1, V.ref p) else (Sum.inr q.1, V.ref q.2)) = (Sum.inr (if q.1 = x then (q.1, p) else q).1, V.ref (if q.1 = x then (q.1, p) else q).2)
    by_cases e : q.1 = x
    · rw [if_pos (by rw [e]), if_pos e]
    · rw [if_neg (fun z => e (Sum.inr.inj z)), if_neg e]
  · rw [if_neg (by rw [decide_eq_false h]; exact Bool.false_ne_true), if_neg h]
    unfold fndV
    rw [List.map_append]
    rfl
theorem putA_fst {fs : Fnd} {x : Str} {p : Addr} : (putA fs x p).map Prod.fst = addS (fs.map Prod.fst) x := by
  unfold putA addS
  by_cases h : x ∈ fs.map Prod.fst
  · rw [if_pos h, if_pos h, List.map_map]
    refine List.map_congr_left fun q _ => ?_
    show (if q.1 = x then (q.1, p) else q).1 = q.1
    split <;> rfl
  · rw [if_neg h, if_neg h, List.map_append]
    rfl
theorem putA_snd {fs : Fnd} {x : Str} {p : Addr} (n1 : (fs.map Prod.fst).Nodup) (n2 : (fs.map Prod.snd).Nodup) (hp : p ∉ fs.map Prod.snd) : ((putA fs x p).map Prod.snd).Nodup ∧ ∀ a ∈ (putA fs x p).map Prod.snd, a = p ∨ a ∈ fs.map Prod.snd := by
  unfold putA
  by_cases h : x ∈ fs.map Prod.fst
  · rw [if_pos h, List.map_map]
    have sub : ∀ gs : Fnd, ∀ a ∈ gs.map (Prod.snd ∘ fun q => if q.1 = x then (q.1, p) else q), a = p ∨ a ∈ gs.map Prod.snd := fun gs a ha => by
      obtain ⟨q, hq, rfl⟩ := List.mem_map.mp ha
      by_cases e : q.1 = x
      · left
        show (if q.1 = x then (q.1, p) else q).2 = p
        rw [if_pos e]
      · right
        show (if q.1 = x then (q.1, p) else q).2 ∈ _
        rw [if_neg e]
        exact List.mem_map.mpr ⟨q, hq, rfl⟩
    refine ⟨?_, sub fs⟩
    clear h
    induction fs with
    | nil => exact List.nodup_nil
    | cons q fs ih =>
      rw [List.map_cons, List.nodup_cons] at n1 n2
      rw [List.map_cons, List.mem_cons, not_or] at hp
      rw [List.map_cons, List.nodup_cons]
      refine ⟨fun hm => ?_, ih n1.2 n2.2 hp.2⟩
      have e0 : (Prod.snd ∘ fun q : Str × Addr => if q.1 = x then (q.1, p) else q) q = if q.1 = x then p else q.2 := by
        show (if q.1 = x then (q.1, p) else q).2 = _
        split <;> rfl
      rw [e0] at hm
      by_cases e : q.1 = x
      · rw [if_pos e] at hm
        obtain ⟨u, hu, hu2⟩ := List.mem_map.mp hm
        have ne : u.1 ≠ x := fun z => n1.1 (by rw [e, ← z]; exact List.mem_map.mpr ⟨u, hu, rfl⟩)
        have hu3 : (if u.1 = x then (u.1, p) else u).2 = p := hu2
        rw [if_neg ne] at hu3
        exact hp.2 (by rw [← hu3]; exact List.mem_map.mpr ⟨u, hu, rfl⟩)
      · rw [if_neg e] at hm
        rcases sub fs _ hm with z | z
        · exact hp.1 z.symm
        · exact n2.1 z
  · rw [if_neg h, List.map_append]
    refine ⟨?_, fun a ha => ?_⟩
    · rw [List.nodup_append]
      refine ⟨n2, by simp, fun a ha b hb => ?_⟩
      rw [List.map_singleton, List.mem_singleton] at hb
      exact fun z => hp (by
        have z' : a = p := z.trans hb
        rw [← z']
        exact ha)
    · rcases List.mem_append.mp ha with ha | ha
      · exact .inr ha
      · exact .inl (by simpa using ha)
theorem valV_fnd {fs : Fnd} {x : Str} {p : Addr} (n1 : (fs.map Prod.fst).Nodup) (h : (x, p) ∈ fs) : valV (fndV fs) (Sum.inr x) = some (.ref p) := by
  induction fs with
  | nil => cases h
  | cons q fs ih =>
    rw [List.map_cons, List.nodup_cons] at n1
    show valV ((Sum.inr q.1, V.ref q.2) :: fndV fs) _ = _
    rcases List.mem_cons.mp h with e | h
    · rw [← e]
      exact valV_pos rfl
    · have ne : q.1 ≠ x := fun z => n1.1 (by rw [z]; exact List.mem_map.mpr ⟨_, h, rfl⟩)
      rw [valV_neg fun z => ne (Sum.inr.inj z)]
      exact ih n1.2 h
def selP (L : Lab) (kvs : List (List Key × V)) (ls : List Lk) (lab : Str) (i : Nat) : List (List Key × V) := (((kvs.zip ls).take i).filter fun z => decide (look L z.2.n = lab)).map Prod.fst
theorem selP_snoc {L : Lab} {kvs : List (List Key × V)} {ls : List Lk} {lab : Str} {i : Nat} {kv : List Key × V} {l : Lk} (h1 : kvs[i]? = some kv) (h2 : ls[i]? = some l) : selP L kvs ls lab (i + 1) = selP L kvs ls lab i ++ if look L l.n = lab then [kv] else [] := by
  unfold selP
  have e : (kvs.zip ls)[i]? = some (kv, l) := List.getElem?_zip_eq_some.mpr ⟨h1, h2⟩
  rw [List.take_add_one, e, List.filter_append, List.map_append]
  congr 1
  by_cases h : look L l.n = lab
  · rw [if_pos h]
    show ([(kv, l)].filter _).map _ = _
    rw [List.filter_cons_of_pos (by exact decide_eq_true h)]
    rfl
  · rw [if_neg h]
    show ([(kv, l)].filter _).map _ = _
    rw [List.filter_cons_of_neg (by rw [decide_eq_false h]; exact Bool.false_ne_true)]
    rfl
theorem selP_lk {K : PySem.W.Frag} {H : Hp} {L : Lab} {lab : Str} : ∀ {kvs : List (List Key × V)} {ls : List Lk}, LkAt K H kvs ls → LkAt K H (selP L kvs ls lab ls.length) (ls.filter fun l => decide (look L l.n = lab))
  | [], _, h => by cases h; exact .nil
  | kv :: kvs, _, h => by
    cases h with
    | @cons _ l _ ls h1 h2 =>
      have ih := selP_lk (L := L) (lab := lab) h2
      unfold selP at ih ⊢
      rw [List.zip_cons_cons, List.length_cons, List.take_succ_cons]
      by_cases e : look L l.n = lab
      · rw [List.filter_cons_of_pos (by exact decide_eq_true e), List.filter_cons_of_pos (by exact decide_eq_true e), List.map_cons]
        exact .cons h1 ih
      · rw [List.filter_cons_of_neg (by rw [decide_eq_false e]; exact Bool.false_ne_true), List.filter_cons_of_neg (by rw [decide_eq_false e]; exact Bool.false_ne_true)]
        exact ih
theorem nd_inj {α : Type} {l : List α} (h : l.Nodup) {i j : Nat} {a : α} (hi : l[i]? = some a) (hj : l[j]? = some a) : i = j := by
  obtain ⟨h1, e1⟩ := List.getElem?_eq_some_iff.mp hi
  obtain ⟨h2, e2⟩ := List.getElem?_eq_some_iff.mp hj
  exact (List.getElem_inj h).mp (e1.trans e2.symm)
theorem selP_new {K : PySem.W.Frag} {H : Hp} {L : Lab} {kvs : List (List Key × V)} {ls : List Lk} {lab : Str} {i : Nat} {l : Lk} (h : LkAt K H kvs ls) (nd : (ls.map fun l => (l.n, l.i)).Nodup) (hl : ls[i]? = some l) : valV (selP L kvs ls lab i) l.k = none := by
  have key : ∀ z ∈ (kvs.zip ls).take i, z.1.1 = z.2.k ∧ z.2.k ≠ l.k := fun z hz => by
    obtain ⟨j, hj, e⟩ := List.mem_iff_getElem.mp hz
    rw [List.length_take] at hj
    rw [List.getElem_take] at e
    have e2 : (kvs.zip ls)[j]? = some z := by rw [List.getElem?_eq_getElem (by omega), e]
    obtain ⟨a1, a2⟩ := List.getElem?_zip_eq_some.mp e2
    obtain ⟨l', b1, b2, _⟩ := paired_get h a1
    rw [a2] at b1
    cases b1
    refine ⟨b2, fun q => ?_⟩
    have q2 := lk_inj q
    have := nd_inj nd (i := j) (j := i) (a := (l.n, l.i)) (by rw [List.getElem?_map, a2]; exact congrArg some q2) (by rw [List.getElem?_map, hl]; rfl)
    have hi : i ≤ j := by omega
    omega
  unfold selP valV
  rw [Option.map_eq_none_iff, List.find?_eq_none]
  intro kv hkv
  obtain ⟨z, hz, rfl⟩ := List.mem_map.mp hkv
  obtain ⟨a1, a2⟩ := key z (List.mem_filter.mp hz).1
  rw [decide_eq_true_iff, a1]
  exact a2
theorem selP_len {L : Lab} {kvs : List (List Key × V)} {ls : List Lk} {lab : Str} {i : Nat} : (selP L kvs ls lab i).length ≤ i := by
  unfold selP
  rw [List.length_map]
  refine Nat.le_trans (List.length_filter_le _ _) ?_
  rw [List.length_take]
  omega
section
variable {P : Program} {w : World} {K : PySem.W.Frag} {mg : Str → Option Value} {base : Heap}
/-- lists of dicts of links, new ones -/
def PcsAt (K : PySem.W.Frag) (H0 H : Hp) (p : Addr) (ps : List (List Lk)) : Prop := ∃ as : List Addr, H p = some (.lst (as.map V.ref)) ∧ as.length = ps.length ∧ ∀ (i : Nat) (a : Addr) (ls : List Lk), as[i]? = some a → ps[i]? = some ls → H0 a = none ∧ ∃ kvs, H a = some (.dT kvs) ∧ LkAt K H kvs ls
def spPieces (K : PySem.W.Frag) : Sp := fun vs H Q _ => ∃ (d : Addr) (kvs : List (List Key × V)) (ls : List Lk), vs = [.ref d] ∧ H d = some (.dT kvs) ∧ LkAt K H kvs ls ∧ (ls.map fun l => (l.n, l.i)).Nodup ∧ ls.length ≤ 100 ∧ ∀ p H', H p = none → Same H H' → PcsAt K H H' p (piecesP ls) → Q (.ref p) H'
theorem ok_pieces {f : Addr} {fd : FuncData} (F : Fun K "pieces" "pieces" s_pieces f fd) (T : Txt mg) (c_join : C8.Cal P w K mg base 1 "join" spJoin []) : FnOk P w K mg base CX0 2 f fd ["links"] (spPieces K) := by
  refine F.ok sc_pieces (fun vs H Q E h => ?_) (fun cdv Ar outer s H vs Q E hr h => ?_)
  · obtain ⟨d, kvs, ls, rfl, _⟩ := h
    rfl
  · obtain ⟨d, kvs, ls, rfl, hd, lk, nd, hl, q⟩ := h
    have hu := hu_of hr
    refine ⟨_, (pss_cons (ps_set (i := 1) sc_pieces.nd rfl (by first | exact Or.inl rfl | exact Or.inr rfl) pe_dnewK)
  (pss_cons (ps_lock (ps_for PassesOwn.never rfl (pi_valuesT (pv 0)) (pg_tup rfl (pgs_cons (pg_name (i := 2) sc_pieces.nd rfl (by first | exact Or.inl rfl | exact Or.inr rfl)) (pgs_cons (pg_name (i := 3) sc_pieces.nd rfl (by first | exact Or.inl rfl | exact Or.inr rfl)) (pgs_cons (pg_name (i := 4) sc_pieces.nd rfl (by first | exact Or.inl rfl | exact Or.inr rfl)) pgs_nil))))
    (pss_one (ps_expr (C8.pe_c c_join hr (by decide) (by rfl) (pa_cons (pv 1) (pa_cons (pv 2) (pa_cons (pv 3) pa_nil))))))))
  (pss_cons (ps_lock (ps_setDc (i := 5) (own := [("label", 6)]) (g := gName 6) (tt := tYes) (by rfl) sc_pieces.nd rfl rfl (sw_trueD rfl rfl rfl (by decide +kernel)) (pi_values (pv 1)) (blkOk_by (N := ["links", "labels", "reader", "table", "_", "found", "label", "read", "link"]) (sc := defScope s_pieces) (by decide +kernel)) (fun _ _ _ _ _ => (pg_name (i := 6) sc_pieces.nd rfl (by first | exact Or.inl rfl | exact Or.inr rfl))) (fun _ _ _ _ _ => pts_nil) (fun _ _ _ _ _ => (pv 6)) (fun _ _ _ _ _ => pe_dnewT)))
  (pss_cons (ps_lock (ps_for PassesOwn.never rfl (pi_itemsT (pv 0)) (pg_tup rfl (pgs_cons (pg_name (i := 7) sc_pieces.nd rfl (by first | exact Or.inl rfl | exact Or.inr rfl)) (pgs_cons (pg_name (i := 8) sc_pieces.nd rfl (by first | exact Or.inl rfl | exact Or.inr rfl)) pgs_nil)))
    (pss_one (ps_dput hu (pe_dget hu (pv 5) (pe_dget hu (pv 1) (pe_ix ix_tup (pv 8) pe_int (fun _ _ => rfl)) (fun _ _ => rfl)) (fun _ _ => rfl)) (pv 7) (pv 8) rfl))))
  (pss_one (ps_ret (pe_listVals rfl (by rfl) T.b_list (pv 5)))))))), ?_⟩
    refine fun lb hlb => ?_
    have ndl : d ≠ lb := ne_of_none hd hlb
    refine ⟨d, .dT kvs, by rw [upd_ne ndl]; exact hd, True.intro, fun od => ?_⟩
    have swp2 : ∀ (G : Hp) (o1 o2 : HO), upd (upd G lb o1) d o2 = upd (upd G d o2) lb o1 := fun G o1 o2 => by
      funext b
      by_cases hb : b = d
      · rw [hb, upd_same, upd_ne ndl, upd_same]
      · by_cases hb2 : b = lb
        · rw [hb2, upd_ne ndl.symm, upd_same, upd_same]
        · rw [upd_ne hb, upd_ne hb2, upd_ne hb2, upd_ne hb]
    rw [swp2]
    have back : ∀ H', Same (upd H d (.frz od (.dT kvs))) H' → Same H (upd H' d (.dT kvs)) := fun H' e => unlock hd e
    have lkL : LkAt K (upd H d (.frz od (.dT kvs))) kvs ls := lk.mono (SD.upd (SD.of same_refl) hd rfl)
    have fz : (upd H d (.frz od (.dT kvs))) d = some (.frz od (.dT kvs)) := upd_same
    have lbL : (upd H d (.frz od (.dT kvs))) lb = none := by rw [upd_ne ndl.symm]; exact hlb
    generalize upd H d (.frz od (.dT kvs)) = HL at back lkL fz lbL ⊢
    refine ⟨_, rfl, d, od, kvs, rfl, by rw [upd_ne ndl]; exact fz, for_it (walk_valuesT (o := od) (d := d) (kvs := kvs)) (fun i σ H' => ∃ y2 y3 y4, σ = [some (.ref d), some (.ref lb), y2, y3, y4, none, none, none, none] ∧ Same HL H' ∧ H' lb = some (.dK (labV (labelsP (ls.take i)))))
      ⟨none, none, none, rfl, snew lbL, upd_same⟩ (fun i σ H' _ ⟨_, _, _, _, s1, _⟩ => s1 _ _ fz) ?_ ?_⟩
    · rintro i v σ H1 H2 hi ⟨y2, y3, y4, rfl, s1, h1⟩ ⟨rfl, k, hk⟩
      obtain ⟨l, hli, hk1, hv⟩ := paired_get lkL hk
      obtain ⟨ua, us, rfl, ut, ud⟩ := dtup (dpm s1 _ _ hv)
      obtain ⟨w1, w2, w3, rfl, v1', v2', v3'⟩ := dps3 ud
      obtain rfl := dstr v1'
      obtain rfl := dstr v2'
      have hil := (List.getElem?_eq_some_iff.mp hli).1
      obtain ⟨n1, _, n3, _⟩ := fold_all (ls.take i) [] List.nodup_nil
      have lt : (labelsP (ls.take i)).length ≤ 1000 := by
        have n3 : (labelsP (ls.take i)).length ≤ 0 + 2 * (ls.take i).length := n3
        rw [List.length_take] at n3
        omega
      refine ⟨ua, _, rfl, ut, rfl, _, _, rfl, _, _, rfl, _, _, rfl, rfl, ?_⟩
      refine ⟨_, rfl, _, rfl, _, rfl, lb, l.n, l.r.t, _, HL, rfl, h1, s1, lbL, n1, lt, fun H3 s3 h3 => ⟨_, _, _, rfl, s3, ?_⟩⟩
      rw [h3, List.take_add_one, hli]
      show _ = some (HO.dK (labV (labelsP (ls.take i ++ [l]))))
      rw [labelsP_snoc]
    · rintro σ H1 ⟨y2, y3, y4, rfl, s1, h1⟩
      rw [LkAt.len lkL, List.take_length] at h1
      refine ⟨s1 _ _ fz, ?_⟩
      have s2 := back _ s1
      have h2 : (upd H1 d (.dT kvs)) lb = some (.dK (labV (labelsP ls))) := by rw [upd_ne ndl.symm]; exact h1
      have hd2 : (upd H1 d (.dT kvs)) d = some (.dT kvs) := upd_same
      generalize upd H1 d (.dT kvs) = H2 at s2 h2 hd2 ⊢
      clear s1 h1 back lkL fz lbL swp2
      obtain ⟨n1, _, n3, n4⟩ := fold_all ls [] List.nodup_nil
      have n1 : ((labelsP ls).map Prod.fst).Nodup := n1
      have n3 : (labelsP ls).length ≤ 0 + 2 * ls.length := n3
      have n4 : ∀ l ∈ ls, l.n ∈ (labelsP ls).map Prod.fst ∧ l.r.t ∈ (labelsP ls).map Prod.fst := n4
      -- the dicts by labels
      refine ⟨lb, .dK (labV (labelsP ls)), h2, True.intro, fun ol => ?_⟩
      have back2 : ∀ H', Same (upd H2 lb (.frz ol (.dK (labV (labelsP ls))))) H' → Same H2 (upd H' lb (.dK (labV (labelsP ls)))) := fun H' e => unlock h2 e
      have fz2 : (upd H2 lb (.frz ol (.dK (labV (labelsP ls))))) lb = some (.frz ol (.dK (labV (labelsP ls)))) := upd_same
      have none2 : ∀ b, (upd H2 lb (.frz ol (.dK (labV (labelsP ls))))) b = none → H2 b = none := fun b hb => by
        by_cases e : b = lb
        · rw [e, upd_same] at hb
          cases hb
        · rw [upd_ne e] at hb
          exact hb
      generalize upd H2 lb (.frz ol (.dK (labV (labelsP ls)))) = HB at back2 fz2 none2 ⊢
      have lenL : (labV (labelsP ls)).length = (labelsP ls).length := by unfold labV; rw [List.length_map]
      refine ⟨_, rfl, lb, ol, _, rfl, fz2, fun D hD => dc_it (walk_values (o := ol) (d := lb) (kvs := labV (labelsP ls))) (fun i H' => ∃ fs : Fnd, Same HB H' ∧ H' D = some (.dK (fndV fs)) ∧ fs.map Prod.fst = dedup (((labelsP ls).map Prod.snd).take i) ∧ (fs.map Prod.snd).Nodup ∧ ∀ q ∈ fs, H' q.2 = some (.dT []) ∧ HB q.2 = none ∧ q.2 ≠ D)
        ⟨[], snew hD, upd_same, rfl, List.nodup_nil, fun q hq => by cases hq⟩ (fun i H' _ ⟨_, s3, _⟩ => s3 _ _ fz2) ?_ ?_⟩
      · rintro i x H3 H4 hi ⟨fs, s3, hD3, f1, f2, f3⟩ ⟨rfl, k, hk⟩
        rw [lenL] at hi
        have e1 : (labelsP ls)[i]? = some (labelsP ls)[i] := List.getElem?_eq_getElem hi
        have e2 : (labV (labelsP ls))[i]? = some (Sum.inr (labelsP ls)[i].1, V.str (labelsP ls)[i].2) := by
          unfold labV
          rw [List.getElem?_map, e1]
          rfl
        rw [e2] at hk
        cases hk
        have e3 : ((labelsP ls).map Prod.snd).take (i + 1) = ((labelsP ls).map Prod.snd).take i ++ [(labelsP ls)[i].2] := by
          rw [List.take_add_one, List.getElem?_map, e1]
          rfl
        generalize (labelsP ls)[i].2 = lab at e3 ⊢
        refine ⟨rfl, _, rfl, fun p hp => ⟨fndV fs, Sum.inr lab, rfl, ?_, ?_, ?_⟩⟩
        · rw [upd_ne (ne_of_none hD3 hp)]
          exact hD3
        · have z := congrArg List.length f1
          have d1 := (dedup_all (((labelsP ls).map Prod.snd).take i) [] List.nodup_nil)
          have : (dedup (((labelsP ls).map Prod.snd).take i)).length ≤ i := by
            have : ∀ xs acc : List Str, (xs.foldl addS acc).length ≤ acc.length + xs.length := fun xs => by
              induction xs with
              | nil => intro acc; exact Nat.le_refl _
              | cons y xs ih =>
                intro acc
                rw [List.foldl_cons]
                have := ih (addS acc y)
                have h2 : (addS acc y).length ≤ acc.length + 1 := by
                  unfold addS
                  split
                  · omega
                  · rw [List.length_append]
                    exact Nat.le_refl _
                rw [List.length_cons]
                omega
            have w := this (((labelsP ls).map Prod.snd).take i) []
            rw [List.length_take, List.length_nil] at w
            show (List.foldl addS [] _).length ≤ i
            omega
          unfold fndV
          rw [List.length_map] at z
          rw [List.length_map, z, sizeLine_eq]
          omega
        · have pB : HB p = none := free_of s3 hp
          have pn : p ∉ fs.map Prod.snd := fun hm => by
            obtain ⟨q, hq, e⟩ := List.mem_map.mp hm
            rw [← e, (f3 q hq).1] at hp
            cases hp
          have f1n : (fs.map Prod.fst).Nodup := by
            rw [f1]
            exact (dedup_all _ [] List.nodup_nil).1
          obtain ⟨g1, g2⟩ := putA_snd (x := lab) f1n f2 pn
          have pD : p ≠ D := (ne_of_none hD3 hp).symm
          refine ⟨putA fs lab p, smut (same_tr s3 (snew hp)) hD, by rw [upd_same, putK_fnd], by rw [putA_fst, f1, e3, dedup_snoc], g1, fun q hq => ?_⟩
          rcases g2 q.2 (List.mem_map.mpr ⟨q, hq, rfl⟩) with e | e
          · rw [e]
            exact ⟨by rw [upd_ne pD, upd_same], pB, pD⟩
          · obtain ⟨q', hq', e'⟩ := List.mem_map.mp e
            obtain ⟨k1, k2, k3⟩ := f3 q' hq'
            rw [← e']
            refine ⟨?_, k2, k3⟩
            rw [upd_ne k3, upd_ne (fun z => pn (by rw [← z]; exact List.mem_map.mpr ⟨q', hq', rfl⟩))]
            exact k1
      · rintro H3 ⟨fs, s3, hD3, f1, f2, f3⟩
        rw [lenL] at f1
        rw [List.take_of_length_le (by rw [List.length_map]; exact Nat.le_refl _)] at f1
        refine ⟨s3 _ _ fz2, ?_⟩
        have ndlb : D ≠ lb := ne_of_none fz2 hD |>.symm
        have s4 := back2 _ s3
        have hD4 : (upd H3 lb (.dK (labV (labelsP ls)))) D = some (.dK (fndV fs)) := by rw [upd_ne ndlb]; exact hD3
        have f4 : ∀ q ∈ fs, (upd H3 lb (.dK (labV (labelsP ls)))) q.2 = some (.dT []) ∧ H2 q.2 = none ∧ q.2 ≠ D := fun q hq => by
          obtain ⟨k1, k2, k3⟩ := f3 q hq
          have : q.2 ≠ lb := fun z => by rw [z, fz2] at k2; cases k2
          exact ⟨by rw [upd_ne this]; exact k1, none2 _ k2, k3⟩
        have DH2 := none2 _ hD
        generalize upd H3 lb (.dK (labV (labelsP ls))) = H5 at s4 hD4 f4 ⊢
        clear s3 hD3 f3 back2 fz2 none2 hD
        have fnd : (fs.map Prod.fst).Nodup := by
          rw [f1]
          exact (dedup_all _ [] List.nodup_nil).1
        refine ⟨d, .dT kvs, s4 _ _ hd2, True.intro, fun od3 => ?_⟩
        have back3 : ∀ H', Same (upd H2 d (.frz od3 (.dT kvs))) H' → Same H2 (upd H' d (.dT kvs)) := fun H' e => unlock hd2 e
        have lk3 : LkAt K (upd H2 d (.frz od3 (.dT kvs))) kvs ls := (lk.mono (.of s2)).mono (SD.upd (SD.of same_refl) hd2 rfl)
        have fz3 : (upd H2 d (.frz od3 (.dT kvs))) d = some (.frz od3 (.dT kvs)) := upd_same
        have lb3 : (upd H2 d (.frz od3 (.dT kvs))) lb = some (.dK (labV (labelsP ls))) := by rw [upd_ne ndl.symm]; exact h2
        have s5 : Same (upd H2 d (.frz od3 (.dT kvs))) (upd H5 d (.frz od3 (.dT kvs))) := fun b o e => by
          by_cases hb : b = d
          · rw [hb, upd_same] at e ⊢
            exact e
          · rw [upd_ne hb] at e ⊢
            exact s4 b o e
        have Dd : D ≠ d := fun z => by rw [z, s4 _ _ hd2] at hD4; cases hD4
        have hD5 : (upd H5 d (.frz od3 (.dT kvs))) D = some (.dK (fndV fs)) := by rw [upd_ne Dd]; exact hD4
        have f5 : ∀ q ∈ fs, (upd H5 d (.frz od3 (.dT kvs))) q.2 = some (.dT []) ∧ (upd H2 d (.frz od3 (.dT kvs))) q.2 = none ∧ q.2 ≠ D ∧ q.2 ≠ d := fun q hq => by
          obtain ⟨k1, k2, k3⟩ := f4 q hq
          have : q.2 ≠ d := fun z => by rw [z, hd2] at k2; cases k2
          exact ⟨by rw [upd_ne this]; exact k1, by rw [upd_ne this]; exact k2, k3, this⟩
        have DB3 : (upd H2 d (.frz od3 (.dT kvs))) D = none := by rw [upd_ne Dd]; exact DH2
        generalize upd H2 d (.frz od3 (.dT kvs)) = BL at back3 lk3 fz3 lb3 s5 f5 DB3
        generalize upd H5 d (.frz od3 (.dT kvs)) = H6 at s5 hD5 f5 ⊢
        have lenk := LkAt.len lk3
        refine ⟨_, rfl, d, od3, kvs, rfl, s5 _ _ fz3, for_it (walk_itemsT (o := od3) (d := d) (kvs := kvs)) (fun i σ H' => ∃ y2 y3 y4 y7 y8, σ = [some (.ref d), some (.ref lb), y2, y3, y4, some (.ref D), none, y7, y8] ∧ Same BL H' ∧ H' D = some (.dK (fndV fs)) ∧ ∀ q ∈ fs, H' q.2 = some (.dT (selP (labelsP ls) kvs ls q.1 i)))
          ⟨_, _, _, none, none, rfl, s5, hD5, fun q hq => (f5 q hq).1⟩ (fun i σ H' _ ⟨_, _, _, _, _, _, s6, _⟩ => s6 _ _ fz3) ?_ ?_⟩
        · rintro i x σ Hj Hj' hj ⟨y2, y3, y4, y7, y8, rfl, s6, hD6, f6⟩ ⟨T1, k1, v1, q1, hkv, rfl, hq1, hT1, rfl⟩
          obtain ⟨l, hlj, hk1, hv1⟩ := paired_get lk3 hkv
          have hk1 : k1 = l.k := hk1
          subst hk1
          have s7 := snew (o := .tup [V.ref q1, v1]) hT1
          have hT7 : (upd Hj T1 (.tup [.ref q1, v1])) T1 = some (.tup [.ref q1, v1]) := upd_same
          have hq7 := s7 _ _ hq1
          have sB7 := same_tr s6 s7
          have hD7 := s7 _ _ hD6
          have f7 := fun q hq => s7 _ _ (f6 q hq)
          generalize upd Hj T1 (.tup [.ref q1, v1]) = H7 at hT7 hq7 sB7 hD7 f7 ⊢
          obtain ⟨ua, us, rfl, ut, ud⟩ := dtup (dpm sB7 _ _ hv1)
          obtain ⟨w1, w2, w3, rfl, v1', v2', v3'⟩ := dps3 ud
          obtain rfl := dstr v1'
          have memn := (n4 l (List.mem_of_getElem? hlj)).1
          have gl := DGet.k (k := Sum.inr l.n) (sB7 _ _ lb3)
          rw [valV_any_mem memn] at gl
          have inD : look (labelsP ls) l.n ∈ fs.map Prod.fst := by
            rw [f1]
            exact ((dedup_all _ [] List.nodup_nil).2 _).mpr (.inr (look_mem memn))
          obtain ⟨⟨lab, p⟩, hqf, hlab⟩ := List.mem_map.mp inD
          have hlab : lab = look (labelsP ls) l.n := hlab
          have gD := DGet.k (k := Sum.inr (look (labelsP ls) l.n)) hD7
          rw [valV_fnd fnd (p := p) (by rw [← hlab]; exact hqf)] at gD
          have hp7 := f7 _ hqf
          refine ⟨T1, _, rfl, Or.inl (Or.inl hT7), rfl, _, _, rfl, _, _, rfl, rfl, ?_⟩
          refine ⟨_, rfl, _, rfl, _, rfl, _, rfl, ua, _, 0, _, rfl, rfl, ut, rfl, lb, _, rfl, gl, D, _, rfl, gD, _, rfl, p, _, rfl, DPut.t (k := l.k) hp7 hq7 ?_, ?_⟩
          · have := selP_len (L := labelsP ls) (kvs := kvs) (ls := ls) (lab := lab) (i := i)
            show (selP (labelsP ls) kvs ls lab i).length < sizeLine
            rw [sizeLine_eq]
            omega
          · obtain ⟨b1, b2, b3, b4⟩ := f5 _ hqf
            refine ⟨_, _, _, _, _, rfl, smut sB7 b2, by rw [upd_ne b3.symm]; exact hD7, fun q hq => ?_⟩
            rw [selP_snoc hkv hlj]
            by_cases e : q = (lab, p)
            · subst e
              rw [upd_same, putK_new _ (selP_new lk3 nd hlj), if_pos hlab.symm]
            · have ne1 : q.1 ≠ lab := fun z => e (by
                obtain ⟨i1, hi1⟩ := List.mem_iff_getElem?.mp hq
                obtain ⟨i2, hi2⟩ := List.mem_iff_getElem?.mp hqf
                have := nd_inj fnd (i := i1) (j := i2) (a := lab) (by rw [List.getElem?_map, hi1]; exact congrArg some z) (by rw [List.getElem?_map, hi2]; rfl)
                rw [this, hi2] at hi1
                exact (Option.some.inj hi1).symm)
              have ne2 : q.2 ≠ p := fun z => e (by
                obtain ⟨i1, hi1⟩ := List.mem_iff_getElem?.mp hq
                obtain ⟨i2, hi2⟩ := List.mem_iff_getElem?.mp hqf
                have := nd_inj f2 (i := i1) (j := i2) (a := p) (by rw [List.getElem?_map, hi1]; exact congrArg some z) (by rw [List.getElem?_map, hi2]; rfl)
                rw [this, hi2] at hi1
                exact (Option.some.inj hi1).symm)
              rw [upd_ne ne2, f7 q hq, if_neg (fun z => ne1 (by rw [hlab, z])), List.append_nil]
        · rintro σ Hj ⟨y2, y3, y4, y7, y8, rfl, s6, hD6, f6⟩
          refine ⟨s6 _ _ fz3, ?_⟩
          have s7 := back3 _ s6
          have hD7 : (upd Hj d (.dT kvs)) D = some (.dK (fndV fs)) := by rw [upd_ne Dd]; exact hD6
          have f7 : ∀ q ∈ fs, (upd Hj d (.dT kvs)) q.2 = some (.dT (selP (labelsP ls) kvs ls q.1 ls.length)) := fun q hq => by
            rw [upd_ne (f5 q hq).2.2.2, f6 q hq, lenk]
          generalize upd Hj d (.dT kvs) = H8 at s7 hD7 f7 ⊢
          refine ⟨_, rfl, D, _, rfl, hD7, fun pp hpp => ?_⟩
          have s8 := snew (o := .lst ((fndV fs).map (·.2))) hpp
          have HH8 : Same H (upd H8 pp (.lst ((fndV fs).map (·.2)))) := same_tr s2 (same_tr s7 s8)
          refine q pp _ (free_of (same_tr s2 s7) hpp) HH8 ⟨fs.map Prod.snd, ?_, ?_, fun i a ps ha hps => ?_⟩
          · rw [upd_same]
            unfold fndV
            rw [List.map_map, List.map_map]
            rfl
          · unfold piecesP
            rw [List.length_map, List.length_map, ← f1, List.length_map]
          · rw [List.getElem?_map] at ha
            obtain ⟨qf, hqf, rfl⟩ := Option.map_eq_some_iff.mp ha
            have mq := List.mem_of_getElem? hqf
            have eps : ps = ls.filter fun l => decide (look (labelsP ls) l.n = qf.1) := by
              unfold piecesP at hps
              rw [← f1, List.getElem?_map, List.getElem?_map, hqf] at hps
              exact (Option.some.inj hps).symm
            refine ⟨free_of s2 (f4 _ mq).2.1, _, s8 _ _ (f7 _ mq), ?_⟩
            rw [eps]
            exact selP_lk (lk.mono (.of HH8))
end
end Fr

namespace Fr
open PySem PySem.Spec PyProof.Rows L2
abbrev s_tables_of : Stmt := topS 33
theorem sc_tables_of : FnScope ["links", "link"] ["links"] (defScope s_tables_of) := ⟨rfl, rfl, rfl, by decide +kernel, rfl, by decide +kernel, by decide +kernel⟩
-- slots: 0 links, 1 link
abbrev s_lowest_terms : Stmt := topS 36
theorem sc_lowest_terms : FnScope ["numbers", "common", "number"] ["numbers"] (defScope s_lowest_terms) := ⟨rfl, rfl, rfl, by decide +kernel, rfl, by decide +kernel, by decide +kernel⟩
-- slots: 0 numbers, 1 common, 2 number
abbrev s_fraction : Stmt := topS 37
theorem sc_fraction : FnScope ["top", "bottom"] ["top", "bottom"] (defScope s_fraction) := ⟨rfl, rfl, rfl, by decide +kernel, rfl, by decide +kernel, by decide +kernel⟩
-- slots: 0 top, 1 bottom
theorem nodup_len {α : Type} [DecidableEq α] : ∀ {L xs : List α}, L.Nodup → (∀ a ∈ L, a ∈ xs) → L.length ≤ xs.length
  | [], _, _, _ => Nat.zero_le _
  | a :: L, xs, h, m => by
    rw [List.nodup_cons] at h
    have ha := m a (List.mem_cons_self ..)
    have z := nodup_len (L := L) (xs := xs.erase a) h.2 fun b hb => (List.mem_erase_of_ne (fun e => h.1 (by rw [← e]; exact hb))).mpr (m b (List.mem_cons_of_mem _ hb))
    rw [List.length_erase_of_mem ha] at z
    have := List.length_pos_of_mem ha
    rw [List.length_cons]
    omega
theorem LkAt.vals {K : PySem.W.Frag} {H : Hp} : ∀ {kvs : List (List Key × V)} {ls : List Lk}, LkAt K H kvs ls → DpAll K H (kvs.map (·.2)) (ls.map Lk.d)
  | [], _, h => by cases h; exact .nil
  | kv :: kvs, _, h => by
    cases h with
    | cons h1 h2 => exact .cons h1.2 (LkAt.vals h2)
theorem lk_at {K : PySem.W.Frag} {H : Hp} {vs : List V} {ls : List Lk} (h : DpAll K H vs (ls.map Lk.d)) {i : Nat} {v : V} (e : vs[i]? = some v) : ∃ l ua w3, ls[i]? = some l ∧ v = .ref ua ∧ SqT K H ua [.str l.n, .str l.r.t, .ref w3] ∧ SqT K H w3 (l.r.v.map V.int) := by
  obtain ⟨d, h1, h2⟩ := dps_get h e
  rw [List.getElem?_map] at h1
  obtain ⟨l, hl, rfl⟩ := Option.map_eq_some_iff.mp h1
  obtain ⟨ua, us, rfl, ut, ud⟩ := dtup h2
  obtain ⟨w1, w2, w3, rfl, v1', v2', v3'⟩ := dps3 ud
  obtain rfl := dstr v1'
  obtain rfl := dstr v2'
  obtain ⟨vb, vs, rfl, vt, vd⟩ := dtup v3'
  obtain rfl := dps_ints vd
  exact ⟨l, ua, vb, hl, rfl, ut, vt⟩
/-- the names, ascending, each once -/
structure TabsOf (ls : List Lk) (ys : List Str) : Prop where
  srt : sortedS ys = true
  nd : ys.Nodup
  mem : ∀ k, k ∈ ys ↔ ∃ l ∈ ls, k = l.n ∨ k = l.r.t
section
variable {P : Program} {w : World} {K : PySem.W.Frag} {mg : Str → Option Value} {base : Heap}
def spTables (K : PySem.W.Frag) : Sp := fun vs H Q _ => ∃ (a : Addr) (us : List V) (ls : List Lk), vs = [.ref a] ∧ SqL K H a us ∧ DpAll K H us (ls.map Lk.d) ∧ ls.length ≤ 30 ∧ ∀ p H' ys, H p = none → Same H H' → H' p = some (.lst (ys.map V.str)) → TabsOf ls ys → Q (.ref p) H'
theorem ok_tables_of {f : Addr} {fd : FuncData} (F : Fun K "tables_of" "tables_of" s_tables_of f fd) (T : Txt mg) (zset : mg "set" = none) : FnOk P w K mg base CX0 1 f fd ["links"] (spTables K) := by
  refine F.ok sc_tables_of (fun vs H Q E h => ?_) (fun cdv Ar outer s H vs Q E hr h => ?_)
  · obtain ⟨a, us, ls, rfl, _⟩ := h
    rfl
  · obtain ⟨a, us, ls, rfl, ha, hd, hl, q⟩ := h
    refine ⟨_, (pss_one (ps_ret (pe_callB (cr_sortSS rfl) (by rfl) T.b_sorted (by decide +kernel) (pa_cons (pe_callTy (cr_setS rfl) (by rfl) zset (by decide +kernel) (pa_cons (pe_op op_cat (pe_lc (own := [("link", 1)]) (g := gName 1) (tt := tYes) (by rfl) sc_tables_of.nd (pi_list (pv 0)) (blkOk_by (N := ["links", "link"]) (sc := defScope s_tables_of) (by decide +kernel)) (fun _ _ _ _ _ => (pg_name (i := 1) sc_tables_of.nd rfl (by first | exact Or.inl rfl | exact Or.inr rfl))) (fun _ _ _ _ _ => pts_nil) (fun _ _ _ _ _ => (pe_ix (r := rIxT K) ix_tup (pv 1) pe_int (fun _ _ => rfl)))) (pe_lc (own := [("link", 1)]) (g := gName 1) (tt := tYes) (by rfl) sc_tables_of.nd (pi_list (pv 0)) (blkOk_by (N := ["links", "link"]) (sc := defScope s_tables_of) (by decide +kernel)) (fun _ _ _ _ _ => (pg_name (i := 1) sc_tables_of.nd rfl (by first | exact Or.inl rfl | exact Or.inr rfl))) (fun _ _ _ _ _ => pts_nil) (fun _ _ _ _ _ => (pe_ix (r := rIxT K) ix_tup (pv 1) pe_int (fun _ _ => rfl))))) pa_nil)) pa_nil)))), ?_⟩
    have hlen : us.length = ls.length := by rw [dps_len hd, List.length_map]
    have tell : ∀ (f : Lk → Str) (xs : List Str), (∀ i l, ls[i]? = some l → xs[i]? = some (f l)) → xs.length = ls.length → xs = ls.map f := fun f xs h1 h2 => by
      refine List.ext_getElem? fun i => ?_
      rw [List.getElem?_map]
      cases e : ls[i]? with
      | none => rw [List.getElem?_eq_none (by rw [h2]; exact List.getElem?_eq_none_iff.mp e)]; rfl
      | some l => exact h1 i l e
    refine ⟨_, rfl, a, rfl, ⟨_, ha⟩, fun D1 hD1 => lc_flat (walk_list (K := K) (a := a) (xs := us)) (fun i => .str ((ls.map (·.n)).getD i "")) (by omega) hD1 (fun H' sm => sql sm ha) (fun i H x H' y => yat_same y) ?_ ?_⟩
    · rintro i v H1 H2 hi sm ⟨rfl, hx⟩ R hR
      obtain ⟨l, ua, w3, e1, rfl, e2, _⟩ := lk_at (dpsm sm _ _ hd) hx
      have r := hR H2 same_refl
      rw [List.getD_eq_getElem?_getD, List.getElem?_map, e1] at r
      exact ⟨rfl, _, rfl, ua, _, 0, _, rfl, rfl, e2, rfl, r⟩
    intro H1 s1 h1
    refine ⟨_, rfl, a, rfl, ⟨_, sql s1 ha⟩, fun D2 hD2 => lc_flat (walk_list (K := K) (a := a) (xs := us)) (fun i => .str ((ls.map (·.r.t)).getD i "")) (by omega) hD2 (fun H' sm => sql (same_tr s1 sm) ha) (fun i H x H' y => yat_same y) ?_ ?_⟩
    · rintro i v H2 H3 hi sm ⟨rfl, hx⟩ R hR
      obtain ⟨l, ua, w3, e1, rfl, e2, _⟩ := lk_at (dpsm (same_tr s1 sm) _ _ hd) hx
      have r := hR H3 same_refl
      rw [List.getD_eq_getElem?_getD, List.getElem?_map, e1] at r
      exact ⟨rfl, _, rfl, ua, _, 1, _, rfl, rfl, e2, rfl, r⟩
    intro H2 s2 h2
    have e1 : ((List.range us.length).map fun i => V.str ((ls.map (·.n)).getD i "")) = (ls.map (·.n)).map V.str := by
      have z := range_map_get ((ls.map (·.n)).map V.str) (fun i => V.str ((ls.map (·.n)).getD i "")) (fun i x hx => by
        rw [List.getElem?_map] at hx
        obtain ⟨y, hy, rfl⟩ := Option.map_eq_some_iff.mp hx
        rw [List.getD_eq_getElem?_getD, hy]
        rfl)
      rw [List.length_map, List.length_map, ← hlen] at z
      exact z
    have e2 : ((List.range us.length).map fun i => V.str ((ls.map (·.r.t)).getD i "")) = (ls.map (·.r.t)).map V.str := by
      have z := range_map_get ((ls.map (·.r.t)).map V.str) (fun i => V.str ((ls.map (·.r.t)).getD i "")) (fun i x hx => by
        rw [List.getElem?_map] at hx
        obtain ⟨y, hy, rfl⟩ := Option.map_eq_some_iff.mp hx
        rw [List.getD_eq_getElem?_getD, hy]
        rfl)
      rw [List.length_map, List.length_map, ← hlen] at z
      exact z
    rw [e1] at h1
    rw [e2] at h2
    refine ⟨_, _, _, _, rfl, rfl, s2 _ _ h1, h2, ?_, fun p3 hp3 => ?_⟩
    · rw [List.length_map, List.length_map, List.length_map, List.length_map, sizeLine_eq]
      omega
    have s3 := snew (o := .lst ((ls.map (·.n)).map V.str ++ (ls.map (·.r.t)).map V.str)) hp3
    refine ⟨p3, ls.map (·.n) ++ ls.map (·.r.t), rfl, Or.inl (Or.inl ?_), ?_, fun L p4 hn hm hp4 => ?_⟩
    · rw [upd_same, List.map_append]
    · rw [List.length_append, List.length_map, List.length_map]
      omega
    have lenL : L.length ≤ (ls.map (·.n) ++ ls.map (·.r.t)).length := nodup_len hn fun k hk => (hm k).mp hk
    rw [List.length_append, List.length_map, List.length_map] at lenL
    refine ⟨p4, L, rfl, upd_same, by omega, fun ys p5 pm srt hp5 => ?_⟩
    refine q p5 _ ys ?_ (same_tr s1 (same_tr s2 (same_tr s3 (same_tr (snew hp4) (snew hp5))))) upd_same ⟨srt, pm.nodup_iff.mpr hn, fun k => ?_⟩
    · exact free_of (same_tr s1 (same_tr s2 (same_tr s3 (snew hp4)))) hp5
    · rw [pm.mem_iff, hm k, List.mem_append, List.mem_map, List.mem_map]
      constructor
      · rintro (⟨l, h, rfl⟩ | ⟨l, h, rfl⟩)
        · exact ⟨l, h, .inl rfl⟩
        · exact ⟨l, h, .inr rfl⟩
      · rintro ⟨l, h, rfl | rfl⟩
        · exact .inl ⟨l, h, rfl⟩
        · exact .inr ⟨l, h, rfl⟩
end
end Fr

namespace Fr
open PySem PySem.Spec PyProof.Rows L2
abbrev s_piece_of : Stmt := topS 32
theorem sc_piece_of : FnScope ["links", "name", "piece"] ["links", "name"] (defScope s_piece_of) := ⟨rfl, rfl, rfl, by decide +kernel, rfl, by decide +kernel, by decide +kernel⟩
-- slots: 0 links, 1 name, 2 piece
def inPiece (nm : Str) (ls : List Lk) : Prop := ∃ l ∈ ls, nm = l.n ∨ nm = l.r.t
/-- the piece with the table, or none -/
def PieceOf (ls : List Lk) (nm : Str) (pl : List Lk) : Prop := (pl ∈ piecesP ls ∧ inPiece nm pl) ∨ (pl = [] ∧ ∀ ps ∈ piecesP ls, ¬ inPiece nm ps)
theorem piece_sub {ls ps : List Lk} (h : ps ∈ piecesP ls) : ps.length ≤ ls.length ∧ ∀ l ∈ ps, l ∈ ls := by
  unfold piecesP at h
  obtain ⟨lab, _, rfl⟩ := List.mem_map.mp h
  exact ⟨List.length_filter_le _ _, fun l hl => (List.mem_filter.mp hl).1⟩
section
variable {P : Program} {w : World} {K : PySem.W.Frag} {mg : Str → Option Value} {base : Heap}
def spPieceOf (K : PySem.W.Frag) : Sp := fun vs H Q _ => ∃ (d : Addr) (nm : Str) (kvs : List (List Key × V)) (ls : List Lk), vs = [.ref d, .str nm] ∧ H d = some (.dT kvs) ∧ LkAt K H kvs ls ∧ (ls.map fun l => (l.n, l.i)).Nodup ∧ ls.length ≤ 30 ∧
  ∀ p H' kvs' pl, H p = none → Same H H' → H' p = some (.dT kvs') → LkAt K H' kvs' pl → PieceOf ls nm pl → Q (.ref p) H'
theorem ok_piece_of {f : Addr} {fd : FuncData} (F : Fun K "piece_of" "piece_of" s_piece_of f fd) (T : Txt mg) (c_pieces : C8.Cal P w K mg base 2 "pieces" (spPieces K) []) (c_tables_of : C8.Cal P w K mg base 1 "tables_of" (spTables K) []) : FnOk P w K mg base CX0 3 f fd ["links", "name"] (spPieceOf K) := by
  refine F.ok sc_piece_of (fun vs H Q E h => ?_) (fun cdv Ar outer s H vs Q E hr h => ?_)
  · obtain ⟨d, nm, kvs, ls, rfl, _⟩ := h
    rfl
  · obtain ⟨d, nm, kvs, ls, rfl, hd, lk, nd, hl, q⟩ := h
    refine ⟨_, (pss_cons (ps_for PassesOwn.never rfl (pi_list (C8.pe_c c_pieces hr (by decide) (by rfl) (pa_cons (pv 0) pa_nil))) (pg_name (i := 2) sc_piece_of.nd rfl (by first | exact Or.inl rfl | exact Or.inr rfl))
    (pss_one (ps_if (pt_cmpR op_in_seq (pv 1) (C8.pe_c c_tables_of hr (by decide) (by rfl) (pa_cons (pe_listValsT rfl (by rfl) T.b_list (pv 2)) pa_nil)) (by rfl))
      (pss_one (ps_ret (pv 2)))
      pss_nil)))
  (pss_one (ps_ret pe_dnewT))), ?_⟩
    refine ⟨_, rfl, d, kvs, ls, rfl, hd, lk, nd, by omega, fun pp H1 hpp s1 ⟨as, h1, h2, h3⟩ => ?_⟩
    refine ⟨pp, rfl, ⟨_, Or.inl (Or.inl h1)⟩, for_it (walk_list (K := K) (a := pp) (xs := as.map V.ref)) (fun i σ H' => ∃ y2, σ = [some (.ref d), some (.str nm), y2] ∧ Same H1 H' ∧ ∀ j ps, j < i → (piecesP ls)[j]? = some ps → ¬ inPiece nm ps)
      ⟨none, rfl, same_refl, fun j ps h => absurd h (Nat.not_lt_zero _)⟩ (fun i σ H' _ ⟨_, _, s2, _⟩ => Or.inl (Or.inl (s2 _ _ h1))) ?_ ?_⟩
    · rintro i v σ H2 H3 hi ⟨y2, rfl, s2, hno⟩ ⟨rfl, hx⟩
      rw [List.getElem?_map] at hx
      obtain ⟨a, ha, rfl⟩ := Option.map_eq_some_iff.mp hx
      rw [List.length_map, h2] at hi
      have hps : (piecesP ls)[i]? = some (piecesP ls)[i] := List.getElem?_eq_getElem hi
      have mps : (piecesP ls)[i] ∈ piecesP ls := List.getElem_mem hi
      generalize (piecesP ls)[i] = ps at hps mps
      obtain ⟨k1, kv, k2, k3⟩ := h3 i a ps ha hps
      obtain ⟨l1, l2⟩ := piece_sub mps
      refine ⟨_, rfl, _, rfl, a, kv, rfl, s2 _ _ k2, fun q1 hq1 => ?_⟩
      have s3 := snew (o := .lst (kv.map (·.2))) hq1
      refine ⟨q1, _, ps, rfl, Or.inl (Or.inl upd_same), dpsm s3 _ _ (dpsm s2 _ _ k3.vals), by omega, fun q2 H4 ys hq2 s4 hy tb => ?_⟩
      have s14 := same_tr s2 (same_tr s3 s4)
      refine ⟨q2, _, rfl, Or.inl (Or.inl (Or.inl hy)), rfl, flat_strs _, ?_⟩
      by_cases hm : nm ∈ ys
      · rw [inV_str hm]
        refine ⟨_, rfl, iteT ?_⟩
        exact ⟨_, rfl, q a H4 kv ps k1 (same_tr s1 s14) (s14 _ _ k2) (k3.mono (.of s14)) (.inl ⟨mps, (tb.mem nm).mp hm⟩)⟩
      · rw [inV_no hm]
        refine ⟨_, rfl, iteF ?_⟩
        refine ⟨_, rfl, s14, fun j ps' hj hps' => ?_⟩
        by_cases e : j = i
        · rw [e, hps] at hps'
          cases hps'
          exact fun hin => hm ((tb.mem nm).mpr hin)
        · exact hno j ps' (by omega) hps'
    · rintro σ H2 ⟨y2, rfl, s2, hno⟩
      rw [List.length_map, h2] at hno
      refine fun p hp => q p _ [] [] (free_of (same_tr s1 s2) hp) (same_tr s1 (same_tr s2 (snew hp))) upd_same .nil (.inr ⟨rfl, fun ps hps => ?_⟩)
      obtain ⟨j, hj⟩ := List.mem_iff_getElem?.mp hps
      exact hno j ps (List.getElem?_eq_some_iff.mp hj).1 hj
def gcdP (ns : List Int) : Nat := ns.foldl (fun c n => Nat.gcd c n.natAbs) 0
def divP (ns : List Int) : Int := if (1 : Int) > (gcdP ns : Int) then 1 else (gcdP ns : Int)
def lowP (ns : List Int) : List Int := ns.map fun n => n / divP ns
theorem gcd_small {b : Nat} : ∀ (ns : List Int) (c : Nat), c < 2 ^ b → (∀ n ∈ ns, n.natAbs < 2 ^ b) → ns.foldl (fun c n => Nat.gcd c n.natAbs) c < 2 ^ b
  | [], c, h, _ => h
  | n :: ns, c, h, hn => by
    rw [List.foldl_cons]
    refine gcd_small ns _ ?_ fun m hm => hn m (List.mem_cons_of_mem _ hm)
    rcases Nat.eq_zero_or_pos c with e | e
    · rw [e, Nat.gcd_zero_left]
      exact hn n (List.mem_cons_self ..)
    · exact Nat.lt_of_le_of_lt (Nat.gcd_le_left _ e) h
theorem divP_small {b : Nat} {ns : List Int} (hb : 0 < b) (hn : ∀ n ∈ ns, n.natAbs < 2 ^ b) : 0 < divP ns ∧ (divP ns).natAbs < 2 ^ b := by
  have g := gcd_small ns 0 (Nat.pow_pos (by decide)) hn
  have h1 : 1 < 2 ^ b := Nat.one_lt_pow (by omega) (by decide)
  unfold divP
  have e : gcdP ns = ns.foldl (fun c n => Nat.gcd c n.natAbs) 0 := rfl
  rw [← e] at g
  by_cases h : (1 : Int) > (gcdP ns : Int)
  · rw [if_pos h]
    exact ⟨by decide, h1⟩
  · rw [if_neg h]
    exact ⟨by omega, by rw [Int.natAbs_natCast]; exact g⟩
def spLowest (K : PySem.W.Frag) : Sp := fun vs H Q _ => ∃ (a : Addr) (ns : List Int), vs = [.ref a] ∧ SqL K H a (ns.map V.int) ∧ ns.length ≤ 1000 ∧ (∀ n ∈ ns, n.natAbs < 2 ^ 9000) ∧ ∀ p H', H p = none → Same H H' → H' p = some (.lst ((lowP ns).map V.int)) → Q (.ref p) H'
theorem ok_lowest_terms {f : Addr} {fd : FuncData} (F : Fun K "lowest_terms" "lowest_terms" s_lowest_terms f fd) (T : Txt mg) (zm : mg "max" = none) (g_gcd : mg "gcd" = some (.builtin "math.gcd")) : FnOk P w K mg base CX0 1 f fd ["numbers"] (spLowest K) := by
  refine F.ok sc_lowest_terms (fun vs H Q E h => ?_) (fun cdv Ar outer s H vs Q E hr h => ?_)
  · obtain ⟨a, ns, rfl, _⟩ := h
    rfl
  · obtain ⟨a, ns, rfl, ha, hl, hb, q⟩ := h
    refine ⟨_, (pss_cons (ps_set (i := 1) sc_lowest_terms.nd rfl (by first | exact Or.inl rfl | exact Or.inr rfl) pe_int)
  (pss_cons (ps_for PassesOwn.never rfl (pi_list (pv 0)) (pg_name (i := 2) sc_lowest_terms.nd rfl (by first | exact Or.inl rfl | exact Or.inr rfl))
    (pss_one (ps_set (i := 1) sc_lowest_terms.nd rfl (by first | exact Or.inl rfl | exact Or.inr rfl) (pe_callBfun cr_gcd (by rfl) g_gcd (pa_cons (pv 1) (pa_cons (pv 2) pa_nil))))))
  (pss_one (ps_ret (pe_lc (own := [("number", 2)]) (g := gName 2) (tt := tYes) (by rfl) sc_lowest_terms.nd (pi_list (pv 0)) (blkOk_by (N := ["numbers", "common", "number"]) (sc := defScope s_lowest_terms) (by decide +kernel)) (fun _ _ _ _ _ => (pg_name (i := 2) sc_lowest_terms.nd rfl (by first | exact Or.inl rfl | exact Or.inr rfl))) (fun _ _ _ _ _ => pts_nil) (fun _ _ _ _ _ => (pe_op op_fdivW (pv 2) (pe_callB (call_max2 rfl) (by rfl) zm (by decide +kernel) (pa_cons (pv 1) (pa_cons pe_int pa_nil)))))))))), ?_⟩
    refine ⟨_, rfl, a, rfl, ⟨_, ha⟩, for_it (walk_list (K := K) (a := a) (xs := ns.map V.int)) (fun i σ H' => ∃ y2, σ = [some (.ref a), some (.int ((gcdP (ns.take i) : Nat) : Int)), y2] ∧ H' = H)
      ⟨none, rfl, rfl⟩ (fun i σ H' _ ⟨_, _, e⟩ => by rw [e]; exact ha) ?_ ?_⟩
    · rintro i v σ H1 H2 hi ⟨y2, rfl, rfl⟩ ⟨rfl, hx⟩
      rw [List.getElem?_map] at hx
      obtain ⟨n, hn, rfl⟩ := Option.map_eq_some_iff.mp hx
      have e : gcdP (ns.take (i + 1)) = Nat.gcd (gcdP (ns.take i)) n.natAbs := by
        unfold gcdP
        rw [List.take_add_one, hn, List.foldl_append]
        rfl
      refine ⟨_, rfl, _, rfl, _, _, rfl, some (.int n), ?_, rfl⟩
      rw [e, Int.natAbs_natCast]
      rfl
    · rintro σ H1 ⟨y2, rfl, rfl⟩
      rw [List.length_map, List.take_length]
      have ds := divP_small (b := 9000) (by decide) hb
      refine ⟨_, rfl, a, rfl, ⟨_, ha⟩, fun D hD => lc_flat (walk_list (K := K) (a := a) (xs := ns.map V.int)) (fun i => .int (ns.getD i 0 / divP ns)) (by rw [List.length_map]; omega) hD (fun H' sm => sql sm ha) (fun i H x H' y => yat_same y) ?_ ?_⟩
      · rintro i v H2 H3 hi sm ⟨rfl, hx⟩ R hR
        rw [List.getElem?_map] at hx
        obtain ⟨n, hn, rfl⟩ := Option.map_eq_some_iff.mp hx
        have r := hR H3 same_refl
        rw [List.getD_eq_getElem?_getD, hn] at r
        exact ⟨rfl, _, rfl, _, rfl, _, _, rfl, _, _, rfl, rfl, wide_div (b := 9000) ds.1 ds.2 (by decide) (by decide), r⟩
      · intro H2 s2 h2
        refine q D H2 hD s2 ?_
        rw [h2]
        unfold lowP
        congr 2
        have z := range_map_get ((ns.map fun n => n / divP ns).map V.int) (fun i => V.int (ns.getD i 0 / divP ns)) (fun i x hx => by
          rw [List.map_map, List.getElem?_map] at hx
          obtain ⟨n, hn, rfl⟩ := Option.map_eq_some_iff.mp hx
          rw [List.getD_eq_getElem?_getD, hn]
          rfl)
        rw [List.length_map, List.length_map] at z
        rw [List.length_map]
        exact z
def spFraction : Sp := fun vs H Q _ => ∃ (x y : Int), vs = [.int x, .int y] ∧ x.natAbs < 2 ^ 9000 ∧ y.natAbs < 2 ^ 9000 ∧ ∀ p H', H p = none → Same H H' → H' p = some (.tup ((lowP [x, y]).map V.int)) → Q (.ref p) H'
theorem ok_fraction {f : Addr} {fd : FuncData} (F : Fun K "fraction" "fraction" s_fraction f fd) (T : Txt mg) (c_lowest_terms : C8.Cal P w K mg base 1 "lowest_terms" (spLowest K) []) : FnOk P w K mg base CX0 2 f fd ["top", "bottom"] spFraction := by
  refine F.ok sc_fraction (fun vs H Q E h => ?_) (fun cdv Ar outer s H vs Q E hr h => ?_)
  · obtain ⟨x, y, rfl, _⟩ := h
    rfl
  · obtain ⟨x, y, rfl, hx, hy, q⟩ := h
    refine ⟨_, (pss_one (ps_ret (pe_callTy call_tuple_of (by rfl) T.b_tuple (by decide +kernel) (pa_cons (C8.pe_c c_lowest_terms hr (by decide) (by rfl) (pa_cons (pe_lst (pa_cons (pv 0) (pa_cons (pv 1) pa_nil))) pa_nil)) pa_nil)))), ?_⟩
    refine ⟨_, rfl, _, rfl, by show 2 ≤ sizeLine; decide, fun l hl => ?_⟩
    have s0 := snew (o := .lst [V.int x, V.int y]) hl
    refine ⟨l, [x, y], rfl, Or.inl (Or.inl upd_same), by show 2 ≤ 1000; decide, fun n hn => ?_, fun p H1 hp s1 hp1 => ?_⟩
    · simp only [List.mem_cons, List.not_mem_nil, or_false] at hn
      rcases hn with rfl | rfl
      · exact hx
      · exact hy
    · exact ⟨p, _, rfl, Or.inl ⟨Or.inl (Or.inl hp1), fun t ht => q t _ (free_of (same_tr s0 s1) ht) (same_tr s0 (same_tr s1 (snew ht))) upd_same⟩⟩
end
end Fr

namespace Fr
open PySem PySem.Spec PyProof.Rows L2
section
variable {P : Program} {w : World} {K : PySem.W.Frag} {mg : Str → Option Value} {base : Heap}
/-- the error with this class and value is let out -/
def OutsV (CS : Addr) (H : Hp) (E : XK) (y : V) : Prop := ∀ e H', Same H H' → H' e = some (.xd [(("value" : Str), y)]) → E (.ref CS) (some e) H'
def spTabX (K : PySem.W.Frag) (C CT : Addr) : Sp := fun vs H Q E => ∃ (s : Addr) (d m : Int) (ts : List Tb) (x : Str), vs = [.ref s, .str x] ∧ SysAt K C H s d m ts ∧ ((x ∈ ts.map (·.n) ∧ ∀ H', Same H H' → Q .non H') ∨ (x ∉ ts.map (·.n) ∧ OutsV CT H E (.str x)))
theorem ok_tabX {f C CT : Addr} {fd : FuncData} (F : Fun K "check_table" "check_table" s_check_table f fd) (T : Txt mg) (p_names : Prp P w K mg base 1 C "names" (spNames K C)) (r_UnknownTable : MkR P w K mg base 1 "UnknownTable" CT) : FnOk P w K mg base (L2.CX P w) 3 f fd ["system", "name"] (spTabX K C CT) := by
  refine fun_okX F sc_check_table (fun vs H Q E h => ?_) (fun cdv A outer s H vs Q E hr h => ?_)
  · obtain ⟨s, d, m, ts, x, rfl, _⟩ := h
    rfl
  · obtain ⟨s, d, m, ts, x, rfl, S, q⟩ := h
    refine ⟨_, (pss_one (ps_if (pt_cmpR op_notIn_seq (pv 1) (pe_pr (pv 0) p_names hr (by decide) rfl) (by rfl))
    (pss_one (ps_err r_UnknownTable rfl (takes_of rfl rfl rfl rfl) hr (by decide) (by rfl) (pa_cons (pv 1) pa_nil)))
    pss_nil)), ?_⟩
    obtain ⟨dx, t, kvs, h1, h2, h3⟩ := S.ob
    refine ⟨_, rfl, _, rfl, s, dx, _, rfl, h1, s, d, m, ts, rfl, S, fun p H' hp sm hl => ?_⟩
    have e : (ts.map fun t => V.str t.n) = (ts.map (·.n)).map V.str := by
      rw [List.map_map]
      rfl
    refine ⟨p, _, rfl, Or.inl (Or.inl (Or.inl hl)), rfl, by rw [e]; exact flat_strs _, ?_⟩
    rcases q with ⟨hx, q⟩ | ⟨hx, q⟩
    · rw [e, inV_str hx]
      exact ⟨_, rfl, iteF (q H' sm)⟩
    · rw [e, inV_no hx]
      exact ⟨_, rfl, iteT ⟨_, rfl, err_raise rfl r_UnknownTable.err.oex r_UnknownTable.no fun d hd => q d _ (same_tr sm (snew hd)) upd_same⟩⟩
/-- a cell: a name and a point -/
def ceD (x : Str) (p : List Int) : PyData := .tuple [.str x, .tuple (p.map .int)]
/-- what becomes of a cell that is checked -/
def CellQ (CT CI : Addr) (d : Int) (ts : List Tb) (H : Hp) (v : V) (x : Str) (p : List Int) (G : Prop) (E : XK) : Prop :=
  (x ∈ ts.map (·.n) ∧ okPoint d p = true ∧ G) ∨ (x ∉ ts.map (·.n) ∧ OutsV CT H E (.str x)) ∨ (x ∈ ts.map (·.n) ∧ okPoint d p = false ∧ OutsV CI H E v)
def spCellX (K : PySem.W.Frag) (C CT CI : Addr) : Sp := fun vs H Q E => ∃ (s : Addr) (d m : Int) (ts : List Tb) (v : V) (x : Str) (p : List Int), vs = [.ref s, v] ∧ SysAt K C H s d m ts ∧ Dp K H v (ceD x p) ∧ p.length ≤ 100000 ∧ CellQ CT CI d ts H v x p (∀ H', Same H H' → Q .non H') E
theorem ok_cellX {f C CT CI : Addr} {fd : FuncData} (F : Fun K "check_cell" "check_cell" s_check_cell f fd) (T : Txt mg) (x_check_table : CalX P w K mg base 3 "check_table" (spTabX K C CT)) (c_is_point : C8.Cal P w K mg base 3 "is_point" (spIsPoint K C) []) (r_InvalidCell : MkR P w K mg base 1 "InvalidCell" CI) : FnOk P w K mg base (L2.CX P w) 4 f fd ["system", "cell"] (spCellX K C CT CI) := by
  refine fun_okX F sc_check_cell (fun vs H Q E h => ?_) (fun cdv A outer s H vs Q E hr h => ?_)
  · obtain ⟨s, d, m, ts, v, x, p, rfl, _⟩ := h
    rfl
  · obtain ⟨s, d, m, ts, v, x, p, rfl, S, hv, hz, q⟩ := h
    refine ⟨_, (pss_cons (ps_asg (pv 1) (pg_tup rfl (pgs_cons (pg_name (i := 2) sc_check_cell.nd rfl (by first | exact Or.inl rfl | exact Or.inr rfl)) (pgs_cons (pg_name (i := 3) sc_check_cell.nd rfl (by first | exact Or.inl rfl | exact Or.inr rfl)) pgs_nil))))
  (pss_cons (ps_expr (pe_cx x_check_table hr (by decide) (by rfl) (takes_of rfl rfl rfl rfl) (pa_cons (pv 0) (pa_cons (pv 2) pa_nil))))
  (pss_one (ps_if (pt_not (pt_val (C8.pe_c c_is_point hr (by decide) (by rfl) (pa_cons (pv 0) (pa_cons (pv 3) pa_nil)))))
    (pss_one (ps_err r_InvalidCell rfl (takes_of rfl rfl rfl rfl) hr (by decide) (by rfl) (pa_cons (pv 1) pa_nil)))
    pss_nil)))), ?_⟩
    obtain ⟨a, xs, rfl, ht, hd⟩ := dtup hv
    obtain ⟨x1, x2, rfl, h1, h2⟩ := dps2 hd
    obtain rfl := dstr h1
    refine ⟨_, rfl, a, _, rfl, ht, rfl, _, _, rfl, _, _, rfl, rfl, ?_⟩
    have point : ∀ H1, Same H H1 → x ∈ ts.map (·.n) → ∃ (s' : Addr) (d' m' : Int) (ts' : List Tb) (v' : V) (p' : List Int), [V.ref s, x2] = [.ref s', v'] ∧ SysAt K C H1 s' d' m' ts' ∧ Dp K H1 v' (.tuple (p'.map .int)) ∧ p'.length ≤ 100000 ∧ d' = d ∧ p' = p := fun H1 sm _ => ⟨s, d, m, ts, x2, p, rfl, S.mono sm, dpm sm _ _ h2, hz, rfl, rfl⟩
    rcases q with ⟨hx, hp, q⟩ | ⟨hx, q⟩ | ⟨hx, hp, q⟩
    · refine ⟨_, rfl, _, rfl, s, d, m, ts, x, rfl, S, .inl ⟨hx, fun H1 sm => ?_⟩⟩
      refine ⟨_, rfl, _, rfl, s, d, m, ts, x2, p, rfl, S.mono sm, dpm sm _ _ h2, hz, fun H2 sm2 => ⟨_, rfl, ?_⟩⟩
      rw [hp]
      exact iteF (q H2 (same_tr sm sm2))
    · exact ⟨_, rfl, _, rfl, s, d, m, ts, x, rfl, S, .inr ⟨hx, q⟩⟩
    · refine ⟨_, rfl, _, rfl, s, d, m, ts, x, rfl, S, .inl ⟨hx, fun H1 sm => ?_⟩⟩
      refine ⟨_, rfl, _, rfl, s, d, m, ts, x2, p, rfl, S.mono sm, dpm sm _ _ h2, hz, fun H2 sm2 => ⟨_, rfl, ?_⟩⟩
      rw [hp]
      exact iteT ⟨_, rfl, err_raise rfl r_InvalidCell.err.oex r_InvalidCell.no fun e he => q e _ (same_tr (same_tr sm sm2) (snew he)) upd_same⟩
end
end Fr

namespace Fr
open PySem PySem.Spec PyProof.Rows L2
section
variable {X : Cx} {pins : List (Addr × PySem.Obj)} {σ : L2.St} {H : Hp} {s : Shared}
theorem put_tup {E : Value → Shared → Prop} {D b : Addr} {kvs : List (List Key × V)} {k : List Key} {y v : V} {u r : Value} {Q : Unit → Shared → Prop} (hu : X.A.units < cLine) (I : Inv X pins σ H s) (hD : H D = some (.dT kvs)) (hz : kvs.length < sizeLine)
    (ey : y = .ref b) (eb : H b = some (.tup (k.map kV))) (ry : RelV y u) (rv : RelV v r) (h : ∀ s1, Inv X pins σ (upd H D (.dT (putK kvs k v))) s1 → Q () s1) : wpAny (model X.prog X.w) X.A (dictSet D u r) Q E s := by
  subst ey
  obtain rfl : u = Value.ref b := ry
  obtain ⟨lz, lo, xs, rel, dd⟩ := dt_of I.hok hD
  have fit : xs.length ≤ sizeLine := by rw [← Paired.length rel]; exact lz
  refine wpAny_dictSet_heap (hsz := fit) hu (key_of I.hok eb) dd ?_
  rintro h1 ⟨o, es, ep, ho, hx, hdt, he, _, hn⟩ but
  have more : (putK kvs k v).length ≤ sizeLine := Nat.le_trans (length_putK kvs k v) hz
  refine h _ (d_write I (by rw [hD]; exact True.intro) but ⟨o, ho⟩ ⟨more, lo, _, (rel.put k eb rv).keeps fun c zs ec => ?_, o, es, ep, ho, hx, hdt, he, hn⟩)
  rw [upd_ne (ne_of ec hD (by intro z; cases z))]
  exact ec
/-- the new dict at D, its keys tuples -/
def tDcT (wi : TI) (g : TG) (tt : TT) (tk tv : TE) (vs : List Nat) : TE := fun σ H Q => wi σ H fun J H1 => ∀ D, H1 D = none → ∃ W : Nat → Nat → Hp → Prop, (∃ m, W 0 m (upd H1 D (.dT []))) ∧ ∀ i m G, W i m G →
  (J.stop i G ∧ Q (.ref D) G) ∨ (J.go i G ∧ ∃ Nx : Hp → Prop, (∀ G', Nx G' → ∃ m', m' < m ∧ W (i + 1) m' G') ∧ ∀ x G', J.yld i G x G' → g x (wipe σ vs) G' fun σ2 G2 => wipe σ2 vs = wipe σ vs ∧ tt σ2 G2 fun b G3 =>
    if b = true then tk σ2 G3 fun y G4 => tv σ2 G4 fun z G5 => ∃ (q : Addr) (kvs : List (List Key × V)) (k : List Key), y = .ref q ∧ G5 q = some (.tup (k.map kV)) ∧ G5 D = some (.dT kvs) ∧ kvs.length < sizeLine ∧ Nx (upd G5 D (.dT (putK kvs k z))) else Nx G3)
theorem pe_dcT {tg kx vx iter : Expr} {ifs : List Expr} {scope : Scope} {own : List (Str × Nat)} {pos : Pos} {wi : TI} {g : TG} {tt : TT} {tk tv : TE} (hu : X.A.units < cLine) (hc : X.calm = true) (hN : X.N.Nodup) (hi : PI X tg iter wi) (ok : BlkOk X.N X.env.scope scope own)
    (hg : ∀ (s : Shared) (G : Hp) (C : Addr) (cl : List (Str × Addr)) (fp : List Addr), PG (X.blk s G scope (compEnvC scope cl C X.env) fp) tg g)
    (ht : ∀ (s : Shared) (G : Hp) (C : Addr) (cl : List (Str × Addr)) (fp : List Addr), PTs (X.blk s G scope (compEnvC scope cl C X.env) fp) ifs tt)
    (hk : ∀ (s : Shared) (G : Hp) (C : Addr) (cl : List (Str × Addr)) (fp : List Addr), PE (X.blk s G scope (compEnvC scope cl C X.env) fp) kx tk)
    (hv : ∀ (s : Shared) (G : Hp) (C : Addr) (cl : List (Str × Addr)) (fp : List Addr), PE (X.blk s G scope (compEnvC scope cl C X.env) fp) vx tv)
    (hs : ∀ x, foldedSetIterable iter X.env x = pure x := by intro _; rfl) : PE X (.DictComp kx vx [⟨tg, iter, ifs, 0⟩] scope pos) (tDcT wi g tt tk tv (own.map (·.2))) := by
  constructor
  intro pins s σ H Q I h
  rw [arm_eval_DictComp]
  have free : ∀ y ∈ scope.names, y.2 = .free → ∃ c, X.env.cells.lookup y.1 = some c := fun y hy e => I.ok.has _ (ok.free y hy e)
  refine wpAny_comprehension_free (use := none) rfl hs (closure_ok free) ok.kind (fun y hy e => by rw [ok.uniq y hy, e]) (thn (hi.run pins s σ H _ I h) fun xv s1 hx => thn hx ?_)
  rintro _ s2 ⟨it, fp, tn, J, H2, rfl, I2, T, st2, f2, q⟩
  refine wpAny_newObj_type (newEnv_comp ?_)
  obtain ⟨D, hD⟩ : ∃ D, D = s2.heap.objs.size := ⟨_, rfl⟩
  rw [← hD]
  have dn : H2 D = none := I2.hok.fresh (Nat.le_of_eq hD.symm)
  obtain ⟨V0, ⟨m0, w0⟩, turn⟩ := q D dn
  generalize hs3 : ({ s2 with heap := s2.heap.push { cls := .type "dict", data := .dict #[] } } : Shared) = s3
  have h3 : s3.heap = s2.heap.push { cls := .type "dict", data := .dict #[] } := by rw [← hs3]
  have I3 : Inv X pins σ (upd H2 D (.dT [])) s3 := by
    rw [← hs3]
    refine I2.laid (t' := s2.toks) (fun b o e => Heap.get?_push_of_some _ e) (Nat.le_of_eq hD.symm) ?_
    rw [hD]
    exact dt_empty s2.heap I2.big
  have f3 : ∀ b ∈ fp, FpOk X pins (upd H2 D (.dT [])) b ∧ b < s3.heap.objs.size := by
    intro b hb
    obtain ⟨o, e, _⟩ := T.obj _ _ st2 b hb
    have lt := Heap.lt_size e
    refine ⟨⟨?_, (f2 b hb).2⟩, by rw [h3, Heap.size_push]; exact Nat.lt_succ_of_lt lt⟩
    rw [upd_ne (by rw [hD]; exact Nat.ne_of_lt lt)]
    exact (f2 b hb).1
  have st3 : tn 0 s3.heap := T.keep _ _ _ st2 fun b _ o e => by rw [h3]; exact Heap.get?_push_of_some _ e
  have I4 := block_start I3 ok hN f3
  have pg := hg s3 (upd H2 D (.dT [])) s3.heap.objs.size (cellsFrom (s3.heap.objs.size + 1) scope.names (cloFrom X.env.cells scope.names [])) fp
  have pt := ht s3 (upd H2 D (.dT [])) s3.heap.objs.size (cellsFrom (s3.heap.objs.size + 1) scope.names (cloFrom X.env.cells scope.names [])) fp
  have pk := hk s3 (upd H2 D (.dT [])) s3.heap.objs.size (cellsFrom (s3.heap.objs.size + 1) scope.names (cloFrom X.env.cells scope.names [])) fp
  have pw := hv s3 (upd H2 D (.dT [])) s3.heap.objs.size (cellsFrom (s3.heap.objs.size + 1) scope.names (cloFrom X.env.cells scope.names [])) fp
  show codeAny _ _ (.compStart (.DictComp kx vx [⟨tg, iter, ifs, 0⟩] scope pos) 0 (.ref it) (.ref D) (compEnvC scope (cellsFrom (s3.heap.objs.size + 1) scope.names (cloFrom X.env.cells scope.names [])) s3.heap.objs.size X.env))
    (compPost (model X.prog X.w) X.A X.xe none (EP X pins σ Q) (.ref D) s3.heap.objs.size) { s3 with heap := pushCells (s3.heap.push { cls := .type "dict", data := .dict #[] }) scope.names }
  have nfp : ∀ b ∈ fp, (upd H2 D (.dT [])) b = none := fun b hb => (f3 b hb).1.1
  have cL0 : (compEnvC scope (cellsFrom (s3.heap.objs.size + 1) scope.names (cloFrom X.env.cells scope.names [])) s3.heap.objs.size X.env).locals = s3.heap.objs.size := rfl
  generalize compEnvC scope (cellsFrom (s3.heap.objs.size + 1) scope.names (cloFrom X.env.cells scope.names [])) s3.heap.objs.size X.env = ce at I4 pg pt pk pw cL0 ⊢
  generalize upd H2 D (.dT []) = H3 at I3 I4 pg pt pk pw w0 nfp f3
  generalize hs4 : ({ s3 with heap := pushCells (s3.heap.push { cls := .type "dict", data := .dict #[] }) scope.names } : Shared) = s4 at I4 ⊢
  have st4 : tn 0 s4.heap := T.keep _ _ _ st3 fun b _ o e => by rw [← hs4]; exact pushCells_keeps _ _ _ _ (Heap.get?_push_of_some _ e)
  clear hs4
  have stay : ∀ {σ1 : L2.St} {H1 : Hp} {s1 : Shared}, Inv (X.blk s3 H3 scope ce fp) [] σ1 H1 s1 → (∀ b ∈ fp, H1 b = none) → ∀ b ∈ fp, FpOk (X.blk s3 H3 scope ce fp) [] H1 b := fun {σ1 H1 s1} J1 n1 b hb =>
    ⟨n1 b hb, (J1.ok.exf b hb).1, J1.ok.exfs b hb, .inl hb, fun x c e => (J1.ok.exf b hb).2 x c e, fun z hz => absurd (show z ∈ ([] : List (Addr × PySem.Obj)) ++ [] from hz) (by simp)⟩
  have go : codeAny (model X.prog X.w) X.A (.compLoop (.DictComp kx vx [⟨tg, iter, ifs, 0⟩] scope pos) 0 (.ref it) (.ref D) ce) (compPost (model X.prog X.w) X.A X.xe none (EP X pins σ Q) (.ref D) s3.heap.objs.size) s4 := by
    refine compLoop_anyD (fun n s' => ∃ i H', Inv (X.blk s3 H3 scope ce fp) [] (wipe σ (own.map (·.2))) H' s' ∧ tn i s'.heap ∧ (∀ b ∈ fp, H' b = none) ∧ V0 i n H') ?_ m0 ⟨0, H3, I4, st4, nfp, w0⟩
    rintro n s5 ⟨i, H5, I5, st5, n5, w5⟩
    rcases turn i n H5 w5 with ⟨stop, qq⟩ | ⟨goes, Nx, hNx, step⟩
    · refine thnF (T.done (X.blk s3 H3 scope ce fp) rfl rfl rfl hc i [] s5 _ H5 (fun _ _ => False) I5 (stay I5 n5) st5 stop) ?_
      rintro _ s6 ⟨rfl, I6⟩
      have I7 : Inv X pins σ H5 s6 := I3.call' (ch := fp) I6.os I6.base I6.hok I6.bare fun b hb => ⟨(f3 b hb).1.2.2.2.1, (f3 b hb).1.2.1, (f3 b hb).1.2.2.2.2.1, (f3 b hb).1.2.2.2.2.2⟩
      obtain ⟨m, hn, _⟩ := I6.loc
      have hn1 : s6.heap.Ns ce.locals m := hn
      have free5 : H5 ce.locals = none := I6.free
      rw [cL0] at hn1 free5
      obtain ⟨g0, g1, _, g3, g4, g5⟩ := I3.fpOk (Nat.le_refl _) free5
      exact ⟨m, hn1, fun h sb => ⟨.ref D, H5, I7.turned (t' := s6.toks) (fun b o hb e => (sb.2 b hb).trans e) g0 g1 g3 g4 g5, rfl, qq⟩⟩
    · refine thnF (T.item (X.blk s3 H3 scope ce fp) rfl rfl rfl hc i [] s5 _ H5 (fun _ _ => False) I5 (stay I5 n5) st5 goes) ?_
      rintro _ s6 ⟨u, rfl, h6⟩
      refine thnF h6 ?_
      rintro _ s7 ⟨x, H7, I7, r7, y7, st7, n7⟩
      have K7 := I7.pinned (stay I7 n7) (T.obj _ _ st7)
      refine thnF (pg.run _ s7 _ H7 x u _ K7 r7 (step x H7 y7)) ?_
      rintro _ s8 ⟨σ8, H8, I8, hw, q8⟩
      refine thnF (pt.run _ s8 σ8 H8 _ I8 q8) ?_
      rintro b s9 ⟨H9, I9, q9⟩
      have again : ∀ {s' : Shared} {H' : Hp}, Inv (X.blk s3 H3 scope ce fp) ([] ++ pinsAt fp s7.heap) σ8 H' s' → Nx H' → ∃ m, m < n ∧ ∃ i H', Inv (X.blk s3 H3 scope ce fp) [] (wipe σ (own.map (·.2))) H' s' ∧ tn i s'.heap ∧ (∀ b ∈ fp, H' b = none) ∧ V0 i m H' := fun {s' H'} J1 nx => by
        obtain ⟨m1, lt, w1⟩ := hNx H' nx
        have there : ∀ b ∈ fp, ∀ o, s7.heap.get? b = some o → s'.heap.get? b = some o ∧ H' b = none := fun b hb o e => by
          obtain ⟨z1, z2, _⟩ := J1.pin (b, o) (List.mem_append_right _ (List.mem_append_right _ (mem_pinsAt hb e)))
          exact ⟨z1, z2⟩
        refine ⟨m1, lt, i + 1, H', (J1.unpinned (pins := [])).weak (by rw [← hw, wipe_length]) (fun j v e => ?_), T.keep _ _ _ st7 fun b hb o e => (there b hb o e).1, fun b hb => ?_, w1⟩
        · rw [← hw] at e
          exact (wipe_some e).1
        · obtain ⟨o, e, _⟩ := T.obj _ _ st7 b hb
          exact (there b hb o e).2
      cases b with
      | false => exact again I9 (by simpa using q9)
      | true =>
        simp only [if_true] at q9 ⊢
        refine thnF (pk.run _ s9 σ8 H9 _ I9 q9) ?_
        rintro z s10 ⟨yk, H10, I10, r10, q10⟩
        refine thnF (pw.run _ s10 σ8 H10 _ I10 q10) ?_
        rintro z2 s11 ⟨yv, H11, I11, r11, q1, kvs, k, ek, eb, hD11, hz11, nx⟩
        exact put_tup (X := X.blk s3 H3 scope ce fp) hu I11 hD11 hz11 ek eb r10 r11 fun s12 I12 => again I12 nx
  exact codeAny_compStart_dict go (T.self X.A 0 _ _ _ st4 go)
end
theorem dcT_it {J : It} {n : Nat} {G : Hp → Prop} {Y : Nat → Hp → V → Hp → Prop} (w : Walk J n G Y) {g : TG} {tt : TT} {tk tv : TE} {vs : List Nat} {σ : L2.St} {H1 : Hp} {D : Addr} {Qd : Hp → Prop} (Pv : Nat → Hp → Prop) (h0 : Pv 0 (upd H1 D (.dT []))) (hG : ∀ i H, i ≤ n → Pv i H → G H)
    (hs : ∀ i x H H', i < n → Pv i H → Y i H x H' → g x (wipe σ vs) H' fun σ2 H2 => wipe σ2 vs = wipe σ vs ∧ tt σ2 H2 fun b H3 =>
      if b = true then tk σ2 H3 fun y G4 => tv σ2 G4 fun z G5 => ∃ (q : Addr) (kvs : List (List Key × V)) (k : List Key), y = .ref q ∧ G5 q = some (.tup (k.map kV)) ∧ G5 D = some (.dT kvs) ∧ kvs.length < sizeLine ∧ Pv (i + 1) (upd G5 D (.dT (putK kvs k z))) else Pv (i + 1) H3) (hd : ∀ H, Pv n H → Qd H) :
    ∃ W : Nat → Nat → Hp → Prop, (∃ m, W 0 m (upd H1 D (.dT []))) ∧ ∀ i m H, W i m H →
      (J.stop i H ∧ Qd H) ∨ (J.go i H ∧ ∃ Nx : Hp → Prop, (∀ H', Nx H' → ∃ m', m' < m ∧ W (i + 1) m' H') ∧ ∀ x H', J.yld i H x H' → g x (wipe σ vs) H' fun σ2 H2 => wipe σ2 vs = wipe σ vs ∧ tt σ2 H2 fun b H3 =>
        if b = true then tk σ2 H3 fun y G4 => tv σ2 G4 fun z G5 => ∃ (q : Addr) (kvs : List (List Key × V)) (k : List Key), y = .ref q ∧ G5 q = some (.tup (k.map kV)) ∧ G5 D = some (.dT kvs) ∧ kvs.length < sizeLine ∧ Nx (upd G5 D (.dT (putK kvs k z))) else Nx H3) := by
  refine ⟨fun i m H => m = n - i ∧ i ≤ n ∧ Pv i H, ⟨n, by simp, Nat.zero_le _, h0⟩, ?_⟩
  rintro i m H ⟨rfl, hi, p⟩
  have q := hG i H hi p
  by_cases hlt : i < n
  · refine .inr ⟨w.goes i H hlt q, Pv (i + 1), fun H' p' => ⟨n - (i + 1), by omega, rfl, hlt, p'⟩, fun x H' y => hs i x H H' hlt p (w.yields i H x H' hlt q y)⟩
  · have e : i = n := by omega
    subst e
    exact .inl ⟨w.stops H q, hd H p⟩
end Fr

namespace Fr
open PySem PySem.Spec PyProof.Rows L2
abbrev sI : String := "str_ascii_iterator"
abbrev zs1 (h : Heap) (x : Str) (t : Tok) : Heap := h.push { cls := .type sI, data := .fields #[.str x t, .int 0 0] }
abbrev zs2 (h : Heap) (x : Str) (t : Tok) (y : Str) (u : Tok) : Heap := (zs1 h x t).push { cls := .type sI, data := .fields #[.str y u, .int 0 0] }
abbrev zs3 (h : Heap) (x : Str) (t : Tok) (y : Str) (u : Tok) : Heap := (zs2 h x t y u).push { cls := .type "tuple", data := .seq #[.ref h.objs.size, .ref (zs1 h x t).objs.size] }
abbrev zs4 (h : Heap) (x : Str) (t : Tok) (y : Str) (u : Tok) : Heap := (zs3 h x t y u).push { cls := .type "tuple", data := .seq #[.none, .none] }
abbrev zs5 (h : Heap) (x : Str) (t : Tok) (y : Str) (u : Tok) : Heap := (zs4 h x t y u).push { cls := .type "zip", data := .fields #[.none, .bool false, .bool false, .ref (zs2 h x t y u).objs.size, .ref (zs3 h x t y u).objs.size] }
theorem meets_zipS (x : Str) (t : Tok) (y : Str) (u : Tok) (ha : x.cps.all (· < 128) = true) (hb : y.cps.all (· < 128) = true) :
    Meets (Builtin.«zip.__new__» ⟨[.type "zip", .str x t, .str y u], []⟩) (fun _ R s => R (.ok (.ret (.ref (zs4 s.heap x t y u).objs.size))) { s with heap := zs5 s.heap x t y u }) :=
  .of_wp fun prog w A R s h => by
    obtain ⟨hp, g, d, tk, os⟩ := s
    have hsub := PySem.sub_zip
    wp_walk using wpAny_pyIter_ascii ha, wpAny_pyIter_ascii hb
    exact ⟨_, rfl, h⟩
section
variable {prog : Program} {w : World} {A : Around} {E : Value → Shared → Prop} {s : Shared}
theorem call_zipS {x y : Str} {t u : Tok} {Q : Value → Shared → Prop} (ha : x.cps.all (· < 128) = true) (hb : y.cps.all (· < 128) = true)
    (h : ∀ h', IsZip h' (s.heap.objs.size + 4) (s.heap.objs.size + 2) (s.heap.objs.size + 3) .none → IsPair h' (s.heap.objs.size + 2) (.ref s.heap.objs.size) (.ref (s.heap.objs.size + 1)) →
      IsPair h' (s.heap.objs.size + 3) .none .none → h'.IsStrIter s.heap.objs.size sI x t 0 → h'.IsStrIter (s.heap.objs.size + 1) sI y u 0 → h'.objs.size = s.heap.objs.size + 5 →
      (∀ c o, s.heap.get? c = some o → h'.get? c = some o) → Q (.ref (s.heap.objs.size + 4)) { s with heap := h' }) :
    wpAny (model prog w) A (call (.type "zip") [.str x t, .str y u]) Q E s := by
  refine callType_new PySem.F.called_zip (by decide) (PySem.F.typeCall_zip_2 _ _) (PySem.F.newCall_zip_2 _ _) (fun obj => PySem.F.args_object_init_3 obj _ _) PySem.F.entry_zip_new (meets_zipS x t y u ha hb) ?_
  have z1 : (zs1 s.heap x t).objs.size = s.heap.objs.size + 1 := Heap.size_push ..
  have z2 : (zs2 s.heap x t y u).objs.size = s.heap.objs.size + 2 := by rw [Heap.size_push, z1]
  have z3 : (zs3 s.heap x t y u).objs.size = s.heap.objs.size + 3 := by rw [Heap.size_push, z2]
  have z4 : (zs4 s.heap x t y u).objs.size = s.heap.objs.size + 4 := by rw [Heap.size_push, z3]
  have z5 : (zs5 s.heap x t y u).objs.size = s.heap.objs.size + 5 := by rw [Heap.size_push, z4]
  have g5 : (zs5 s.heap x t y u).get? (zs4 s.heap x t y u).objs.size = some _ := Heap.get?_push_size _ rfl
  have g4 : (zs5 s.heap x t y u).get? (zs3 s.heap x t y u).objs.size = some _ := Heap.get?_push_of_some _ (Heap.get?_push_size _ rfl)
  have g3 : (zs5 s.heap x t y u).get? (zs2 s.heap x t y u).objs.size = some _ := Heap.get?_push_of_some _ (Heap.get?_push_of_some _ (Heap.get?_push_size _ rfl))
  have g2 : (zs5 s.heap x t y u).get? (zs1 s.heap x t).objs.size = some _ := Heap.get?_push_of_some _ (Heap.get?_push_of_some _ (Heap.get?_push_of_some _ (Heap.get?_push_size _ rfl)))
  have g1 : (zs5 s.heap x t y u).get? s.heap.objs.size = some _ := Heap.get?_push_of_some _ (Heap.get?_push_of_some _ (Heap.get?_push_of_some _ (Heap.get?_push_of_some _ (Heap.get?_push_size _ rfl))))
  show _ ∧ _
  rw [z2, z3, z4] at g5
  rw [z1, z2] at g3
  rw [z3] at g4
  rw [z1] at g2
  rw [z4]
  exact ⟨⟨_, g5, rfl⟩, h _ g5 g3 g4 ⟨_, g1, rfl, rfl⟩ ⟨_, g2, rfl, rfl⟩ z5 fun c o x =>
    Heap.get?_push_of_some _ (Heap.get?_push_of_some _ (Heap.get?_push_of_some _ (Heap.get?_push_of_some _ (Heap.get?_push_of_some _ x))))⟩
end
/-- the signs of two texts, in new pairs -/
def ItzS (x y : Str) : It :=
  ⟨fun i _ => i < min x.cps.size y.cps.size, fun i H v H' => ∃ T c d, v = .ref T ∧ H T = none ∧ H' = upd H T (.tup [.str ⟨#[c]⟩, .str ⟨#[d]⟩]) ∧ x.cps[i]? = some c ∧ y.cps[i]? = some d, fun i _ => i = min x.cps.size y.cps.size⟩
theorem nds (n i j : Nat) (h : i ≠ j) : ((n + i : Nat) : Addr) ≠ ((n + j : Nat) : Addr) := fun e => h (Nat.add_left_cancel e)
theorem sep_s (n : Nat) : ZipSep2 (n + 4) (n + 2) (n + 3) n (n + 1) [n] [n + 1] := by
  have a : ∀ j, j ≠ 0 → (n + j : Nat) ≠ n := fun j h => by omega
  refine ⟨nds n 2 4 (by decide), nds n 3 4 (by decide), nds n 2 3 (by decide), a 2 (by decide), by simp, ?_, ?_, nds n 2 1 (by decide), by simp, ?_, ?_, ?_, ?_⟩
  · simpa using a 4 (by decide)
  · simpa using a 3 (by decide)
  · simpa using nds n 4 1 (by decide)
  · simpa using nds n 3 1 (by decide)
  · simpa using (a 1 (by decide)).symm
  · simpa using a 1 (by decide)
theorem turn_zipS {P : Program} {w : World} {K : PySem.W.Frag} {elts : List Expr} {kk : Nat} {tpos : Pos} {x y : Str} {t u : Tok} {z TI TO i1 i2 : Addr} (D : ZipSep2 z TI TO i1 i2 [i1] [i2]) :
    Turn P w K (.Tuple elts kk tpos) (ItzS x y) [z, TI, TO, i1, i2] z (fun i h => IsZip h z TI TO .none ∧ IsPair h TI (.ref i1) (.ref i2) ∧ (∃ x y, IsPair h TO x y) ∧ h.IsStrIter i1 sI x t i ∧ h.IsStrIter i2 sI y u i) where
  mem := by simp
  obj := fun i h st c hc => by
    obtain ⟨hz, hTI, ⟨x, y, hTO⟩, ⟨o1, e1, _, d1⟩, ⟨o2, e2, _, d2⟩⟩ := st
    have e' : c = z ∨ c = TI ∨ c = TO ∨ c = i1 ∨ c = i2 := by simpa using hc
    rcases e' with q | q | q | q | q
    · rw [q]; exact ⟨_, hz, fun v q => nomatch q⟩
    · rw [q]; exact ⟨_, hTI, fun v q => nomatch q⟩
    · rw [q]; exact ⟨_, hTO, fun v q => nomatch q⟩
    · rw [q]; exact ⟨o1, e1, fun v q => by rw [d1] at q; cases q⟩
    · rw [q]; exact ⟨o2, e2, fun v q => by rw [d2] at q; cases q⟩
  keep := fun i h h' st k => by
    obtain ⟨hz, hTI, ⟨x, y, hTO⟩, ⟨o1, e1, r1⟩, ⟨o2, e2, r2⟩⟩ := st
    exact ⟨k z (by simp) _ hz, k TI (by simp) _ hTI, ⟨x, y, k TO (by simp) _ hTO⟩, ⟨o1, k i1 (by simp) _ e1, r1⟩, ⟨o2, k i2 (by simp) _ e2, r2⟩⟩
  item := by
    intro X hP hw hK hc i pins s σ H E I hf st hg
    subst hP hw hK
    obtain ⟨hz, hTI, ⟨x0, y0, hTO⟩, h1, h2⟩ := st
    have hg : i < min x.cps.size y.cps.size := hg
    have hzl : z < s.heap.objs.size := Heap.lt_size hz
    have D1 := Draws.strAscii (prog := X.prog) (w := X.w) (A := X.A.in1) (I.ok.hd hc) i1 x t
    have D2 := Draws.strAscii (prog := X.prog) (w := X.w) (A := X.A.in1) (I.ok.hd hc) i2 y u
    refine wpAny_pyNext_zipD2_item D D1 D2 hz hTI hTO h1 h2 (by omega) (by omega) fun a b h' tk ⟨c, u1, hc1, ea⟩ ⟨d, u2, hd1, eb⟩ z' TO' h1' h2' hT hsz hk => ?_
    subst ea
    subst eb
    refine ⟨_, rfl, wpAny_letOwnedTupleGo_zip (s := { s with heap := h', toks := tk }) z' fun h'' z'' sb => ?_⟩
    have hT2 : h''.get? s.heap.objs.size = some { cls := .type "tuple", data := .seq #[.str ⟨#[c]⟩ u1, .str ⟨#[d]⟩ u2] } := (sb.2 _ (Nat.ne_of_gt hzl)).trans hT
    have new : ObjOk X.prog X.w (upd H s.heap.objs.size (.tup [.str ⟨#[c]⟩, .str ⟨#[d]⟩])) h'' s.heap.objs.size (.tup [.str ⟨#[c]⟩, .str ⟨#[d]⟩]) :=
      ⟨by show 2 ≤ sizeLine; decide, [.str ⟨#[c]⟩ u1, .str ⟨#[d]⟩ u2], .cons ⟨u1, rfl⟩ (.cons ⟨u2, rfl⟩ .nil), ⟨_, hT2, rfl, _, rfl⟩⟩
    have I1 : Inv X pins σ (upd H s.heap.objs.size (.tup [.str ⟨#[c]⟩, .str ⟨#[d]⟩])) { s with heap := h'', toks := tk } :=
      I.turnedNew (t' := tk) (ch := [z, TI, TO, i1, i2]) (fun c o hb q => (sb.2 c (fun q' => hb (by simp [q']))).trans (hk c o (fun q' => hb (by simp [q'])) (fun q' => hb (by simp [q'])) (fun q' => hb (by simp [q'])) (fun q' => hb (by simp [q'])) q)) hf (Nat.le_refl _) new
    have n1 : z ≠ i1 := D.zi1
    have n2 : z ≠ i2 := D.zi2
    refine ⟨.ref s.heap.objs.size, _, I1, rfl, ⟨_, c, d, rfl, I.hok.fresh (Nat.le_refl _), rfl, hc1, hd1⟩, ⟨z'', ?_, ⟨.str ⟨#[c]⟩ u1, .str ⟨#[d]⟩ u2, ?_⟩, ?_, ?_⟩, fun c hcm => ?_⟩
    · exact (sb.2 _ D.TIz).trans (hk _ _ D.TIz D.TITO D.TIi1 D.TIi2 hTI)
    · exact (sb.2 _ D.TOz).trans TO'
    · obtain ⟨o1, e1, r1⟩ := h1'
      exact ⟨o1, (sb.2 _ n1.symm).trans e1, r1⟩
    · obtain ⟨o2, e2, r2⟩ := h2'
      exact ⟨o2, (sb.2 _ n2.symm).trans e2, r2⟩
    · have hlt : c < s.heap.objs.size := by
        have e' : c = z ∨ c = TI ∨ c = TO ∨ c = i1 ∨ c = i2 := by simpa using hcm
        rcases e' with q | q | q | q | q
        · rw [q]; exact hzl
        · rw [q]; exact Heap.lt_size hTI
        · rw [q]; exact Heap.lt_size hTO
        · rw [q]; obtain ⟨_, e1, _⟩ := h1; exact Heap.lt_size e1
        · rw [q]; obtain ⟨_, e2, _⟩ := h2; exact Heap.lt_size e2
      rw [upd_ne (Nat.ne_of_lt hlt)]
      exact (hf c hcm).1
  done := by
    intro X hP hw hK hc i pins s σ H E I hf st hg
    subst hP hw hK
    obtain ⟨hz, hTI, ⟨x0, y0, hTO⟩, h1, h2⟩ := st
    have hg : i = min x.cps.size y.cps.size := hg
    have D1 := Draws.strAscii (prog := X.prog) (w := X.w) (A := X.A.in1) (I.ok.hd hc) i1 x t
    have D2 := Draws.strAscii (prog := X.prog) (w := X.w) (A := X.A.in1) (I.ok.hd hc) i2 y u
    exact wpAny_pyNext_zipD2_end D D1 D2 hz hTI hTO h1 h2 (by omega) (by omega) (by omega) fun h' tk hk => ⟨rfl, I.turnedL (t' := tk) (ch := [z, TI, TO, i1, i2]) (fun c o hb q =>
      hk c o (fun q' => hb (by simp [q'])) (fun q' => hb (by simp [q'])) (fun q' => hb (by simp [q'])) (fun q' => hb (by simp [q'])) q) hf⟩
  self := fun A i s Q E st h => wpAny_pyIter_zip st.1 h
def iZipS (ta : TA) : TI := fun σ H R => ta σ H fun vs H1 => ∃ x y, vs = [.str x, .str y] ∧ x.cps.all (· < 128) = true ∧ y.cps.all (· < 128) = true ∧ R (ItzS x y) H1
theorem pi_zipS {X : Cx} {e e2 : Expr} {ta : TA} {p pos tpos : Pos} {elts : List Expr} {kk : Nat} (hg : Gl X "zip") (hm : X.mg "zip" = none) (ha : PA X [e, e2] ta)
    (hs : starEach [e, e2] X.env = (false, eval e X.env) :: starEach [e2] X.env := by rfl) (hpl : (backTo pos (starEach [e2] X.env)).any (·.1) = false := by rfl) :
    PI X (.Tuple elts kk tpos) (.Call (.Name "zip" p) [e, e2] [] pos) (iZipS ta) := by
  refine ⟨fun pins s σ H R I h => ?_⟩
  refine Call_ (ld_blt I hg hm PyProof.Rows.boot_zip (PyProof.Rows.callWith_type1 (thn (ha.run pos pins s σ H _ I h) fun us s1 ⟨vs, H1, I1, r1, q1⟩ => ?_) hs hpl))
  obtain ⟨x, y, ex, hx, hy, q⟩ := q1
  subst ex
  cases r1 with
  | cons r rr =>
    cases rr with
    | cons r' rr =>
      cases rr
      obtain ⟨t, rfl⟩ := r
      obtain ⟨u, rfl⟩ := r'
      have fresh5 : ∀ c, c ∈ [s1.heap.objs.size + 4, s1.heap.objs.size + 2, s1.heap.objs.size + 3, s1.heap.objs.size, s1.heap.objs.size + 1] → FpOk X pins H1 c := fun c hcm => by
        have e' : c = s1.heap.objs.size + 4 ∨ c = s1.heap.objs.size + 2 ∨ c = s1.heap.objs.size + 3 ∨ c = s1.heap.objs.size ∨ c = s1.heap.objs.size + 1 := by simpa using hcm
        have hle : s1.heap.objs.size ≤ c := by
          rcases e' with z | z | z | z | z
          · rw [z]; exact Nat.le_add_right _ _
          · rw [z]; exact Nat.le_add_right _ _
          · rw [z]; exact Nat.le_add_right _ _
          · rw [z]; exact Nat.le_refl _
          · rw [z]; exact Nat.le_add_right _ _
        exact I1.fpOk hle (I1.hok.fresh hle)
      refine call_zipS hx hy fun h' hz hTI hTO h1 h2 hsz hk => wpAny_pyIter_zip hz ?_
      have I2 : Inv X pins σ H1 { s1 with heap := h' } := I1.kept (t' := s1.toks) hk
      exact ⟨s1.heap.objs.size + 4, [s1.heap.objs.size + 4, s1.heap.objs.size + 2, s1.heap.objs.size + 3, s1.heap.objs.size, s1.heap.objs.size + 1], _, _, H1, rfl, I2, turn_zipS (sep_s s1.heap.objs.size), ⟨hz, hTI, ⟨_, _, hTO⟩, h1, h2⟩, fresh5, q⟩
theorem walk_zipS {x y : Str} {n : Nat} (hn : n = min x.cps.size y.cps.size) : Walk (ItzS x y) n (fun _ => True) (fun i H v H' => ∃ T c d, v = .ref T ∧ H T = none ∧ H' = upd H T (.tup [.str ⟨#[c]⟩, .str ⟨#[d]⟩]) ∧ x.cps[i]? = some c ∧ y.cps[i]? = some d) := by
  subst hn
  exact ⟨fun i _ hi q => hi, fun _ q => rfl, fun i H v H' _ q y => y⟩
end Fr

namespace Fr
open PySem PySem.Spec PyProof.Rows L2
section
variable {prog : Program} {w : World} {A : Around} {E : Value → Shared → Prop} {s : Shared}
/-- the key iterator asked for its next by zip -/
theorem nextKey {I d : Addr} {i ep : Nat} {es : Array DictEntry} {Q : Value → Shared → Prop} (hit : s.heap.IsKeyIter I d i es.size ep) (hm : s.heap.DictRaw d es ep) (lt : i < es.size)
    (q : ∀ h1, h1.IsKeyIter I d (i + 1) es.size ep → Heap.SameBut I s.heap h1 → Q es[i].key { s with heap := h1 }) : wpAny (model prog w) A (Builtin.SmallTypes.nextOf (.ref I)) Q E s := by
  obtain ⟨oi, gi, ci, di⟩ := id hit
  obtain ⟨ob, gb, cb, db⟩ := id hm
  unfold Builtin.SmallTypes.nextOf
  refine wpAny_bind (wpAny_callSpecial?_slot (name := Str.ofString "__next__") hit.typeIs PySem.F.slot_dict_keyiterator_next (wpAny_call_entry PySem.F.slot_dict_keyiterator_next hit.typeIs PySem.F.entry_dict_keyiterator_next ?_ (PySem.F.args_dict_keyiterator_next_1 _)))
  refine wpAny_bind (wpAny_pure (wpAny_bind (wpAny_bind ?_)))
  (first | refine wpAny_bind (wpAny_typeNameOfWhole_keyiter hit.typeIs (wpAny_pure (wpAny_bind (wpAny_fieldsOf gi di ?_)))) | refine wpAny_bind (wpAny_typeNameOf_keyiter hit.typeIs (wpAny_pure (wpAny_bind (wpAny_fieldsOf gi di ?_)))))
  have own0 : Builtin.Dict_items.ownsTuple "dict_keyiterator" = false := by decide
  simp only [own0, Bool.false_eq_true, if_false]
  show wpAny _ _ (if (Value.ref d == Value.none) = true then _ else _) _ _ s
  rw [if_neg (show ¬ (Value.ref d == Value.none) = true by simp)]
  refine wpAny_bind (wpAny_pure (wpAny_bind (wpAny_dictEntries gb db ?_)))
  rw [if_neg (by simp)]
  refine wpAny_bind (wpAny_pure (wpAny_bind (wpAny_dictEpoch gb db ?_)))
  rw [if_neg (by simp)]
  refine wpAny_pure ?_
  simp only [show ¬ ((i : Int) < 0) by omega, if_false, Int.toNat_natCast, Array.getElem?_eq_getElem lt]
  refine wpAny_bind ?_
  (first | refine wpAny_bind (wpAny_typeNameOfWhole_keyiter hit.typeIs (wpAny_pure (wpAny_bind (wpAny_isOneOf_keyiter hit.typeIs ?_)))) | refine wpAny_bind (wpAny_typeNameOf_keyiter hit.typeIs (wpAny_pure (wpAny_bind (wpAny_isOneOf_keyiter hit.typeIs ?_)))))
  show wpAny _ _ (setField (.ref I) 1 (rawInt ((i : Int) + 1)) >>= _) _ _ s
  have later : (s.heap.update I (Obj.mapFields (·.setIfInBounds 1 (rawInt ((i : Int) + 1))))).IsKeyIter I d (i + 1) es.size ep :=
    ⟨_, Heap.get?_update_self _ gi (Obj.isFreed_of_fields (Obj.data_mapFields di _)), (Obj.cls_mapFields ..).trans ci, by rw [Obj.data_mapFields di]; simp [rawInt]⟩
  refine wpAny_bind (wpAny_setField gi di (by simp) (wpAny_bind (wpAny_holding (wpAny_bind (wpAny_isOneOf_keyiter (s := { s with heap := s.heap.update I (Obj.mapFields (·.setIfInBounds 1 (rawInt ((i : Int) + 1)))) }) later.typeIs ?_)))))
  show wpAny _ _ (pure es[i].key) _ _ _
  exact wpAny_pure (wpAny_pure ⟨_, rfl, wpAny_pure (q _ later (Heap.SameBut.update ..))⟩)
theorem nextKey_end {I d : Addr} {i ep : Nat} {es : Array DictEntry} {Q : Value → Shared → Prop} (hh : A.handled = none) (hit : s.heap.IsKeyIter I d i es.size ep) (hm : s.heap.DictRaw d es ep) (ge : es.size ≤ i)
    (q : ∀ h1 e, Heap.ExtBut I s.heap h1 → (∃ o, h1.get? e = some o ∧ o.cls = .type "StopIteration") → E (.ref e) { s with heap := h1 }) : wpAny (model prog w) A (Builtin.SmallTypes.nextOf (.ref I)) Q E s := by
  obtain ⟨oi, gi, ci, di⟩ := id hit
  obtain ⟨ob, gb, cb, db⟩ := id hm
  unfold Builtin.SmallTypes.nextOf
  refine wpAny_bind (wpAny_callSpecial?_slot (name := Str.ofString "__next__") hit.typeIs PySem.F.slot_dict_keyiterator_next (wpAny_call_entry PySem.F.slot_dict_keyiterator_next hit.typeIs PySem.F.entry_dict_keyiterator_next ?_ (PySem.F.args_dict_keyiterator_next_1 _)))
  refine wpAny_bind (wpAny_pure (wpAny_bind (wpAny_bind ?_)))
  (first | refine wpAny_bind (wpAny_typeNameOfWhole_keyiter hit.typeIs (wpAny_pure (wpAny_bind (wpAny_fieldsOf gi di ?_)))) | refine wpAny_bind (wpAny_typeNameOf_keyiter hit.typeIs (wpAny_pure (wpAny_bind (wpAny_fieldsOf gi di ?_)))))
  have own0 : Builtin.Dict_items.ownsTuple "dict_keyiterator" = false := by decide
  simp only [own0, Bool.false_eq_true, if_false]
  show wpAny _ _ (if (Value.ref d == Value.none) = true then _ else _) _ _ s
  rw [if_neg (show ¬ (Value.ref d == Value.none) = true by simp)]
  refine wpAny_bind (wpAny_pure (wpAny_bind (wpAny_dictEntries gb db ?_)))
  rw [if_neg (by simp)]
  refine wpAny_bind (wpAny_pure (wpAny_bind (wpAny_dictEpoch gb db ?_)))
  rw [if_neg (by simp)]
  refine wpAny_pure ?_
  simp only [show ¬ ((i : Int) < 0) by omega, if_false, Int.toNat_natCast, Array.getElem?_eq_none ge]
  refine wpAny_bind ?_
  (first | refine wpAny_bind (wpAny_typeNameOfWhole_keyiter hit.typeIs (wpAny_pure ?_)) | refine wpAny_bind (wpAny_typeNameOf_keyiter hit.typeIs (wpAny_pure ?_)))
  show wpAny _ _ (setField (.ref I) 0 .none >>= _) _ _ s
  refine wpAny_bind (wpAny_setField gi di (by simp) ?_)
  show wpAny _ _ (newExc (.type "StopIteration") [] >>= _) _ _ _
  (refine wpAny_bind ?_; simp only [newExc, newTuple])
  refine wpAny_bind (wpAny_newObj_type (wpAny_bind (m := firstArgMember _ _) (wpAny_of_eq (a := Value.none) (by first | rfl | (simp only [firstArgMember]; rfl)) (wpAny_newObj_type ?_ (by size_fits)))) (by size_fits))
  (simp only [raiseNew]; refine wpAny_bind (wpAny_handled ?_))
  (first | rw [show A.in1.handled = none from hh] | rw [hh])
  exact wpAny_bind (wpAny_pure (wpAny_throw (q _ _ (((Heap.SameBut.update ..).extBut.push _).push _) ⟨_, Heap.get?_push_size _ rfl, rfl⟩)))
end
theorem drawsKeys {prog : Program} {w : World} {A : Around} (hh : A.handled = none) (I d : Addr) (ne : d ≠ I) (es : Array DictEntry) (ep : Nat) :
    Draws prog w A I [I, d] es.size (fun i v => ∃ lt : i < es.size, v = es[i].key) (fun i h => h.IsKeyIter I d i es.size ep ∧ h.DictRaw d es ep) where
  live := fun _ _ ⟨⟨o, e, _⟩, _⟩ => ⟨o, e⟩
  frame := fun _ _ _ ⟨a, b⟩ k => ⟨a.at fun o e => k I (by simp) o e, b.at fun o e => k d (by simp) o e⟩
  item := fun i s Q E lt ⟨a, b⟩ q => nextKey a b lt fun h1 a1 sb => q _ h1 s.toks ⟨lt, rfl⟩ ⟨a1, b.at fun o e => sb.extBut d o ne e⟩ sb
  done := fun s Q E ⟨a, b⟩ q => nextKey_end hh a b (Nat.le_refl _) q
theorem begins_keys (d : Addr) (es : Array DictEntry) (ep : Nat) (hs : (d == sysModules) = false) : Begins (.ref d) { cls := .type "dict_keyiterator", data := .fields #[.ref d, .int 0 0, .int es.size 0, .int ep 0] } fun h => h.DictRaw d es ep where
  iter := fun prog w A E s Q hm h => wpAny_pyIter_dict_raw hs hm h
  keeps := fun h h' x hk => x.at fun o e => hk d o e
  free := rfl
/-- the keys of the locked dict at d and the list at l, in new pairs -/
def ItKL (K : PySem.W.Frag) (d : Addr) (o : PySem.Obj) (kvs : List (List Key × V)) (l : Addr) : It :=
  ⟨fun i H => H d = some (.frz o (.dT kvs)) ∧ i < kvs.length ∧ ∃ (ys : List V) (y : V), SqL K H l ys ∧ ys[i]? = some y,
    fun i H v H' => ∃ T q k z y, v = .ref T ∧ H T = none ∧ H' = upd H T (.tup [.ref q, y]) ∧ kvs[i]? = some (k, z) ∧ H q = some (.tup (k.map kV)) ∧ ∀ ys, SqL K H l ys → ys[i]? = some y,
    fun i H => H d = some (.frz o (.dT kvs)) ∧ ∃ ys : List V, SqL K H l ys ∧ i ≤ kvs.length ∧ i ≤ ys.length ∧ (i = kvs.length ∨ i = ys.length)⟩
section
variable {P : Program} {w : World} {K : PySem.W.Frag} {d l : Addr} {o : PySem.Obj} {es : Array DictEntry} {ep : Nat} {kvs : List (List Key × V)}
theorem turn_zipKL {elts : List Expr} {kk : Nat} {tpos : Pos} {z TI TO i1 i2 : Addr} (D : ZipSep2 z TI TO i1 i2 [i1, d] [i2, l]) (hod : o.data = .dict es ep) (hdx : d ≠ i1) (hlx : l ≠ i2) :
    Turn P w K (.Tuple elts kk tpos) (ItKL K d o kvs l) [z, TI, TO, i1, i2] z (fun i h => IsZip h z TI TO .none ∧ IsPair h TI (.ref i1) (.ref i2) ∧ (∃ x y, IsPair h TO x y) ∧ h.IsKeyIter i1 d i es.size ep ∧ h.IsListIter i2 l i) where
  mem := by simp
  obj := fun i h st c hc => by
    obtain ⟨hz, hTI, ⟨x, y, hTO⟩, ⟨o1, e1, _, d1⟩, ⟨o2, e2, _, d2⟩⟩ := st
    have e' : c = z ∨ c = TI ∨ c = TO ∨ c = i1 ∨ c = i2 := by simpa using hc
    rcases e' with q | q | q | q | q
    · rw [q]; exact ⟨_, hz, fun v q => nomatch q⟩
    · rw [q]; exact ⟨_, hTI, fun v q => nomatch q⟩
    · rw [q]; exact ⟨_, hTO, fun v q => nomatch q⟩
    · rw [q]; exact ⟨o1, e1, fun v q => by rw [d1] at q; cases q⟩
    · rw [q]; exact ⟨o2, e2, fun v q => by rw [d2] at q; cases q⟩
  keep := fun i h h' st k => by
    obtain ⟨hz, hTI, ⟨x, y, hTO⟩, h1, h2⟩ := st
    exact ⟨k z (by simp) _ hz, k TI (by simp) _ hTI, ⟨x, y, k TO (by simp) _ hTO⟩, h1.at fun o q => k i1 (by simp) o q, h2.at fun o q => k i2 (by simp) o q⟩
  item := by
    intro X hP hw hK hc i pins s σ H E I hf st hg
    subst hP hw hK
    obtain ⟨hz, hTI, ⟨x0, y0, hTO⟩, h1, h2⟩ := st
    obtain ⟨hd, hi, ys, y, hqy, hy⟩ := hg
    obtain ⟨hs, hgd, hx, es', ep', hdt, hsz, ent⟩ := frzT3 I hd
    obtain ⟨rfl, rfl⟩ := dict_ep hod hdt
    have raw : s.heap.DictRaw d es' ep' := ⟨o, hgd, hx, hdt⟩
    obtain ⟨⟨k, zv⟩, hkv⟩ : ∃ p, kvs[i]? = some p := ⟨kvs[i], List.getElem?_eq_getElem hi⟩
    obtain ⟨en, q, hen, hkey, hq, _⟩ := ent i k zv hkv
    have hi' : i < es'.size := by omega
    have een : es'[i] = en := by
      have z := Array.getElem?_eq_getElem hi'
      rw [hen] at z
      exact (Option.some.inj z).symm
    obtain ⟨its2, rv2, p2, _⟩ := I.list hqy
    obtain ⟨u2, hu2, ru2⟩ := rv2.get hy
    have l2 := rv2.length
    have hiy : i < ys.length := (List.getElem?_eq_some_iff.mp hy).1
    have hzl : z < s.heap.objs.size := Heap.lt_size hz
    have D1 := drawsKeys (prog := X.prog) (w := X.w) (A := X.A.in1) (I.ok.hd hc) i1 d hdx es' ep'
    have D2 := Draws.list (prog := X.prog) (w := X.w) (A := X.A.in1) (I.ok.hd hc) i2 l hlx its2.toArray
    refine wpAny_pyNext_zipD2_item D D1 D2 hz hTI hTO ⟨h1, raw⟩ ⟨h2, p2.isList⟩ hi' (by simp; omega) fun a b h' tk ⟨_, ea⟩ eb z' TO' ⟨h1', _⟩ ⟨h2', _⟩ hT hsz2 hk => ?_
    rw [een, hkey] at ea
    have eb' : b = u2 := by
      rw [List.getElem?_toArray, hu2] at eb
      exact (Option.some.inj eb).symm
    subst ea
    subst eb'
    refine ⟨_, rfl, wpAny_letOwnedTupleGo_zip (s := { s with heap := h', toks := tk }) z' fun h'' z'' sb => ?_⟩
    have hT2 : h''.get? s.heap.objs.size = some { cls := .type "tuple", data := .seq #[.ref q, b] } := (sb.2 _ (Nat.ne_of_gt hzl)).trans hT
    have new : ObjOk X.prog X.w (upd H s.heap.objs.size (.tup [.ref q, y])) h'' s.heap.objs.size (.tup [.ref q, y]) :=
      ⟨by show 2 ≤ sizeLine; decide, [.ref q, b], .cons rfl (.cons ru2 .nil), ⟨_, hT2, rfl, _, rfl⟩⟩
    have I1 : Inv X pins σ (upd H s.heap.objs.size (.tup [.ref q, y])) { s with heap := h'', toks := tk } :=
      I.turnedNew (t' := tk) (ch := [z, TI, TO, i1, i2]) (fun c o hb q => (sb.2 c (fun q' => hb (by simp [q']))).trans (hk c o (fun q' => hb (by simp [q'])) (fun q' => hb (by simp [q'])) (fun q' => hb (by simp [q'])) (fun q' => hb (by simp [q'])) q)) hf (Nat.le_refl _) new
    have n1 : z ≠ i1 := D.zi1
    have n2 : z ≠ i2 := D.zi2
    refine ⟨.ref s.heap.objs.size, _, I1, rfl, ⟨_, q, k, zv, y, rfl, I.hok.fresh (Nat.le_refl _), rfl, hkv, hq, fun l hl => by rw [I.list_inj hl hqy]; exact hy⟩, ⟨z'', ?_, ⟨.ref q, b, ?_⟩, ?_, ?_⟩, fun c hcm => ?_⟩
    · exact (sb.2 _ D.TIz).trans (hk _ _ D.TIz D.TITO D.TIi1 D.TIi2 hTI)
    · exact (sb.2 _ D.TOz).trans TO'
    · exact h1'.at fun o q => (sb.2 _ n1.symm).trans q
    · exact h2'.at fun o q => (sb.2 _ n2.symm).trans q
    · have hlt : c < s.heap.objs.size := by
        have e' : c = z ∨ c = TI ∨ c = TO ∨ c = i1 ∨ c = i2 := by simpa using hcm
        rcases e' with q | q | q | q | q
        · rw [q]; exact hzl
        · rw [q]; exact Heap.lt_size hTI
        · rw [q]; exact Heap.lt_size hTO
        · rw [q]; obtain ⟨_, e1, _⟩ := h1; exact Heap.lt_size e1
        · rw [q]; obtain ⟨_, e2, _⟩ := h2; exact Heap.lt_size e2
      rw [upd_ne (Nat.ne_of_lt hlt)]
      exact (hf c hcm).1
  done := by
    intro X hP hw hK hc i pins s σ H E I hf st hg
    subst hP hw hK
    obtain ⟨hz, hTI, ⟨x0, y0, hTO⟩, h1, h2⟩ := st
    obtain ⟨hd, ys, hqy, ha, hb, hend⟩ := hg
    obtain ⟨hs, hgd, hx, es', ep', hdt, hsz, ent⟩ := frzT3 I hd
    obtain ⟨rfl, rfl⟩ := dict_ep hod hdt
    have raw : s.heap.DictRaw d es' ep' := ⟨o, hgd, hx, hdt⟩
    obtain ⟨its2, rv2, p2, _⟩ := I.list hqy
    have l2 := rv2.length
    have D1 := drawsKeys (prog := X.prog) (w := X.w) (A := X.A.in1) (I.ok.hd hc) i1 d hdx es' ep'
    have D2 := Draws.list (prog := X.prog) (w := X.w) (A := X.A.in1) (I.ok.hd hc) i2 l hlx its2.toArray
    have z2 : its2.toArray.size = ys.length := by
      rw [List.size_toArray]
      exact l2.symm
    exact wpAny_pyNext_zipD2_end D D1 D2 hz hTI hTO ⟨h1, raw⟩ ⟨h2, p2.isList⟩ (by omega) (by omega) (by omega) fun h' tk hk => ⟨rfl, I.turnedL (t' := tk) (ch := [z, TI, TO, i1, i2]) (fun c o hb q =>
      hk c o (fun q' => hb (by simp [q'])) (fun q' => hb (by simp [q'])) (fun q' => hb (by simp [q'])) (fun q' => hb (by simp [q'])) q) hf⟩
  self := fun A i s Q E st h => wpAny_pyIter_zip st.1 h
end
def iZipKL (K : PySem.W.Frag) (ta : TA) : TI := fun σ H R => ta σ H fun vs H1 => ∃ d l o kvs ys, vs = [.ref d, .ref l] ∧ H1 d = some (.frz o (.dT kvs)) ∧ SqL K H1 l ys ∧ R (ItKL K d o kvs l) H1
theorem pi_zipKL {X : Cx} {e e2 : Expr} {ta : TA} {p pos tpos : Pos} {elts : List Expr} {kk : Nat} (hg : Gl X "zip") (hm : X.mg "zip" = none) (ha : PA X [e, e2] ta)
    (hs : starEach [e, e2] X.env = (false, eval e X.env) :: starEach [e2] X.env := by rfl) (hpl : (backTo pos (starEach [e2] X.env)).any (·.1) = false := by rfl) :
    PI X (.Tuple elts kk tpos) (.Call (.Name "zip" p) [e, e2] [] pos) (iZipKL X.K ta) := by
  refine ⟨fun pins s σ H R I h => ?_⟩
  refine Call_ (ld_blt I hg hm PyProof.Rows.boot_zip (PyProof.Rows.callWith_type1 (thn (ha.run pos pins s σ H _ I h) fun us s1 ⟨vs, H1, I1, r1, q1⟩ => ?_) hs hpl))
  obtain ⟨d, l, o, kvs, ys, ex, hd, hqy, q⟩ := q1
  subst ex
  cases r1 with
  | cons r rr =>
    cases rr with
    | cons r' rr =>
      cases rr
      cases r
      cases r'
      obtain ⟨hs, hgd, hx, es, ep, hdt, hsz, ent⟩ := frzT3 I1 hd
      have raw : s1.heap.DictRaw d es ep := ⟨o, hgd, hx, hdt⟩
      obtain ⟨its2, rv2, p2, _⟩ := I1.list hqy
      have la : d < s1.heap.objs.size := Heap.lt_size hgd
      have lb : l < s1.heap.objs.size := p2.lt
      refine zip_begins2 (begins_keys d es ep hs) (begins_list l its2.toArray) raw p2.isList fun h' hz hTI hTO h1 h2 hsz2 hk => wpAny_pyIter_zip hz ?_
      have I2 : Inv X pins σ H1 { s1 with heap := h' } := I1.kept (t' := s1.toks) hk
      refine ⟨s1.heap.objs.size + 4, [s1.heap.objs.size + 4, s1.heap.objs.size + 2, s1.heap.objs.size + 3, s1.heap.objs.size, s1.heap.objs.size + 1], _, _, H1, rfl, I2,
        turn_zipKL (zip_sep2 (fp1 := [d]) (fp2 := [l]) (by simpa using la) (by simpa using lb)) hdt (Nat.ne_of_lt la) (Nat.ne_of_lt (Nat.lt_succ_of_lt lb)), ⟨hz, hTI, ⟨_, _, hTO⟩, ⟨_, h1, rfl, rfl⟩, ⟨_, h2, rfl, rfl⟩⟩, fun c hcm => ?_, q⟩
      have e' : c = s1.heap.objs.size + 4 ∨ c = s1.heap.objs.size + 2 ∨ c = s1.heap.objs.size + 3 ∨ c = s1.heap.objs.size ∨ c = s1.heap.objs.size + 1 := by simpa using hcm
      have hle : s1.heap.objs.size ≤ c := by
        rcases e' with z | z | z | z | z
        · rw [z]; exact Nat.le_add_right _ _
        · rw [z]; exact Nat.le_add_right _ _
        · rw [z]; exact Nat.le_add_right _ _
        · rw [z]; exact Nat.le_refl _
        · rw [z]; exact Nat.le_add_right _ _
      exact I1.fpOk hle (I1.hok.fresh hle)
theorem walk_zipKL {K : PySem.W.Frag} {d l : Addr} {o : PySem.Obj} {kvs : List (List Key × V)} {ys : List V} (hn : kvs.length = ys.length) : Walk (ItKL K d o kvs l) kvs.length (fun H => H d = some (.frz o (.dT kvs)) ∧ SqL K H l ys)
    (fun i H v H' => ∃ T q k z y, v = .ref T ∧ H T = none ∧ H' = upd H T (.tup [.ref q, y]) ∧ kvs[i]? = some (k, z) ∧ H q = some (.tup (k.map kV)) ∧ ys[i]? = some y) :=
  ⟨fun i _ hi ⟨q, r⟩ => ⟨q, hi, ys, _, r, List.getElem?_eq_getElem (by omega)⟩, fun _ ⟨q, r⟩ => ⟨q, ys, r, by omega, by omega, .inl rfl⟩, fun i H v H' _ ⟨_, r⟩ ⟨T, q, k, z, y, a, b, c, e, f, g⟩ => ⟨T, q, k, z, y, a, b, c, e, f, g ys r⟩⟩
end Fr

namespace Fr
open PySem PySem.Spec PyProof.Rows L2 HotX
section
variable {prog : Program} {w : World} {A : Around} {E : Value → Shared → Prop} {s : Shared}
theorem list_end_hot {it l x1 : Addr} {i : Nat} {items} {Q : Option Value → Shared → Prop} (hot : HotAt A x1 s.heap) (nx : x1 ≠ it) (hit : s.heap.IsListIter it l i) (hl : s.heap.IsList l items) (hx : items[i]? = none)
    (hQ : ∀ h', Heap.ExtBut it s.heap h' → Q none { s with heap := h' }) : wpAny (model prog w) A (pyNext (.ref it)) Q E s := by
  obtain ⟨hh, o1, vs1, h1, d1, c1⟩ := hot
  obtain ⟨io, hio, _, dio⟩ := id hit
  obtain ⟨lo, hlo, _, _, dlo⟩ := hl
  unfold pyNext
  refine wpAny_bind (wpAny_attempt (wpAny_callSpecial?_slot (name := Str.ofString "__next__") hit.typeIs slot_listiter_next (wpAny_call_entry slot_listiter_next hit.typeIs entry_listiter_next ?_ (args_listiter_next _))))
  show wpAny _ _ (field (.ref it) 0 >>= _) _ _ s
  refine wpAny_bind (wpAny_field hio dio (x := .ref l) rfl ?_)
  show wpAny _ _ (if (Value.ref l == Value.none) = true then _ else _) _ _ s
  rw [if_neg (fun z => by cases z)]
  show wpAny _ _ (field (.ref it) 1 >>= _) _ _ s
  refine wpAny_bind (wpAny_field hio dio (x := .int i 0) rfl ?_)
  show wpAny _ _ (seqItems? (.ref l) >>= _) _ _ s
  refine wpAny_bind (wpAny_seqItems hlo dlo ?_)
  simp only [Int.toNat_natCast, hx]
  have k1 : (s.heap.update it (Obj.mapFields (·.setIfInBounds 0 Value.none))).get? x1 = some o1 := (Heap.get?_update_other _ _ (Ne.symm nx)).trans h1
  refine wpAny_bind (wpAny_rule (wpAny_bind (wpAny_setField hio dio (by simp) ?_)))
  show wpAny _ _ (newExc (.type "StopIteration") [] >>= _) _ _ _
  refine wpAny_bind ?_
  simp only [newExc, newTuple]
  refine wpAny_bind (wpAny_newObj_type ?_ (by size_fits))
  refine wpAny_bind (m := firstArgMember _ _) (wpAny_of_eq (a := Value.none) (by first | rfl | (simp only [firstArgMember]; rfl)) ?_)
  refine wpAny_newObj_type ?_ (by size_fits)
  refine raiseNew_hot ⟨hh, o1, vs1, Heap.get?_push_of_some _ (Heap.get?_push_of_some _ k1), d1, c1⟩ (Nat.ne_of_lt (Heap.lt_size (Heap.get?_push_of_some _ k1))) (Heap.get?_push_size _ rfl) rfl (by first | (simp; done) | (simp; omega) | (simp only [Array.size_append]; simp; omega)) ?_
  refine wpAny_bind (wpAny_isInstance (T := "StopIteration") (b := true) ⟨_, Heap.get?_update_self _ (Heap.get?_push_size _ rfl) rfl, rfl⟩ isSubtype_stop ?_)
  refine wpAny_pure (hQ _ fun b o hb e => ?_)
  have k2 : (s.heap.update it (Obj.mapFields (·.setIfInBounds 0 Value.none))).get? b = some o := (Heap.get?_update_other _ _ (Ne.symm hb)).trans e
  rw [Heap.get?_update_other _ _ (Nat.ne_of_gt (Heap.lt_size (Heap.get?_push_of_some _ k2)))]
  exact Heap.get?_push_of_some _ (Heap.get?_push_of_some _ k2)
theorem tup_end_hot {it l x1 : Addr} {i : Nat} {items} {Q : Option Value → Shared → Prop} (hot : HotAt A x1 s.heap) (nx : x1 ≠ it) (hit : IsTupIter s.heap it l i) (hl : IsTup s.heap l items) (hx : items[i]? = none)
    (hQ : ∀ h', Heap.ExtBut it s.heap h' → Q none { s with heap := h' }) : wpAny (model prog w) A (pyNext (.ref it)) Q E s := by
  obtain ⟨hh, o1, vs1, h1, d1, c1⟩ := hot
  obtain ⟨io, hio, _, dio⟩ := id hit
  obtain ⟨lo, hlo, _, _, dlo⟩ := hl
  unfold pyNext
  refine wpAny_bind (wpAny_attempt (wpAny_callSpecial?_slot (name := Str.ofString "__next__") hit.typeIs slot_tupleiter_next (wpAny_call_entry slot_tupleiter_next hit.typeIs entry_tupleiter_next ?_ (args_tupleiter_next _))))
  show wpAny _ _ (field (.ref it) 0 >>= _) _ _ s
  refine wpAny_bind (wpAny_field hio dio (x := .ref l) rfl ?_)
  show wpAny _ _ (if (Value.ref l == Value.none) = true then _ else _) _ _ s
  rw [if_neg (fun z => by cases z)]
  show wpAny _ _ (field (.ref it) 1 >>= _) _ _ s
  refine wpAny_bind (wpAny_field hio dio (x := .int i 0) rfl ?_)
  show wpAny _ _ (seqItems? (.ref l) >>= _) _ _ s
  refine wpAny_bind (wpAny_seqItems hlo dlo ?_)
  simp only [Int.toNat_natCast, hx]
  have k1 : (s.heap.update it (Obj.mapFields (·.setIfInBounds 0 Value.none))).get? x1 = some o1 := (Heap.get?_update_other _ _ (Ne.symm nx)).trans h1
  refine wpAny_bind (wpAny_rule (wpAny_bind (wpAny_setField hio dio (by simp) ?_)))
  show wpAny _ _ (newExc (.type "StopIteration") [] >>= _) _ _ _
  refine wpAny_bind ?_
  simp only [newExc, newTuple]
  refine wpAny_bind (wpAny_newObj_type ?_ (by size_fits))
  refine wpAny_bind (m := firstArgMember _ _) (wpAny_of_eq (a := Value.none) (by first | rfl | (simp only [firstArgMember]; rfl)) ?_)
  refine wpAny_newObj_type ?_ (by size_fits)
  refine raiseNew_hot ⟨hh, o1, vs1, Heap.get?_push_of_some _ (Heap.get?_push_of_some _ k1), d1, c1⟩ (Nat.ne_of_lt (Heap.lt_size (Heap.get?_push_of_some _ k1))) (Heap.get?_push_size _ rfl) rfl (by first | (simp; done) | (simp; omega) | (simp only [Array.size_append]; simp; omega)) ?_
  refine wpAny_bind (wpAny_isInstance (T := "StopIteration") (b := true) ⟨_, Heap.get?_update_self _ (Heap.get?_push_size _ rfl) rfl, rfl⟩ isSubtype_stop ?_)
  refine wpAny_pure (hQ _ fun b o hb e => ?_)
  have k2 : (s.heap.update it (Obj.mapFields (·.setIfInBounds 0 Value.none))).get? b = some o := (Heap.get?_update_other _ _ (Ne.symm hb)).trans e
  rw [Heap.get?_update_other _ _ (Nat.ne_of_gt (Heap.lt_size (Heap.get?_push_of_some _ k2)))]
  exact Heap.get?_push_of_some _ (Heap.get?_push_of_some _ k2)
theorem unpackItems_hot {t x1 : Addr} {items : Array Value} {Q : List Value → Shared → Prop} (hot : HotAt A x1 s.heap) (ht : IsTup s.heap t items)
    (hQ : ∀ h', Heap.ExtBut s.heap.objs.size s.heap h' → Q items.toList { s with heap := h' }) : wpAny (model prog w) A (unpackItems (.ref t) items.size none) Q E s := by
  have tn : t ≠ s.heap.objs.size := by
    obtain ⟨o, e, _⟩ := ht
    exact Nat.ne_of_lt (Heap.lt_size e)
  have xn : x1 ≠ s.heap.objs.size := by
    obtain ⟨_, o, _, e, _⟩ := hot
    exact Nat.ne_of_lt (Heap.lt_size e)
  unfold unpackItems notIterableAtAll
  refine wpAny_bind (wpAny_bind (wpAny_specialOf ht.typeIs slot_tuple_iter.lookup (wpAny_pure ?_)))
  simp only [Bool.false_eq_true, if_false]
  refine wpAny_bind (wpAny_holding (iter_tuple ht (wpAny_bind (wpAny_holding (draw_tuple tn items.size 0 _ _ ⟨_, Heap.get?_push_size _ rfl, rfl, rfl⟩ (ht.push _) (by omega) fun g1 it1 sb1 => ?_)))))
  rw [List.drop_zero, List.take_of_length_le (by simp), if_neg (by simp)]
  have t1 : IsTup g1 t items := (ht.push _).extBut sb1.extBut tn
  have hot1 : HotAt A x1 g1 := by
    obtain ⟨hh, o, vs, e, d, c⟩ := hot
    exact ⟨hh, o, vs, sb1.extBut _ _ xn (Heap.get?_push_of_some _ e), d, c⟩
  refine wpAny_bind (wpAny_holding (tup_end_hot (s := { s with heap := g1 }) hot1 xn it1 t1 (by simp) fun g2 e2 => ?_))
  simp only [Option.isSome_none, Bool.false_eq_true, if_false]
  exact wpAny_pure (hQ g2 fun b o hb e => e2 b o hb (sb1.extBut b o hb (Heap.get?_push_of_some _ e)))
end
end Fr

namespace Fr
open PySem PySem.Spec PyProof.Rows L2 HotX L2H
section
variable {X : Cx} {pins : List (Addr × PySem.Obj)} {σ : L2.St} {H : Hp} {s : Shared} {tg : Expr}
theorem pg_tupH {es : List Expr} {k n : Nat} {t : TGs} {pos : Pos} (hot : HotC X) (h : PGs X es t) (hn : (assignEach es X.env).length = n := by rfl) (hst : (assignEach es X.env).findIdx? (·.1) = none := by rfl) : PG X (.Tuple es k pos) (gTup X.K n t) := by
  constructor
  rintro pins s σ H v u Q I r ⟨a, xs, rfl, tq, len, q⟩
  obtain rfl : u = Value.ref a := r
  obtain ⟨its, rv, it, _⟩ := I.tuple tq
  obtain ⟨x1, ha⟩ := hot.at I
  rw [assign_Tuple]
  refine wpAny_bind (wpAny_standAt ?_)
  unfold unpack
  rw [show (assignEach es X.env).length = its.toArray.size by simp [hn, ← len, rv.length], hst]
  refine wpAny_bind (wpAny_holding (unpackItems_hot ha it fun g eg => ?_))
  exact h.run pins _ σ H xs _ Q (I.kept (t' := s.toks) fun b o e => eg b o (Nat.ne_of_lt (Heap.lt_size e)) e) (by simpa using rv) q
/-- a list, walked where an exception is handled -/
theorem turn_listH {P : Program} {w : World} {K : PySem.W.Frag} (a it : Addr) : TurnH P w K tg (Itl K a) [it] it (fun i h => h.IsListIter it a i) where
  mem := List.mem_singleton.mpr rfl
  obj i h st b hb := by
    obtain rfl := List.mem_singleton.mp hb
    obtain ⟨o, e, _, d⟩ := st
    exact ⟨o, e, fun v z => by rw [d] at z; cases z⟩
  keep i h h' st k := st.at fun o e => k it (List.mem_singleton.mpr rfl) o e
  item := by
    rintro X rfl rfl rfl hot i pins s σ H E I hf st ⟨xs, x, hq, hx⟩
    obtain ⟨its, rv, p, _⟩ := I.list hq
    obtain ⟨u, hu, ru⟩ := rv.get hx
    obtain ⟨f0, f1, f2, f3, f4, f5⟩ := hf it (List.mem_singleton.mpr rfl)
    refine wpAny_pyNext_list_item st p.isList (x := u) (by simpa using hu) fun g st1 sb => ?_
    have I1 : Inv X pins σ H { s with heap := g } := I.turned (t' := s.toks) (fun b o hb e => (sb.2 b hb).trans e) f0 f1 f3 f4 f5
    obtain ⟨o, e, c, d⟩ := id st1
    exact ⟨u, rfl, go_of (s := { s with heap := g }) e c d (by decide) ⟨x, H, I1, ru, ⟨rfl, fun ys hy => by rw [I.list_inj hy hq]; exact hx⟩, st1, fun b hb => (hf b hb).1⟩⟩
  done := by
    rintro X rfl rfl rfl hot i pins s σ H E I hf st ⟨xs, hq, hx⟩
    obtain ⟨its, rv, p, _⟩ := I.list hq
    obtain ⟨f0, f1, f2, f3, f4, f5⟩ := hf it (List.mem_singleton.mpr rfl)
    obtain ⟨q, ⟨hh, vs, dv, cv⟩, hq1⟩ := hot
    have lv := rv.length
    exact list_end_hot ⟨hh, q.2, vs, (I.pin q (List.mem_append_left _ hq1)).1, dv, cv⟩ (f5 q (List.mem_append_left _ hq1)) st p.isList (by simp; omega) fun g eb => ⟨rfl, I.turned (t' := s.toks) (fun b o hb e => eb b o hb e) f0 f1 f3 f4 f5⟩
  self _ _ _ _ _ st h := wpAny_pyIter_listiter st h
theorem pi_listH {l : Expr} {tl : TE} (hl : PE X l tl) : PIH X tg l (iList X.K tl) := by
  constructor
  intro pins s σ H R I h
  refine thn (hl.run pins s σ H _ I h) ?_
  rintro v s1 ⟨x, H1, I1, r1, a, rfl, ⟨xs, hq⟩, q⟩
  obtain rfl : v = Value.ref a := r1
  obtain ⟨its, rv, p, _⟩ := I1.list hq
  refine wpAny_pyIter_list p.isList ⟨s1.heap.objs.size, [s1.heap.objs.size], _, _, H1, rfl, I1.kept (t' := s1.toks) fun b o e => Heap.get?_push_of_some _ e, turn_listH a _, ⟨_, Heap.get?_push_size _ rfl, rfl, rfl⟩, fun b hb => ?_, q⟩
  obtain rfl := List.mem_singleton.mp hb
  exact I1.fpOk (Nat.le_refl _) (I1.hok.fresh (Nat.le_refl _))
end
/-- a block where p's object is the exception that is handled -/
abbrev blkH (X : Cx) (p : Addr × PySem.Obj) (s : Shared) (H : Hp) (scope : Scope) (cenv : Env) (fp : List Addr) : Cx := { X.blk s H scope cenv fp with pn := [p] }
section
variable {X : Cx} {pins : List (Addr × PySem.Obj)} {σ : L2.St} {H : Hp} {s : Shared}
theorem blkH_start {scope : Scope} {own : List (Str × Nat)} {fp : List Addr} {p : Addr × PySem.Obj} (hp : p ∈ X.pn) (I : Inv X pins σ H s) (ok : BlkOk X.N X.env.scope scope own) (hN : X.N.Nodup) (hfp : ∀ b ∈ fp, FpOk X pins H b ∧ b < s.heap.objs.size) :
    Inv (blkH X p s H scope (compEnvC scope (cellsFrom (s.heap.objs.size + 1) scope.names (cloFrom X.env.cells scope.names [])) s.heap.objs.size X.env) fp) [] (wipe σ (own.map (·.2))) H { s with heap := pushCells (s.heap.push { cls := .type "dict", data := .dict #[] }) scope.names } := by
  have J := block_start I ok hN hfp
  obtain ⟨p1, p2, p3, p4, p5⟩ := I.pin p (List.mem_append_left _ hp)
  refine ⟨⟨J.ok.mod, J.ok.kind, J.ok.glob, J.ok.blt, J.ok.above, J.ok.inj, J.ok.has, J.ok.cab, J.ok.hd, J.ok.frames, J.ok.stk, J.ok.exf, J.ok.bs, J.ok.bsz, J.ok.noex, J.ok.exfs, J.ok.funs, J.ok.frf⟩, J.os, J.bare, J.base, J.loc, J.cell, J.free, J.freeC, fun q hq => ?_, J.hok, J.len⟩
  obtain rfl : q = p := by simpa using hq
  exact ⟨pushCells_keeps _ _ _ _ (Heap.get?_push_of_some _ p1), p2, Nat.ne_of_lt (Heap.lt_size p1), fun hm => (List.mem_cons.mp (I.stkSub q.1 hm)).elim p3 p4, p5⟩
end
end Fr

namespace Fr
open PySem PySem.Spec PyProof.Rows L2 HotX L2H
section
variable {X : Cx} {tg : Expr}
theorem lc_coreH {pins : List (Addr × PySem.Obj)} {s : Shared} {σ : L2.St} {H : Hp} {Q : VK} {elt iter : Expr} {ifs : List Expr} {scope : Scope} {own : List (Str × Nat)} {pos pos' : Pos} {wi : TI} {g : TG} {tt : TT} {te : TE} {use : Option (Value → Sem Unit)} {Qf : Value → Shared → Prop}
    (hot : HotC X) (hN : X.N.Nodup) (I : Inv X pins σ H s) (hi : PIH X tg iter wi) (ok : BlkOk X.N X.env.scope scope own)
    (hg : ∀ (p : Addr × PySem.Obj) (s : Shared) (H : Hp) (C : Addr) (cl : List (Str × Addr)) (fp : List Addr), HotC (blkH X p s H scope (compEnvC scope cl C X.env) fp) → PG (blkH X p s H scope (compEnvC scope cl C X.env) fp) tg g)
    (ht : ∀ (p : Addr × PySem.Obj) (s : Shared) (H : Hp) (C : Addr) (cl : List (Str × Addr)) (fp : List Addr), PTs (blkH X p s H scope (compEnvC scope cl C X.env) fp) ifs tt)
    (he : ∀ (p : Addr × PySem.Obj) (s : Shared) (H : Hp) (C : Addr) (cl : List (Str × Addr)) (fp : List Addr), PE (blkH X p s H scope (compEnvC scope cl C X.env) fp) elt te) (hs : ∀ x, foldedSetIterable iter X.env x = pure x)
    (h : tLc wi g tt te (own.map (·.2)) σ H Q)
    (fin : ∀ D C s' m H', Inv X pins σ H' s' → Q (.ref D) H' → s'.heap.Ns C m → FpOk X pins H' C → compPost (model X.prog X.w) X.A X.xe use Qf (.ref D) C (.ok .next) s') :
    wpAny (model X.prog X.w) X.A (comprehension (.ListComp elt [⟨tg, iter, ifs, 0⟩] scope pos) scope X.env pos' (newList []) false (eval iter X.env) use) Qf X.xe s := by
  obtain ⟨p, h1, hp⟩ := hot
  have free : ∀ y ∈ scope.names, y.2 = .free → ∃ c, X.env.cells.lookup y.1 = some c := fun y hy e => I.ok.has _ (ok.free y hy e)
  refine wpAny_comprehension_free (use := use) rfl hs (closure_ok free) ok.kind (fun y hy e => by rw [ok.uniq y hy, e]) (thn (hi.run pins s σ H _ I h) fun xv s1 hx => thn hx ?_)
  rintro _ s2 ⟨it, fp, tn, J, H2, rfl, I2, T, st2, f2, q⟩
  refine wpAny_newObj_type (newEnv_comp ?_) (by show 0 ≤ sizeLine; decide)
  obtain ⟨D, hD⟩ : ∃ D, D = s2.heap.objs.size := ⟨_, rfl⟩
  rw [← hD]
  have dn : H2 D = none := I2.hok.fresh (Nat.le_of_eq hD.symm)
  obtain ⟨W, ⟨m0, w0⟩, turn⟩ := q D dn
  -- with the new list
  generalize hs3 : ({ s2 with heap := s2.heap.push { cls := .type "list", data := .seq ([] : List Value).toArray } } : Shared) = s3
  have h3 : s3.heap = s2.heap.push { cls := .type "list", data := .seq ([] : List Value).toArray } := by rw [← hs3]
  have I3 : Inv X pins σ (upd H2 D (.lst [])) s3 := by
    rw [← hs3]
    refine I2.laid (t' := s2.toks) (fun b o e => Heap.get?_push_of_some _ e) (Nat.le_of_eq hD.symm) ⟨Nat.zero_le _, [], 0, .nil, ?_⟩
    rw [hD]
    exact Heap.get?_push_size _ rfl
  have f3 : ∀ b ∈ fp, FpOk X pins (upd H2 D (.lst [])) b ∧ b < s3.heap.objs.size := by
    intro b hb
    obtain ⟨o, e, _⟩ := T.obj _ _ st2 b hb
    have lt := Heap.lt_size e
    refine ⟨⟨?_, (f2 b hb).2⟩, by rw [h3, Heap.size_push]; exact Nat.lt_succ_of_lt lt⟩
    rw [upd_ne (by rw [hD]; exact Nat.ne_of_lt lt)]
    exact (f2 b hb).1
  have st3 : tn 0 s3.heap := T.keep _ _ _ st2 fun b _ o e => by rw [h3]; exact Heap.get?_push_of_some _ e
  have I4 := blkH_start hp I3 ok hN f3
  have hotB : ∀ (s : Shared) (H : Hp) (cenv : Env) (fp : List Addr), HotC (blkH X p s H scope cenv fp) := fun _ _ _ _ => ⟨p, h1, List.mem_singleton.mpr rfl⟩
  have pg := hg p s3 (upd H2 D (.lst [])) s3.heap.objs.size (cellsFrom (s3.heap.objs.size + 1) scope.names (cloFrom X.env.cells scope.names [])) fp (hotB _ _ _ _)
  have pt := ht p s3 (upd H2 D (.lst [])) s3.heap.objs.size (cellsFrom (s3.heap.objs.size + 1) scope.names (cloFrom X.env.cells scope.names [])) fp
  have pe := he p s3 (upd H2 D (.lst [])) s3.heap.objs.size (cellsFrom (s3.heap.objs.size + 1) scope.names (cloFrom X.env.cells scope.names [])) fp
  show codeAny _ _ (.compStart (.ListComp elt [⟨tg, iter, ifs, 0⟩] scope pos) 0 (.ref it) (.ref D) (compEnvC scope (cellsFrom (s3.heap.objs.size + 1) scope.names (cloFrom X.env.cells scope.names [])) s3.heap.objs.size X.env)) (compPost (model X.prog X.w) X.A X.xe use Qf (.ref D) s3.heap.objs.size) { s3 with heap := pushCells (s3.heap.push { cls := .type "dict", data := .dict #[] }) scope.names }
  have nfp : ∀ b ∈ fp, (upd H2 D (.lst [])) b = none := fun b hb => (f3 b hb).1.1
  generalize hce : compEnvC scope (cellsFrom (s3.heap.objs.size + 1) scope.names (cloFrom X.env.cells scope.names [])) s3.heap.objs.size X.env = ce at I4 pg pt pe ⊢
  have cL : ce.locals = s3.heap.objs.size := by rw [← hce]; rfl
  generalize hH3 : upd H2 D (.lst []) = H3 at I3 I4 pg pt pe w0 nfp f3
  generalize hs4 : ({ s3 with heap := pushCells (s3.heap.push { cls := .type "dict", data := .dict #[] }) scope.names } : Shared) = s4 at I4 ⊢
  have st4 : tn 0 s4.heap := T.keep _ _ _ st3 fun b _ o e => by rw [← hs4]; exact pushCells_keeps _ _ _ _ (Heap.get?_push_of_some _ e)
  have stay : ∀ {σ1 : L2.St} {H1 : Hp} {s1 : Shared}, Inv (blkH X p s3 H3 scope ce fp) [] σ1 H1 s1 → (∀ b ∈ fp, H1 b = none) → ∀ b ∈ fp, FpOk (blkH X p s3 H3 scope ce fp) [] H1 b := fun {σ1 H1 s1} J1 n1 b hb =>
    ⟨n1 b hb, (J1.ok.exf b hb).1, J1.ok.exfs b hb, .inl hb, fun x c e => (J1.ok.exf b hb).2 x c e, fun z hz => by
      obtain rfl : z = p := by simpa using hz
      exact (f3 b hb).1.2.2.2.2.2 z (List.mem_append_left _ hp)⟩
  refine codeAny_compStart_list ?_ (T.self X.A 0 _ _ _ st4 ?_) <;> (
    refine compLoop_any (fun n s' => ∃ i H', Inv (blkH X p s3 H3 scope ce fp) [] (wipe σ (own.map (·.2))) H' s' ∧ tn i s'.heap ∧ (∀ b ∈ fp, H' b = none) ∧ W i n H') ?_ m0 ⟨0, H3, I4, st4, nfp, w0⟩
    rintro n s5 ⟨i, H5, I5, st5, n5, w5⟩
    rcases turn i n H5 w5 with ⟨stop, qq⟩ | ⟨go, Nx, hNx, step⟩
    · refine thnF (T.done (blkH X p s3 H3 scope ce fp) rfl rfl rfl (hotB _ _ _ _) i [] s5 _ H5 (fun _ _ => False) I5 (stay I5 n5) st5 stop) ?_
      rintro _ s6 ⟨rfl, I6⟩
      have I7 : Inv X pins σ H5 s6 := I3.call' (ch := fp) I6.os I6.base I6.hok I6.bare fun b hb => ⟨(f3 b hb).1.2.2.2.1, (f3 b hb).1.2.1, (f3 b hb).1.2.2.2.2.1, (f3 b hb).1.2.2.2.2.2⟩
      obtain ⟨m, hn, _⟩ := I6.loc
      have hn1 : s6.heap.Ns ce.locals m := hn
      have free5 : H5 ce.locals = none := I6.free
      rw [cL] at hn1 free5
      exact fin D _ s6 m H5 I7 qq hn1 (I3.fpOk (Nat.le_refl _) free5)
    · refine thnF (T.item (blkH X p s3 H3 scope ce fp) rfl rfl rfl (hotB _ _ _ _) i [] s5 _ H5 (fun _ _ => False) I5 (stay I5 n5) st5 go) ?_
      rintro _ s6 ⟨u, rfl, h6⟩
      refine thnF h6 ?_
      rintro _ s7 ⟨x, H7, I7, r7, y7, st7, n7⟩
      have K7 := I7.pinned (stay I7 n7) (T.obj _ _ st7)
      refine thnF (pg.run _ s7 _ H7 x u _ K7 r7 (step x H7 y7)) ?_
      rintro _ s8 ⟨σ8, H8, I8, hw, q8⟩
      refine thnF (pt.run _ s8 σ8 H8 _ I8 q8) ?_
      rintro b s9 ⟨H9, I9, q9⟩
      have again : ∀ {s' : Shared} {H' : Hp}, Inv (blkH X p s3 H3 scope ce fp) ([] ++ pinsAt fp s7.heap) σ8 H' s' → Nx H' → ∃ m, m < n ∧ ∃ i H', Inv (blkH X p s3 H3 scope ce fp) [] (wipe σ (own.map (·.2))) H' s' ∧ tn i s'.heap ∧ (∀ b ∈ fp, H' b = none) ∧ W i m H' := fun {s' H'} J1 nx => by
        obtain ⟨m1, lt, w1⟩ := hNx H' nx
        have there : ∀ b ∈ fp, ∀ o, s7.heap.get? b = some o → s'.heap.get? b = some o ∧ H' b = none := fun b hb o e => by
          obtain ⟨z1, z2, _⟩ := J1.pin (b, o) (List.mem_append_right _ (List.mem_append_right _ (mem_pinsAt hb e)))
          exact ⟨z1, z2⟩
        refine ⟨m1, lt, i + 1, H', (J1.unpinned (pins := [])).weak (by rw [← hw, wipe_length]) (fun j v e => ?_), T.keep _ _ _ st7 fun b hb o e => (there b hb o e).1, fun b hb => ?_, w1⟩
        · rw [← hw] at e
          exact (wipe_some e).1
        · obtain ⟨o, e, _⟩ := T.obj _ _ st7 b hb
          exact (there b hb o e).2
      cases b with
      | false => exact again I9 (by simpa using q9)
      | true =>
        simp only [if_true] at q9 ⊢
        refine thnF (pe.run _ s9 σ8 H9 _ I9 q9) ?_
        rintro z s10 ⟨yv, H10, I10, r10, acc, hD10, hz10, nx⟩
        exact app_ok (X := blkH X p s3 H3 scope ce fp) I10 hD10 hz10 r10 fun s11 I11 => again I11 nx)
theorem pe_lcH {elt iter : Expr} {ifs : List Expr} {scope : Scope} {own : List (Str × Nat)} {pos : Pos} {wi : TI} {g : TG} {tt : TT} {te : TE} (hot : HotC X) (hN : X.N.Nodup) (hi : PIH X tg iter wi) (ok : BlkOk X.N X.env.scope scope own)
    (hg : ∀ (p : Addr × PySem.Obj) (s : Shared) (H : Hp) (C : Addr) (cl : List (Str × Addr)) (fp : List Addr), HotC (blkH X p s H scope (compEnvC scope cl C X.env) fp) → PG (blkH X p s H scope (compEnvC scope cl C X.env) fp) tg g)
    (ht : ∀ (p : Addr × PySem.Obj) (s : Shared) (H : Hp) (C : Addr) (cl : List (Str × Addr)) (fp : List Addr), PTs (blkH X p s H scope (compEnvC scope cl C X.env) fp) ifs tt)
    (he : ∀ (p : Addr × PySem.Obj) (s : Shared) (H : Hp) (C : Addr) (cl : List (Str × Addr)) (fp : List Addr), PE (blkH X p s H scope (compEnvC scope cl C X.env) fp) elt te) (hs : ∀ x, foldedSetIterable iter X.env x = pure x := by intro _; rfl) :
    PE X (.ListComp elt [⟨tg, iter, ifs, 0⟩] scope pos) (tLc wi g tt te (own.map (·.2))) := by
  constructor
  intro pins s σ H Q I h
  rw [eval_ListComp]
  refine lc_coreH hot hN I hi ok hg ht he hs h ?_
  intro D C s1 m H1 I1 q ns fo
  refine ⟨m, ns, fun g sb => ?_⟩
  obtain ⟨g0, g1, _, g3, g4, g5⟩ := fo
  exact ⟨.ref D, H1, I1.turned (t' := s1.toks) (fun b o hb e => (sb.2 b hb).trans e) g0 g1 g3 g4 g5, rfl, q⟩
theorem ps_setLcH {i : Nat} {y : Str} {py : Pos} {elt iter : Expr} {ifs : List Expr} {scope : Scope} {own : List (Str × Nat)} {pos spos : Pos} {wi : TI} {g : TG} {tt : TT} {te : TE} (hot : HotC X) (hN : X.N.Nodup) (hy : X.N[i]? = some y) (hyl : X.env.scope.names.lookup y = some .local)
    (hsw : swapsWith (.ListComp elt [⟨tg, iter, ifs, 0⟩] scope pos) (some (.Name y py)) spos.line X.env = pure true) (hi : PIH X tg iter wi) (ok : BlkOk X.N X.env.scope scope own)
    (hg : ∀ (p : Addr × PySem.Obj) (s : Shared) (H : Hp) (C : Addr) (cl : List (Str × Addr)) (fp : List Addr), HotC (blkH X p s H scope (compEnvC scope cl C X.env) fp) → PG (blkH X p s H scope (compEnvC scope cl C X.env) fp) tg g)
    (ht : ∀ (p : Addr × PySem.Obj) (s : Shared) (H : Hp) (C : Addr) (cl : List (Str × Addr)) (fp : List Addr), PTs (blkH X p s H scope (compEnvC scope cl C X.env) fp) ifs tt)
    (he : ∀ (p : Addr × PySem.Obj) (s : Shared) (H : Hp) (C : Addr) (cl : List (Str × Addr)) (fp : List Addr), PE (blkH X p s H scope (compEnvC scope cl C X.env) fp) elt te) (hs : ∀ x, foldedSetIterable iter X.env x = pure x := by intro _; rfl) :
    PS X (.Assign [.Name y py] (.ListComp elt [⟨tg, iter, ifs, 0⟩] scope pos) spos) (tAsg (tLc wi g tt te (own.map (·.2))) (gName i)) := by
  constructor
  intro pins s σ H D I h
  have h1 : tLc wi g tt te (own.map (·.2)) σ H (fun x H1 => gName i x σ H1 D.nx) := h
  rw [exec_Assign_Name_used _ _ _ _ hsw]
  refine wpAny_bind (wpAny_standAt (wpAny_bind ?_))
  show wpAny _ X.A (do let _ ← comprehension (.ListComp elt [⟨tg, iter, ifs, 0⟩] scope pos) scope X.env (firstIterPos [⟨tg, iter, ifs, 0⟩] pos) (newList []) false (eval iter X.env) (some (assign (.Name y py) X.env))) _ _ s
  refine wpAny_bind (thn (lc_coreH (Qf := fun _ s1 => SP X pins D .next s1) hot hN I hi ok hg ht he hs h1 ?_) fun _ s1 q => wpAny_pure (wpAny_pure q))
  intro L C s1 m H1 I1 q ns fo
  show wpAny _ _ (assign (.Name y py) X.env (.ref L)) _ _ _
  refine wpAny_assign_Name (store_ok2 (v := V.ref L) I1 hN hy (.inl hyl) rfl ?_ (.inr hyl))
  rintro s2 I2 ⟨a, sb, ha⟩
  obtain ⟨g0, g1, _, g3, g4, g5⟩ := fo
  have ne : C ≠ a := by
    cases ha with
    | inl z => exact z ▸ g1
    | inr z => exact fun e => g4 y a z e.symm
  refine ⟨m, ns.sameBut sb ne, fun g sb2 => ?_⟩
  exact ⟨_, H1, I2.turned (t' := s2.toks) (fun b o hb e => (sb2.2 b hb).trans e) g0 g1 g3 g4 g5, q⟩
end
end Fr

namespace Fr
open PySem PySem.Spec PyProof.Rows L2 HotX L2H
section
variable {X : Cx}
/-- an own error made with its __init__: its context is None -/
theorem mk_oexN {CX : CXT} {x : Str} {C fI : Addr} {k : Nat} {fd : FuncData} {ps : List Str} {sp : Sp} {e : Expr} {es : List Expr} {ta : TA} {p pos : Pos} (T : OexC X.K C) (iC : PySem.W.findIn X.K (.ref C) "__init__" = some (some (.ref fI))) (tI : PySem.W.typeIn X.K (.ref fI) = some (.type "function"))
    (F1 : FnOk X.prog X.w X.K X.mg X.base CX k fI fd ps sp) (hr : Room (k + 1) X.A) (hb : Binds X.K fd ps []) (hx : Passes CX X (fun _ _ _ => False)) (hg : Gl X x) (hm : X.mg x = some (.ref C)) (ha : PA X (e :: es) ta)
    (hdb : (x == ("__debug__" : Str)) = false := by decide) (he : starEach (e :: es) X.env = (false, eval e X.env) :: starEach es X.env := by rfl) (hpl : (backTo pos (starEach es X.env)).any (·.1) = false := by rfl) :
    L2N.PMk X (.Call (.Name x p) (e :: es) [] pos) (tMkO C sp [] ta) := by
  intro pins s σ H Q I h
  obtain ⟨_, _, _, _, bm, _, _, _, _, _, _, _, _, _, _, hC, hbm⟩ := T.cls
  refine wpAny_Call_Name_kw (ld_glob I hg hm ?_ hdb)
  refine PySem.W.callWith_K (h₀ := X.base) I.ok.mod.kin T.kC (thn (ha.run pos pins s σ H _ I h) ?_) he hpl
  rintro us ⟨hp, g, dr, tk, os⟩ ⟨vs, H1, I1, r1, few, q1⟩
  refine ⟨I1.kIn, ?_⟩
  show wpAny _ _ (call (.ref C) us) _ _ _
  have up : hp.objs.size ≤ hp.objs.size + 1 := Nat.le_succ _
  have hq := q1 (hp.objs.size + 1) (I1.hok.fresh up)
  have stays : ∀ b o, hp.get? b = some o → ((hp.push (PySem.W.kdv_tup us)).push (PySem.HandSPX.excO C hp.objs.size)).get? b = some o := fun b o e => Heap.get?_push_of_some _ (Heap.get?_push_of_some _ e)
  have there : ((hp.push (PySem.W.kdv_tup us)).push (PySem.HandSPX.excO C hp.objs.size)).get? (hp.objs.size + 1) = some (PySem.HandSPX.excO C hp.objs.size) := by heap_get
  have I2 : Inv X pins σ (upd H1 (hp.objs.size + 1) (exo (hp.objs.size + 1) C none)) ⟨(hp.push (PySem.W.kdv_tup us)).push (PySem.HandSPX.excO C hp.objs.size), g, dr, tk, os⟩ :=
    I1.laid (t' := tk) (a := hp.objs.size + 1) (o := exo (hp.objs.size + 1) C none) (h' := (hp.push (PySem.W.kdv_tup us)).push (PySem.HandSPX.excO C hp.objs.size)) stays up (exo_ok there)
  have r2 : Vals (V.ref (hp.objs.size + 1) :: (vs ++ [])) (Value.ref (hp.objs.size + 1) :: (us ++ [])) := .cons rfl (r1.append .nil)
  have hl : (Value.ref (hp.objs.size + 1) :: us ++ []).length = ps.length := by
    have z := r2.length
    rw [F1.len _ _ _ _ hq] at z
    exact z.symm
  have hus : us.length ≤ sizeLine := by
    rw [← Paired.length r1, sizeLine_eq]
    omega
  refine wpAny_call (PySem.HandSPX.call_own F.excBase_ValueError (fun Y => PySem.HandSPX.refsVE_contains Y bm hbm) (I1.kIn _ _ hC) (PySem.W.looks_findIn I1.kIn iC) (fun self => PySem.W.bind_fn I1.kIn self tI) hus
    (codeAny_mono (F1.run _ X.stack _ _ ⟨Value.ref (hp.objs.size + 1) :: us, []⟩ _ _ _ (fun _ _ _ => False) (hr.make C us []) (I2.env0.make C us []) (hb _ (Value.ref (hp.objs.size + 1) :: us) I2.kIn hl) r2 hq) ?_))
  rintro r ⟨h2, g2, d2, t2, os2⟩ hq2
  cases r with
  | error er => exact hx pins σ _ _ er _ I2 hq2
  | ok fl =>
    cases fl with
    | ret u =>
      obtain ⟨v, H2, o2, bare2, un2, hok2, rv, rfl, d, fs, ea, ed, hd1, q2⟩ := hq2
      obtain ⟨_, G, J, kG, ge, hoe, na⟩ := mk_end0 (d2 := d2) (t2 := t2) I1 up stays un2 hok2 o2 bare2 ea ed hd1
      refine ⟨rv, hp.objs.size + 1, _, _, ⟨G, g2, d2, t2, os2⟩, _, .ref C, some d, rfl, J, kG, ge, hoe, ⟨rfl, rfl, fun vs hv => ?_⟩, rfl, rfl, na, rfl, bare2, raises_own T.exC T.tyC, q2⟩
      cases hv
      rfl
    | next => exact False.elim hq2
    | brk => exact False.elim hq2
    | cont => exact False.elim hq2
/-- a class call whose __init__ may raise -/
theorem run_mkS {CX : CXT} {k : Nat} {f C : Addr} {fd : FuncData} {ps : List Str} {sp : Sp} {dvs : List V} {ds : List Value} {E : L2.St → XK} {pins : List (Addr × PySem.Obj)} {σ : L2.St} {H : Hp} {s : Shared} {Q : VK} {us : List Value} {vs : List V} (M : Mk X.K C f) (F : FnOk X.prog X.w X.K X.mg X.base CX k f fd ps sp) (hr : Room (k + 1) X.A) (hb : Binds X.K fd ps ds) (hd : Vals dvs ds)
    (hx : PassesAt CX X σ (E σ)) (I : Inv X pins σ H s) (r : Vals vs us) (h : ∀ x dx, H x = none → H dx = none → dx ≠ x → sp (.ref x :: (vs ++ dvs)) (upd (upd H dx (.own x)) x (.ins C dx [])) (fun v H2 => v = .non ∧ Q (.ref x) H2) (E σ)) :
    wpAny (model X.prog X.w) X.A (call (.ref C) us) (EP X pins σ Q) X.xe s := by
  have hq := h (s.heap.objs.size + 1) s.heap.objs.size (I.hok.fresh (Nat.le_succ _)) (I.hok.fresh (Nat.le_refl _)) (Nat.ne_of_lt (Nat.lt_succ_self _))
  have J := Inv.made (C := C) I
  have r2 : Vals (V.ref (s.heap.objs.size + 1) :: (vs ++ dvs)) (Value.ref (s.heap.objs.size + 1) :: (us ++ ds)) := .cons rfl (r.append hd)
  have hl : (Value.ref (s.heap.objs.size + 1) :: us ++ ds).length = ps.length := r2.length.symm.trans (F.len _ _ _ _ hq)
  refine wpAny_call (make_map (f := f) I.kIn M.makes M.init (beq_iff_eq.mp M.fn) (codeAny_mono (F.run _ X.stack _ _ ⟨Value.ref (s.heap.objs.size + 1) :: us, []⟩ _ _ _ (E σ) (hr.make C us []) (J.env0.make C us []) (hb _ (Value.ref (s.heap.objs.size + 1) :: us) J.kIn hl) r2 hq) ?_))
  intro rs s2 z
  cases rs with
  | error e => exact hx pins _ _ e s2 J z
  | ok fl =>
    cases fl with
    | ret u =>
      obtain ⟨v, H2, J2, rv, rfl, q⟩ := J.after z
      exact ⟨rv, V.ref (s.heap.objs.size + 1), H2, J2, rfl, q⟩
    | next => exact False.elim z
    | brk => exact False.elim z
    | cont => exact False.elim z
def tMakeS (C : Addr) (sp : Sp) (E : L2.St → XK) (t : TA) : TE := fun σ H Q => t σ H fun vs H1 => ∀ x dx, H1 x = none → H1 dx = none → dx ≠ x → sp (.ref x :: (vs ++ [])) (upd (upd H1 dx (.own x)) x (.ins C dx [])) (fun v H2 => v = .non ∧ Q (.ref x) H2) (E σ)
end
section
variable {P : Program} {w : World} {K : PySem.W.Frag} {mg : Str → Option Value} {base : Heap}
theorem fun_okN {x qual : Str} {st : Stmt} {f : Addr} {fd : FuncData} {N ps : List Str} {k : Nat} {sp : Sp} (F : Fun K x qual st f fd) (S : FnScope N ps (defScope st)) (len : ∀ vs H Q E, sp vs H Q E → vs.length = ps.length)
    (body : ∀ (cdv : Value) (A : Around) (outer : List Env) (s : Shared) (H : Hp) (vs : List V) (Q : VK) (E : XK), Room k (A.deeper (envOfC qual (defScope st) s.heap.objs.size f cdv)) → sp vs H Q E →
      ∃ t, PSs (cxOf (L2N.CX P w) P w K mg base N qual (defScope st) f cdv A outer s H E) (defBody st) t ∧ t { nx := fun _ H' => Q .non H', rt := Q } (start N vs) H) : FnOk P w K mg base (L2N.CX P w) (k + 1) f fd ps sp := by
  obtain ⟨oc, od, kV, doc, pm, an, cdv, ct, osl, rfl, lk, hcd⟩ := F.ex
  exact fn_of lk hcd S len fun A outer s H vs Q E hr hsp => body cdv A outer s H vs Q E hr hsp
structure CalN (P : Program) (w : World) (K : PySem.W.Frag) (mg : Str → Option Value) (base : Heap) (k : Nat) (x : Str) (sp : Sp) : Prop where
  ex : ∃ (f : Addr) (fd : FuncData) (ps : List Str), FnOk P w K mg base (L2N.CX P w) k f fd ps sp ∧ mg x = some (.ref f) ∧ PySem.W.keepIn K (.ref f) = true ∧ Binds K fd ps []
structure MakN (P : Program) (w : World) (K : PySem.W.Frag) (mg : Str → Option Value) (base : Heap) (k : Nat) (x : Str) (C : Addr) (sp : Sp) : Prop where
  ex : ∃ (f : Addr) (fd : FuncData) (ps : List Str), Mk K C f ∧ FnOk P w K mg base (L2N.CX P w) k f fd ps sp ∧ mg x = some (.ref C) ∧ Binds K fd ps []
theorem fn_orN {k : Nat} {f : Addr} {fd : FuncData} {ps : List Str} {sp0 sp1 : Sp} (F0 : FnOk P w K mg base CX0 k f fd ps sp0) (F1 : FnOk P w K mg base (L2N.CX P w) k f fd ps sp1) : FnOk P w K mg base (L2N.CX P w) k f fd ps (fun vs H Q E => sp0 vs H Q E ∨ sp1 vs H Q E) :=
  ⟨fun vs H Q E h => h.elim (F0.len vs H Q E) (F1.len vs H Q E), fun A outer s H args us vs Q E hr e0 hb r h => h.elim
    (fun h => codeAny_mono (F0.run A outer s H args us vs Q E hr e0 hb r h) fun rs s' z => by
      cases rs with
      | error e => exact False.elim z
      | ok fl => cases fl <;> exact z) (F1.run A outer s H args us vs Q E hr e0 hb r)⟩
end
section
variable {X : Cx} {k j : Nat} {x : Str} {sp : Sp} {W : WX} {e : Expr} {es : List Expr} {t : TA} {p pos : Pos} {C : Addr}
theorem pe_cN (c : CalN X.prog X.w X.K X.mg X.base k x sp) (hr : Room j X.A) (hk : k ≤ j) (hg : Gl X x) (tk : L2N.Takes X W) (ha : PA X (e :: es) t)
    (hdb : (x == ("__debug__" : Str)) = false := by decide) (he : starEach (e :: es) X.env = (false, eval e X.env) :: starEach es X.env := by rfl) (hpl : (backTo pos (starEach es X.env)).any (·.1) = false := by rfl) : PE X (.Call (.Name x p) (e :: es) [] pos) (tCallS sp (WE W) t) := by
  obtain ⟨f, fd, ps, F, hm, kp, b⟩ := c.ex
  exact pe_callS F (hr.mono hk) hg hm kp b (fun σ => L2N.passAt tk σ) ha hdb he hpl
theorem pe_mkN (c : MakN X.prog X.w X.K X.mg X.base k x C sp) (hr : Room j X.A) (hk : k + 1 ≤ j) (hg : Gl X x) (tk : L2N.Takes X W) (ha : PA X (e :: es) t)
    (hdb : (x == ("__debug__" : Str)) = false := by decide) (he : starEach (e :: es) X.env = (false, eval e X.env) :: starEach es X.env := by rfl) (hpl : (backTo pos (starEach es X.env)).any (·.1) = false := by rfl) : PE X (.Call (.Name x p) (e :: es) [] pos) (tMakeS C sp (WE W) t) := by
  obtain ⟨f, fd, ps, M, F, hm, b⟩ := c.ex
  constructor
  intro pins s σ H Q I h
  refine wpAny_Call_Name_kw (ld_glob I hg hm (PySem.W.callWith_K (h₀ := X.base) I.ok.mod.kin M.kp (thn (ha.run pos pins s σ H _ I h) ?_) he hpl) hdb)
  rintro us s1 ⟨vs, H1, I1, r, q⟩
  exact ⟨I1.kIn, run_mkS (E := WE W) M F (hr.mono hk) b .nil (L2N.passAt tk σ) I1 r q⟩
end
end Fr

namespace Fr
open PySem PySem.Spec PyProof.Rows L2
section
variable {P : Program} {w : World} {K : PySem.W.Frag} {mg : Str → Option Value} {base : Heap}
structure MakX (P : Program) (w : World) (K : PySem.W.Frag) (mg : Str → Option Value) (base : Heap) (k : Nat) (x : Str) (C : Addr) (sp : Sp) : Prop where
  ex : ∃ (f : Addr) (fd : FuncData) (ps : List Str), Mk K C f ∧ FnOk P w K mg base (L2.CX P w) k f fd ps sp ∧ mg x = some (.ref C) ∧ Binds K fd ps []
end
theorem pe_mkX {X : Cx} {k j : Nat} {x : Str} {sp : Sp} {W : WX} {e : Expr} {es : List Expr} {t : TA} {p pos : Pos} {C : Addr} (c : MakX X.prog X.w X.K X.mg X.base k x C sp) (hr : Room j X.A) (hk : k + 1 ≤ j) (hg : Gl X x) (tk : Takes X W) (ha : PA X (e :: es) t)
    (hdb : (x == ("__debug__" : Str)) = false := by decide) (he : starEach (e :: es) X.env = (false, eval e X.env) :: starEach es X.env := by rfl) (hpl : (backTo pos (starEach es X.env)).any (·.1) = false := by rfl) : PE X (.Call (.Name x p) (e :: es) [] pos) (tMakeS C sp (WE W) t) := by
  obtain ⟨f, fd, ps, M, F, hm, b⟩ := c.ex
  constructor
  intro pins s σ H Q I h
  refine wpAny_Call_Name_kw (ld_glob I hg hm (PySem.W.callWith_K (h₀ := X.base) I.ok.mod.kin M.kp (thn (ha.run pos pins s σ H _ I h) ?_) he hpl) hdb)
  rintro us s1 ⟨vs, H1, I1, r, q⟩
  exact ⟨I1.kIn, run_mkS (E := WE W) M F (hr.mono hk) b .nil (passAt tk σ) I1 r q⟩
/-- a list comprehension each of whose items is a new list -/
theorem lc_rows {J : It} {n : Nat} {G : Hp → Prop} {Y : Nat → Hp → V → Hp → Prop} (w : Walk J n G Y) {g : TG} {te : TE} {vs : List Nat} {σ : L2.St} {H1 : Hp} {D : Addr} {Qd : Hp → Prop} (f : Nat → List V) (hn : n ≤ 1000000) (hD : H1 D = none) (hG : ∀ H, Same H1 H → G H)
    (hY : ∀ i H x H', Y i H x H' → Same H H')
    (hs : ∀ i x H H', i < n → Same H1 H → Y i H x H' → ∀ R : V → Hp → Prop, (∀ p H4, H' p = none → Same H' H4 → H4 p = some (.lst (f i)) → R (.ref p) H4) → g x (wipe σ vs) H' fun σ2 H2 => wipe σ2 vs = wipe σ vs ∧ te σ2 H2 R)
    (hd : ∀ H (rs : List Addr), Same H1 H → H D = some (.lst (rs.map V.ref)) → rs.length = n → rs.Nodup → (∀ j r, rs[j]? = some r → H1 r = none ∧ r ≠ D ∧ H r = some (.lst (f j))) → Qd H) :
    ∃ W : Nat → Nat → Hp → Prop, (∃ m, W 0 m (upd H1 D (.lst []))) ∧ ∀ i m H, W i m H →
      (J.stop i H ∧ Qd H) ∨ (J.go i H ∧ ∃ Nx : Hp → Prop, (∀ H', Nx H' → ∃ m', m' < m ∧ W (i + 1) m' H') ∧ ∀ x H', J.yld i H x H' → g x (wipe σ vs) H' fun σ2 H2 => wipe σ2 vs = wipe σ vs ∧ tYes σ2 H2 fun b H3 =>
        if b = true then te σ2 H3 fun y H4 => ∃ acc, H4 D = some (.lst acc) ∧ acc.length < sizeLine ∧ Nx (upd H4 D (.lst (acc ++ [y]))) else Nx H3) := by
  refine lc_it w (fun i H => Same H1 H ∧ ∃ rs : List Addr, rs.length = i ∧ H D = some (.lst (rs.map V.ref)) ∧ rs.Nodup ∧ ∀ j r, rs[j]? = some r → H1 r = none ∧ r ≠ D ∧ H r = some (.lst (f j))) ⟨snew hD, [], rfl, upd_same, List.nodup_nil, fun j r h => by cases h⟩ (fun i H _ p => hG H p.1) (fun i x H H' hi p y => ?_) fun H ⟨s1, rs, a, b, c, d⟩ => hd H rs s1 b a c d
  have sm := hY i H x H' y
  obtain ⟨s1, rs, lrs, hD1, ndr, hrs⟩ := p
  refine hs i x H H' hi s1 y _ fun p H4 hp s4 hp4 => ?_
  have s14 := same_tr s1 (same_tr sm s4)
  have hD4 := s4 _ _ (sm _ _ hD1)
  have pD : p ≠ D := (ne_of_none (sm _ _ hD1) hp).symm
  have pH : H1 p = none := free_of (same_tr s1 sm) hp
  have pn : p ∉ rs := fun hm => by
    obtain ⟨j, hj⟩ := List.mem_iff_getElem?.mp hm
    exact ne_of_none (sm _ _ (hrs j p hj).2.2) hp rfl
  refine ⟨_, hD4, ?_, smut s14 hD, rs ++ [p], by rw [List.length_append, lrs]; rfl, ?_, ?_, ?_⟩
  · rw [List.length_map, lrs]
    exact Nat.lt_of_lt_of_le (by omega : i < 1000001) (by rw [sizeLine_eq]; decide)
  · rw [upd_same, List.map_append]
    rfl
  · rw [List.nodup_append]
    refine ⟨ndr, by simp, fun x hx y hy => ?_⟩
    rw [List.mem_singleton.mp hy]
    exact fun e => pn (by rw [← e]; exact hx)
  · intro j r' hj
    by_cases e : j < rs.length
    · rw [List.getElem?_append_left e] at hj
      obtain ⟨f1, f2, f3⟩ := hrs j r' hj
      exact ⟨f1, f2, by rw [upd_ne f2]; exact s4 _ _ (sm _ _ f3)⟩
    · rw [List.getElem?_append_right (by omega)] at hj
      have ej : j - rs.length = 0 := by
        rcases Nat.eq_zero_or_pos (j - rs.length) with z | z
        · exact z
        · rw [List.getElem?_eq_none (by simp; omega)] at hj
          cases hj
      rw [ej] at hj
      cases hj
      have ji : j = i := by omega
      rw [ji]
      exact ⟨pH, pD, by rw [upd_ne pD]; exact hp4⟩
end Fr

namespace Fr
open PySem PySem.Spec PyProof.Rows L2
abbrev s_Around_init : Stmt := inClass (topS 46) 0
theorem sc_Around_init : FnScope ["self", "system", "cell", "name", "point", "links", "link", "table", "axis"] ["self", "system", "cell"] (defScope s_Around_init) := ⟨rfl, rfl, rfl, by decide +kernel, rfl, by decide +kernel, by decide +kernel⟩
-- slots: 0 self, 1 system, 2 cell, 3 name, 4 point, 5 links, 6 link, 7 table, 8 axis
abbrev s_Around_best : Stmt := inClass (topS 46) 1
theorem sc_Around_best : FnScope ["self"] ["self"] (defScope s_Around_best) := ⟨rfl, rfl, rfl, by decide +kernel, rfl, by decide +kernel, by decide +kernel⟩
-- slots: 0 self
structure TxtA (K : PySem.W.Frag) (mg : Str → Option Value) (C : Addr) : Prop where
  cl : Cls K C
  nL : NoAttr K C "links"
  nT : NoAttr K C "tables"
  nR : NoAttr K C "rows"
  nM : NoAttr K C "limits"
  g_Around : mg "Around" = some (.ref C)
theorem nLT : ¬ (("links" : Str) = "tables") := by decide +kernel
theorem nLR : ¬ (("links" : Str) = "rows") := by decide +kernel
theorem nTR : ¬ (("tables" : Str) = "rows") := by decide +kernel
theorem nLM : ¬ (("links" : Str) = "limits") := by decide +kernel
theorem nTM : ¬ (("tables" : Str) = "limits") := by decide +kernel
theorem nRM : ¬ (("rows" : Str) = "limits") := by decide +kernel
theorem putF_t {g v : V} : putF "tables" v [("links", g)] = ([("links", g), ("tables", v)] : List (Str × V)) := by
  simp only [putF, if_neg nLT]
theorem putF_r {g u v : V} : putF "rows" v [("links", g), ("tables", u)] = ([("links", g), ("tables", u), ("rows", v)] : List (Str × V)) := by
  simp only [putF, if_neg nLR, if_neg nTR]
theorem putF_m {g u v z : V} : putF "limits" v [("links", g), ("tables", u), ("rows", z)] = ([("links", g), ("tables", u), ("rows", z), ("limits", v)] : List (Str × V)) := by
  simp only [putF, if_neg nLM, if_neg nTM, if_neg nRM]
def b01 (b : Bool) : Int := if b then 1 else 0
def aroA (names : List Str) (pl : List Lk) (i j : Nat) : Int := match pl[j]? with
  | none => 0
  | some l => if i < names.length then b01 (l.n == names.getD i "") - b01 (l.r.t == names.getD i "") else l.r.v.getD (i - names.length) 0
def aroL (names : List Str) (x : Str) (p : List Int) (i : Nat) : Int := if i < names.length then b01 (names.getD i "" == x) else p.getD (i - names.length) 0
def aroF (L T R M : Addr) : List (Str × V) := [("links", .ref L), ("tables", .ref T), ("rows", .ref R), ("limits", .ref M)]
structure AroAt (K : PySem.W.Frag) (C : Addr) (H : Hp) (a : Addr) (names : List Str) (pl : List Lk) (x : Str) (p : List Int) (d : Nat) : Prop where
  ob : ∃ (dx L T R M : Addr) (kvs : List (List Key × V)) (ra : List Addr), H a = some (.ins C dx (aroF L T R M)) ∧ H L = some (.dT kvs) ∧ LkAt K H kvs pl ∧ H T = some (.lst (names.map V.str)) ∧ H R = some (.lst (ra.map V.ref)) ∧ ra.length = names.length + d ∧
    (∀ i r, ra[i]? = some r → H r = some (.lst ((List.range pl.length).map fun j => V.int (aroA names pl i j)))) ∧ H M = some (.lst ((List.range (names.length + d)).map fun i => V.int (aroL names x p i)))
theorem AroAt.mono {K : PySem.W.Frag} {C : Addr} {H H' : Hp} {a : Addr} {names : List Str} {pl : List Lk} {x : Str} {p : List Int} {d : Nat} (e : Same H H') (h : AroAt K C H a names pl x p d) : AroAt K C H' a names pl x p d := by
  obtain ⟨dx, L, T, R, M, kvs, ra, h1, h2, h3, h4, h5, h6, h7, h8⟩ := h.ob
  exact ⟨dx, L, T, R, M, kvs, ra, e _ _ h1, e _ _ h2, h3.mono (.of e), e _ _ h4, e _ _ h5, h6, fun i r q => e _ _ (h7 i r q), e _ _ h8⟩
/-- the tables of the piece, or the table alone -/
def NamesOf (pl : List Lk) (x : Str) (names : List Str) : Prop := (TabsOf pl names ∧ names ≠ []) ∨ (names = [x] ∧ pl = [])
theorem names_len {pl : List Lk} {x : Str} {names : List Str} (h : NamesOf pl x names) : names.length ≤ 2 * pl.length + 1 := by
  rcases h with ⟨t, _⟩ | ⟨rfl, rfl⟩
  · have z := nodup_len (L := names) (xs := pl.map (·.n) ++ pl.map (·.r.t)) t.nd fun a ha => by
      obtain ⟨l, hl, e⟩ := (t.mem a).mp ha
      rw [List.mem_append]
      rcases e with e | e
      · exact .inl (List.mem_map.mpr ⟨l, hl, e.symm⟩)
      · exact .inr (List.mem_map.mpr ⟨l, hl, e.symm⟩)
    rw [List.length_append, List.length_map, List.length_map] at z
    omega
  · rw [List.length_singleton]
    omega
/-- the value of an or, both ways -/
theorem orU {K : PySem.W.Frag} {tb : TE} {σ : L2.St} {H : Hp} {x : V} {Q : VK} (Pq : V → Hp → Prop) (k : Bool) (h : TruV K x H k) (h1 : k = true → Pq x H) (h2 : k = false → ∀ R : VK, (∀ y H', Pq y H' → R y H') → tb σ H R) (q : ∀ y H', Pq y H' → Q y H') : ∃ k, TruV K x H k ∧ if k = true then Q x H else tb σ H Q := by
  refine ⟨k, h, ?_⟩
  cases k
  · exact iteF (h2 rfl _ q)
  · exact iteT (q _ _ (h1 rfl))
theorem okPoint_len {d : Nat} {p : List Int} (h : okPoint d p = true) : p.length = d := by
  unfold okPoint at h
  rw [Bool.and_eq_true, decide_eq_true_eq] at h
  omega
theorem okPoint_pos {d : Int} {p : List Int} (h : okPoint d p = true) : ∀ n ∈ p, 0 ≤ n := fun n hn => by
  unfold okPoint at h
  rw [Bool.and_eq_true, List.all_eq_true] at h
  have z := h.2 n hn
  rwa [decide_eq_true_eq] at z
theorem aroL_list {names : List Str} {x : Str} {p : List Int} {d : Nat} (pd : p.length = d) : ((List.range names.length).map fun i => V.int (b01 (names.getD i "" == x))) ++ p.map V.int = (List.range (names.length + d)).map fun i => V.int (aroL names x p i) := by
  subst pd
  rw [List.range_add, List.map_append]
  congr 1
  · refine List.map_congr_left fun i hi => ?_
    rw [List.mem_range] at hi
    unfold aroL
    rw [if_pos hi]
  · refine List.ext_getElem? fun i => ?_
    rw [List.getElem?_map, List.map_map, List.getElem?_map]
    by_cases h : i < p.length
    · rw [List.getElem?_range h, List.getElem?_eq_getElem h]
      unfold aroL
      simp only [Option.map_some, Function.comp_apply]
      rw [if_neg (by omega), Nat.add_sub_cancel_left, List.getD_eq_getElem?_getD, List.getElem?_eq_getElem h]
      rfl
    · rw [List.getElem?_eq_none (by omega), List.getElem?_eq_none (by rw [List.length_range]; omega)]
      rfl
section
variable {P : Program} {w : World} {K : PySem.W.Frag} {mg : Str → Option Value} {base : Heap}
def spAroundX (K : PySem.W.Frag) (C CA CT CI : Addr) : Sp := fun vs H Q E => ∃ (a dx sy : Addr) (d : Nat) (m : Int) (ts : List Tb) (v : V) (x : Str) (p : List Int) (B : Hp), vs = [.ref a, .ref sy, v] ∧ H a = some (.ins CA dx []) ∧ Same B H ∧ B a = none ∧ SysAt K C B sy d m ts ∧ Dp K B v (ceD x p) ∧ p.length ≤ 100000 ∧ d ≤ 100 ∧
  (ts.map (·.n)).Nodup ∧ (ts.map fun t => t.rs.length).sum ≤ 30 ∧ (∀ l ∈ links ts, l.r.v.length = d) ∧
  CellQ CT CI d ts B v x p (∀ H' names pl, Same B H' → AroAt K CA H' a names pl x p d → PieceOf (links ts) x pl → NamesOf pl x names → Q .non H') E
theorem ok_around {f C CA CT CI : Addr} {fd : FuncData} (F : Fun K "__init__" "Around.__init__" s_Around_init f fd) (T : Txt mg) (TA : TxtA K mg CA) (x_check_cell : CalX P w K mg base 4 "check_cell" (spCellX K C CT CI)) (c_links_of : C8.Cal P w K mg base 5 "links_of" (spLinks K C) [])
    (c_piece_of : C8.Cal P w K mg base 3 "piece_of" (spPieceOf K) []) (c_tables_of : C8.Cal P w K mg base 1 "tables_of" (spTables K) []) (p_dimensions : Prp P w K mg base 1 C "dimensions" (spDims K C)) : FnOk P w K mg base (L2.CX P w) 6 f fd ["self", "system", "cell"] (spAroundX K C CA CT CI) := by
  refine fun_okX F sc_Around_init (fun vs H Q E h => ?_) (fun cdv A outer s H vs Q E hr h => ?_)
  · obtain ⟨a, dx, sy, d, m, ts, v, x, p, B, rfl, _⟩ := h
    rfl
  · obtain ⟨a, dx, sy, d, m, ts, v, x, p, B, rfl, ha, sB, na, S, hv, hz, hd, hnd, hfew, hvec, q⟩ := h
    refine ⟨_, (pss_cons (ps_expr (pe_cx x_check_cell hr (by decide) (by rfl) (takes_of rfl rfl rfl rfl) (pa_cons (pv 1) (pa_cons (pv 2) pa_nil))))
  (pss_cons (ps_asg (pv 2) (pg_tup rfl (pgs_cons (pg_name (i := 3) sc_Around_init.nd rfl (by first | exact Or.inl rfl | exact Or.inr rfl)) (pgs_cons (pg_name (i := 4) sc_Around_init.nd rfl (by first | exact Or.inl rfl | exact Or.inr rfl)) pgs_nil))))
  (pss_cons (ps_fld (pv 0) (C8.pe_c c_piece_of hr (by decide) (by rfl) (pa_cons (C8.pe_c c_links_of hr (by decide) (by rfl) (pa_cons (pv 1) pa_nil)) (pa_cons (pv 3) pa_nil))) rfl)
  (pss_cons (ps_set (i := 5) sc_Around_init.nd rfl (by first | exact Or.inl rfl | exact Or.inr rfl) (pe_listValsT rfl (by rfl) T.b_list (pe_fld (pv 0) rfl)))
  (pss_cons (ps_fld (pv 0) (pe_orT (C8.pe_c c_tables_of hr (by decide) (by rfl) (pa_cons (pv 5) pa_nil)) (pe_one (pe_lst (pa_cons (pv 3) pa_nil)))) rfl)
  (pss_cons (ps_fld (pv 0) (pe_lc (own := [("table", 7)]) (g := gName 7) (tt := tYes) (by rfl) sc_Around_init.nd (pi_list (pe_fld (pv 0) rfl)) (blkOk_by (N := ["self", "system", "cell", "name", "point", "links", "link", "table", "axis"]) (sc := defScope s_Around_init) (by decide +kernel)) (fun _ _ _ _ _ => (pg_name (i := 7) sc_Around_init.nd rfl (by first | exact Or.inl rfl | exact Or.inr rfl))) (fun _ _ _ _ _ => pts_nil) (fun _ _ _ _ _ => (pe_lc (own := [("link", 6)]) (g := gName 6) (tt := tYes) (by rfl) sc_Around_init.nd (pi_listK (K' := K) (pv 5)) (blkOk_by (N := ["self", "system", "cell", "name", "point", "links", "link", "table", "axis"]) (sc := { kind := .function, names := [(".0", .local), ("table", .cell), ("links", .cell)], isGenerator := false, isCoroutine := false }) (by decide +kernel)) (fun _ _ _ _ _ => (pg_name (i := 6) sc_Around_init.nd rfl (by first | exact Or.inl rfl | exact Or.inr rfl))) (fun _ _ _ _ _ => pts_nil) (fun _ _ _ _ _ => (pe_op op_sub (pe_callTy call_int1 (by rfl) T.b_int (by decide +kernel) (pa_cons (pe_cmpR op_eq (pe_ix (r := rIxT K) ix_tup (pv 6) pe_int (fun _ _ => rfl)) (pv 7) (nomark _)) pa_nil)) (pe_callTy call_int1 (by rfl) T.b_int (by decide +kernel) (pa_cons (pe_cmpR op_eq (pe_ix (r := rIxT K) ix_tup (pv 6) pe_int (fun _ _ => rfl)) (pv 7) (nomark _)) pa_nil))))))) rfl)
  (pss_cons (ps_expr (pe_bm PySem.F.plainAttrs_list PySem.F.slot_list_extend PySem.F.type_list_extend mt_extend (pe_fld (pv 0) rfl) (pa_cons (pe_lc (own := [("axis", 8)]) (g := gName 8) (tt := tYes) (by rfl) sc_Around_init.nd (pi_range1 (by rfl) T.b_range (pa_cons (pe_pr (pv 1) p_dimensions hr (by decide) rfl) pa_nil)) (blkOk_by (N := ["self", "system", "cell", "name", "point", "links", "link", "table", "axis"]) (sc := defScope s_Around_init) (by decide +kernel)) (fun _ _ _ _ _ => (pg_name (i := 8) sc_Around_init.nd rfl (by first | exact Or.inl rfl | exact Or.inr rfl))) (fun _ _ _ _ _ => pts_nil) (fun _ _ _ _ _ => (pe_lc (own := [("link", 6)]) (g := gName 6) (tt := tYes) (by rfl) sc_Around_init.nd (pi_listK (K' := K) (pv 5)) (blkOk_by (N := ["self", "system", "cell", "name", "point", "links", "link", "table", "axis"]) (sc := { kind := .function, names := [(".0", .local), ("axis", .cell), ("links", .cell)], isGenerator := false, isCoroutine := false }) (by decide +kernel)) (fun _ _ _ _ _ => (pg_name (i := 6) sc_Around_init.nd rfl (by first | exact Or.inl rfl | exact Or.inr rfl))) (fun _ _ _ _ _ => pts_nil) (fun _ _ _ _ _ => (pe_ix (r := rIxT K) ix_tup (pe_ix (r := rIxT K) ix_tup (pv 6) pe_int (fun _ _ => rfl)) (pv 8) (fun _ _ => rfl)))))) pa_nil)))
  (pss_one (ps_fld (pv 0) (pe_op op_cat (pe_lc (own := [("table", 7)]) (g := gName 7) (tt := tYes) (by rfl) sc_Around_init.nd (pi_list (pe_fld (pv 0) rfl)) (blkOk_by (N := ["self", "system", "cell", "name", "point", "links", "link", "table", "axis"]) (sc := defScope s_Around_init) (by decide +kernel)) (fun _ _ _ _ _ => (pg_name (i := 7) sc_Around_init.nd rfl (by first | exact Or.inl rfl | exact Or.inr rfl))) (fun _ _ _ _ _ => pts_nil) (fun _ _ _ _ _ => (pe_callTy call_int1 (by rfl) T.b_int (by decide +kernel) (pa_cons (pe_cmpR op_eq (pv 7) (pv 3) (nomark _)) pa_nil)))) (pe_callTy call_list_of (by rfl) T.b_list (by decide +kernel) (pa_cons (pv 4) pa_nil))) rfl))))))))), ?_⟩
    refine ⟨_, rfl, _, rfl, sy, d, m, ts, v, x, p, rfl, S.mono sB, dpm sB _ _ hv, hz, ?_⟩
    rcases q with ⟨hx, hp, q⟩ | ⟨hx, q⟩ | ⟨hx, hp, q⟩
    rotate_left
    · exact .inr (.inl ⟨hx, fun e H' sm he => q e H' (same_tr sB sm) he⟩)
    · exact .inr (.inr ⟨hx, hp, fun e H' sm he => q e H' (same_tr sB sm) he⟩)
    refine .inl ⟨hx, hp, fun H1 s1 => ?_⟩
    have sB1 := same_tr sB s1
    have ha1 := s1 _ _ ha
    obtain ⟨ca, xs, rfl, ht, hcd⟩ := dtup hv
    obtain ⟨x1, x2, rfl, h1, h2⟩ := dps2 hcd
    obtain rfl := dstr h1
    obtain ⟨pa, ps, rfl, hpt, hpd⟩ := dtup h2
    obtain rfl := dps_ints hpd
    refine ⟨_, rfl, ca, _, rfl, sqt sB1 ht, rfl, _, _, rfl, _, _, rfl, rfl, ?_⟩
    refine ⟨_, rfl, sy, d, m, ts, rfl, S.mono sB1, hnd, by omega, fun LA H2 kvs hLA s2 hL lk => ?_⟩
    have lnd : ((links ts).map fun l => (l.n, l.i)).Nodup := by rw [links_named]; exact named_nodup hnd
    have ll : (links ts).length ≤ 30 := by
      rw [← List.length_map (f := fun l : Lk => (l.n, l.i)), links_named, named_len]
      exact hfew
    refine ⟨_, rfl, LA, x, kvs, links ts, rfl, hL, lk, lnd, ll, fun LP H3 kvp pl hLP s3 hLP3 lkp po => ?_⟩
    have ha3 := s3 _ _ (s2 _ _ ha1)
    refine ⟨_, rfl, a, CA, dx, _, rfl, ha3, TA.cl, TA.nL, (by show 0 < 1000; decide), ?_⟩
    have LPa : LP ≠ a := (ne_of ha3 hLP3 (by intro z; cases z)).symm
    have sB4 : Same B (upd H3 a (.ins CA dx (putF "links" (.ref LP) []))) := smut (same_tr sB1 (same_tr s2 s3)) na
    have hL4 : (upd H3 a (.ins CA dx (putF "links" (.ref LP) []))) LP = some (.dT kvp) := by rw [upd_ne LPa]; exact hLP3
    have lk4 : LkAt K (upd H3 a (.ins CA dx (putF "links" (.ref LP) []))) kvp pl := lkp.mono (SD.upd (.of same_refl) ha3 rfl)
    have hs4 : (upd H3 a (.ins CA dx (putF "links" (.ref LP) []))) a = some (.ins CA dx [("links", .ref LP)]) := upd_same
    generalize upd H3 a (.ins CA dx (putF "links" (.ref LP) [])) = H4 at sB4 hL4 lk4 hs4 ⊢
    clear ha3 hLP3 lkp LPa s3 s2 hL lk ha1 s1 ha
    have pll : pl.length ≤ 30 := by
      rcases po with ⟨po, _⟩ | ⟨rfl, _⟩
      · exact Nat.le_trans (piece_sub po).1 ll
      · exact Nat.zero_le _
    have plm : ∀ l ∈ pl, l ∈ links ts := by
      rcases po with ⟨po, _⟩ | ⟨rfl, _⟩
      · exact (piece_sub po).2
      · intro l hl
        cases hl
    refine ⟨_, rfl, a, CA, dx, _, _, rfl, hs4, TA.cl, TA.nL, rfl, LP, kvp, rfl, hL4, fun q1 hq1 => ?_⟩
    have s5 := snew (o := .lst (kvp.map (·.2))) hq1
    have hq5 : (upd H4 q1 (.lst (kvp.map (·.2)))) q1 = some (.lst (kvp.map (·.2))) := upd_same
    have hs5 := s5 _ _ hs4
    have hL5 := s5 _ _ hL4
    have lk5 := lk4.mono (.of s5)
    have sB5 := same_tr sB4 s5
    have dv5 := lk5.vals
    generalize kvp.map (·.2) = us at s5 hq5 hs5 hL5 lk5 sB5 dv5 ⊢
    generalize upd H4 q1 (.lst us) = H5 at s5 hq5 hs5 hL5 lk5 sB5 dv5 ⊢
    clear sB4 hL4 lk4 hs4 sB1 hq1 s5 H4 hLP hLA H3 H2 H1
    have lus : us.length = pl.length := by rw [dps_len dv5, List.length_map]
    refine ⟨_, rfl, q1, us, pl, rfl, Or.inl (Or.inl hq5), dv5, pll, fun T1 H6 ys hT1 s6 hy tb => ?_⟩
    refine orU (fun y H' => ∃ Tn names, y = .ref Tn ∧ Same H5 H' ∧ H' Tn = some (.lst (names.map V.str)) ∧ NamesOf pl x names) (!ys.isEmpty) (.inl ⟨_, Or.inl (Or.inl hy), by cases ys <;> rfl⟩) (fun e => ⟨T1, ys, rfl, s6, hy, .inl ⟨tb, by rintro rfl; cases e⟩⟩) (fun e R hR => ?_) ?_
    · have ye : ys = [] := by
        cases ys
        · rfl
        · cases e
      have pe : pl = [] := by
        cases pl with
        | nil => rfl
        | cons l pl => exact absurd ((tb.mem l.n).mpr ⟨l, List.mem_cons_self .., .inl rfl⟩) (by rw [ye]; exact List.not_mem_nil)
      exact ⟨_, rfl, by show 1 ≤ sizeLine; decide, fun l hl => hR _ _ ⟨l, [x], rfl, same_tr s6 (snew hl), upd_same, .inr ⟨rfl, pe⟩⟩⟩
    · rintro _ H7 ⟨Tn, names, rfl, s7, hT7, nam⟩
      have hs7 := s7 _ _ hs5
      have nl := names_len nam
      clear hy tb hT1 s6 H6
      refine ⟨_, rfl, a, CA, dx, _, rfl, hs7, TA.cl, TA.nT, (by show 1 < 1000; decide), ?_⟩
      rw [putF_t]
      have sB8 : Same B (upd H7 a (.ins CA dx [("links", .ref LP), ("tables", .ref Tn)])) := smut (same_tr sB5 s7) na
      have hs8 : (upd H7 a (.ins CA dx [("links", .ref LP), ("tables", .ref Tn)])) a = some (.ins CA dx [("links", .ref LP), ("tables", .ref Tn)]) := upd_same
      have nea : ∀ {y : Addr} {o : HO}, H7 y = some o → dat o = true → (upd H7 a (.ins CA dx [("links", .ref LP), ("tables", .ref Tn)])) y = some o := fun {y o} h hd => SD.upd (.of same_refl) hs7 rfl y o h hd
      have hT8 := nea hT7 rfl
      have hL8 : (upd H7 a (.ins CA dx [("links", .ref LP), ("tables", .ref Tn)])) LP = some (.dT kvp) := by
        rw [upd_ne (ne_of hs7 (s7 _ _ hL5) (by intro z; cases z)).symm]
        exact s7 _ _ hL5
      have hq8 := nea (s7 _ _ hq5) rfl
      have lk8 := (lk5.mono (.of s7)).mono (SD.upd (.of same_refl) hs7 rfl : SD H7 (upd H7 a (.ins CA dx [("links", .ref LP), ("tables", .ref Tn)])))
      have dv8 := dpsd (SD.tr (.of s7) (SD.upd (.of same_refl) hs7 rfl : SD H7 (upd H7 a (.ins CA dx [("links", .ref LP), ("tables", .ref Tn)])))) _ _ dv5
      generalize upd H7 a (.ins CA dx [("links", .ref LP), ("tables", .ref Tn)]) = H8 at sB8 hs8 nea hT8 hL8 hq8 lk8 dv8 ⊢
      clear nea hs7 hT7 s7 H7 hs5 hL5 lk5 sB5 dv5 hq5 H5
      refine ⟨_, rfl, a, CA, dx, _, _, rfl, hs8, TA.cl, TA.nT, rfl, Tn, rfl, ⟨_, Or.inl (Or.inl hT8)⟩, fun D1 hD1 => lc_rows (walk_list (K := K) (a := Tn) (xs := names.map V.str)) (fun i => (List.range pl.length).map fun j => V.int (aroA names pl i j)) (by rw [List.length_map]; omega) hD1 (fun H' sm => sql sm (Or.inl (Or.inl hT8))) (fun i H x H' y => yat_same y) ?_ ?_⟩
      · rintro i v H9 H9' hi s9 ⟨rfl, hxi⟩ R hR
        rw [List.length_map] at hi
        rw [List.getElem?_map] at hxi
        obtain ⟨nm, hnm, rfl⟩ := Option.map_eq_some_iff.mp hxi
        have gnm : names.getD i "" = nm := by rw [List.getD_eq_getElem?_getD, hnm]; rfl
        have hq9 := s9 _ _ hq8
        have dv9 := dpsm s9 _ _ dv8
        refine ⟨rfl, _, rfl, q1, rfl, ⟨_, Or.inl (Or.inl hq9)⟩, fun D2 hD2 => lc_flat (walk_list (K := K) (a := q1) (xs := us)) (fun j => .int (aroA names pl i j)) (by omega) hD2 (fun H' sm => sql sm (Or.inl (Or.inl hq9))) (fun i H x H' y => yat_same y) ?_ ?_⟩
        · rintro j v G1 G2 hj t1 ⟨rfl, hxj⟩ R2 hR2
          obtain ⟨l, ua, w3, hl, rfl, ut, vt⟩ := lk_at (dpsm t1 _ _ dv9) hxj
          have r2 := hR2 _ same_refl
          unfold aroA at r2
          rw [hl] at r2
          simp only [if_pos hi, gnm] at r2
          refine ⟨rfl, _, rfl, ua, _, _, _, rfl, rfl, ut, rfl, _, rfl, rfl, Or.inr ⟨_, rfl, _, rfl, ua, _, _, _, rfl, rfl, ut, rfl, _, rfl, rfl, Or.inr ⟨_, rfl, _, _, rfl, rfl, ?_⟩⟩⟩
          rw [dec_str, dec_str]
          exact r2
        · intro G1 t1 hG
          rw [lus] at hG
          exact hR D2 G1 hD2 t1 hG
      · intro H9 rs s9 hD9 lrs ndr hrs
        rw [List.length_map] at lrs
        have hs9 := s9 _ _ hs8
        refine ⟨_, rfl, a, CA, dx, _, rfl, hs9, TA.cl, TA.nR, (by show 2 < 1000; decide), ?_⟩
        rw [putF_r]
        have sB10 : Same B (upd H9 a (.ins CA dx [("links", .ref LP), ("tables", .ref Tn), ("rows", .ref D1)])) := smut (same_tr sB8 s9) na
        have hs10 : (upd H9 a (.ins CA dx [("links", .ref LP), ("tables", .ref Tn), ("rows", .ref D1)])) a = some (.ins CA dx [("links", .ref LP), ("tables", .ref Tn), ("rows", .ref D1)]) := upd_same
        have sd : SD H9 (upd H9 a (.ins CA dx [("links", .ref LP), ("tables", .ref Tn), ("rows", .ref D1)])) := SD.upd (.of same_refl) hs9 rfl
        have sd8 := SD.tr (.of s9) sd
        have hT10 := sd _ _ (s9 _ _ hT8) rfl
        have hq10 := sd _ _ (s9 _ _ hq8) rfl
        have hD10 := sd _ _ hD9 rfl
        have hL10 : (upd H9 a (.ins CA dx [("links", .ref LP), ("tables", .ref Tn), ("rows", .ref D1)])) LP = some (.dT kvp) := by
          rw [upd_ne (ne_of hs9 (s9 _ _ hL8) (by intro z; cases z)).symm]
          exact s9 _ _ hL8
        have dv10 := dpsd (SD.tr (.of s9) sd) _ _ dv8
        have lk10 := (lk8.mono (.of s9)).mono sd
        have hrs10 : ∀ j r, rs[j]? = some r → H8 r = none ∧ r ≠ D1 ∧ (upd H9 a (.ins CA dx [("links", .ref LP), ("tables", .ref Tn), ("rows", .ref D1)])) r = some (.lst ((List.range pl.length).map fun k => V.int (aroA names pl j k))) := fun j r h => by
          obtain ⟨e1, e2, e3⟩ := hrs j r h
          exact ⟨e1, e2, sd _ _ e3 rfl⟩
        have D1B : B D1 = none := free_of sB8 hD1
        generalize upd H9 a (.ins CA dx [("links", .ref LP), ("tables", .ref Tn), ("rows", .ref D1)]) = H10 at sB10 hs10 sd hT10 hq10 hD10 hL10 dv10 lk10 hrs10 sd8 ⊢
        refine ⟨_, rfl, a, CA, dx, _, _, rfl, hs10, TA.cl, TA.nR, rfl, Or.inl ⟨rfl, _, Or.inl (Or.inl hD10)⟩, ?_⟩
        obtain ⟨dxS, tS, kvS, gS, _, _⟩ := (S.mono sB10).ob
        refine ⟨_, rfl, sy, dxS, _, rfl, gS, sy, d, m, ts, rfl, S.mono sB10, d, rfl, by omega, by omega, fun D2 hD2 => lc_rows walk_range (fun i => (List.range pl.length).map fun j => V.int (aroA names pl (names.length + i) j)) (by show d ≤ _; omega) hD2 (fun _ _ => True.intro) (fun i H x H' y => y.1 ▸ same_refl) ?_ ?_⟩
        · rintro i v H11 _ hi s11 ⟨rfl, rfl⟩ R hR
          have hi : i < d := hi
          have hq11 := s11 _ _ hq10
          have dv11 := dpsm s11 _ _ dv10
          refine ⟨rfl, _, rfl, q1, rfl, ⟨_, Or.inl (Or.inl hq11)⟩, fun D3 hD3 => lc_flat (walk_list (K := K) (a := q1) (xs := us)) (fun j => .int (aroA names pl (names.length + i) j)) (by omega) hD3 (fun H' sm => sql sm (Or.inl (Or.inl hq11))) (fun i H x H' y => yat_same y) ?_ ?_⟩
          · rintro j v G1 G2 hj t1 ⟨rfl, hxj⟩ R2 hR2
            obtain ⟨l, ua, w3, hl, rfl, ut, vt⟩ := lk_at (dpsm t1 _ _ dv11) hxj
            have r2 := hR2 _ same_refl
            unfold aroA at r2
            rw [hl] at r2
            simp only [if_neg (show ¬ (names.length + i < names.length) by omega), Nat.add_sub_cancel_left] at r2
            have lv : l.r.v.length = d := hvec l (plm l (List.mem_of_getElem? hl))
            have hvi : l.r.v[i]? = some (l.r.v.getD i 0) := by
              rw [List.getD_eq_getElem?_getD, List.getElem?_eq_getElem (by omega)]
              rfl
            refine ⟨rfl, _, rfl, ua, _, _, _, rfl, rfl, ut, rfl, _, rfl, w3, _, _, _, rfl, rfl, vt, ?_, r2⟩
            rw [Int.zero_add]
            refine atI_nat ?_
            rw [List.getElem?_map, hvi]
            rfl
          · intro G1 t1 hG
            rw [lus] at hG
            exact hR D3 G1 hD3 t1 hG
        · intro H11 rs2 s11 hD11 lrs2 ndr2 hrs2
          have hs11 := s11 _ _ hs10
          have hT11 := s11 _ _ hT10
          have hL11 := s11 _ _ hL10
          have hDD := s11 _ _ hD10
          refine ⟨D1, D2, _, _, rfl, rfl, hDD, hD11, by rw [List.length_map, List.length_map, lrs, lrs2, sizeLine_eq]; have := names_len nam; omega, ?_⟩
          have lra : (rs ++ rs2).length = names.length + d := by rw [List.length_append, lrs, lrs2, Int.toNat_natCast]
          have DT : Tn ≠ D1 := ne_of_none hT8 hD1
          have Da : a ≠ D1 := ne_of hs11 hDD (by intro z; cases z)
          have DL : LP ≠ D1 := ne_of hL11 hDD (by intro z; cases z)
          have sB12 : Same B (upd H11 D1 (.lst (rs.map V.ref ++ rs2.map V.ref))) := smut (same_tr sB10 s11) D1B
          have hs12 : (upd H11 D1 (.lst (rs.map V.ref ++ rs2.map V.ref))) a = some (.ins CA dx [("links", .ref LP), ("tables", .ref Tn), ("rows", .ref D1)]) := by rw [upd_ne Da]; exact hs11
          have hT12 : (upd H11 D1 (.lst (rs.map V.ref ++ rs2.map V.ref))) Tn = some (.lst (names.map V.str)) := by rw [upd_ne DT]; exact hT11
          have hL12 : (upd H11 D1 (.lst (rs.map V.ref ++ rs2.map V.ref))) LP = some (.dT kvp) := by rw [upd_ne DL]; exact hL11
          have hD12 : (upd H11 D1 (.lst (rs.map V.ref ++ rs2.map V.ref))) D1 = some (.lst ((rs ++ rs2).map V.ref)) := by rw [upd_same, List.map_append]
          have hrw : ∀ i r, (rs ++ rs2)[i]? = some r → (upd H11 D1 (.lst (rs.map V.ref ++ rs2.map V.ref))) r = some (.lst ((List.range pl.length).map fun j => V.int (aroA names pl i j))) := fun i r hi => by
            by_cases e : i < rs.length
            · rw [List.getElem?_append_left e] at hi
              obtain ⟨e1, e2, e3⟩ := hrs10 i r hi
              rw [upd_ne e2]
              exact s11 _ _ e3
            · rw [List.getElem?_append_right (by omega)] at hi
              obtain ⟨e1, e2, e3⟩ := hrs2 _ r hi
              rw [upd_ne (ne_of_none hD10 e1).symm, e3, show names.length + (i - rs.length) = i by omega]
          have sd12 : SD H8 (upd H11 D1 (.lst (rs.map V.ref ++ rs2.map V.ref))) := fun b o h hd => by
            rw [upd_ne (ne_of_none h hD1)]
            exact s11 _ _ (sd8 b o h hd)
          have lk12 := lk8.mono sd12
          generalize upd H11 D1 (.lst (rs.map V.ref ++ rs2.map V.ref)) = H12 at sB12 hs12 hT12 hL12 hD12 hrw lk12 ⊢
          generalize rs ++ rs2 = ra at hD12 hrw lra ⊢
          clear hs11 hT11 hL11 hDD hD11 s11 hs10 hT10 hL10 hD10 sB10 hq10 dv10 lk10
          refine ⟨_, rfl, a, CA, dx, _, _, rfl, hs12, TA.cl, TA.nT, rfl, Tn, rfl, ⟨_, Or.inl (Or.inl hT12)⟩, fun D3 hD3 => lc_flat (walk_list (K := K) (a := Tn) (xs := names.map V.str)) (fun i => .int (b01 (names.getD i "" == x))) (by rw [List.length_map]; omega) hD3 (fun H' sm => sql sm (Or.inl (Or.inl hT12))) (fun i H x H' y => yat_same y) ?_ ?_⟩
          · rintro i v H9 H9' hi s9 ⟨rfl, hxi⟩ R hR
            rw [List.getElem?_map] at hxi
            obtain ⟨nm, hnm, rfl⟩ := Option.map_eq_some_iff.mp hxi
            have r2 := hR _ same_refl
            rw [List.getD_eq_getElem?_getD, hnm] at r2
            refine ⟨rfl, _, rfl, _, rfl, rfl, Or.inr ⟨_, rfl, ?_⟩⟩
            rw [dec_str]
            exact r2
          · intro H13 s13 hD13
            rw [List.length_map] at hD13
            refine ⟨_, rfl, pa, _, rfl, Or.inr (sqt (same_tr sB12 s13) hpt), fun l hl => ?_⟩
            have s14 := snew (o := .lst (p.map V.int)) hl
            have pd : p.length = d := okPoint_len hp
            refine ⟨D3, l, _, _, rfl, rfl, s14 _ _ hD13, upd_same, ?_, fun M hM => ?_⟩
            · rw [List.length_map, List.length_map, List.length_range, pd, sizeLine_eq]
              omega
            have s15 := snew (o := .lst (((List.range names.length).map fun i => V.int (b01 (names.getD i "" == x))) ++ p.map V.int)) hM
            have s12 := same_tr s13 (same_tr s14 s15)
            have hs15 := s12 _ _ hs12
            refine ⟨_, rfl, a, CA, dx, _, rfl, hs15, TA.cl, TA.nM, (by show 3 < 1000; decide), ?_⟩
            rw [putF_m]
            have hM15 : (upd (upd H13 l (.lst (p.map V.int))) M (.lst (((List.range names.length).map fun i => V.int (b01 (names.getD i "" == x))) ++ p.map V.int))) M = some (.lst (((List.range names.length).map fun i => V.int (b01 (names.getD i "" == x))) ++ p.map V.int)) := upd_same
            generalize upd (upd H13 l (.lst (p.map V.int))) M (.lst (((List.range names.length).map fun i => V.int (b01 (names.getD i "" == x))) ++ p.map V.int)) = H15 at s12 hs15 hM15 ⊢
            have sd15 : SD H15 (upd H15 a (.ins CA dx [("links", .ref LP), ("tables", .ref Tn), ("rows", .ref D1), ("limits", .ref M)])) := SD.upd (.of same_refl) hs15 rfl
            have sdA : SD H12 (upd H15 a (.ins CA dx [("links", .ref LP), ("tables", .ref Tn), ("rows", .ref D1), ("limits", .ref M)])) := SD.tr (.of s12) sd15
            refine q _ names pl (smut (same_tr sB12 s12) na) ⟨dx, LP, Tn, D1, M, kvp, ra, upd_same, ?_, lk12.mono sdA, sdA _ _ hT12 rfl, sdA _ _ hD12 rfl, lra, fun i r h => sdA _ _ (hrw i r h) rfl, ?_⟩ po nam
            · rw [upd_ne (ne_of hs15 (s12 _ _ hL12) (by intro z; cases z)).symm]
              exact s12 _ _ hL12
            · rw [sd15 _ _ hM15 rfl]
              rw [aroL_list pd]
end
end Fr

namespace Fr
open PySem PySem.Spec PyProof.Rows L2
def aroP (names : List Str) (pl : List Lk) (x : Str) (p : List Int) (d : Nat) : Sx.Pr := Sx.prOf pl.length (names.length + d) (aroA names pl) (aroL names x p) fun _ => 1
def aroB (names : List Str) (pl : List Lk) (d : Nat) : Sx.Cfg := Sx.begins pl.length (names.length + d)
section
variable {P : Program} {w : World} {K : PySem.W.Frag} {mg : Str → Option Value} {base : Heap}
/-- what greatest answers -/
def GreatQ (H : Hp) (L : Sx.Pr) (b : Sx.Cfg) (Q : VK) : Prop := ∀ x, Sx.Reach L b x →
    (∀ c H', Same H H' → Sx.Enters L x c → (∀ r, r < L.m → Sx.gc L x r c ≤ 0) → Q .non H') ∧
    (Sx.Best L x → ∀ p p1 p2 H', Same H H' → H' p = some (.tup [.ref p1, .ref p2, .int (Sx.sc L x)]) → H' p1 = some (.lst (solV L x)) → H' p2 = some (.lst (priV L x)) → H p1 = none → H p2 = none → Q (.ref p) H')
def spBest (K : PySem.W.Frag) (CA : Addr) : Sp := fun vs H Q _ => ∃ (a : Addr) (names : List Str) (pl : List Lk) (x : Str) (p : List Int) (d : Nat), vs = [.ref a] ∧ AroAt K CA H a names pl x p d ∧ Fits (aroP names pl x p d) ∧ (∀ i, i < names.length + d → 0 ≤ aroL names x p i) ∧ GreatQ H (aroP names pl x p d) (aroB names pl d) Q
theorem ok_best {f CA : Addr} {fd : FuncData} (F : Fun K "best" "Around.best" s_Around_best f fd) (T : Txt mg) (TA : TxtA K mg CA) (c_greatest : C8.Cal P w K mg base 3 "greatest" (spGreatest K) []) : FnOk P w K mg base CX0 4 f fd ["self"] (spBest K CA) := by
  refine F.ok sc_Around_best (fun vs H Q E h => ?_) (fun cdv A outer s H vs Q E hr h => ?_)
  · obtain ⟨a, names, pl, x, p, d, rfl, _⟩ := h
    rfl
  · obtain ⟨a, names, pl, x, p, d, rfl, AO, FI, hL, q⟩ := h
    refine ⟨_, (pss_one (ps_ret (C8.pe_c c_greatest hr (by decide) (by rfl) (pa_cons (pe_fld (pv 0) rfl) (pa_cons (pe_fld (pv 0) rfl) (pa_cons (pe_op op_rep (pe_lst (pa_cons pe_int pa_nil)) (pe_callB call_len_dT (by rfl) T.b_len PySem.boot_len (pa_cons (pe_fld (pv 0) rfl) pa_nil))) pa_nil)))))), ?_⟩
    obtain ⟨dx, L, Tn, R, M, kvs, ra, h1, h2, h3, h4, h5, h6, h7, h8⟩ := AO.ob
    have n1 : pl.length ≤ 1000 := FI.n
    have lk : kvs.length = pl.length := Paired.length h3
    refine ⟨_, rfl, a, CA, dx, _, _, rfl, h1, TA.cl, TA.nR, rfl, _, rfl, a, CA, dx, _, _, rfl, h1, TA.cl, TA.nM, rfl, by show 1 ≤ sizeLine; decide, fun l hl => ?_⟩
    have s1 := snew (o := .lst [V.int 1]) hl
    refine ⟨_, rfl, a, CA, dx, _, _, rfl, s1 _ _ h1, TA.cl, TA.nL, rfl, L, kvs, rfl, s1 _ _ h2, l, _, _, rfl, rfl, upd_same, by omega, by omega, ?_, fun q1 hq1 => ?_⟩
    · rw [sizeLine_eq]
      show 1 * ((kvs.length : Nat) : Int).toNat ≤ _
      omega
    have s2 := snew (o := .lst (List.replicate ((kvs.length : Nat) : Int).toNat [V.int 1]).flatten) hq1
    have s12 := same_tr s1 s2
    have e : (List.replicate ((kvs.length : Nat) : Int).toNat [V.int 1]).flatten = (List.range pl.length).map fun j => V.int ((fun _ => (1 : Int)) j) := by
      rw [Int.toNat_natCast, lk]
      clear h3 lk n1 h7 h6 h5 q FI AO hL s2 s12 hq1
      induction pl.length with
      | zero => rfl
      | succ n ih =>
        rw [List.replicate_succ', List.flatten_append, ih, List.range_succ, List.map_append]
        rfl
    refine ⟨.ref R, .ref M, .ref q1, pl.length, names.length + d, aroA names pl, aroL names x p, fun _ => 1, rfl, ⟨R, M, q1, ra, rfl, rfl, rfl, s12 _ _ h5, h6, fun i r hi => s12 _ _ (h7 i r hi), Or.inl (Or.inl (s12 _ _ h8)), Or.inl (Or.inl ?_)⟩, FI, hL, fun y ry => ⟨fun c H' sm en hc => (q y ry).1 c H' (same_tr s12 sm) en hc, fun be t p1 p2 H' sm e1 e2 e3 e4 e5 => (q y ry).2 be t p1 p2 H' (same_tr s12 sm) e1 e2 e3 (free_of s12 e4) (free_of s12 e5)⟩⟩
    rw [← e]
    exact upd_same
end
end Fr

namespace Fr
open PySem PySem.Spec PyProof.Rows L2
abbrev s_way_bound : Stmt := topS 47
theorem sc_way_bound : FnScope ["system", "cell", "best", "weights", "_", "scale"] ["system", "cell"] (defScope s_way_bound) := ⟨rfl, rfl, rfl, by decide +kernel, rfl, by decide +kernel, by decide +kernel⟩
-- slots: 0 system, 1 cell, 2 best, 3 weights, 4 _, 5 scale
theorem fact_le {a b : Nat} (h : a ≤ b) : Dt.fact a ≤ Dt.fact b := by
  induction h with
  | refl => exact Nat.le_refl _
  | step _ ih =>
    show _ ≤ (_ + 1) * Dt.fact _
    exact Nat.le_trans ih (Nat.le_mul_of_pos_left _ (Nat.succ_pos _))
theorem fact_pos (a : Nat) : 1 ≤ Dt.fact a := fact_le (a := 0) (Nat.zero_le _)
/-- a system and a point whose numbers are small -/
structure ArOk (d : Nat) (ts : List Tb) (p : List Int) : Prop where
  nd : (ts.map (·.n)).Nodup
  few : (ts.map fun t => t.rs.length).sum ≤ 12
  dim : d ≤ 6
  vec : ∀ l ∈ links ts, l.r.v.length = d
  small : ∀ l ∈ links ts, ∀ n ∈ l.r.v, n.natAbs ≤ 2 ^ 100
  pt : ∀ n ∈ p, n.natAbs ≤ 2 ^ 100
theorem links_len {ts : List Tb} : (links ts).length = (ts.map fun t => t.rs.length).sum := by
  rw [← List.length_map (f := fun l : Lk => (l.n, l.i)), links_named, named_len]
theorem b01_le (b : Bool) : (b01 b).natAbs ≤ 1 ∧ 0 ≤ b01 b := by
  cases b <;> decide
theorem ar_fits {d : Nat} {ts : List Tb} {p : List Int} {x : Str} {names : List Str} {pl : List Lk} (A : ArOk d ts p) (po : PieceOf (links ts) x pl) (nam : NamesOf pl x names) : Fits (aroP names pl x p d) := by
  have sub : pl.length ≤ 12 ∧ ∀ l ∈ pl, l ∈ links ts := by
    rcases po with ⟨po, _⟩ | ⟨rfl, _⟩
    · have z := piece_sub po
      have q := A.few
      rw [links_len] at z
      exact ⟨by omega, z.2⟩
    · exact ⟨Nat.zero_le _, fun l hl => by cases hl⟩
  have nl := names_len nam
  have hd := A.dim
  have em : (aroP names pl x p d).m = names.length + d := rfl
  have en : (aroP names pl x p d).n = pl.length := rfl
  refine ⟨by omega, by omega, 2 ^ 100, ⟨Nat.one_le_two_pow, fun v hv i hi => ?_, fun i hi => ?_⟩, ?_⟩
  · show ((if v < pl.length then (fun i => if i < names.length + d then aroA names pl i v else if i = names.length + d then - (1 : Int) else 0) else Dt.e (v - pl.length)) i).natAbs ≤ _
    by_cases h : v < pl.length
    · rw [if_pos h]
      show (if i < names.length + d then aroA names pl i v else if i = names.length + d then - (1 : Int) else 0).natAbs ≤ _
      by_cases h2 : i < names.length + d
      · rw [if_pos h2]
        unfold aroA
        rw [List.getElem?_eq_getElem h]
        by_cases h3 : i < names.length
        · simp only [if_pos h3]
          have a1 := b01_le (pl[v].n == names.getD i "")
          have a2 := b01_le (pl[v].r.t == names.getD i "")
          have : 1 ≤ 2 ^ 100 := Nat.one_le_two_pow
          omega
        · simp only [if_neg h3]
          have hm := sub.2 _ (List.getElem_mem h)
          rw [List.getD_eq_getElem?_getD]
          cases e : pl[v].r.v[i - names.length]? with
          | none => exact Nat.zero_le _
          | some n => exact A.small _ hm n (List.mem_of_getElem? e)
      · rw [if_neg h2]
        split
        · exact Nat.one_le_two_pow
        · exact Nat.zero_le _
    · rw [if_neg h]
      unfold Dt.e
      split
      · exact Nat.one_le_two_pow
      · exact Nat.zero_le _
  · show (if i < names.length + d then aroL names x p i else 0).natAbs ≤ _
    split
    · unfold aroL
      split
      · have a1 := b01_le (names.getD i "" == x)
        have : 1 ≤ 2 ^ 100 := Nat.one_le_two_pow
        omega
      · rw [List.getD_eq_getElem?_getD]
        cases e : p[i - names.length]? with
        | none => exact Nat.zero_le _
        | some n => exact A.pt n (List.mem_of_getElem? e)
    · exact Nat.zero_le _
  · unfold Sx.big
    rw [em]
    have a1 : Dt.fact (names.length + d + 1) ≤ Dt.fact 32 := fact_le (by omega)
    have a2 : (2 ^ 100) ^ (names.length + d + 1) ≤ (2 ^ 100) ^ 32 := Nat.pow_le_pow_right (Nat.pow_pos (by decide)) (by omega)
    refine Nat.lt_of_le_of_lt (Nat.mul_le_mul a1 a2) ?_
    decide +kernel
theorem aroL_nonneg {d : Nat} {p : List Int} {x : Str} {names : List Str} (h : okPoint d p = true) (i : Nat) : 0 ≤ aroL names x p i := by
  unfold aroL
  split
  · exact (b01_le _).2
  · rw [List.getD_eq_getElem?_getD]
    cases e : p[i - names.length]? with
    | none => exact Int.le_refl _
    | some n => exact okPoint_pos h n (List.mem_of_getElem? e)
theorem X4 {L : Sx.Pr} {x : Sx.Cfg} (FI : Fits L) (ok : Sx.Ok L x) (v : Nat) : (Sx.X L x v).natAbs < 2 ^ 4000 := by
  obtain ⟨C, h1, h2⟩ := FI.c
  by_cases hv : v ∈ x.down
  · obtain ⟨i, hi, e⟩ := List.mem_iff_getElem.mp hv
    have e2 : x.down.getD i 0 = v := by rw [List.getD_eq_getElem?_getD, List.getElem?_eq_getElem hi, e]; rfl
    rw [← e2, Sx.X_at ok (by rw [← ok.ld]; exact hi)]
    exact Nat.lt_of_le_of_lt (Sx.g_big ok h1 fun t ht => h1.2.2 t ht) h2
  · rw [Sx.X_not ok hv]
    decide +kernel
theorem Zp4 {L : Sx.Pr} {x : Sx.Cfg} (FI : Fits L) (ok : Sx.Ok L x) {i : Nat} (hi : i < L.m) : (Zp L x i).natAbs < 2 ^ 4000 := by
  obtain ⟨C, h1, h2⟩ := FI.c
  exact Nat.lt_of_le_of_lt (Sx.g_big ok h1 fun t ht => h1.2.1 _ (by omega) t ht) h2
def solI (L : Sx.Pr) (x : Sx.Cfg) : List Int := (List.range L.n).map fun v => Sx.X L x v
theorem solV_I {L : Sx.Pr} {x : Sx.Cfg} : solV L x = (solI L x).map V.int := by
  unfold solV solI
  rw [List.map_map]
  rfl
theorem sum_small {b : Nat} : ∀ (ns : List Int), (∀ n ∈ ns, n.natAbs < 2 ^ b) → ns.sum.natAbs ≤ ns.length * 2 ^ b
  | [], _ => Nat.zero_le _
  | n :: ns, h => by
    have a := h n (List.mem_cons_self ..)
    have c := sum_small ns fun m hm => h m (List.mem_cons_of_mem _ hm)
    rw [List.sum_cons, List.length_cons, Nat.succ_mul]
    omega
theorem CellQ.map {CT CI : Addr} {d : Int} {ts : List Tb} {H : Hp} {v : V} {x : Str} {p : List Int} {G G' : Prop} {E : XK} (h : CellQ CT CI d ts H v x p G E) (f : okPoint d p = true → G → G') : CellQ CT CI d ts H v x p G' E := by
  rcases h with ⟨a, b, c⟩ | h | h
  · exact .inl ⟨a, b, f b c⟩
  · exact .inr (.inl h)
  · exact .inr (.inr h)
/-- the piece around a cell is made -/
theorem arMk {K : PySem.W.Frag} {C CA CT CI : Addr} {H : Hp} {a dx sy : Addr} {d : Nat} {m : Int} {ts : List Tb} {v : V} {x : Str} {p : List Int} {G : Prop} {E : XK} {Q : VK} (ha : H a = none) (hdx : H dx = none) (nda : dx ≠ a) (S : SysAt K C H sy d m ts) (hv : Dp K H v (ceD x p)) (hz : p.length ≤ 100000) (A : ArOk d ts p)
    (q : CellQ CT CI d ts H v x p G E) (k : G → ∀ H' names pl, Same H H' → AroAt K CA H' a names pl x p d → PieceOf (links ts) x pl → NamesOf pl x names → Fits (aroP names pl x p d) → (∀ i, i < names.length + d → 0 ≤ aroL names x p i) → Q .non H') :
    spAroundX K C CA CT CI [.ref a, .ref sy, v] (upd (upd H dx (.own a)) a (.ins CA dx [])) Q E := by
  have hd := A.dim
  have hf := A.few
  exact ⟨a, dx, sy, d, m, ts, v, x, p, H, rfl, upd_same, smut (snew hdx) ha, ha, S, hv, hz, by omega, A.nd, by omega, A.vec, q.map fun hp g H' names pl sm AO po nam => k g H' names pl sm AO po nam (ar_fits A po nam) fun i _ => aroL_nonneg hp i⟩
theorem AroAt.ins {K : PySem.W.Frag} {C : Addr} {H : Hp} {a : Addr} {names : List Str} {pl : List Lk} {x : Str} {p : List Int} {d : Nat} (h : AroAt K C H a names pl x p d) : ∃ dx fs, H a = some (.ins C dx fs) ∧ fs.lookup ("best" : Str) = none := by
  obtain ⟨dx, L, T, R, M, kvs, ra, h1, _⟩ := h.ob
  refine ⟨dx, _, h1, ?_⟩
  unfold aroF
  simp only [List.lookup, beq_false_of_ne (show ¬ (("best" : Str) = "links") by decide +kernel), beq_false_of_ne (show ¬ (("best" : Str) = "tables") by decide +kernel), beq_false_of_ne (show ¬ (("best" : Str) = "rows") by decide +kernel), beq_false_of_ne (show ¬ (("best" : Str) = "limits") by decide +kernel)]
section
variable {P : Program} {w : World} {K : PySem.W.Frag} {mg : Str → Option Value} {base : Heap}
/-- a door that asks a system and a cell: a cell that is none is refused -/
def spDoorX (K : PySem.W.Frag) (C CT CI : Addr) (more : List V → Hp → List Tb → Prop) : Sp := fun vs H Q E => ∃ (sy : Addr) (d : Nat) (m : Int) (ts : List Tb) (v : V) (x : Str) (p : List Int) (rest : List V), vs = .ref sy :: v :: rest ∧ more rest H ts ∧ SysAt K C H sy d m ts ∧ Dp K H v (ceD x p) ∧ p.length ≤ 100000 ∧ ArOk d ts p ∧
  CellQ CT CI d ts H v x p (∀ y H', Same H H' → Q y H') E
def noMore : List V → Hp → List Tb → Prop := fun r _ _ => r = []
theorem ok_way {f C CA CT CI : Addr} {fd : FuncData} (F : Fun K "way_bound" "way_bound" s_way_bound f fd) (T : Txt mg) (zs : mg "sum" = none) (TA : TxtA K mg CA) (x_Around : MakX P w K mg base 6 "Around" CA (spAroundX K C CA CT CI)) (t_best : C8.Met P w K mg base 4 CA "best" (spBest K CA) []) (c_fraction : C8.Cal P w K mg base 2 "fraction" spFraction []) :
    FnOk P w K mg base (L2.CX P w) 8 f fd ["system", "cell"] (spDoorX K C CT CI noMore) := by
  refine fun_okX F sc_way_bound (fun vs H Q E h => ?_) (fun cdv A outer s H vs Q E hr h => ?_)
  · obtain ⟨sy, d, m, ts, v, x, p, rest, rfl, rfl, _⟩ := h
    rfl
  · obtain ⟨sy, d, m, ts, v, x, p, rest, rfl, rfl, S, hv, hz, AR, q⟩ := h
    refine ⟨_, (pss_cons (ps_set (i := 2) sc_way_bound.nd rfl (by first | exact Or.inl rfl | exact Or.inr rfl) (C8.pe_mt0 t_best hr (by decide) (pe_mkX x_Around hr (by decide) (by rfl) (takes_of rfl rfl rfl rfl) (pa_cons (pv 0) (pa_cons (pv 1) pa_nil)))))
  (pss_cons (ps_if (pt_cmpR op_isN (pv 2) pe_non (nomark _))
    (pss_one (ps_ret pe_non))
    pss_nil)
  (pss_cons (ps_asg (pv 2) (pg_tup rfl (pgs_cons (pg_name (i := 3) sc_way_bound.nd rfl (by first | exact Or.inl rfl | exact Or.inr rfl)) (pgs_cons (pg_name (i := 4) sc_way_bound.nd rfl (by first | exact Or.inl rfl | exact Or.inr rfl)) (pgs_cons (pg_name (i := 5) sc_way_bound.nd rfl (by first | exact Or.inl rfl | exact Or.inr rfl)) pgs_nil)))))
  (pss_one (ps_ret (C8.pe_c c_fraction hr (by decide) (by rfl) (pa_cons (pe_callB (cr_sum rfl) (by rfl) zs (by decide +kernel) (pa_cons (pv 3) pa_nil)) (pa_cons (pv 5) pa_nil)))))))), ?_⟩
    refine ⟨_, rfl, _, rfl, fun a dx ha hdx nda => arMk ha hdx nda S hv hz AR q fun g H1 names pl s1 AO po nam FI hL => ⟨rfl, ?_⟩⟩
    obtain ⟨dx1, fs, hins, nb⟩ := AO.ins
    refine ⟨a, dx1, fs, rfl, hins, nb, a, names, pl, x, p, d, rfl, AO, FI, hL, fun y ry => ⟨fun c H2 s2 _ _ => ?_, fun be t p1 p2 H2 s2 e1 e2 e3 _ _ => ?_⟩⟩
    · refine ⟨_, rfl, rfl, _, rfl, iteT ?_⟩
      exact g _ _ (same_tr s1 s2)
    · refine ⟨_, rfl, rfl, _, rfl, iteF ?_⟩
      refine ⟨_, rfl, t, _, rfl, Or.inl (Or.inl e1), rfl, _, _, rfl, _, _, rfl, _, _, rfl, rfl, ?_⟩
      have ok := ry.ok (Sx.begin_ok hL)
      refine ⟨_, rfl, p1, solI (aroP names pl x p d) y, rfl, Or.inl (Or.inl (by rw [e2, solV_I])), _, rfl, _, _, rfl, ?_, ?_, fun p4 H3 _ s3 _ => g _ _ (same_tr s1 (same_tr s2 s3))⟩
      · refine Nat.lt_of_le_of_lt (sum_small (b := 4000) _ fun n hn => ?_) (Nat.lt_of_le_of_lt (Nat.mul_le_mul_right _ (show (solI (aroP names pl x p d) y).length ≤ 1000 by unfold solI; rw [List.length_map, List.length_range]; exact FI.n)) (by decide +kernel))
        unfold solI at hn
        obtain ⟨v, _, rfl⟩ := List.mem_map.mp hn
        exact X4 FI ok v
      · exact Nat.lt_trans (sc4 FI ok) (by decide +kernel)
end
end Fr

namespace Fr
open PySem PySem.Spec PyProof.Rows L2
/-- dict(zip(a, b)) of lists, the first one's items keys -/
def tDctZip (K : PySem.W.Frag) (ta : TA) : TE := fun σ H Q => ta σ H fun vs H1 => ∃ (a b : Addr) (ks : List Key) (ys : List V), vs = [.ref a, .ref b] ∧ SqL K H1 a (ks.map kV) ∧ SqL K H1 b ys ∧ ∀ S, H1 S = none → Q (.ref S) (upd H1 S (.dK (mergeK [] (ks.zip ys))))
theorem zip_kv {P : Program} {w : World} : ∀ {ks : List Key} {ys : List V} {us vs : List Value}, Vals (ks.map kV) us → Vals ys vs → ∃ prs : List (Key × Value), KV (ks.zip ys) prs ∧ prs.length = min us.length vs.length ∧ ∀ (i : Nat) (key v : Value), us[i]? = some key ∧ vs[i]? = some v → ∃ k, prs[i]? = some (k, v) ∧ (mixKind P w).is k key = true
  | [], ys, us, vs, h1, h2 => by
    cases h1
    exact ⟨[], .nil, by simp, fun i key v e => by cases e.1⟩
  | k :: ks, [], us, vs, h1, h2 => by
    cases h2
    exact ⟨[], .nil, by simp, fun i key v e => by cases e.2⟩
  | k :: ks, y :: ys, _, _, h1, h2 => by
    cases h1 with
    | @cons _ u _ us g1 g2 =>
      cases h2 with
      | @cons _ v _ vs g3 g4 =>
        obtain ⟨prs, r, l, f⟩ := zip_kv (P := P) (w := w) g2 g4
        refine ⟨(k, v) :: prs, .cons ⟨rfl, g3⟩ r, by rw [List.length_cons, List.length_cons, List.length_cons, l]; omega, fun i key z e => ?_⟩
        cases i with
        | zero =>
          obtain ⟨e1, e2⟩ := e
          cases e1
          cases e2
          exact ⟨k, rfl, kV_is (P := P) (w := w) g1⟩
        | succ i =>
          obtain ⟨k', e1, e2⟩ := f i key z ⟨by simpa using e.1, by simpa using e.2⟩
          exact ⟨k', by simpa using e1, e2⟩
theorem pe_dictZip {e e2 : Expr} {ta : TA} {p p2 pos pos2 : Pos} (hc : X.calm = true) (hg : Gl X "dict") (hm : X.mg "dict" = none) (hg2 : Gl X "zip") (hm2 : X.mg "zip" = none) (ha : PA X [e, e2] ta)
    (hs : starEach [e, e2] X.env = (false, eval e X.env) :: starEach [e2] X.env := by rfl) (hpl : (backTo pos2 (starEach [e2] X.env)).any (·.1) = false := by rfl)
    (na : starEach [.Call (.Name "zip" p2) [e, e2] [] pos2] X.env = (false, eval (.Call (.Name "zip" p2) [e, e2] [] pos2) X.env) :: starEach [] X.env := by rfl) : PE X (.Call (.Name "dict" p) [.Call (.Name "zip" p2) [e, e2] [] pos2] [] pos) (tDctZip X.K ta) := by
  refine ⟨fun pins s σ H Q I h => ?_⟩
  refine Call_ (ld_blt I hg hm boot_dict (PyProof.Rows.callWith_type1 (args_cons ?_ na) na))
  refine Call_ (ld_blt I hg2 hm2 PyProof.Rows.boot_zip (PyProof.Rows.callWith_type1 (thn (ha.run pos2 pins s σ H _ I h) fun us s1 ⟨vs, H1, I1, r1, a, b, ks, ys, ex, hqx, hqy, q⟩ => ?_) hs hpl))
  subst ex
  obtain ⟨u, v, rfl, ru, rv'⟩ := vals2 r1
  cases ru
  cases rv'
  obtain ⟨its, rv, p1, hz1⟩ := I1.list hqx
  obtain ⟨its2, rv2, pp2, hz2⟩ := I1.list hqy
  have la : a < s1.heap.objs.size := p1.lt
  have lb : b < s1.heap.objs.size := pp2.lt
  refine call_zip_2 p1.isList pp2.isList fun h' hz hTI hTO h1 h2 hsz hk => args_nil ?_
  have D := PySem.W.ktu_apart s1.heap.objs.size a b la lb
  have hl1 : h'.IsList a its.toArray := p1.isList.at fun o e => hk _ o e
  have hl2 : h'.IsList b its2.toArray := pp2.isList.at fun o e => hk _ o e
  obtain ⟨prs, kv, lp, hp⟩ := zip_kv (P := X.prog) (w := X.w) rv rv2
  have lx := rv.length
  rw [List.length_map] at lx hz1
  have hmin : min its.toArray.size its2.toArray.size ≤ sizeLine := by
    rw [List.size_toArray, List.size_toArray]
    omega
  refine PySem.call_dict_pairs (s := { s1 with heap := h' }) (knd := mixKind X.prog X.w) (kvs := prs) (PairArg.zip _ _ _ _ _ a b D its.toArray its2.toArray) (I1.ok.hd hc) ⟨hz, hTI, ⟨_, _, hTO⟩, h1, h2, hl1, hl2⟩ ⟨by rw [lp, List.size_toArray, List.size_toArray], fun i key v e => hp i key v (by simpa using e)⟩ hmin fun h2' tk hd hkp => ?_
  have k2 : ∀ b o, s1.heap.get? b = some o → h2'.get? b = some o := fun b o e => by
    have hlt : b < s1.heap.objs.size := Heap.lt_size e
    have ne : ∀ n : Nat, b ≠ s1.heap.objs.size + n := fun n => Nat.ne_of_lt (Nat.lt_of_lt_of_le hlt (Nat.le_add_right _ _))
    refine hkp b o (fun z => ?_) (hk b o e)
    simp only [List.mem_cons, List.not_mem_nil, or_false] at z
    rcases z with z | z | z | z
    · exact ne 4 z
    · exact ne 3 z
    · exact ne 0 z
    · exact ne 1 z
  have big : s1.heap.objs.size ≤ h'.objs.size := by rw [hsz]; exact Nat.le_add_right _ _
  have hm' : (h'.objs.size == sysModules) = false := beq_eq_false_iff_ne.mpr (Nat.ne_of_gt (Nat.lt_of_lt_of_le I1.big big))
  have hlen : (mergeK [] (ks.zip ys)).length ≤ sizeLine := by
    refine Nat.le_trans (length_mergeK (ks.zip ys) []) ?_
    rw [List.length_nil, Nat.zero_add, List.length_zip]
    exact Nat.le_trans (Nat.min_le_left _ _) hz1
  exact ⟨.ref h'.objs.size, upd H1 h'.objs.size (.dK (mergeK [] (ks.zip ys))), I1.laid (t' := tk) k2 big (show ObjOk X.prog X.w _ _ _ (.dK (mergeK [] (ks.zip ys))) from ⟨hlen, hm', merged [] prs, KV.merge kv .nil, hd⟩), rfl, q _ (I1.hok.fresh big)⟩
end Fr

namespace Fr
open PySem PySem.Spec PyProof.Rows L2
abbrev s_bound_numbers : Stmt := topS 48
theorem sc_bound_numbers : FnScope ["system", "cell", "around", "best", "_", "prices", "scale", "numbers", "price"] ["system", "cell"] (defScope s_bound_numbers) := ⟨rfl, rfl, rfl, by decide +kernel, rfl, by decide +kernel, by decide +kernel⟩
-- slots: 0 system, 1 cell, 2 around, 3 best, 4 _, 5 prices, 6 scale, 7 numbers, 8 price
abbrev s_flow_weights : Stmt := topS 49
theorem sc_flow_weights : FnScope ["system", "cell", "around", "best", "weights", "_", "scale", "read", "weight"] ["system", "cell"] (defScope s_flow_weights) := ⟨rfl, rfl, rfl, by decide +kernel, rfl, by decide +kernel, by decide +kernel⟩
-- slots: 0 system, 1 cell, 2 around, 3 best, 4 weights, 5 _, 6 scale, 7 read, 8 weight
section
variable {P : Program} {w : World} {K : PySem.W.Frag} {mg : Str → Option Value} {base : Heap}
theorem ok_bound_numbers {f C CA CT CI : Addr} {fd : FuncData} (F : Fun K "bound_numbers" "bound_numbers" s_bound_numbers f fd) (T : Txt mg) (zd : mg "dict" = none) (TA : TxtA K mg CA) (x_Around : MakX P w K mg base 6 "Around" CA (spAroundX K C CA CT CI)) (t_best : C8.Met P w K mg base 4 CA "best" (spBest K CA) []) (c_fraction : C8.Cal P w K mg base 2 "fraction" spFraction []) :
    FnOk P w K mg base (L2.CX P w) 8 f fd ["system", "cell"] (spDoorX K C CT CI noMore) := by
  refine fun_okX F sc_bound_numbers (fun vs H Q E h => ?_) (fun cdv A outer s H vs Q E hr h => ?_)
  · obtain ⟨sy, d, m, ts, v, x, p, rest, rfl, rfl, _⟩ := h
    rfl
  · obtain ⟨sy, d, m, ts, v, x, p, rest, rfl, rfl, S, hv, hz, AR, q⟩ := h
    refine ⟨_, (pss_cons (ps_set (i := 2) sc_bound_numbers.nd rfl (by first | exact Or.inl rfl | exact Or.inr rfl) (pe_mkX x_Around hr (by decide) (by rfl) (takes_of rfl rfl rfl rfl) (pa_cons (pv 0) (pa_cons (pv 1) pa_nil))))
  (pss_cons (ps_set (i := 3) sc_bound_numbers.nd rfl (by first | exact Or.inl rfl | exact Or.inr rfl) (C8.pe_mt0 t_best hr (by decide) (pv 2)))
  (pss_cons (ps_if (pt_cmpR op_isN (pv 3) pe_non (nomark _))
    (pss_one (ps_ret pe_non))
    pss_nil)
  (pss_cons (ps_asg (pv 3) (pg_tup rfl (pgs_cons (pg_name (i := 4) sc_bound_numbers.nd rfl (by first | exact Or.inl rfl | exact Or.inr rfl)) (pgs_cons (pg_name (i := 5) sc_bound_numbers.nd rfl (by first | exact Or.inl rfl | exact Or.inr rfl)) (pgs_cons (pg_name (i := 6) sc_bound_numbers.nd rfl (by first | exact Or.inl rfl | exact Or.inr rfl)) pgs_nil)))))
  (pss_cons (ps_setLc (i := 7) (own := [("price", 8)]) (g := gName 8) (tt := tYes) (by rfl) sc_bound_numbers.nd rfl rfl (sw_true rfl rfl rfl (by decide +kernel)) (pi_list (pv 5)) (blkOk_by (N := ["system", "cell", "around", "best", "_", "prices", "scale", "numbers", "price"]) (sc := defScope s_bound_numbers) (by decide +kernel)) (fun _ _ _ _ _ => (pg_name (i := 8) sc_bound_numbers.nd rfl (by first | exact Or.inl rfl | exact Or.inr rfl))) (fun _ _ _ _ _ => pts_nil) (fun _ _ _ _ _ => (C8.pe_c c_fraction hr (by decide) (by rfl) (pa_cons (pv 8) (pa_cons (pv 6) pa_nil)))))
  (pss_one (ps_ret (pe_tup (pa_cons (pe_callTy call_tuple_of (by rfl) T.b_tuple (by decide +kernel) (pa_cons (pe_slice sl_list (pv 7) (po_some (pe_callB call_len_seq (by rfl) T.b_len PySem.boot_len (pa_cons (pe_fld (pv 2) rfl) pa_nil))) po_none) pa_nil)) (pa_cons (pe_dictZip rfl (by rfl) zd (by rfl) T.b_zip (pa_cons (pe_fld (pv 2) rfl) (pa_cons (pv 7) pa_nil))) pa_nil)))))))))), ?_⟩
    refine ⟨_, rfl, _, rfl, fun a dx ha hdx nda => arMk ha hdx nda S hv hz AR q fun g H1 names pl s1 AO po nam FI hL => ⟨rfl, ?_⟩⟩
    obtain ⟨dx1, fs, hins, nb⟩ := AO.ins
    refine ⟨_, rfl, a, dx1, fs, rfl, hins, nb, a, names, pl, x, p, d, rfl, AO, FI, hL, fun y ry => ⟨fun c H2 s2 _ _ => ?_, fun be t p1 p2 H2 s2 e1 e2 e3 _ _ => ?_⟩⟩
    · refine ⟨_, rfl, rfl, _, rfl, iteT ?_⟩
      exact g _ _ (same_tr s1 s2)
    · refine ⟨_, rfl, rfl, _, rfl, iteF ?_⟩
      refine ⟨_, rfl, t, _, rfl, Or.inl (Or.inl e1), rfl, _, _, rfl, _, _, rfl, _, _, rfl, rfl, ?_⟩
      have ok := ry.ok (Sx.begin_ok hL)
      have AO2 := AO.mono s2
      have em : (aroP names pl x p d).m = names.length + d := rfl
      have m1 := FI.m
      refine ⟨_, rfl, p2, rfl, ⟨_, Or.inl (Or.inl e3)⟩, fun D hD => lc_it (walk_list (K := K) (a := p2) (xs := priV (aroP names pl x p d) y))
        (fun i H' => ∃ vs : List V, vs.length = i ∧ H' D = some (.lst vs) ∧ Same H2 H') ⟨[], rfl, upd_same, snew hD⟩ (fun i H' _ ⟨_, _, _, s3⟩ => Or.inl (Or.inl (s3 _ _ e3))) ?_ ?_⟩
      · rintro i v H3 H4 hi ⟨vs, lvs, hDv, s3⟩ ⟨rfl, hxi⟩
        unfold priV at hi hxi
        rw [List.length_map, List.length_range] at hi
        rw [List.getElem?_map, List.getElem?_range hi] at hxi
        cases hxi
        refine ⟨rfl, _, rfl, _, rfl, _, _, rfl, Nat.lt_trans (Zp4 FI ok hi) (by decide +kernel), Nat.lt_trans (sc4 FI ok) (by decide +kernel), fun p4 H5 _ s5 _ => ?_⟩
        exact ⟨vs, s5 _ _ hDv, by rw [lvs, sizeLine_eq]; omega, vs ++ [.ref p4], by rw [List.length_append, lvs]; rfl, upd_same, smut (same_tr s3 s5) hD⟩
      · rintro H3 ⟨vs, lvs, hDv, s3⟩
        unfold priV at lvs
        rw [List.length_map, List.length_range] at lvs
        have AO3 := AO2.mono s3
        obtain ⟨dx2, L, Tn, R, M, kvs, ra, h1, h2, h3, h4, h5, h6, h7, h8⟩ := AO3.ob
        refine ⟨_, rfl, _, rfl, a, CA, dx2, _, _, rfl, h1, TA.cl, TA.nT, rfl, Tn, _, rfl, Or.inl (Or.inl (Or.inl h4)), ?_⟩
        refine ⟨_, rfl, D, vs, rfl, Or.inl (Or.inl hDv), fun q1 hq1 => ?_⟩
        have s4 := snew (o := .lst (cutV vs (some ((names.map V.str).length : Int)) none)) hq1
        refine ⟨q1, _, rfl, Or.inl ⟨Or.inl (Or.inl upd_same), fun t1 ht1 => ?_⟩⟩
        have s5 := snew (o := .tup (cutV vs (some ((names.map V.str).length : Int)) none)) ht1
        have s45 := same_tr s4 s5
        refine ⟨_, rfl, a, CA, dx2, _, _, rfl, s45 _ _ h1, TA.cl, TA.nT, rfl, _, rfl, Tn, D, names.map Sum.inr, vs, rfl, Or.inl (Or.inl ?_), Or.inl (Or.inl (s45 _ _ hDv)), fun S2 hS2 => ?_⟩
        · rw [List.map_map]
          exact s45 _ _ h4
        · exact ⟨by show 2 ≤ sizeLine; decide, fun q2 hq2 => g _ _ (same_tr s1 (same_tr s2 (same_tr s3 (same_tr s45 (same_tr (snew hS2) (snew hq2))))))⟩
theorem ok_flow_weights {f C CA CT CI : Addr} {fd : FuncData} (F : Fun K "flow_weights" "flow_weights" s_flow_weights f fd) (T : Txt mg) (TA : TxtA K mg CA) (x_Around : MakX P w K mg base 6 "Around" CA (spAroundX K C CA CT CI)) (t_best : C8.Met P w K mg base 4 CA "best" (spBest K CA) []) (c_fraction : C8.Cal P w K mg base 2 "fraction" spFraction []) :
    FnOk P w K mg base (L2.CX P w) 8 f fd ["system", "cell"] (spDoorX K C CT CI noMore) := by
  refine fun_okX F sc_flow_weights (fun vs H Q E h => ?_) (fun cdv A outer s H vs Q E hr h => ?_)
  · obtain ⟨sy, d, m, ts, v, x, p, rest, rfl, rfl, _⟩ := h
    rfl
  · obtain ⟨sy, d, m, ts, v, x, p, rest, rfl, rfl, S, hv, hz, AR, q⟩ := h
    have hu := hu_of hr
    refine ⟨_, (pss_cons (ps_set (i := 2) sc_flow_weights.nd rfl (by first | exact Or.inl rfl | exact Or.inr rfl) (pe_mkX x_Around hr (by decide) (by rfl) (takes_of rfl rfl rfl rfl) (pa_cons (pv 0) (pa_cons (pv 1) pa_nil))))
  (pss_cons (ps_set (i := 3) sc_flow_weights.nd rfl (by first | exact Or.inl rfl | exact Or.inr rfl) (C8.pe_mt0 t_best hr (by decide) (pv 2)))
  (pss_cons (ps_if (pt_cmpR op_isN (pv 3) pe_non (nomark _))
    (pss_one (ps_ret pe_non))
    pss_nil)
  (pss_cons (ps_asg (pv 3) (pg_tup rfl (pgs_cons (pg_name (i := 4) sc_flow_weights.nd rfl (by first | exact Or.inl rfl | exact Or.inr rfl)) (pgs_cons (pg_name (i := 5) sc_flow_weights.nd rfl (by first | exact Or.inl rfl | exact Or.inr rfl)) (pgs_cons (pg_name (i := 6) sc_flow_weights.nd rfl (by first | exact Or.inl rfl | exact Or.inr rfl)) pgs_nil)))))
  (pss_one (ps_ret (pe_lock (pe_dcT (own := [("read", 7), ("weight", 8)]) (g := gTup K 2 (gCons (gName 7) (gCons (gName 8) gNil))) (tt := tYes) (Nat.lt_of_succ_lt hu) (by rfl) sc_flow_weights.nd (pi_zipKL (by rfl) T.b_zip (pa_cons (pe_fld (pv 2) rfl) (pa_cons (pv 4) pa_nil))) (blkOk_by (N := ["system", "cell", "around", "best", "weights", "_", "scale", "read", "weight"]) (sc := defScope s_flow_weights) (by decide +kernel)) (fun _ _ _ _ _ => (pg_tup rfl (pgs_cons (pg_name (i := 7) sc_flow_weights.nd rfl (by first | exact Or.inl rfl | exact Or.inr rfl)) (pgs_cons (pg_name (i := 8) sc_flow_weights.nd rfl (by first | exact Or.inl rfl | exact Or.inr rfl)) pgs_nil)))) (fun _ _ _ _ _ => pts_nil) (fun _ _ _ _ _ => (pv 7)) (fun _ _ _ _ _ => (C8.pe_c c_fraction hr (by decide) (by rfl) (pa_cons (pv 8) (pa_cons (pv 6) pa_nil)))))))))))), ?_⟩
    refine ⟨_, rfl, _, rfl, fun a dx ha hdx nda => arMk ha hdx nda S hv hz AR q fun g H1 names pl s1 AO po nam FI hL => ⟨rfl, ?_⟩⟩
    obtain ⟨dx1, fs, hins, nb⟩ := AO.ins
    refine ⟨_, rfl, a, dx1, fs, rfl, hins, nb, a, names, pl, x, p, d, rfl, AO, FI, hL, fun y ry => ⟨fun c H2 s2 _ _ => ?_, fun be t p1 p2 H2 s2 e1 e2 e3 _ _ => ?_⟩⟩
    · refine ⟨_, rfl, rfl, _, rfl, iteT ?_⟩
      exact g _ _ (same_tr s1 s2)
    · refine ⟨_, rfl, rfl, _, rfl, iteF ?_⟩
      refine ⟨_, rfl, t, _, rfl, Or.inl (Or.inl e1), rfl, _, _, rfl, _, _, rfl, _, _, rfl, rfl, ?_⟩
      have ok := ry.ok (Sx.begin_ok hL)
      have AO2 := AO.mono s2
      obtain ⟨dx2, L, Tn, R, M, kvs, ra, h1, h2, h3, h4, h5, h6, h7, h8⟩ := AO2.ob
      have n1 : pl.length ≤ 1000 := FI.n
      have lk : kvs.length = pl.length := Paired.length h3
      refine ⟨L, _, h2, True.intro, fun od => ?_⟩
      have back : ∀ H', Same (upd H2 L (.frz od (.dT kvs))) H' → Same H2 (upd H' L (.dT kvs)) := fun H' e => unlock h2 e
      have aL : a ≠ L := ne_of h1 h2 (by intro z; cases z)
      have pL : p1 ≠ L := ne_of e2 h2 (by intro z; cases z)
      have hL1 : (upd H2 L (.frz od (.dT kvs))) L = some (.frz od (.dT kvs)) := upd_same
      have ha1 := h1
      rw [← upd_ne (H := H2) (o := HO.frz od (.dT kvs)) aL] at ha1
      have hp1 := e2
      rw [← upd_ne (H := H2) (o := HO.frz od (.dT kvs)) pL] at hp1
      generalize upd H2 L (.frz od (.dT kvs)) = HL at back hL1 ha1 hp1 ⊢
      have ls : kvs.length = (solV (aroP names pl x p d) y).length := by
        unfold solV
        rw [List.length_map, List.length_range]
        exact lk
      refine ⟨_, rfl, a, CA, dx2, _, _, rfl, ha1, TA.cl, TA.nL, rfl, _, rfl, L, p1, od, kvs, _, rfl, hL1, Or.inl (Or.inl hp1), fun D hD => dcT_it (walk_zipKL (K := K) (ys := solV (aroP names pl x p d) y) ls)
        (fun i H' => ∃ kv : List (List Key × V), kv.length ≤ i ∧ H' D = some (.dT kv) ∧ Same HL H') ⟨[], Nat.le_refl _, upd_same, snew hD⟩ (fun i H' _ ⟨_, _, _, s3⟩ => ⟨s3 _ _ hL1, Or.inl (Or.inl (s3 _ _ hp1))⟩) ?_ ?_⟩
      · rintro i v H3 H4 hi ⟨kv, lkv, hDv, s3⟩ ⟨Tp, qa, k, z, yv, rfl, hT, rfl, ek, hq, ey⟩
        have s4 := snew (o := .tup [V.ref qa, yv]) hT
        have hT4 : (upd H3 Tp (.tup [V.ref qa, yv])) Tp = some (.tup [V.ref qa, yv]) := upd_same
        unfold solV at ey
        rw [lk] at hi
        have ey' : (List.map (fun v => V.int (Sx.X (aroP names pl x p d) y v)) (List.range pl.length))[i]? = some yv := ey
        rw [List.getElem?_map, List.getElem?_range hi] at ey'
        cases ey'
        generalize upd H3 Tp (.tup [V.ref qa, V.int (Sx.X (aroP names pl x p d) y i)]) = H4 at s4 hT4 ⊢
        refine ⟨Tp, _, rfl, Or.inl (Or.inl hT4), rfl, _, _, rfl, _, _, rfl, rfl, rfl, _, rfl, _, rfl, _, rfl, _, _, rfl, Nat.lt_trans (X4 FI ok i) (by decide +kernel), Nat.lt_trans (sc4 FI ok) (by decide +kernel), fun p4 H5 _ s5 _ => ?_⟩
        exact ⟨qa, kv, k, rfl, s5 _ _ (s4 _ _ hq), s5 _ _ (s4 _ _ hDv), by rw [sizeLine_eq]; omega, _, Nat.le_trans (length_putK kv k _) (by omega), upd_same, smut (same_tr s3 (same_tr s4 s5)) hD⟩
      · rintro H3 ⟨kv, lkv, hDv, s3⟩
        exact ⟨s3 _ _ hL1, g _ _ (same_tr s1 (same_tr s2 (back H3 s3)))⟩
end
end Fr

namespace Fr
open PySem PySem.Spec PyProof.Rows L2
abbrev s_bound_worth : Stmt := topS 50
theorem sc_bound_worth : FnScope ["system", "cell", "found", "around", "vector", "heights", "scale", "slope", "number", "level", "name", "_", "height", "link", "point"] ["system", "cell", "found"] (defScope s_bound_worth) := ⟨rfl, rfl, rfl, by decide +kernel, rfl, by decide +kernel, by decide +kernel⟩
-- slots: 0 system, 1 cell, 2 found, 3 around, 4 vector, 5 heights, 6 scale, 7 slope, 8 number, 9 level, 10 name, 11 _, 12 height, 13 link, 14 point
abbrev s_flow_worth : Stmt := topS 51
theorem sc_flow_worth : FnScope ["system", "cell", "found", "around", "read", "scale", "weights", "row", "limit"] ["system", "cell", "found"] (defScope s_flow_worth) := ⟨rfl, rfl, rfl, by decide +kernel, rfl, by decide +kernel, by decide +kernel⟩
-- slots: 0 system, 1 cell, 2 found, 3 around, 4 read, 5 scale, 6 weights, 7 row, 8 limit
theorem link_n {ts : List Tb} {l : Lk} (h : l ∈ links ts) : l.n ∈ ts.map (·.n) := by
  have z : (l.n, l.i) ∈ named ts := by
    rw [← links_named]
    exact List.mem_map.mpr ⟨l, h, rfl⟩
  obtain ⟨t, ht, e, _⟩ := mem_named.mp z
  exact List.mem_map.mpr ⟨t, ht, e⟩
theorem names_sub {ts : List Tb} {x : Str} {pl : List Lk} {names : List Str} (hx : x ∈ ts.map (·.n)) (hr : ∀ l ∈ links ts, l.r.t ∈ ts.map (·.n)) (po : PieceOf (links ts) x pl) (nam : NamesOf pl x names) : ∀ k ∈ names, k ∈ ts.map (·.n) := fun k hk => by
  have sub : ∀ l ∈ pl, l ∈ links ts := by
    rcases po with ⟨po, _⟩ | ⟨rfl, _⟩
    · exact (piece_sub po).2
    · intro l hl
      cases hl
  rcases nam with ⟨t, _⟩ | ⟨rfl, _⟩
  · obtain ⟨l, hl, e⟩ := (t.mem k).mp hk
    rcases e with rfl | rfl
    · exact link_n (sub l hl)
    · exact hr l (sub l hl)
  · rw [List.mem_singleton.mp hk]
    exact hx
theorem names_ne {x : Str} {pl : List Lk} {names : List Str} (nam : NamesOf pl x names) : names ≠ [] := by
  rcases nam with ⟨_, h⟩ | ⟨rfl, _⟩
  · exact h
  · exact List.cons_ne_nil _ _
section
variable {P : Program} {w : World} {K : PySem.W.Frag} {mg : Str → Option Value} {base : Heap}
/-- a pair with one number and no heights -/
def moreB (K : PySem.W.Frag) : List V → Hp → List Tb → Prop := fun r H ts => ∃ (fd va hd : Addr) (one : V), r = [.ref fd] ∧ SqT K H fd [.ref va, .ref hd] ∧ SqT K H va [one] ∧ H hd = some (.dK []) ∧ (∀ n ∈ ts.map (·.n), PyData.strOk n = true) ∧ ∀ l ∈ links ts, l.r.t ∈ ts.map (·.n)
theorem ok_bound_worth {f C CA CT CI : Addr} {fd : FuncData} (F : Fun K "bound_worth" "bound_worth" s_bound_worth f fd) (T : Txt mg) (TA : TxtA K mg CA) (x_Around : MakX P w K mg base 6 "Around" CA (spAroundX K C CA CT CI)) (p_dimensions : Prp P w K mg base 1 C "dimensions" (spDims K C)) :
    FnOk P w K mg base (L2.CX P w) 8 f fd ["system", "cell", "found"] (spDoorX K C CT CI (moreB K)) := by
  refine fun_okX F sc_bound_worth (fun vs H Q E h => ?_) (fun cdv A outer s H vs Q E hr h => ?_)
  · obtain ⟨sy, d, m, ts, v, x, p, rest, rfl, ⟨_, _, _, _, rfl, _⟩, _⟩ := h
    rfl
  · obtain ⟨sy, d, m, ts, v, x, p, rest, rfl, ⟨fo, va, hd, one, rfl, hfo, hva, hhd, sok, rin⟩, S, hv, hz, AR, q⟩ := h
    have hu := hu_of hr
    refine ⟨_, (pss_cons (ps_set (i := 3) sc_bound_worth.nd rfl (by first | exact Or.inl rfl | exact Or.inr rfl) (pe_mkX x_Around hr (by decide) (by rfl) (takes_of rfl rfl rfl rfl) (pa_cons (pv 0) (pa_cons (pv 1) pa_nil))))
  (pss_cons (ps_if (PW.pt (pw_or (pt_cmpR op_isN (pv 2) pe_non (nomark _)) (pw_or (pt_cmpR op_ne (pe_callB call_len_seq (by rfl) T.b_len PySem.boot_len (pa_cons (pe_ix ix_tup (pv 2) pe_int (fun _ _ => rfl)) pa_nil)) (pe_pr (pv 0) p_dimensions hr (by decide) rfl) (nomark _)) (pw_or1 (pt_cmpR (op_neD hr.units) (pe_callB (call_sortedD rfl) (by rfl) T.b_sorted (by decide +kernel) (pa_cons (pe_ix ix_tup (pv 2) pe_int (fun _ _ => rfl)) pa_nil)) (pe_fld (pv 3) rfl) (nomark _))))))
    (pss_one (ps_ret pe_non))
    pss_nil)
  pss_never)), ?_⟩
    have q2 : CellQ CT CI d ts H v x p (x ∈ ts.map (·.n) ∧ ∀ y H', Same H H' → Q y H') E := by
      rcases q with ⟨a, b, c⟩ | h | h
      · exact .inl ⟨a, b, a, c⟩
      · exact .inr (.inl h)
      · exact .inr (.inr h)
    refine ⟨_, rfl, _, rfl, fun a dx ha hdx nda => arMk ha hdx nda S hv hz AR q2 fun g H1 names pl s1 AO po nam FI hL => ⟨rfl, ?_⟩⟩
    obtain ⟨hx, g⟩ := g
    have nsub := names_sub hx rin po nam
    have nne := names_ne nam
    have nl := names_len nam
    obtain ⟨dx2, L, Tn, R, M, kvs, ra, h1, h2, h3, h4, h5, h6, h7, h8⟩ := AO.ob
    have hfo1 := sqt s1 hfo
    have hva1 := sqt s1 hva
    have hhd1 := s1 _ _ hhd
    obtain ⟨dxS, tS, kvS, gS, _, _⟩ := (S.mono s1).ob
    refine ⟨_, rfl, rfl, _, rfl, iteF ⟨_, rfl, fo, _, _, _, rfl, rfl, hfo1, rfl, va, _, rfl, Or.inr hva1, _, rfl, sy, dxS, _, rfl, gS, sy, d, m, ts, rfl, S.mono s1, rfl, _, rfl, ?_⟩⟩
    by_cases e : d = 1
    · subst e
      refine iteF ⟨_, rfl, fo, _, _, _, rfl, rfl, hfo1, rfl, hd, [], [], rfl, .inl hhd1, rfl, by decide, fun ys p4 hp _ hp4 => ?_⟩
      have s5 := snew (o := .lst (ys.map V.str)) hp4
      have ye : ys = [] := List.perm_nil.mp hp
      have gs : ∀ dd ∈ names.map PyData.str, Good dd := fun dd hdd => by
        obtain ⟨n, hn, rfl⟩ := List.mem_map.mp hdd
        exact ⟨by simpa [PyData.canLay0] using sok n (nsub n hn), by simp [PyData.depth]⟩
      refine ⟨_, rfl, a, CA, dx2, _, _, rfl, s5 _ _ h1, TA.cl, TA.nT, rfl, .list [], .list (names.map .str), .lst (Or.inl (Or.inl upd_same)) (by rw [ye]; exact .nil), .lst (Or.inl (Or.inl (s5 _ _ h4))) (strs_dps names), shaped_list (fun d hd => by cases hd), shaped_list gs, _, rfl, ?_⟩
      have ev : (!PyData.eqv (.list []) (.list (names.map .str))) = true := by
        cases names with
        | nil => exact absurd rfl nne
        | cons n ns => rfl
      rw [ev]
      exact iteT (g _ _ (same_tr s1 s5))
    · have ev : (!decide (V.int ((([one] : List V).length : Nat) : Int) = V.int ((d : Nat) : Int))) = true := by
        rw [dec_int, Bool.not_eq_true', decide_eq_false_iff_not]
        intro z
        exact e (by have : (([one] : List V).length : Nat) = 1 := rfl; omega)
      rw [ev]
      exact iteT (g _ _ s1)
def zzK : List Key := [Sum.inr ("zz" : Str), Sum.inl 0]
/-- a flow at a read of no table -/
def moreF : List V → Hp → List Tb → Prop := fun r H ts => ∃ (fd : Addr) (y : V), r = [.ref fd] ∧ H fd = some (.dT [(zzK, y)]) ∧ ("zz" : Str) ∉ ts.map (·.n)
theorem val_no {K : PySem.W.Frag} {H : Hp} {ts : List Tb} (hz : ("zz" : Str) ∉ ts.map (·.n)) : ∀ {kvs : List (List Key × V)} {pl : List Lk}, LkAt K H kvs pl → (∀ l ∈ pl, l ∈ links ts) → valV kvs zzK = none
  | [], _, _, _ => rfl
  | kv :: kvs, _, h, sub => by
    cases h with
    | @cons _ l _ pl h1 h2 =>
      rw [valV_neg ?_]
      · exact val_no hz h2 fun l hl => sub l (List.mem_cons_of_mem _ hl)
      rw [h1.1]
      intro e
      unfold Lk.k zzK at e
      have e2 := (List.cons.inj e).1
      have e3 : l.n = ("zz" : Str) := Sum.inr.inj e2
      exact hz (by rw [← e3]; exact link_n (sub l (List.mem_cons_self ..)))
theorem ok_flow_worth {f C CA CT CI : Addr} {fd : FuncData} (F : Fun K "flow_worth" "flow_worth" s_flow_worth f fd) (T : Txt mg) (TA : TxtA K mg CA) (x_Around : MakX P w K mg base 6 "Around" CA (spAroundX K C CA CT CI)) :
    FnOk P w K mg base (L2.CX P w) 8 f fd ["system", "cell", "found"] (spDoorX K C CT CI moreF) := by
  refine fun_okX F sc_flow_worth (fun vs H Q E h => ?_) (fun cdv A outer s H vs Q E hr h => ?_)
  · obtain ⟨sy, d, m, ts, v, x, p, rest, rfl, ⟨_, _, rfl, _⟩, _⟩ := h
    rfl
  · obtain ⟨sy, d, m, ts, v, x, p, rest, rfl, ⟨fo, yf, rfl, hfo, hzz⟩, S, hv, hz, AR, q⟩ := h
    have hu := hu_of hr
    refine ⟨_, (pss_cons (ps_set (i := 3) sc_flow_worth.nd rfl (by first | exact Or.inl rfl | exact Or.inr rfl) (pe_mkX x_Around hr (by decide) (by rfl) (takes_of rfl rfl rfl rfl) (pa_cons (pv 0) (pa_cons (pv 1) pa_nil))))
  (pss_cons (ps_if (PW.pt (pw_or (pt_cmpR op_isN (pv 2) pe_non (nomark _)) (pw_or1 (pt_not (pt_val (pe_callB (cr_all rfl) (by rfl) T.b_all (by decide +kernel) (pa_cons (pe_lock (pe_lc (own := [("read", 4)]) (g := gName 4) (tt := tYes) (by rfl) sc_flow_worth.nd (pi_keys (pv 2)) (blkOk_by (N := ["system", "cell", "found", "around", "read", "scale", "weights", "row", "limit"]) (sc := defScope s_flow_worth) (by decide +kernel)) (fun _ _ _ _ _ => (pg_name (i := 4) sc_flow_worth.nd rfl (by first | exact Or.inl rfl | exact Or.inr rfl))) (fun _ _ _ _ _ => pts_nil) (fun _ _ _ _ _ => (pe_cmp (pc_din hu (pv 4) (pe_fldK (K' := K) (pv 3))))))) pa_nil)))))))
    (pss_one (ps_ret pe_non))
    pss_nil)
  pss_never)), ?_⟩
    refine ⟨_, rfl, _, rfl, fun a dx ha hdx nda => arMk ha hdx nda S hv hz AR q fun g H1 names pl s1 AO po nam FI hL => ⟨rfl, ?_⟩⟩
    have sub : ∀ l ∈ pl, l ∈ links ts := by
      rcases po with ⟨po, _⟩ | ⟨rfl, _⟩
      · exact (piece_sub po).2
      · intro l hl
        cases hl
    obtain ⟨dx2, L, Tn, R, M, kvs, ra, h1, h2, h3, h4, h5, h6, h7, h8⟩ := AO.ob
    have hfo1 := s1 _ _ hfo
    have vn := val_no hzz h3 sub
    refine ⟨_, rfl, rfl, _, rfl, iteF ⟨fo, _, hfo1, True.intro, fun od => ?_⟩⟩
    have foL : fo ≠ L := fun e => by
      rw [e, h2] at hfo1
      cases hfo1
      rw [valV_pos rfl] at vn
      cases vn
    have back : ∀ H', Same (upd H1 fo (.frz od (.dT [(zzK, yf)]))) H' → Same H1 (upd H' fo (.dT [(zzK, yf)])) := fun H' e => unlock hfo1 e
    have hL1 : (upd H1 fo (.frz od (.dT [(zzK, yf)]))) L = some (.dT kvs) := by rw [upd_ne foL.symm]; exact h2
    have ha1 : (upd H1 fo (.frz od (.dT [(zzK, yf)]))) a = some (.ins CA dx2 (aroF L Tn R M)) := by rw [upd_ne (ne_of h1 hfo1 (by intro z; cases z))]; exact h1
    have hf1 : (upd H1 fo (.frz od (.dT [(zzK, yf)]))) fo = some (.frz od (.dT [(zzK, yf)])) := upd_same
    generalize upd H1 fo (.frz od (.dT [(zzK, yf)])) = HL at back hL1 ha1 hf1 ⊢
    refine ⟨_, rfl, fo, od, rfl, .inr ⟨[(zzK, yf)], hf1, fun D hD => lc_flat walk_keysT (fun _ => .bl false) (by show 1 ≤ _; decide) hD (fun H' sm => sm _ _ hf1) (fun i H x H' y => y.1 ▸ same_refl) ?_ ?_⟩⟩
    · rintro i v H3 _ hi s3 ⟨rfl, k, z, qa, ek, rfl, hq⟩ R2 hR
      have i0 : i = 0 := by
        have : i < 1 := hi
        omega
      subst i0
      cases ek
      refine ⟨rfl, _, rfl, _, rfl, a, CA, dx2, _, _, rfl, s3 _ _ ha1, TA.cl, TA.nL, rfl, L, none, rfl, .inr ⟨kvs, zzK, qa, .inl (s3 _ _ hL1), rfl, hq, vn.symm⟩, ?_⟩
      exact hR _ same_refl
    · intro H3 s3 hD3
      have Df : D ≠ fo := (ne_of_none hf1 hD).symm
      refine ⟨s3 _ _ hf1, D, [false], rfl, Or.inl (Or.inl (by rw [upd_ne Df]; exact hD3)), _, rfl, iteT ?_⟩
      exact g _ _ (same_tr s1 (back H3 s3))
end
end Fr

namespace Fr
open PySem PySem.Spec PyProof.Rows L2
section
variable {X : Cx}
/-- l.count(y), flat items -/
def rCountF (K : PySem.W.Frag) : V → List V → Hp → VK → Prop := fun x xs H Q => ∃ (a : Addr) (ys : List V) (y : V), x = .ref a ∧ xs = [y] ∧ SqL K H a ys ∧ flatV y = true ∧ ys.all flatV = true ∧ Q (.int (ys.countP (fun z => eqV z y) : Nat)) H
theorem countP_vals {y : V} : ∀ {ys : List V} {us : List Value}, Vals ys us → ys.all flatV = true → us.countP (eqU y) = ys.countP (fun z => eqV z y)
  | _, _, .nil, _ => rfl
  | z :: ys, u :: us, .cons r t, f => by
    rw [List.all_cons, Bool.and_eq_true] at f
    rw [List.countP_cons, List.countP_cons, countP_vals t f.2, eqU_of r f.1]
theorem mt_countF : MtR X "list.count" (rCountF X.K) := by
  intro pins s σ H x xs v us Q I rx rxs h
  obtain ⟨a, ys, y, rfl, rfl, hs, fy, fys, q⟩ := h
  cases rx
  obtain ⟨uy, rfl, ry⟩ := vals1 rxs
  obtain ⟨its, rv, ⟨⟨cls, dd, data, sl⟩, n, ho, hc, hdn, hd⟩, hlen⟩ := I.list hs
  simp only at hc hd
  subst hc hd
  refine call_meets PySem.F.slot_list_count ⟨_, ho, rfl⟩ PySem.F.entry_list_count (PySem.F.args_list_count_2 _ _)
    (SeqAt.list_countAt a its.toArray n dd sl uy (eqU y)) ⟨ho, fun u' hu' => mem_eqAt ry fy rv fys u' (by simpa using hu'), ?_⟩
  rw [show its.toArray.toList = its from rfl, countP_vals rv fys]
  exact ⟨.int _, H, I.tok _, ⟨_, rfl⟩, q⟩
end
structure TxX (mg : Str → Option Value) (c : Nat → Addr) : Prop where
  b_ValueError : mg "ValueError" = none
  g_InvalidSystem : mg "InvalidSystem" = some (.ref (c 0))
  g_InvalidName : mg "InvalidName" = some (.ref (c 1))
  g_InvalidAxes : mg "InvalidAxes" = some (.ref (c 2))
  g_UnknownTable : mg "UnknownTable" = some (.ref (c 3))
  g_InvalidCell : mg "InvalidCell" = some (.ref (c 4))
  g_InvalidRead : mg "InvalidRead" = some (.ref (c 5))
  g_InvalidShifts : mg "InvalidShifts" = some (.ref (c 6))
  g_InvalidNumber : mg "InvalidNumber" = some (.ref (c 7))
  g_NotReady : mg "NotReady" = some (.ref (c 8))
  g_NoFar : mg "NoFar" = some (.ref (c 9))
  g_NothingToUndo : mg "NothingToUndo" = some (.ref (c 10))
  g_Unreadable : mg "Unreadable" = some (.ref (c 11))
  g_ReadError : mg "ReadError" = some (.ref (c 12))
theorem relvTy (n : String) : L2.RelV (.ty n) (.type n) := rfl
abbrev s_Lkind : Stmt := topS 61
theorem sc_Lkind : FnScope ["_law_caught", "_law_some", "_law_odd"] ["_law_caught"] (defScope s_Lkind) := ⟨rfl, rfl, rfl, by decide +kernel, rfl, by decide +kernel, by decide +kernel⟩
-- slots: 0 _law_caught, 1 _law_some, 2 _law_odd
section
variable {P : Program} {w : World} {K : PySem.W.Frag} {mg : Str → Option Value} {base : Heap} {c : Nat → Addr}
/-- what isinstance says of the class number i of the errors -/
structure KitE (K : PySem.W.Frag) (c : Nat → Addr) (i : Nat) : Prop where
  own : ∀ j, j < 13 → PySem.W.kitOne K (.ref (c i)) (.ref (c j)) = some (decide (j = i) || decide (j = 12))
  val : PySem.W.kitOne K (.ref (c i)) (.type "ValueError") = some true
def kinds : List Str := ["table", "cell", "read", "shifts", "number", "ready"]
def bsOf (i : Nat) : List V := [3, 4, 5, 6, 7, 8].map fun j => V.bl (decide (j = i) || decide (j = 12))
theorem kind_facts : ∀ i ∈ List.range 9, 3 ≤ i → (bsOf i).countP (fun z => eqV z (.bl true)) = 1 ∧ (bsOf i)[i - 3]? = some (.bl true) ∧ ∀ m ∈ List.range (i - 3), (bsOf i)[m]? = some (.bl false) := by decide +kernel
theorem kind_split : Txt.split (Str.ofString "table cell read shifts number ready") (Str.ofString " ") = kinds := by decide +kernel
theorem kind_at : ∀ i ∈ List.range 9, 3 ≤ i → atI (kinds.map V.str) ((i - 3 : Nat) : Int) = some (.str (kinds[i - 3]?.getD "odd")) := by decide +kernel
def spKind (K : PySem.W.Frag) (c : Nat → Addr) : Sp := fun vs H Q _ => ∃ (a : Addr) (fs : List (Str × V)) (i : Nat), vs = [.ref a] ∧ 3 ≤ i ∧ i ≤ 8 ∧ ErrC K (c i) ∧ KitE K c i ∧ ErrQ H a (c i) fs ∧ ∀ H', Same H H' → Q (.str (kinds[i - 3]?.getD "odd")) H'
theorem ok_kind {f : Addr} {fd : FuncData} (F : Fun K "_law_kind" "_law_kind" s_Lkind f fd) (T : Txt mg) (TE : TxX mg c) (zi : mg "isinstance" = none) : FnOk P w K mg base CX0 1 f fd ["_law_caught"] (spKind K c) := by
  refine F.ok sc_Lkind (fun vs H Q E h => ?_) (fun cdv A outer sh H vs Q E hr h => ?_)
  · obtain ⟨a, fs, i, rfl, _⟩ := h
    rfl
  · obtain ⟨a, fs, i, rfl, i3, i8, EC, KE, EQ, q⟩ := h
    refine ⟨_, (pss_cons (ps_set (i := 1) sc_Lkind.nd rfl (by first | exact Or.inl rfl | exact Or.inr rfl) (pe_lst (pa_cons (pe_callB call_isQ (by rfl) zi (by decide +kernel) (pa_cons (pv 0) (pa_cons (pe_glob (v := .ref (c 3)) (by rfl) TE.g_UnknownTable rfl) pa_nil))) (pa_cons (pe_callB call_isQ (by rfl) zi (by decide +kernel) (pa_cons (pv 0) (pa_cons (pe_glob (v := .ref (c 4)) (by rfl) TE.g_InvalidCell rfl) pa_nil))) (pa_cons (pe_callB call_isQ (by rfl) zi (by decide +kernel) (pa_cons (pv 0) (pa_cons (pe_glob (v := .ref (c 5)) (by rfl) TE.g_InvalidRead rfl) pa_nil))) pa_nil)))))
  (pss_cons (ps_set (i := 1) sc_Lkind.nd rfl (by first | exact Or.inl rfl | exact Or.inr rfl) (pe_op op_cat (pv 1) (pe_lst (pa_cons (pe_callB call_isQ (by rfl) zi (by decide +kernel) (pa_cons (pv 0) (pa_cons (pe_glob (v := .ref (c 6)) (by rfl) TE.g_InvalidShifts rfl) pa_nil))) (pa_cons (pe_callB call_isQ (by rfl) zi (by decide +kernel) (pa_cons (pv 0) (pa_cons (pe_glob (v := .ref (c 7)) (by rfl) TE.g_InvalidNumber rfl) pa_nil))) (pa_cons (pe_callB call_isQ (by rfl) zi (by decide +kernel) (pa_cons (pv 0) (pa_cons (pe_glob (v := .ref (c 8)) (by rfl) TE.g_NotReady rfl) pa_nil))) pa_nil))))))
  (pss_cons (ps_set (i := 2) sc_Lkind.nd rfl (by first | exact Or.inl rfl | exact Or.inr rfl) (pe_callB call_isQT (by rfl) zi (by decide +kernel) (pa_cons (pv 0) (pa_cons (pe_tup (pa_cons (pe_glob (v := .ref (c 0)) (by rfl) TE.g_InvalidSystem rfl) (pa_cons (pe_glob (v := .ref (c 1)) (by rfl) TE.g_InvalidName rfl) (pa_cons (pe_glob (v := .ref (c 2)) (by rfl) TE.g_InvalidAxes rfl) (pa_cons (pe_glob (v := .ref (c 9)) (by rfl) TE.g_NoFar rfl) (pa_cons (pe_glob (v := .ref (c 10)) (by rfl) TE.g_NothingToUndo rfl) (pa_cons (pe_glob (v := .ref (c 11)) (by rfl) TE.g_Unreadable rfl) pa_nil))))))) pa_nil))))
  (pss_cons (ps_if (PW.pt (pw_or (pt_truth (pv 2) (by intro _; rfl)) (pw_or (pt_not (pt_val (pe_callB call_isQ (by rfl) zi (by decide +kernel) (pa_cons (pv 0) (pa_cons (pe_glob (v := .ref (c 12)) (by rfl) TE.g_ReadError rfl) pa_nil))))) (pw_or (pt_not (pt_val (pe_callB call_isQ (by rfl) zi (by decide +kernel) (pa_cons (pv 0) (pa_cons (pe_bltn (by rfl) TE.b_ValueError (by decide +kernel) (relvTy "ValueError")) pa_nil))))) (pw_or1 (pt_cmpR (op_neD hr.units) (pe_bm PySem.F.plainAttrs_list PySem.F.slot_list_count PySem.F.type_list_count mt_countF (pv 1) (pa_cons pe_bl pa_nil)) pe_int (nomark _)))))))
    (pss_one (ps_ret pe_str))
    pss_nil)
  (pss_one (ps_ret (pe_ix ix_list (pe_bm PySem.F.plainAttrs_str PySem.F.slot_str_split PySem.F.type_str_split mt_split pe_str (pa_cons pe_str pa_nil)) (pe_bm PySem.F.plainAttrs_list PySem.F.slot_list_index PySem.F.type_list_index L2.mt_index (pv 1) (pa_cons pe_bl pa_nil)) (fun _ _ => rfl)))))))), ?_⟩
    have z3 : 3 ≤ sizeLine := by decide
    obtain ⟨b, hb⟩ : ∃ b : Nat → Bool, b = fun j => decide (j = i) || decide (j = 12) := ⟨_, rfl⟩
    have hk : ∀ j, j < 13 → PySem.W.kitOne K (.ref (c i)) (.ref (c j)) = some (b j) := by rw [hb]; exact KE.own
    refine ⟨_, rfl, a, _, fs, _, _, b 3, rfl, EC, EQ, .own _, hk 3 (by decide), _, rfl, a, _, fs, _, _, b 4, rfl, EC, EQ, .own _, hk 4 (by decide), _, rfl, a, _, fs, _, _, b 5, rfl, EC, EQ, .own _, hk 5 (by decide), z3, fun l1 hl1 => ?_⟩
    have s1 := snew (o := HO.lst [.bl (b 3), .bl (b 4), .bl (b 5)]) hl1
    have e1 := EQ.mono s1
    have k1 : (upd H l1 (.lst [.bl (b 3), .bl (b 4), .bl (b 5)])) l1 = some (.lst [.bl (b 3), .bl (b 4), .bl (b 5)]) := upd_same
    generalize upd H l1 (.lst [.bl (b 3), .bl (b 4), .bl (b 5)]) = H1 at s1 e1 k1
    refine ⟨_, rfl, _, rfl, a, _, fs, _, _, b 6, rfl, EC, e1, .own _, hk 6 (by decide), _, rfl, a, _, fs, _, _, b 7, rfl, EC, e1, .own _, hk 7 (by decide), _, rfl, a, _, fs, _, _, b 8, rfl, EC, e1, .own _, hk 8 (by decide), z3, fun l2 hl2 => ?_⟩
    have s2 := snew (o := HO.lst [.bl (b 6), .bl (b 7), .bl (b 8)]) hl2
    have e2 := e1.mono s2
    refine ⟨l1, l2, _, _, rfl, rfl, s2 _ _ k1, upd_same, (by show 3 + 3 ≤ sizeLine; decide), fun l3 hl3 => ?_⟩
    have s3 := same_tr s1 (same_tr s2 (snew (o := HO.lst ([.bl (b 3), .bl (b 4), .bl (b 5)] ++ [.bl (b 6), .bl (b 7), .bl (b 8)])) hl3))
    have e3 := e2.mono (snew (o := HO.lst ([.bl (b 3), .bl (b 4), .bl (b 5)] ++ [.bl (b 6), .bl (b 7), .bl (b 8)])) hl3)
    have k3 : (upd (upd H1 l2 (.lst [.bl (b 6), .bl (b 7), .bl (b 8)])) l3 (.lst ([.bl (b 3), .bl (b 4), .bl (b 5)] ++ [.bl (b 6), .bl (b 7), .bl (b 8)]))) l3 = some (.lst ([.bl (b 3), .bl (b 4), .bl (b 5)] ++ [.bl (b 6), .bl (b 7), .bl (b 8)])) := upd_same
    generalize upd (upd H1 l2 (.lst [.bl (b 6), .bl (b 7), .bl (b 8)])) l3 (.lst ([.bl (b 3), .bl (b 4), .bl (b 5)] ++ [.bl (b 6), .bl (b 7), .bl (b 8)])) = H3 at s3 e3 k3
    clear s1 e1 k1 s2 e2 hl1 hl2 hl3
    -- odd
    refine ⟨_, rfl, (by show 6 ≤ sizeLine; decide), fun t ht => ?_⟩
    have s4 := same_tr s3 (snew (o := .tup [.ref (c 0), .ref (c 1), .ref (c 2), .ref (c 9), .ref (c 10), .ref (c 11)]) ht)
    have e4 := e3.mono (snew (o := .tup [.ref (c 0), .ref (c 1), .ref (c 2), .ref (c 9), .ref (c 10), .ref (c 11)]) ht)
    have k4 := snew (o := .tup [.ref (c 0), .ref (c 1), .ref (c 2), .ref (c 9), .ref (c 10), .ref (c 11)]) ht _ _ k3
    refine ⟨a, _, t, fs, _, _, false, rfl, EC, e4, upd_same, .cons (.own _) (.cons (.own _) (.cons (.own _) (.cons (.own _) (.cons (.own _) (.cons (.own _) .nil))))), ?_, ?_⟩
    · have nb : ∀ j, j < 13 → j ≠ 12 → ¬ (3 ≤ j ∧ j ≤ 8) → PySem.W.kitOne K (.ref (c i)) (.ref (c j)) = some false := fun j h1 h2 h3 => by
        rw [KE.own j h1, decide_eq_false (by omega), decide_eq_false h2]
        rfl
      have cons : ∀ {j : Nat} {us : List Value}, PySem.W.kitOne K (.ref (c i)) (.ref (c j)) = some false → PySem.W.kitAny K (.ref (c i)) us = some false → PySem.W.kitAny K (.ref (c i)) (.ref (c j) :: us) = some false := fun h1 h2 => kitAny_cons h1 (fun _ => h2) (fun z => by cases z)
      exact cons (nb 0 (by decide) (by decide) (by decide)) (cons (nb 1 (by decide) (by decide) (by decide)) (cons (nb 2 (by decide) (by decide) (by decide)) (cons (nb 9 (by decide) (by decide) (by decide)) (cons (nb 10 (by decide) (by decide) (by decide)) (cons (nb 11 (by decide) (by decide) (by decide)) kitAny_nil)))))
    generalize upd H3 t (.tup [.ref (c 0), .ref (c 1), .ref (c 2), .ref (c 9), .ref (c 10), .ref (c 11)]) = H4 at s4 e4 k4
    clear k3 s3 e3 ht
    have h12 : PySem.W.kitOne K (.ref (c i)) (.ref (c 12)) = some true := by
      rw [KE.own 12 (by decide), decide_eq_true (rfl : (12 : Nat) = 12), Bool.or_true]
    refine ⟨_, rfl, false, rfl, iteF ?_⟩
    refine ⟨_, rfl, a, _, fs, _, _, true, rfl, EC, e4, .own _, h12, _, rfl, iteF ?_⟩
    refine ⟨_, rfl, a, _, fs, _, _, true, rfl, EC, e4, .ty _, KE.val, _, rfl, iteF ?_⟩
    refine ⟨_, rfl, Or.inl ⟨rfl, _, Or.inl (Or.inl k4)⟩, l3, _, _, rfl, rfl, Or.inl (Or.inl k4), rfl, rfl, ?_⟩
    obtain ⟨f1, f2, f3⟩ := kind_facts i (List.mem_range.mpr (by omega)) i3
    have el : ([.bl (b 3), .bl (b 4), .bl (b 5)] ++ [.bl (b 6), .bl (b 7), .bl (b 8)] : List V) = bsOf i := by
      rw [hb]
      rfl
    rw [el] at k4 ⊢
    rw [f1]
    refine ⟨.int 1, .int 1, .int _, .int _, by decide, by decide, _, rfl, ?_⟩
    refine iteF ?_
    refine ⟨rfl, _, _, rfl, rfl, by decide, by decide, fun p hp => ?_⟩
    have s5 := same_tr s4 (snew (o := .lst ((Txt.split (Str.ofString "table cell read shifts number ready") (Str.ofString " ")).map V.str)) hp)
    have k5 := snew (o := .lst ((Txt.split (Str.ofString "table cell read shifts number ready") (Str.ofString " ")).map V.str)) hp _ _ k4
    have p5 : (upd H4 p (.lst ((Txt.split (Str.ofString "table cell read shifts number ready") (Str.ofString " ")).map V.str))) p = some (.lst (kinds.map V.str)) := by rw [upd_same, kind_split]
    refine ⟨_, rfl, Or.inl ⟨rfl, _, Or.inl (Or.inl k5)⟩, l3, bsOf i, .bl true, i - 3, .bl true, rfl, rfl, Or.inl (Or.inl k5), rfl, rfl, f2, rfl, fun m z hm hz => ?_, ?_⟩
    · rw [f3 m (List.mem_range.mpr hm)] at hz
      cases hz
      rfl
    · exact ⟨p, _, _, _, rfl, rfl, Or.inl (Or.inl p5), kind_at i (List.mem_range.mpr (by omega)) i3, q _ s5⟩
end
end Fr

namespace Fr
open PySem PySem.Spec PyProof.Rows L2
def tDisp1T (tk tv : TE) : TE := fun σ H Q => ∀ p, H p = none → tk σ (upd H p (.dT [])) fun y H1 => tv σ H1 fun z H2 => ∃ (q : Addr) (ks : List Key), y = .ref q ∧ H2 q = some (.tup (ks.map kV)) ∧ H2 p = some (.dT []) ∧ Q (.ref p) (upd H2 p (.dT (putK [] ks z)))
theorem pe_disp1T {X : Cx} {k v : Expr} {tk tv : TE} {pos : Pos} (hu : X.A.units < cLine) (hk : PE X k tk) (hv : PE X v tv) : PE X (.Dict [some k] [v] pos) (tDisp1T tk tv) := by
  refine ⟨fun pins s σ H Q I h => ?_⟩
  have hn := I.hok.fresh (Nat.le_refl s.heap.objs.size)
  have I1 := I.laid (a := s.heap.objs.size) (o := .dT []) (h' := s.heap.push { cls := .type "dict", data := .dict #[] }) (t' := s.toks) (fun _ _ q => Heap.get?_push_of_some _ q) (Nat.le_refl _) (dt_empty s.heap I.big)
  rw [arm_eval_Dict, zip_pairTrees [some k] [v] X.env pos rfl rfl, dictDisplay_pairs _ (by simp [pairTrees]) (by simp [pairTrees])]
  refine wpAny_bind (wpAny_standAt (wpAny_bind ?_))
  unfold subDict
  refine wpAny_bind (wpAny_alloc ?_)
  refine wpAny_bind (wpAny_holding ?_)
  rw [if_pos (by simp [pairTrees])]
  refine wpAny_bind (pairTrees_cons_walk (thn (hk.run pins _ σ _ _ I1 (h _ hn)) fun u s1 ⟨y, H1, I2, ry, q1⟩ => thn (hv.run pins s1 σ H1 _ I2 q1) fun r s2 ⟨z, H2, I3, rz, q, ks, ey, eq, ep, qq⟩ => pairTrees_nil_walk ?_))
  refine wpAny_holding ?_
  rw [List.forIn_cons]
  refine wpAny_bind (wpAny_bind (wpAny_bind (put_tup hu I3 ep (by rw [sizeLine_eq]; decide) ey eq ry rz fun s3 I4 => wpAny_pure ?_)))
  simp only [List.forIn_nil]
  exact wpAny_pure (wpAny_pure (wpAny_pure (wpAny_pure ⟨.ref s.heap.objs.size, _, I4, rfl, qq⟩)))
end Fr

namespace Fr
open PySem PySem.Spec PyProof.Rows L2
abbrev s_Ltold : Stmt := topS 62
theorem sc_Ltold : FnScope ["_law_door", "_law_made_here", "_law_place", "_law_caught", "e"] ["_law_door", "_law_made_here", "_law_place"] (defScope s_Ltold) := ⟨rfl, rfl, rfl, by decide +kernel, rfl, by decide +kernel, by decide +kernel⟩
-- slots: 0 _law_door, 1 _law_made_here, 2 _law_place, 3 _law_caught, 4 e
section
variable {P : Program} {w : World} {K : PySem.W.Frag} {mg : Str → Option Value} {base : Heap} {c : Nat → Addr}
def toldA (d : Int) (ts : List Tb) (v : V) (x : Str) (p : List Int) : List V := if x ∈ ts.map (·.n) then (if okPoint d p = true then [.str "none", .non] else [.str "cell", v]) else [.str "table", .str x]
def spToldA (K : PySem.W.Frag) (C : Addr) : Sp := fun vs H Q _ => ∃ (s : Addr) (d : Nat) (m k : Int) (ts : List Tb) (v : V) (x : Str) (p : List Int), vs = [.int k, .ref s, v] ∧ SysAt K C H s d m ts ∧ Dp K H v (ceD x p) ∧ p.length ≤ 100000 ∧ ArOk d ts p ∧ 0 ≤ k ∧ k ≤ 4 ∧
  (∀ n ∈ ts.map (·.n), PyData.strOk n = true) ∧ (∀ l ∈ links ts, l.r.t ∈ ts.map (·.n)) ∧ ("zz" : Str) ∉ ts.map (·.n) ∧ ∀ l H', H l = none → Same H H' → H' l = some (.lst (toldA d ts v x p)) → Q (.ref l) H'
theorem ok_toldA {f C : Addr} {fd : FuncData} (F : Fun K "_law_told" "_law_told" s_Ltold f fd) (T : Txt mg) (TE : TxX mg c) (no3 : PySem.W.findIn K (.ref (c 3)) "value" = some none) (no4 : PySem.W.findIn K (.ref (c 4)) "value" = some none) (ec3 : ErrC K (c 3)) (ec4 : ErrC K (c 4)) (ke3 : KitE K c 3) (ke4 : KitE K c 4)
    (ex3 : PySem.W.exmOne K (.ref (c 3)) (.ref (c 12)) = some true) (ex4 : PySem.W.exmOne K (.ref (c 4)) (.ref (c 12)) = some true) (x_way_bound : CalX P w K mg base 8 "way_bound" (spDoorX K C (c 3) (c 4) noMore)) (x_bound_numbers : CalX P w K mg base 8 "bound_numbers" (spDoorX K C (c 3) (c 4) noMore))
    (x_flow_weights : CalX P w K mg base 8 "flow_weights" (spDoorX K C (c 3) (c 4) noMore)) (x_bound_worth : CalX P w K mg base 8 "bound_worth" (spDoorX K C (c 3) (c 4) (moreB K))) (x_flow_worth : CalX P w K mg base 8 "flow_worth" (spDoorX K C (c 3) (c 4) moreF)) (c_Lkind : C8.Cal P w K mg base 1 "_law_kind" (spKind K c) []) : FnOk P w K mg base CX0 9 f fd ["_law_door", "_law_made_here", "_law_place"] (spToldA K C) := by
  refine F.ok sc_Ltold (fun vs H Q E h => ?_) (fun cdv A outer sh H vs Q E hr h => ?_)
  · obtain ⟨s, d, m, k, ts, v, x, p, rfl, _⟩ := h
    rfl
  · obtain ⟨s, d, m, k, ts, v, x, p, rfl, S, hv, hz, AR, k0, k4, sok, rin, hzz, q⟩ := h
    refine ⟨_, (pss_cons (ps_set (i := 3) sc_Ltold.nd rfl (by first | exact Or.inl rfl | exact Or.inr rfl) pe_non)
  (pss_cons (ps_try_keep (i := 4) (j := 3) rfl rfl rfl sc_Ltold.nd rfl rfl rfl rfl (by decide) ⟨by rfl, by decide, .inl TE.g_ReadError⟩ (fun W pn xe tk pas => (pss_one (ps_if (pt_cmpR op_eq (pv 0) pe_int (nomark _))
      (pss_one (ps_expr (pe_cx x_way_bound hr (by decide) (by rfl) tk (pa_cons (pv 1) (pa_cons (pv 2) pa_nil)))))
      (pss_one (ps_if (pt_cmpR op_eq (pv 0) pe_int (nomark _))
        (pss_one (ps_expr (pe_cx x_bound_numbers hr (by decide) (by rfl) tk (pa_cons (pv 1) (pa_cons (pv 2) pa_nil)))))
        (pss_one (ps_if (pt_cmpR op_eq (pv 0) pe_int (nomark _))
          (pss_one (ps_expr (pe_cx x_flow_weights hr (by decide) (by rfl) tk (pa_cons (pv 1) (pa_cons (pv 2) pa_nil)))))
          (pss_one (ps_if (pt_cmpR op_eq (pv 0) pe_int (nomark _))
            (pss_one (ps_expr (pe_cx x_bound_worth hr (by decide) (by rfl) tk (pa_cons (pv 1) (pa_cons (pv 2) (pa_cons (pe_tup (pa_cons (pe_tup (pa_cons (pe_tup (pa_cons pe_int (pa_cons pe_int pa_nil))) pa_nil)) (pa_cons pe_dnewK pa_nil))) pa_nil))))))
            (pss_one (ps_expr (pe_cx x_flow_worth hr (by decide) (by rfl) tk (pa_cons (pv 1) (pa_cons (pv 2) (pa_cons (pe_disp1T (Nat.lt_of_le_of_lt (Nat.le_add_right _ 65) hr.units1) (pe_tup (pa_cons pe_str (pa_cons pe_int pa_nil))) (pe_tup (pa_cons pe_int (pa_cons pe_int pa_nil)))) pa_nil))))))))))))))))
  (pss_one (ps_ret (pe_ifExp (pt_cmpR op_isN (pv 3) pe_non (nomark _)) (pe_lst (pa_cons pe_str (pa_cons pe_non pa_nil))) (pe_lst (pa_cons (C8.pe_c c_Lkind hr (by decide) (by rfl) (pa_cons (pv 3) pa_nil)) (pa_cons (pe_errG (pv 3)) pa_nil)))))))), ?_⟩
    have cs : (x ∈ ts.map (·.n) ∧ okPoint d p = true) ∨ (x ∉ ts.map (·.n)) ∨ (x ∈ ts.map (·.n) ∧ okPoint d p = false) := by
      by_cases hx : x ∈ ts.map (·.n)
      · cases hp : okPoint d p
        · exact .inr (.inr ⟨hx, rfl⟩)
        · exact .inl ⟨hx, rfl⟩
      · exact .inr (.inl hx)
    have hk : k = 0 ∨ k = 1 ∨ k = 2 ∨ k = 3 ∨ k = 4 := by omega
    rcases hk with rfl | rfl | rfl | rfl | rfl
    · have sd : Same H H := same_refl
      refine ⟨_, rfl, rfl, _, rfl, iteT ?_⟩
      refine ⟨_, rfl, _, rfl, s, d, m, ts, v, x, p, [], rfl, rfl, S, hv, hz, AR, ?_⟩
      rcases cs with ⟨hx, hp⟩ | hx | ⟨hx, hp⟩
      · refine .inl ⟨hx, hp, fun y H1 s1 => ⟨_, rfl, rfl, _, rfl, iteT ⟨(by show 2 ≤ sizeLine; decide), fun l hl => q l _ (free_of (same_tr sd s1) hl) (same_tr (same_tr sd s1) (snew hl)) ?_⟩⟩⟩
        rw [toldA, if_pos hx, if_pos hp]
        exact upd_same
      · refine .inr (.inl ⟨hx, fun e H1 s1 he => ⟨ex3, fun a ha => ?_⟩⟩)
        have ne : e ≠ a := ne_of_none he ha
        have s2 : Same H1 (upd H1 a (exq a (.ref (c 3)) (some e))) := snew ha
        have EQ : ErrQ (upd H1 a (exq a (.ref (c 3)) (some e))) a (c 3) [(("value" : Str), .str x)] := ⟨e, upd_same, s2 _ _ he⟩
        have sH := same_tr (same_tr sd s1) s2
        generalize upd H1 a (exq a (.ref (c 3)) (some e)) = H2 at EQ sH
        refine ⟨_, rfl, rfl, _, rfl, iteF ?_⟩
        refine ⟨_, rfl, a, _, 3, rfl, by decide, by decide, ec3, ke3, EQ, fun H3 s3 => ?_⟩
        refine ⟨_, rfl, a, _, _, _, rfl, ec3, EQ.mono s3, no3, rfl, (by show 2 ≤ sizeLine; decide), fun l hl1 => ?_⟩
        refine q l _ (free_of (same_tr sH s3) hl1) (same_tr sH (same_tr s3 (snew hl1))) ?_
        rw [toldA, if_neg hx]
        exact upd_same
      · refine .inr (.inr ⟨hx, hp, fun e H1 s1 he => ⟨ex4, fun a ha => ?_⟩⟩)
        have ne : e ≠ a := ne_of_none he ha
        have s2 : Same H1 (upd H1 a (exq a (.ref (c 4)) (some e))) := snew ha
        have EQ : ErrQ (upd H1 a (exq a (.ref (c 4)) (some e))) a (c 4) [(("value" : Str), v)] := ⟨e, upd_same, s2 _ _ he⟩
        have sH := same_tr (same_tr sd s1) s2
        generalize upd H1 a (exq a (.ref (c 4)) (some e)) = H2 at EQ sH
        refine ⟨_, rfl, rfl, _, rfl, iteF ?_⟩
        refine ⟨_, rfl, a, _, 4, rfl, by decide, by decide, ec4, ke4, EQ, fun H3 s3 => ?_⟩
        refine ⟨_, rfl, a, _, _, _, rfl, ec4, EQ.mono s3, no4, rfl, (by show 2 ≤ sizeLine; decide), fun l hl1 => ?_⟩
        refine q l _ (free_of (same_tr sH s3) hl1) (same_tr sH (same_tr s3 (snew hl1))) ?_
        rw [toldA, if_pos hx, if_neg (by rw [hp]; decide)]
        exact upd_same
    · have sd : Same H H := same_refl
      refine ⟨_, rfl, rfl, _, rfl, iteF ⟨_, rfl, rfl, _, rfl, iteT ?_⟩⟩
      refine ⟨_, rfl, _, rfl, s, d, m, ts, v, x, p, [], rfl, rfl, S, hv, hz, AR, ?_⟩
      rcases cs with ⟨hx, hp⟩ | hx | ⟨hx, hp⟩
      · refine .inl ⟨hx, hp, fun y H1 s1 => ⟨_, rfl, rfl, _, rfl, iteT ⟨(by show 2 ≤ sizeLine; decide), fun l hl => q l _ (free_of (same_tr sd s1) hl) (same_tr (same_tr sd s1) (snew hl)) ?_⟩⟩⟩
        rw [toldA, if_pos hx, if_pos hp]
        exact upd_same
      · refine .inr (.inl ⟨hx, fun e H1 s1 he => ⟨ex3, fun a ha => ?_⟩⟩)
        have ne : e ≠ a := ne_of_none he ha
        have s2 : Same H1 (upd H1 a (exq a (.ref (c 3)) (some e))) := snew ha
        have EQ : ErrQ (upd H1 a (exq a (.ref (c 3)) (some e))) a (c 3) [(("value" : Str), .str x)] := ⟨e, upd_same, s2 _ _ he⟩
        have sH := same_tr (same_tr sd s1) s2
        generalize upd H1 a (exq a (.ref (c 3)) (some e)) = H2 at EQ sH
        refine ⟨_, rfl, rfl, _, rfl, iteF ?_⟩
        refine ⟨_, rfl, a, _, 3, rfl, by decide, by decide, ec3, ke3, EQ, fun H3 s3 => ?_⟩
        refine ⟨_, rfl, a, _, _, _, rfl, ec3, EQ.mono s3, no3, rfl, (by show 2 ≤ sizeLine; decide), fun l hl1 => ?_⟩
        refine q l _ (free_of (same_tr sH s3) hl1) (same_tr sH (same_tr s3 (snew hl1))) ?_
        rw [toldA, if_neg hx]
        exact upd_same
      · refine .inr (.inr ⟨hx, hp, fun e H1 s1 he => ⟨ex4, fun a ha => ?_⟩⟩)
        have ne : e ≠ a := ne_of_none he ha
        have s2 : Same H1 (upd H1 a (exq a (.ref (c 4)) (some e))) := snew ha
        have EQ : ErrQ (upd H1 a (exq a (.ref (c 4)) (some e))) a (c 4) [(("value" : Str), v)] := ⟨e, upd_same, s2 _ _ he⟩
        have sH := same_tr (same_tr sd s1) s2
        generalize upd H1 a (exq a (.ref (c 4)) (some e)) = H2 at EQ sH
        refine ⟨_, rfl, rfl, _, rfl, iteF ?_⟩
        refine ⟨_, rfl, a, _, 4, rfl, by decide, by decide, ec4, ke4, EQ, fun H3 s3 => ?_⟩
        refine ⟨_, rfl, a, _, _, _, rfl, ec4, EQ.mono s3, no4, rfl, (by show 2 ≤ sizeLine; decide), fun l hl1 => ?_⟩
        refine q l _ (free_of (same_tr sH s3) hl1) (same_tr sH (same_tr s3 (snew hl1))) ?_
        rw [toldA, if_pos hx, if_neg (by rw [hp]; decide)]
        exact upd_same
    · have sd : Same H H := same_refl
      refine ⟨_, rfl, rfl, _, rfl, iteF ⟨_, rfl, rfl, _, rfl, iteF ⟨_, rfl, rfl, _, rfl, iteT ?_⟩⟩⟩
      refine ⟨_, rfl, _, rfl, s, d, m, ts, v, x, p, [], rfl, rfl, S, hv, hz, AR, ?_⟩
      rcases cs with ⟨hx, hp⟩ | hx | ⟨hx, hp⟩
      · refine .inl ⟨hx, hp, fun y H1 s1 => ⟨_, rfl, rfl, _, rfl, iteT ⟨(by show 2 ≤ sizeLine; decide), fun l hl => q l _ (free_of (same_tr sd s1) hl) (same_tr (same_tr sd s1) (snew hl)) ?_⟩⟩⟩
        rw [toldA, if_pos hx, if_pos hp]
        exact upd_same
      · refine .inr (.inl ⟨hx, fun e H1 s1 he => ⟨ex3, fun a ha => ?_⟩⟩)
        have ne : e ≠ a := ne_of_none he ha
        have s2 : Same H1 (upd H1 a (exq a (.ref (c 3)) (some e))) := snew ha
        have EQ : ErrQ (upd H1 a (exq a (.ref (c 3)) (some e))) a (c 3) [(("value" : Str), .str x)] := ⟨e, upd_same, s2 _ _ he⟩
        have sH := same_tr (same_tr sd s1) s2
        generalize upd H1 a (exq a (.ref (c 3)) (some e)) = H2 at EQ sH
        refine ⟨_, rfl, rfl, _, rfl, iteF ?_⟩
        refine ⟨_, rfl, a, _, 3, rfl, by decide, by decide, ec3, ke3, EQ, fun H3 s3 => ?_⟩
        refine ⟨_, rfl, a, _, _, _, rfl, ec3, EQ.mono s3, no3, rfl, (by show 2 ≤ sizeLine; decide), fun l hl1 => ?_⟩
        refine q l _ (free_of (same_tr sH s3) hl1) (same_tr sH (same_tr s3 (snew hl1))) ?_
        rw [toldA, if_neg hx]
        exact upd_same
      · refine .inr (.inr ⟨hx, hp, fun e H1 s1 he => ⟨ex4, fun a ha => ?_⟩⟩)
        have ne : e ≠ a := ne_of_none he ha
        have s2 : Same H1 (upd H1 a (exq a (.ref (c 4)) (some e))) := snew ha
        have EQ : ErrQ (upd H1 a (exq a (.ref (c 4)) (some e))) a (c 4) [(("value" : Str), v)] := ⟨e, upd_same, s2 _ _ he⟩
        have sH := same_tr (same_tr sd s1) s2
        generalize upd H1 a (exq a (.ref (c 4)) (some e)) = H2 at EQ sH
        refine ⟨_, rfl, rfl, _, rfl, iteF ?_⟩
        refine ⟨_, rfl, a, _, 4, rfl, by decide, by decide, ec4, ke4, EQ, fun H3 s3 => ?_⟩
        refine ⟨_, rfl, a, _, _, _, rfl, ec4, EQ.mono s3, no4, rfl, (by show 2 ≤ sizeLine; decide), fun l hl1 => ?_⟩
        refine q l _ (free_of (same_tr sH s3) hl1) (same_tr sH (same_tr s3 (snew hl1))) ?_
        rw [toldA, if_pos hx, if_neg (by rw [hp]; decide)]
        exact upd_same
    · have sd : Same H H := same_refl
      refine ⟨_, rfl, rfl, _, rfl, iteF ⟨_, rfl, rfl, _, rfl, iteF ⟨_, rfl, rfl, _, rfl, iteF ⟨_, rfl, rfl, _, rfl, iteT ?_⟩⟩⟩⟩
      refine ⟨_, rfl, _, rfl, (by show 2 ≤ sizeLine; decide), fun t1 ht1 => ⟨(by show 1 ≤ sizeLine; decide), fun t2 ht2 => ?_⟩⟩
      have sa := snew (o := .tup [V.int 1, V.int 1]) ht1
      have sb := snew (o := .tup [V.ref t1]) ht2
      have hb2 : (upd (upd H t1 (.tup [V.int 1, V.int 1])) t2 (.tup [V.ref t1])) t2 = some (.tup [V.ref t1]) := upd_same
      have sab := same_tr sa sb
      generalize upd (upd H t1 (.tup [V.int 1, V.int 1])) t2 (.tup [V.ref t1]) = Hb at hb2 sab ⊢
      refine fun t3 ht3 => ⟨(by show 2 ≤ sizeLine; decide), fun t4 ht4 => ?_⟩
      have sc := snew (o := .dK []) ht3
      have hc3 : (upd Hb t3 (.dK [])) t3 = some (.dK []) := upd_same
      have sac := same_tr sab sc
      have hb3 := sc _ _ hb2
      generalize upd Hb t3 (.dK []) = Hc at hc3 sac hb3 ht4 ⊢
      have se := snew (o := .tup [V.ref t2, V.ref t3]) ht4
      have sd := same_tr sac se
      refine ⟨s, d, m, ts, v, x, p, [.ref t4], rfl, ⟨t4, t2, t3, _, rfl, Or.inl (Or.inl upd_same), Or.inl (Or.inl (se _ _ hb3)), se _ _ hc3, sok, rin⟩, S.mono sd, dpm sd _ _ hv, hz, AR, ?_⟩
      rcases cs with ⟨hx, hp⟩ | hx | ⟨hx, hp⟩
      · refine .inl ⟨hx, hp, fun y H1 s1 => ⟨_, rfl, rfl, _, rfl, iteT ⟨(by show 2 ≤ sizeLine; decide), fun l hl => q l _ (free_of (same_tr sd s1) hl) (same_tr (same_tr sd s1) (snew hl)) ?_⟩⟩⟩
        rw [toldA, if_pos hx, if_pos hp]
        exact upd_same
      · refine .inr (.inl ⟨hx, fun e H1 s1 he => ⟨ex3, fun a ha => ?_⟩⟩)
        have ne : e ≠ a := ne_of_none he ha
        have s2 : Same H1 (upd H1 a (exq a (.ref (c 3)) (some e))) := snew ha
        have EQ : ErrQ (upd H1 a (exq a (.ref (c 3)) (some e))) a (c 3) [(("value" : Str), .str x)] := ⟨e, upd_same, s2 _ _ he⟩
        have sH := same_tr (same_tr sd s1) s2
        generalize upd H1 a (exq a (.ref (c 3)) (some e)) = H2 at EQ sH
        refine ⟨_, rfl, rfl, _, rfl, iteF ?_⟩
        refine ⟨_, rfl, a, _, 3, rfl, by decide, by decide, ec3, ke3, EQ, fun H3 s3 => ?_⟩
        refine ⟨_, rfl, a, _, _, _, rfl, ec3, EQ.mono s3, no3, rfl, (by show 2 ≤ sizeLine; decide), fun l hl1 => ?_⟩
        refine q l _ (free_of (same_tr sH s3) hl1) (same_tr sH (same_tr s3 (snew hl1))) ?_
        rw [toldA, if_neg hx]
        exact upd_same
      · refine .inr (.inr ⟨hx, hp, fun e H1 s1 he => ⟨ex4, fun a ha => ?_⟩⟩)
        have ne : e ≠ a := ne_of_none he ha
        have s2 : Same H1 (upd H1 a (exq a (.ref (c 4)) (some e))) := snew ha
        have EQ : ErrQ (upd H1 a (exq a (.ref (c 4)) (some e))) a (c 4) [(("value" : Str), v)] := ⟨e, upd_same, s2 _ _ he⟩
        have sH := same_tr (same_tr sd s1) s2
        generalize upd H1 a (exq a (.ref (c 4)) (some e)) = H2 at EQ sH
        refine ⟨_, rfl, rfl, _, rfl, iteF ?_⟩
        refine ⟨_, rfl, a, _, 4, rfl, by decide, by decide, ec4, ke4, EQ, fun H3 s3 => ?_⟩
        refine ⟨_, rfl, a, _, _, _, rfl, ec4, EQ.mono s3, no4, rfl, (by show 2 ≤ sizeLine; decide), fun l hl1 => ?_⟩
        refine q l _ (free_of (same_tr sH s3) hl1) (same_tr sH (same_tr s3 (snew hl1))) ?_
        rw [toldA, if_pos hx, if_neg (by rw [hp]; decide)]
        exact upd_same
    · have sd : Same H H := same_refl
      refine ⟨_, rfl, rfl, _, rfl, iteF ⟨_, rfl, rfl, _, rfl, iteF ⟨_, rfl, rfl, _, rfl, iteF ⟨_, rfl, rfl, _, rfl, iteF ?_⟩⟩⟩⟩
      refine ⟨_, rfl, _, rfl, fun t1 ht1 => ?_⟩
      have sa := snew (o := .dT []) ht1
      have ha1 : (upd H t1 (.dT [])) t1 = some (.dT []) := upd_same
      generalize upd H t1 (.dT []) = Ha at sa ha1 ⊢
      refine ⟨(by show 2 ≤ sizeLine; decide), fun t2 ht2 => ⟨(by show 2 ≤ sizeLine; decide), fun t3 ht3 => ?_⟩⟩
      have sb := snew (o := .tup [V.str "zz", V.int 0]) ht2
      have hb2 : (upd Ha t2 (.tup [V.str "zz", V.int 0])) t2 = some (.tup [V.str "zz", V.int 0]) := upd_same
      have hb1 := sb _ _ ha1
      have sab := same_tr sa sb
      generalize upd Ha t2 (.tup [V.str "zz", V.int 0]) = Hb at sb hb2 hb1 sab ht3 ⊢
      have sc := snew (o := .tup [V.int 1, V.int 1]) ht3
      have hc2 := sc _ _ hb2
      have hc1 := sc _ _ hb1
      have sac := same_tr sab sc
      generalize upd Hb t3 (.tup [V.int 1, V.int 1]) = Hc at sc hc2 hc1 sac ⊢
      have sd : Same H (upd Hc t1 (.dT [(zzK, V.ref t3)])) := smut sac (by assumption)
      refine ⟨t2, zzK, rfl, hc2, hc1, ?_⟩
      refine ⟨s, d, m, ts, v, x, p, [.ref t1], rfl, ⟨t1, _, rfl, upd_same, hzz⟩, S.mono sd, dpm sd _ _ hv, hz, AR, ?_⟩
      rcases cs with ⟨hx, hp⟩ | hx | ⟨hx, hp⟩
      · refine .inl ⟨hx, hp, fun y H1 s1 => ⟨_, rfl, rfl, _, rfl, iteT ⟨(by show 2 ≤ sizeLine; decide), fun l hl => q l _ (free_of (same_tr sd s1) hl) (same_tr (same_tr sd s1) (snew hl)) ?_⟩⟩⟩
        rw [toldA, if_pos hx, if_pos hp]
        exact upd_same
      · refine .inr (.inl ⟨hx, fun e H1 s1 he => ⟨ex3, fun a ha => ?_⟩⟩)
        have ne : e ≠ a := ne_of_none he ha
        have s2 : Same H1 (upd H1 a (exq a (.ref (c 3)) (some e))) := snew ha
        have EQ : ErrQ (upd H1 a (exq a (.ref (c 3)) (some e))) a (c 3) [(("value" : Str), .str x)] := ⟨e, upd_same, s2 _ _ he⟩
        have sH := same_tr (same_tr sd s1) s2
        generalize upd H1 a (exq a (.ref (c 3)) (some e)) = H2 at EQ sH
        refine ⟨_, rfl, rfl, _, rfl, iteF ?_⟩
        refine ⟨_, rfl, a, _, 3, rfl, by decide, by decide, ec3, ke3, EQ, fun H3 s3 => ?_⟩
        refine ⟨_, rfl, a, _, _, _, rfl, ec3, EQ.mono s3, no3, rfl, (by show 2 ≤ sizeLine; decide), fun l hl1 => ?_⟩
        refine q l _ (free_of (same_tr sH s3) hl1) (same_tr sH (same_tr s3 (snew hl1))) ?_
        rw [toldA, if_neg hx]
        exact upd_same
      · refine .inr (.inr ⟨hx, hp, fun e H1 s1 he => ⟨ex4, fun a ha => ?_⟩⟩)
        have ne : e ≠ a := ne_of_none he ha
        have s2 : Same H1 (upd H1 a (exq a (.ref (c 4)) (some e))) := snew ha
        have EQ : ErrQ (upd H1 a (exq a (.ref (c 4)) (some e))) a (c 4) [(("value" : Str), v)] := ⟨e, upd_same, s2 _ _ he⟩
        have sH := same_tr (same_tr sd s1) s2
        generalize upd H1 a (exq a (.ref (c 4)) (some e)) = H2 at EQ sH
        refine ⟨_, rfl, rfl, _, rfl, iteF ?_⟩
        refine ⟨_, rfl, a, _, 4, rfl, by decide, by decide, ec4, ke4, EQ, fun H3 s3 => ?_⟩
        refine ⟨_, rfl, a, _, _, _, rfl, ec4, EQ.mono s3, no4, rfl, (by show 2 ≤ sizeLine; decide), fun l hl1 => ?_⟩
        refine q l _ (free_of (same_tr sH s3) hl1) (same_tr sH (same_tr s3 (snew hl1))) ?_
        rw [toldA, if_pos hx, if_neg (by rw [hp]; decide)]
        exact upd_same
end
end Fr

namespace Fr
open PySem PySem.Spec PyProof.Rows L2
abbrev s_Lmade : Stmt := topS 60
theorem sc_Lmade : FnScope ["_law_axes", "_law_tables_here"] ["_law_axes", "_law_tables_here"] (defScope s_Lmade) := ⟨rfl, rfl, rfl, by decide +kernel, rfl, by decide +kernel, by decide +kernel⟩
-- slots: 0 _law_axes, 1 _law_tables_here
section
variable {P : Program} {w : World} {K : PySem.W.Frag} {mg : Str → Option Value} {base : Heap}
def spMade (K : PySem.W.Frag) (C : Addr) (TT : List (Addr × Str)) : Sp := fun vs H Q _ => ∃ (d : Int) (v : V) (ts : List Tb), vs = [.int d, v] ∧ LamX.Tabs TT H ∧ OkSys d 97 ts ∧ Dp K H v (.list (ts.map Tb.d)) ∧ ∀ s H', LamX.ExtN H H' → LamX.Tabs TT H' → SysAt K C H' s d 97 (srt ts) → Q (.ref s) H'
theorem ok_made22 {f C : Addr} {fd : FuncData} {TT : List (Addr × Str)} (F : Fun K "_law_made" "_law_made" s_Lmade f fd) (m_System3 : C8.Mak P w K mg base 5 "System" C (spInit K C TT) []) : FnOk P w K mg base CX0 7 f fd ["_law_axes", "_law_tables_here"] (spMade K C TT) := by
  refine F.ok sc_Lmade (fun vs H Q E h => ?_) (fun cdv A outer sh H vs Q E hr h => ?_)
  · obtain ⟨d, v, ts, rfl, _⟩ := h
    rfl
  · obtain ⟨d, v, ts, rfl, hT, O, hv, q⟩ := h
    refine ⟨_, (pss_one (ps_ret (C8.pe_mk m_System3 hr (by decide) (by rfl) (pa_cons (pv 0) (pa_cons (pv 1) (pa_cons pe_int pa_nil)))))), ?_⟩
    refine ⟨_, rfl, _, rfl, fun x dx nx ndx nex => ?_⟩
    have sx : Same H (upd (upd H dx (.own x)) x (.ins C dx [])) := same_tr (snew ndx) (snew (by rw [upd_ne nex.symm]; exact nx))
    exact ⟨x, dx, d, 97, v, ts, rfl, upd_same, hT.ext sx, O, dpm sx _ _ hv, fun H2 E2 hT2 S2 => ⟨rfl, q x H2 (fun b o e n => E2 b o (sx b o e) (ne_of_none e nx) n) hT2 S2⟩⟩
end
end Fr

namespace Fr
open PySem PySem.Spec PyProof.Rows L2
abbrev s_Lright : Stmt := topS 63
theorem sc_Lright : FnScope ["_law_pool_here", "_law_axes", "_law_tables_here", "_law_made_here", "_law_titles", "_law_one", "_law_title", "_law_many", "_law_point", "_law_axis", "_law_place", "_law_due", "_law_door"] ["_law_pool_here"] (defScope s_Lright) := ⟨rfl, rfl, rfl, by decide +kernel, rfl, by decide +kernel, by decide +kernel⟩
-- slots: 0 _law_pool_here, 1 _law_axes, 2 _law_tables_here, 3 _law_made_here, 4 _law_titles, 5 _law_one, 6 _law_title, 7 _law_many, 8 _law_point, 9 _law_axis, 10 _law_place, 11 _law_due, 12 _law_door
def toldDat (d : Int) (ts : List Tb) (x : Str) (p : List Int) : PyData := if x ∈ ts.map (·.n) then (if okPoint d p = true then .list [.str "none", .none] else .list [.str "cell", ceD x p]) else .list [.str "table", .str x]
theorem told_dp {K : PySem.W.Frag} {H : Hp} {l : Addr} {d : Int} {ts : List Tb} {v : V} {x : Str} {p : List Int} (h : H l = some (.lst (toldA d ts v x p))) (hv : Dp K H v (ceD x p)) : Dp K H (.ref l) (toldDat d ts x p) := by
  unfold toldA at h
  unfold toldDat
  by_cases hx : x ∈ ts.map (·.n)
  · rw [if_pos hx] at h ⊢
    by_cases hp : okPoint d p = true
    · rw [if_pos hp] at h ⊢
      exact .lst (Or.inl (Or.inl h)) (.cons (.str _) (.cons .non .nil))
    · rw [if_neg hp] at h ⊢
      exact .lst (Or.inl (Or.inl h)) (.cons (.str _) (.cons hv .nil))
  · rw [if_neg hx] at h ⊢
    exact .lst (Or.inl (Or.inl h)) (.cons (.str _) (.cons (.str _) .nil))
theorem good_intP (n : Int) : Good (.int n) := ⟨by simp [PyData.canLay0], by simp [PyData.depth]⟩
theorem good_strP {x : Str} (h : PyData.strOk x = true) : Good (.str x) := ⟨by simpa [PyData.canLay0] using h, by simp [PyData.depth]⟩
theorem told_good {d : Int} {ts : List Tb} {x : Str} {p : List Int} (hx : PyData.strOk x = true) : (toldDat d ts x p).canLay0 = true ∧ (toldDat d ts x p).depth ≤ 10 := by
  have intsg : ∀ p : List Int, PyData.canLayAll0 (p.map .int) = true ∧ PyData.depthAll (p.map .int) ≤ 1 := fun p => by
    induction p with
    | nil => exact ⟨by simp [PyData.canLayAll0], by simp [PyData.depthAll]⟩
    | cons n p ih =>
      rw [List.map_cons]
      refine ⟨by simpa [PyData.canLayAll0, PyData.canLay0] using ih.1, ?_⟩
      simp only [PyData.depthAll, PyData.depth]
      have := ih.2
      omega
  have i1 := (intsg p).1
  have i2 := (intsg p).2
  unfold toldDat ceD
  split
  · split
    · exact ⟨by decide +kernel, by decide +kernel⟩
    · refine ⟨?_, ?_⟩
      · simp only [PyData.canLay0, PyData.canLayAll0, hx, i1, Bool.and_true, Bool.true_and]
        decide +kernel
      · simp only [PyData.depth, PyData.depthAll]
        omega
  · refine ⟨?_, ?_⟩
    · simp only [PyData.canLay0, PyData.canLayAll0, hx, Bool.and_true, Bool.true_and]
      decide +kernel
    · simp only [PyData.depth, PyData.depthAll]
      omega
theorem told_shp {d : Int} {ts : List Tb} {x : Str} {p : List Int} (hx : PyData.strOk x = true) : SeqAt.shaped (.list (List.replicate 5 (toldDat d ts x p))) = true := shaped_list fun e he => by
  rw [List.eq_of_mem_replicate he]
  have z := told_good (d := d) (ts := ts) (p := p) hx
  exact ⟨z.1, by omega⟩
theorem ar_ok {dn : Nat} {ts : List Tb} {p : List Int} (h3 : dn ≤ 3) (O : OkT dn ts) (few : (((ts.map fun t => t.rs.length).sum : Nat) : Int) ≤ 6) (sm : ∀ t ∈ ts, SmT t) (hp : ∀ n ∈ p, n.natAbs ≤ 2 ^ 100) : ArOk dn ts p ∧ ∀ l ∈ links ts, l.r.t ∈ ts.map (·.n) := by
  have get : ∀ l ∈ links ts, ∃ t ∈ ts, l.r ∈ t.rs := fun l hl => by
    obtain ⟨t, ht, _, e⟩ := mem_links.mp hl
    exact ⟨t, ht, List.mem_of_getElem? e⟩
  refine ⟨⟨O.nodup, by omega, by omega, fun l hl => ?_, fun l hl n hn => ?_, hp⟩, fun l hl => ?_⟩
  · obtain ⟨t, ht, hr⟩ := get l hl
    have z := O.reads t ht _ hr
    unfold isRead at z
    rw [Bool.and_eq_true, Bool.and_eq_true, decide_eq_true_eq] at z
    omega
  · obtain ⟨t, ht, hr⟩ := get l hl
    have z := (sm t ht).v _ hr n hn
    have : 1000 ≤ 2 ^ 100 := by decide
    omega
  · obtain ⟨t, ht, hr⟩ := get l hl
    exact O.here t ht _ hr
section
variable {P : Program} {w : World} {K : PySem.W.Frag} {mg : Str → Option Value} {base : Heap} {c : Nat → Addr}
def spRight27 (K : PySem.W.Frag) (TT : List (Addr × Str)) : Sp := fun vs H Q _ => ∃ (r : Addr) (m : Nat) (B : Hp), vs = [.ref r] ∧ LS TT r m B H ∧ m ≤ 2 ^ 57 ∧ ∀ H', LS TT r (m + 2000) B H' → Q (.bl true) H'
theorem ok_right27 {f C : Addr} {fd : FuncData} {TT : List (Addr × Str)} (F : Fun K "_law_right" "_law_right" s_Lright f fd) (T : Txt mg) (eq_System : EqM P w K mg base 1 C (spSysEq K C))
    (c_Ldraw : C8.Cal P w K mg base 1 "_law_draw" spDraw []) (c_Ltables : C8.Cal P w K mg base 3 "_law_tables" (spTabs K) []) (c_Lmade : C8.Cal P w K mg base 7 "_law_made" (spMade K C TT) []) (c_Ltold : C8.Cal P w K mg base 9 "_law_told" (spToldA K C) []) : FnOk P w K mg base CX0 10 f fd ["_law_pool_here"] (spRight27 K TT) := by
  refine F.ok sc_Lright (fun vs H Q E h => ?_) (fun cdv A outer sh H vs Q E hr h => ?_)
  · obtain ⟨r, m, B, rfl, _⟩ := h
    rfl
  · obtain ⟨r, m, B, rfl, L, hm, q⟩ := h
    have hu := hu_of hr
    refine ⟨_, (pss_cons (ps_set (i := 1) sc_Lright.nd rfl (by first | exact Or.inl rfl | exact Or.inr rfl) (pe_op op_add pe_int (C8.pe_c c_Ldraw hr (by decide) (by rfl) (pa_cons (pv 0) (pa_cons pe_int pa_nil)))))
  (pss_cons (ps_set (i := 2) sc_Lright.nd rfl (by first | exact Or.inl rfl | exact Or.inr rfl) (C8.pe_c c_Ltables hr (by decide) (by rfl) (pa_cons (pv 0) (pa_cons (pv 1) (pa_cons pe_int pa_nil)))))
  (pss_cons (ps_asg (pe_tup (pa_cons (C8.pe_c c_Lmade hr (by decide) (by rfl) (pa_cons (pv 1) (pa_cons (pv 2) pa_nil))) (pa_cons (pe_lc (own := [("_law_one", 5)]) (g := gName 5) (tt := tYes) (by rfl) sc_Lright.nd (pi_list (pv 2)) (blkOk_by (N := ["_law_pool_here", "_law_axes", "_law_tables_here", "_law_made_here", "_law_titles", "_law_one", "_law_title", "_law_many", "_law_point", "_law_axis", "_law_place", "_law_due", "_law_door"]) (sc := defScope s_Lright) (by decide +kernel)) (fun _ _ _ _ _ => (pg_name (i := 5) sc_Lright.nd rfl (by first | exact Or.inl rfl | exact Or.inr rfl))) (fun _ _ _ _ _ => pts_nil) (fun _ _ _ _ _ => (pe_ix (r := rIxT K) ix_tup (pv 5) pe_int (fun _ _ => rfl)))) pa_nil))) (pg_tup rfl (pgs_cons (pg_name (i := 3) sc_Lright.nd rfl (by first | exact Or.inl rfl | exact Or.inr rfl)) (pgs_cons (pg_name (i := 4) sc_Lright.nd rfl (by first | exact Or.inl rfl | exact Or.inr rfl)) pgs_nil))))
  (pss_cons (ps_set (i := 6) sc_Lright.nd rfl (by first | exact Or.inl rfl | exact Or.inr rfl) (pe_ix ix_list (pe_op op_cat (pv 4) (pe_lst (pa_cons pe_str (pa_cons pe_str (pa_cons pe_str pa_nil))))) (C8.pe_c c_Ldraw hr (by decide) (by rfl) (pa_cons (pv 0) (pa_cons (pe_op op_add (pe_callB call_len_seq (by rfl) T.b_len PySem.boot_len (pa_cons (pv 4) pa_nil)) pe_int) pa_nil))) (fun _ _ => rfl)))
  (pss_cons (ps_set (i := 7) sc_Lright.nd rfl (by first | exact Or.inl rfl | exact Or.inr rfl) (pe_ix ix_list (pe_lst (pa_cons (pv 1) (pa_cons (pv 1) (pa_cons (C8.pe_c c_Ldraw hr (by decide) (by rfl) (pa_cons (pv 0) (pa_cons pe_int pa_nil))) pa_nil)))) (C8.pe_c c_Ldraw hr (by decide) (by rfl) (pa_cons (pv 0) (pa_cons pe_int pa_nil))) (fun _ _ => rfl)))
  (pss_cons (ps_setLc (i := 8) (own := [("_law_axis", 9)]) (g := gName 9) (tt := tYes) (by rfl) sc_Lright.nd rfl rfl (sw_true rfl rfl rfl (by decide +kernel)) (pi_range1 (by rfl) T.b_range (pa_cons (pv 7) pa_nil)) (blkOk_by (N := ["_law_pool_here", "_law_axes", "_law_tables_here", "_law_made_here", "_law_titles", "_law_one", "_law_title", "_law_many", "_law_point", "_law_axis", "_law_place", "_law_due", "_law_door"]) (sc := defScope s_Lright) (by decide +kernel)) (fun _ _ _ _ _ => (pg_name (i := 9) sc_Lright.nd rfl (by first | exact Or.inl rfl | exact Or.inr rfl))) (fun _ _ _ _ _ => pts_nil) (fun _ _ _ _ _ => (pe_ix (r := rIxL K) ix_list (pe_lst (pa_cons pe_int (pa_cons pe_int (pa_cons (pe_un un_neg pe_int) (pa_cons (pe_op op_pow pe_int pe_int) (pa_cons (pe_op op_sub pe_int (pe_op op_pow pe_int pe_int)) pa_nil)))))) (C8.pe_c c_Ldraw hr (by decide) (by rfl) (pa_cons (pv 0) (pa_cons pe_int pa_nil))) (fun _ _ => rfl))))
  (pss_cons (ps_asg (pe_tup (pa_cons (pe_tup (pa_cons (pv 6) (pa_cons (pe_callTy call_tuple_of (by rfl) T.b_tuple (by decide +kernel) (pa_cons (pv 8) pa_nil)) pa_nil))) (pa_cons (pe_lst (pa_cons pe_str (pa_cons pe_non pa_nil))) pa_nil))) (pg_tup rfl (pgs_cons (pg_name (i := 10) sc_Lright.nd rfl (by first | exact Or.inl rfl | exact Or.inr rfl)) (pgs_cons (pg_name (i := 11) sc_Lright.nd rfl (by first | exact Or.inl rfl | exact Or.inr rfl)) pgs_nil))))
  (pss_cons (ps_csq (ps_if (PW.pt (pw_or (pt_cmpR op_ne (pe_callB call_len_seq (by rfl) T.b_len PySem.boot_len (pa_cons (pv 8) pa_nil)) (pv 1) (nomark _)) (pw_or1 (pt_cmpR op_lt (pe_callB (cr_min rfl) (by rfl) T.b_min (by decide +kernel) (pa_cons (pv 8) pa_nil)) pe_int (nomark _)))))
    (pss_one (ps_set (i := 11) sc_Lright.nd rfl (by first | exact Or.inl rfl | exact Or.inr rfl) (pe_lst (pa_cons pe_str (pa_cons (pv 10) pa_nil)))))
    pss_nil))
  (pss_cons (ps_csq (ps_if (pt_cmpR op_notIn_seq (pv 6) (pv 4) (by rfl))
    (pss_one (ps_set (i := 11) sc_Lright.nd rfl (by first | exact Or.inl rfl | exact Or.inr rfl) (pe_lst (pa_cons pe_str (pa_cons (pv 6) pa_nil)))))
    pss_nil))
  (pss_one (ps_ret (pe_and (pe_cmpR (op_eqD hr.units) (pe_lc (own := [("_law_door", 12)]) (g := gName 12) (tt := tYes) (by rfl) sc_Lright.nd (pi_range1 (by rfl) T.b_range (pa_cons pe_int pa_nil)) (blkOk_by (N := ["_law_pool_here", "_law_axes", "_law_tables_here", "_law_made_here", "_law_titles", "_law_one", "_law_title", "_law_many", "_law_point", "_law_axis", "_law_place", "_law_due", "_law_door"]) (sc := defScope s_Lright) (by decide +kernel)) (fun _ _ _ _ _ => (pg_name (i := 12) sc_Lright.nd rfl (by first | exact Or.inl rfl | exact Or.inr rfl))) (fun _ _ _ _ _ => pts_nil) (fun _ _ _ _ _ => (C8.pe_c c_Ltold hr (by decide) (by rfl) (pa_cons (pv 12) (pa_cons (pv 3) (pa_cons (pv 10) pa_nil)))))) (pe_op op_rep (pe_lst (pa_cons (pv 11) pa_nil)) pe_int) (nomark _)) (pe_one (pe_cmpR (op_eqOwn eq_System hr (by decide)) (pv 3) (C8.pe_c c_Lmade hr (by decide) (by rfl) (pa_cons (pv 1) (pa_cons (pv 2) pa_nil))) (nomark _))))))))))))))), ?_⟩
    have z2 : 2 ≤ sizeLine := by decide
    have z1 : 1 ≤ sizeLine := by decide
    -- axes
    refine ⟨_, rfl, r, 3, _, rfl, L.rs.ok, by omega, by decide, by decide, fun d1 H1 d10 d11 D1 => ⟨_, _, rfl, rfl, ?_⟩⟩
    have L1 := L.dr D1
    obtain ⟨dn, hdn⟩ : ∃ dn : Nat, 1 + d1 = (dn : Int) := ⟨(1 + d1).toNat, by omega⟩
    have ha1 : 1 ≤ dn := by omega
    have ha3 : dn ≤ 3 := by omega
    dsimp only
    rw [hdn]
    -- the tables
    refine ⟨_, rfl, _, rfl, r, dn, 6, m + 1, _, rfl, RS.cut L1.rs.ok, by omega, by omega, by decide, by decide, by omega, fun lp B2 H2 ts s2 R2 hlp l1 l4 O hs sm few => ?_⟩
    have L2 := L1.call R2 s2
    have hlp2 := hlp.grow R2.s
    have OY : OkSys dn 97 ts := ⟨by omega, by omega, by decide, l1, by omega, O⟩
    refine ⟨_, rfl, _, rfl, dn, _, ts, rfl, L2.tb, OY, hlp2.dp, fun s H4 X4 T4 S4 => ?_⟩
    have L4 := L2.ext X4 T4
    have hlp4 := hlp2.ext X4
    obtain ⟨tvs, htv, htd⟩ := id hlp4
    have tl : tvs.length = ts.length := by rw [dps_len htd, List.length_map]
    refine ⟨_, rfl, lp, rfl, ⟨_, Or.inl (Or.inl htv)⟩, fun D hD => lc_flat (walk_list (K := K) (a := lp) (xs := tvs)) (fun i => .str ((ts.map (·.n)).getD i "")) (by omega) hD (fun H' sm => sql sm (Or.inl (Or.inl htv))) (fun i H x H' y => yat_same y) ?_ ?_⟩
    · rintro i y Hi _ hi si ⟨rfl, hy⟩ R hR
      obtain ⟨dd, e, hd⟩ := dps_get (dpsm si _ _ htd) hy
      rw [List.getElem?_map] at e
      obtain ⟨t, ht, rfl⟩ := Option.map_eq_some_iff.mp e
      obtain ⟨ta, us, rfl, ut, ud⟩ := dtup hd
      obtain ⟨w1, w2, w3, rfl, h1, h2, h3⟩ := dps3 ud
      obtain rfl := dstr h1
      have r2 := hR _ same_refl
      rw [List.getD_eq_getElem?_getD, List.getElem?_map, ht] at r2
      exact ⟨rfl, _, rfl, ta, _, _, _, rfl, rfl, ut, rfl, r2⟩
    · intro H6 s6 hD6
      obtain ⟨N, hN⟩ : ∃ N, N = ts.map (·.n) := ⟨_, rfl⟩
      have eN : ((List.range tvs.length).map fun i => V.str ((ts.map (·.n)).getD i "")) = N.map V.str := by
        rw [tl, hN]
        have z := range_map_get ((ts.map (·.n)).map V.str) (fun i => V.str ((ts.map (·.n)).getD i "")) (fun i x hx => by
          rw [List.getElem?_map] at hx
          obtain ⟨n, hn, rfl⟩ := Option.map_eq_some_iff.mp hx
          rw [List.getD_eq_getElem?_getD, hn]
          rfl)
        rw [List.length_map, List.length_map] at z
        exact z
      rw [eN] at hD6
      refine ⟨z2, fun tp htp => ⟨tp, _, rfl, Or.inl (Or.inl upd_same), rfl, _, _, rfl, _, _, rfl, rfl, ?_⟩⟩
      have s7 := snew (o := .tup [V.ref s, V.ref D]) htp
      have s47 := same_tr s6 s7
      have D7 := s7 _ _ hD6
      generalize upd H6 tp (.tup [V.ref s, V.ref D]) = H7 at s7 s47 D7 ⊢
      have L7 := L4.grow s47
      have rD : r ≠ D := L4.rs.ne hD
      have U7 : Same B (bs H7 r) := L7.up
      have lp7 : LD K (bs H7 r) lp (ts.map Tb.d) := LD.to hlp R2.s R2.n (X4.trans (.of s47))
      have S7 : SysAt K C (bs H7 r) s dn 97 (srt ts) := (S4.mono s47).re L7.rs.ok
      have D7 : (bs H7 r) D = some (.lst (N.map V.str)) := bs_of D7 rD.symm (fun ps z => by cases z)
      have L7 := L7.re
      generalize bs H7 r = B7 at L7 U7 D7 lp7 S7
      have OT : OkT dn (srt ts) := O.perm (srt_perm ts).symm
      have Nl : N.length ≤ 4 := by rw [hN, List.length_map]; exact l4
      clear hD6 htp s7 s47 s6 hD htv htd hlp4 L4 S4 T4 X4 hlp2 L2 R2 s2 hlp L1 D1 L eN
      -- title
      refine ⟨_, rfl, (by show 3 ≤ sizeLine; decide), fun q1 hq1 => ⟨D, q1, _, _, rfl, rfl, snew hq1 _ _ (L7.rs.s _ _ D7), upd_same, ?_, fun q2 hq2 => ?_⟩⟩
      · rw [List.length_map, sizeLine_eq]
        show N.length + 3 ≤ _
        omega
      have L8 := (L7.new hq1).new (o := .lst (N.map V.str ++ [V.str "zz", V.str "c", V.str ""])) hq2
      have q28 : (upd (upd H7 q1 (.lst [V.str "zz", V.str "c", V.str ""])) q2 (.lst (N.map V.str ++ [V.str "zz", V.str "c", V.str ""]))) q2 = some (.lst ((N ++ ([("zz" : Str), "c", ""] : List Str)).map V.str)) := by
        rw [upd_same, List.map_append]
        rfl
      have rq2 : r ≠ q2 := (L7.new hq1).rs.ne hq2
      generalize upd (upd H7 q1 (.lst [V.str "zz", V.str "c", V.str ""])) q2 (.lst (N.map V.str ++ [V.str "zz", V.str "c", V.str ""])) = H8 at L8 q28 ⊢
      refine ⟨_, rfl, _, rfl, D, _, rfl, Or.inl (Or.inl (Or.inl (L8.rs.s _ _ D7))), _, _, rfl, rfl, r, _, _, rfl, L8.rs.ok, by omega, ?_, ?_, fun d2 H9 d20 d21 D2 => ?_⟩
      · rw [List.length_map]
        omega
      · rw [List.length_map]
        refine Nat.lt_of_le_of_lt (m := 7) (by omega) (by decide)
      rw [List.length_map] at d21
      have L9 := L8.dr D2
      have q29 : H9 q2 = some (.lst ((N ++ ([("zz" : Str), "c", ""] : List Str)).map V.str)) := by rw [D2.ne _ rq2.symm]; exact q28
      obtain ⟨tv, htv1, htv2, _⟩ := atI_in (xs := (N ++ ([("zz" : Str), "c", ""] : List Str)).map V.str) d20 (by rw [List.length_map, List.length_append]; show d2 < ((N.length + 3 : Nat) : Int); omega)
      obtain ⟨x, hx, rfl⟩ := List.mem_map.mp htv2
      refine ⟨q2, _, d2, _, rfl, rfl, Or.inl (Or.inl q29), htv1, ?_⟩
      have xok : PyData.strOk x = true := by
        rcases List.mem_append.mp hx with h | h
        · rw [hN] at h
          obtain ⟨t, ht, rfl⟩ := List.mem_map.mp h
          exact (hs t ht).1
        · revert h
          have : ∀ y ∈ (["zz", "c", ""] : List Str), PyData.strOk y = true := by decide +kernel
          exact this x
      clear htv1 htv2 hx q29 q28 rq2 L8 D2 hq1 hq2 L7
      -- many
      refine ⟨_, rfl, _, rfl, _, rfl, r, 5, _, rfl, L9.rs.ok, by omega, by decide, by decide, fun d3 H10 d30 d31 D3 => ⟨(by show 3 ≤ sizeLine; decide), fun l1 hl1 => ?_⟩⟩
      have L10 := (L9.dr D3).new (o := .lst [V.int dn, V.int dn, V.int d3]) hl1
      have hq10 : (upd H10 l1 (.lst [V.int dn, V.int dn, V.int d3])) l1 = some (.lst [V.int dn, V.int dn, V.int d3]) := upd_same
      have rl1 : r ≠ l1 := (L9.dr D3).rs.ne hl1
      generalize upd H10 l1 (.lst [V.int dn, V.int dn, V.int d3]) = H11 at L10 hq10 ⊢
      refine ⟨_, rfl, r, 3, _, rfl, L10.rs.ok, by omega, by decide, by decide, fun d4 H12 d40 d41 D4 => ?_⟩
      have L12 := L10.dr D4
      have hq12 : H12 l1 = some (.lst [V.int dn, V.int dn, V.int d3]) := by rw [D4.ne _ rl1.symm]; exact hq10
      obtain ⟨kn, hkn, kat⟩ : ∃ kn : Nat, kn ≤ 4 ∧ atI [V.int dn, V.int dn, V.int d3] d4 = some (V.int kn) := by
        by_cases z0 : d4 = 0
        · exact ⟨dn, by omega, by rw [z0]; rfl⟩
        by_cases z1 : d4 = 1
        · exact ⟨dn, by omega, by rw [z1]; rfl⟩
        · have z2 : d4 = 2 := by omega
          refine ⟨d3.toNat, by omega, ?_⟩
          rw [z2, show ((d3.toNat : Nat) : Int) = d3 by omega]
          rfl
      refine ⟨l1, _, d4, _, rfl, rfl, Or.inl (Or.inl hq12), kat, ?_⟩
      clear kat hq12 hq10 rl1 L10 D4 D3 hl1 L9
      -- point
      refine ⟨_, rfl, kn, rfl, by omega, by omega, fun E hE => ?_⟩
      have rE : r ≠ E := L12.rs.ne hE
      have bE : B7 E = none := free_of L12.rs.s hE
      refine lc_it walk_range (fun i H' => ∃ ns : List Int, ns.length = i ∧ LS TT r (m + 1100 + 10 * i) B7 H' ∧ H' E = some (.lst (ns.map V.int)) ∧ ∀ n ∈ ns, n.natAbs ≤ 2 ^ 100) ⟨[], rfl, (L12.new hE).mono (by omega), upd_same, (fun y h => by cases h)⟩ (fun _ _ _ _ => True.intro) ?_ ?_
      · rintro i y _ Hi hi ⟨ns, b1, b2, b3, b4⟩ ⟨rfl, rfl⟩
        have hi : i < kn := hi
        refine ⟨rfl, _, rfl, _, _, rfl, rfl, ⟨by decide, by decide, by decide⟩, _, _, rfl, rfl, ⟨by decide, by decide, by decide⟩, _, _, rfl, rfl, (by show 5 ≤ sizeLine; decide), fun l2 hl2 => ?_⟩
        have bD := b2.new (o := .lst [V.int 0, V.int 5, V.int (-1), V.int (10 ^ (30 : Int).toNat), V.int (0 - 10 ^ (30 : Int).toNat)]) hl2
        have h2 : (upd Hi l2 (.lst [V.int 0, V.int 5, V.int (-1), V.int (10 ^ (30 : Int).toNat), V.int (0 - 10 ^ (30 : Int).toNat)])) l2 = some (.lst [V.int 0, V.int 5, V.int (-1), V.int (10 ^ (30 : Int).toNat), V.int (0 - 10 ^ (30 : Int).toNat)]) := upd_same
        have e2 := snew (o := .lst [V.int 0, V.int 5, V.int (-1), V.int (10 ^ (30 : Int).toNat), V.int (0 - 10 ^ (30 : Int).toNat)]) hl2 _ _ b3
        have rl2 : r ≠ l2 := b2.rs.ne hl2
        generalize upd Hi l2 (.lst [V.int 0, V.int 5, V.int (-1), V.int (10 ^ (30 : Int).toNat), V.int (0 - 10 ^ (30 : Int).toNat)]) = Hj at bD h2 e2 ⊢
        refine ⟨_, rfl, r, 5, _, rfl, bD.rs.ok, by omega, by decide, by decide, fun d5 Hk d50 d51 D5 => ?_⟩
        have bk := bD.dr D5
        have hk2 := h2
        rw [← D5.ne _ rl2.symm] at hk2
        have hk3 := e2
        rw [← D5.ne _ rE.symm] at hk3
        obtain ⟨nv, nat, nsm⟩ : ∃ nv : Int, atI [V.int 0, V.int 5, V.int (-1), V.int (10 ^ (30 : Int).toNat), V.int (0 - 10 ^ (30 : Int).toNat)] d5 = some (V.int nv) ∧ nv.natAbs ≤ 2 ^ 100 := by
          have hd : d5 = 0 ∨ d5 = 1 ∨ d5 = 2 ∨ d5 = 3 ∨ d5 = 4 := by omega
          rcases hd with rfl | rfl | rfl | rfl | rfl
          · exact ⟨0, rfl, by decide⟩
          · exact ⟨5, rfl, by decide⟩
          · exact ⟨-1, rfl, by decide⟩
          · exact ⟨10 ^ (30 : Int).toNat, rfl, by decide +kernel⟩
          · exact ⟨0 - 10 ^ (30 : Int).toNat, rfl, by decide +kernel⟩
        refine ⟨l2, _, d5, _, rfl, rfl, Or.inl (Or.inl hk2), nat, ?_⟩
        refine ⟨ns.map V.int, hk3, small1000 (by rw [List.length_map]; omega), ns ++ [nv], by rw [List.length_append, b1]; rfl, (bk.put bE rE hk3).mono (by omega), by rw [upd_same, List.map_append]; rfl, fun n hn => ?_⟩
        rcases List.mem_append.mp hn with h | h
        · exact b4 n h
        · rw [List.mem_singleton.mp h]
          exact nsm
      rintro H13 ⟨ns, b1, L13, b3, b4⟩
      have U13 : Same B7 (bs H13 r) := L13.up
      have lp13 := lp7.grow U13
      have S13 := S7.mono U13
      have D13 := U13 _ _ D7
      have E13 : (bs H13 r) E = some (.lst (ns.map V.int)) := bs_of b3 rE.symm fun ps z => by cases z
      have L14 := L13.re
      have UB := same_tr U7 U13
      generalize bs H13 r = B13 at L14 U13 lp13 S13 D13 E13 UB
      clear L13 b3 bE hE L12 U7 lp7 S7 D7 U13
      obtain ⟨AR, rin⟩ := ar_ok (ts := srt ts) ha3 OT (by rw [((srt_perm ts).map _).sum_nat]; exact few) (fun t ht => sm t ((srt_perm ts).mem_iff.mp ht)) b4
      -- place, due
      refine ⟨_, rfl, _, rfl, E, _, rfl, Or.inl ⟨Or.inl (Or.inl (L14.rs.s _ _ E13)), fun t1 ht1 => ⟨z2, fun t2 ht2 => ⟨z2, fun l3 hl3 => ⟨z2, fun t4 ht4 => ⟨t4, _, rfl, Or.inl (Or.inl upd_same), rfl, _, _, rfl, _, _, rfl, rfl, ?_⟩⟩⟩⟩⟩⟩
      have c1 := snew (o := .tup (ns.map V.int)) ht1
      have c2 := snew (o := .tup [V.str x, V.ref t1]) ht2
      have c3 := snew (o := .lst [V.str "none", V.non]) hl3
      have c4 := snew (o := .tup [V.ref t2, V.ref l3]) ht4
      have pl : Dp K (upd (upd (upd (upd H13 t1 (.tup (ns.map V.int))) t2 (.tup [V.str x, V.ref t1])) l3 (.lst [V.str "none", V.non])) t4 (.tup [V.ref t2, V.ref l3])) (.ref t2) (ceD x ns) := dpm (same_tr c3 c4) _ _ (.tup (Or.inl (Or.inl upd_same)) (.cons (.str _) (.cons (.tup (Or.inl (Or.inl (c2 _ _ upd_same))) (ints_dps _)) .nil)))
      have du : (upd (upd (upd (upd H13 t1 (.tup (ns.map V.int))) t2 (.tup [V.str x, V.ref t1])) l3 (.lst [V.str "none", V.non])) t4 (.tup [V.ref t2, V.ref l3])) l3 = some (.lst [V.str "none", V.non]) := c4 _ _ upd_same
      have L15 := L14.grow (same_tr (same_tr c1 c2) (same_tr c3 c4))
      generalize upd (upd (upd (upd H13 t1 (.tup (ns.map V.int))) t2 (.tup [V.str x, V.ref t1])) l3 (.lst [V.str "none", V.non])) t4 (.tup [V.ref t2, V.ref l3]) = H15 at pl du L15 ⊢
      clear c1 c2 c3 c4 ht1 ht2 hl3 ht4 L14 H13
      have E15 := L15.rs.s _ _ E13
      have D15 := L15.rs.s _ _ D13
      have ok_iff : okPoint dn ns = true ↔ (kn = dn ∧ ∀ n ∈ ns, 0 ≤ n) := by
        unfold okPoint
        rw [Bool.and_eq_true, decide_eq_true_eq, List.all_eq_true]
        constructor
        · rintro ⟨h1, h2⟩
          exact ⟨by omega, fun n hn => of_decide_eq_true (h2 n hn)⟩
        · rintro ⟨h1, h2⟩
          exact ⟨by omega, fun n hn => decide_eq_true (h2 n hn)⟩
      refine ⟨fun σ H' => ∃ du : Addr, σ = [some (.ref r), some (.int dn), some (.ref lp), some (.ref s), some (.ref D), none, some (.str x), some (.int kn), some (.ref E), none, some (.ref t2), some (.ref du), none] ∧ Same H15 H' ∧ H' du = some (.lst (if okPoint dn ns = true then [.str "none", .non] else [.str "cell", .ref t2])), ?_, ?_⟩
      rotate_left
      · refine ⟨_, rfl, E, _, rfl, Or.inl (Or.inl (Or.inl E15)), _, rfl, rfl, _, rfl, ?_⟩
        have ev : (!decide (V.int (((ns.map V.int).length : Nat) : Int) = V.int ((dn : Nat) : Int))) = !decide (kn = dn) := by
          rw [dec_int, List.length_map, b1]
          congr 1
          rw [Bool.eq_iff_iff, decide_eq_true_eq, decide_eq_true_eq]
          omega
        rw [ev]
        by_cases e : kn = dn
        · rw [decide_eq_true e]
          refine iteF ⟨_, rfl, E, ns, rfl, Or.inl (Or.inl E15), by omega, fun mn hmn hle => ?_⟩
          refine ⟨_, _, rfl, rfl, _, rfl, ?_⟩
          by_cases e2 : mn < 0
          · rw [decide_eq_true e2]
            refine iteT ⟨_, rfl, z2, fun l hl => ⟨l, rfl, snew hl, ?_⟩⟩
            rw [if_neg fun h => absurd ((ok_iff.mp h).2 mn hmn) (by omega)]
            exact upd_same
          · rw [decide_eq_false e2]
            refine iteF ⟨l3, rfl, same_refl, ?_⟩
            rw [if_pos (ok_iff.mpr ⟨e, fun n hn => by have := hle n hn; omega⟩)]
            exact du
        · rw [decide_eq_false e]
          refine iteT (iteT ⟨_, rfl, z2, fun l hl => ⟨l, rfl, snew hl, ?_⟩⟩)
          rw [if_neg fun h => e (ok_iff.mp h).1]
          exact upd_same
      rintro σ H16 ⟨du, rfl, s16, hdu⟩
      have xin : x ∈ N ↔ x ∈ (srt ts).map (·.n) := by
        rw [hN]
        exact ((srt_perm ts).map _).mem_iff.symm
      refine ⟨fun σ H' => ∃ du : Addr, σ = [some (.ref r), some (.int dn), some (.ref lp), some (.ref s), some (.ref D), none, some (.str x), some (.int kn), some (.ref E), none, some (.ref t2), some (.ref du), none] ∧ Same H15 H' ∧ H' du = some (.lst (toldA dn (srt ts) (.ref t2) x ns)), ?_, ?_⟩
      rotate_left
      · refine ⟨_, rfl, _, rfl, D, _, rfl, Or.inl (Or.inl (Or.inl (s16 _ _ D15))), rfl, flat_strs _, ?_⟩
        by_cases e : x ∈ N
        · rw [inV_str e]
          refine ⟨_, rfl, iteF ⟨du, rfl, s16, ?_⟩⟩
          rw [hdu]
          unfold toldA
          rw [if_pos (xin.mp e)]
        · rw [inV_no e]
          refine ⟨_, rfl, iteT ⟨_, rfl, z2, fun l hl => ⟨l, rfl, same_tr s16 (snew hl), ?_⟩⟩⟩
          rw [upd_same]
          unfold toldA
          rw [if_neg fun h => e (xin.mpr h)]
      clear s16 hdu du ok_iff
      rintro σ H17 ⟨du, rfl, s17, hdu⟩
      have L17 := L15.grow s17
      have pl17 := dpm s17 _ _ pl
      have D17 := s17 _ _ D15
      clear s17 pl D15 E15 L15 H16
      have sokS : ∀ n ∈ (srt ts).map (·.n), PyData.strOk n = true := fun n hn => by
        obtain ⟨t, ht, rfl⟩ := List.mem_map.mp hn
        exact (hs t ((srt_perm ts).mem_iff.mp ht)).1
      have zzS : ("zz" : Str) ∉ (srt ts).map (·.n) := fun hn => by
        obtain ⟨t, ht, e⟩ := List.mem_map.mp hn
        exact (hs t ((srt_perm ts).mem_iff.mp ht)).2 e
      refine ⟨5, rfl, by decide, by decide, fun G hG => lc_rows walk_range (fun _ => toldA dn (srt ts) (.ref t2) x ns) (by decide) hG (fun _ _ => True.intro) (fun i H x H' y => y.1 ▸ same_refl) ?_ ?_⟩
      · rintro i y Hi _ hi si ⟨rfl, rfl⟩ R hR
        have hi : i < 5 := hi
        exact ⟨rfl, _, rfl, _, rfl, _, rfl, s, dn, 97, _, srt ts, .ref t2, x, ns, rfl, S13.mono (same_tr L17.rs.s si), dpm si _ _ pl17, by omega, AR, by omega, by omega, sokS, rin, zzS, fun l H14 hl s14 hl' => hR l H14 hl s14 hl'⟩
      intro H18 rs s18 hG18 lrs ndr hrs
      have L18 := L17.grow s18
      have pl18 := dpm s18 _ _ pl17
      have du18 := s18 _ _ hdu
      refine ⟨_, rfl, z1, fun n2 hn2 => ⟨n2, 5, _, rfl, rfl, upd_same, by decide, by decide, (by show 1 * 5 ≤ sizeLine; decide), fun n3 hn3 => ?_⟩⟩
      have s19 : Same H18 (upd (upd H18 n2 (.lst [.ref du])) n3 (.lst (List.replicate (5 : Int).toNat [V.ref du]).flatten)) := same_tr (snew hn2) (snew hn3)
      have n19 : (upd (upd H18 n2 (.lst [.ref du])) n3 (.lst (List.replicate (5 : Int).toNat [V.ref du]).flatten)) n3 = some (.lst ((List.replicate 5 du).map V.ref)) := upd_same
      generalize upd (upd H18 n2 (.lst [.ref du])) n3 (.lst (List.replicate (5 : Int).toNat [V.ref du]).flatten) = H19 at s19 n19 ⊢
      have pl19 := dpm s19 _ _ pl18
      have tdp : ∀ ads : List Addr, (∀ a ∈ ads, H19 a = some (.lst (toldA dn (srt ts) (.ref t2) x ns))) → DpAll K H19 (ads.map V.ref) (List.replicate ads.length (toldDat dn (srt ts) x ns)) := fun ads => by
        induction ads with
        | nil => intro _; exact .nil
        | cons a ads ih => intro h; exact .cons (told_dp (h a (List.mem_cons_self ..)) pl19) (ih fun b hb => h b (List.mem_cons_of_mem _ hb))
      have l5 : rs.length = 5 := lrs
      have shp := told_shp (d := dn) (ts := srt ts) (p := ns) xok
      have dp1 := tdp rs fun a ha => by
        obtain ⟨j, hj⟩ := List.mem_iff_getElem?.mp ha
        exact s19 _ _ (hrs j a hj).2.2
      have dp2 := tdp (List.replicate 5 du) fun a ha => by
        rw [List.eq_of_mem_replicate ha]
        exact s19 _ _ du18
      rw [l5] at dp1
      refine ⟨_, _, .lst (Or.inl (Or.inl (s19 _ _ hG18))) dp1, .lst (Or.inl (Or.inl n19)) dp2, shp, shp, ?_⟩
      rw [List.length_replicate, SeqAt.eqv_refl _ (SeqAt.canLay_of_shaped shp)]
      have L19 := L18.grow s19
      refine ⟨_, rfl, iteT ?_⟩
      have S19 := S13.mono L19.rs.s
      have lp19 := lp13.grow L19.rs.s
      refine ⟨_, rfl, _, rfl, _, rfl, dn, _, ts, rfl, L19.tb, OY, lp19.dp, fun x2 H26 X26 T26 S26 => ?_⟩
      exact eq_sys (S19.ext X26) S26 OT (q _ (((L19.ext X26 T26).sub UB).mono (by omega)))
end
end Fr

namespace Fr
open PySem PySem.Spec PyProof.Rows L2
abbrev s_law : Stmt := topS 64
theorem sc_law : FnScope ["_law_script", "_law_at", "_law_pool_here", "_law_turn"] ["_law_script"] (defScope s_law) := ⟨rfl, rfl, rfl, by decide +kernel, rfl, by decide +kernel, by decide +kernel⟩
-- slots: 0 _law_script, 1 _law_at, 2 _law_pool_here, 3 _law_turn
section
variable {P : Program} {w : World} {K : PySem.W.Frag} {mg : Str → Option Value} {base : Heap} {c : Nat → Addr}
def spLaw27 (K : PySem.W.Frag) (TT : List (Addr × Str)) : Sp := fun vs H Q _ => ∃ (a : Addr) (ns : List Int), vs = [.ref a] ∧ SqL K H a (ns.map V.int) ∧ ns.length ≤ 63 ∧ LamX.Tabs TT H ∧ ∀ H', Q (.bl true) H'
theorem bare_links : links (srt [bare]) = [] := by decide +kernel
theorem bare_names : (srt [bare]).map (·.n) = ([("a" : Str)] : List Str) := by decide +kernel
theorem ok_law27 {f C : Addr} {fd : FuncData} {TT : List (Addr × Str)} (F : Fun K "law" "law" s_law f fd) (T : Txt mg) (zm : mg "max" = none) (TC : TxtC K mg C) (c_Lpool : C8.Cal P w K mg base 1 "_law_pool" (spPool K) []) (c_Lright : C8.Cal P w K mg base 10 "_law_right" (spRight27 K TT) [])
    (m_System : C8.Mak P w K mg base 5 "System" C (spInit K C TT) [.int 1000003]) (c_Ltold : C8.Cal P w K mg base 9 "_law_told" (spToldA K C) []) : FnG P w K mg base 11 f fd ["_law_script"] (spLaw27 K TT) := by
  refine Fun_okG F sc_law (fun vs H Q E h => ?_) (fun cdv A outer sh H vs Q E hr h => ?_)
  · obtain ⟨a, ns, rfl, _⟩ := h
    rfl
  · obtain ⟨a, ns, rfl, ha, hl, hT, q⟩ := h
    have hu := hu_of hr.room
    refine ⟨_, (pss_cons (ps_for PassesOwn.never rfl (pi_range1 (by rfl) T.b_range (pa_cons (pe_callB (call_max2 rfl) (by rfl) zm (by decide +kernel) (pa_cons pe_int (pa_cons (pe_callB (call_min2 rfl) (by rfl) T.b_min (by decide +kernel) (pa_cons pe_int (pa_cons (pe_callB call_len_seq (by rfl) T.b_len PySem.boot_len (pa_cons (pv 0) pa_nil)) pa_nil))) pa_nil))) pa_nil)) (pg_name (i := 1) sc_law.nd rfl (by first | exact Or.inl rfl | exact Or.inr rfl))
    (pss_cons (ps_set (i := 2) sc_law.nd rfl (by first | exact Or.inl rfl | exact Or.inr rfl) (C8.pe_c c_Lpool hr.room (by decide) (by rfl) (pa_cons (pv 0) (pa_cons (pv 1) pa_nil))))
    (pss_one (ps_for PassesOwn.never rfl (pi_range1 (by rfl) T.b_range (pa_cons pe_int pa_nil)) (pg_name (i := 3) sc_law.nd rfl (by first | exact Or.inl rfl | exact Or.inr rfl))
      (pss_one (ps_if (pt_not (pt_val (C8.pe_c c_Lright hr.room (by decide) (by rfl) (pa_cons (pv 2) pa_nil))))
        (pss_one (ps_ret pe_bl))
        pss_nil))))))
  (pss_one (ps_ret (pe_cmpR (op_eqD hr.room.units) (C8.pe_c c_Ltold hr.room (by decide) (by rfl) (pa_cons pe_int (pa_cons (C8.pe_mk m_System hr.room (by decide) (by rfl) (pa_cons pe_int (pa_cons (pe_lst (pa_cons (pe_tup (pa_cons pe_str (pa_cons pe_int (pa_cons (pe_lst pa_nil) pa_nil)))) pa_nil)) pa_nil))) (pa_cons (pe_tup (pa_cons pe_str (pa_cons (pe_tup (pa_cons pe_int pa_nil)) pa_nil))) pa_nil)))) (pe_lst (pa_cons pe_str (pa_cons pe_str pa_nil))) (nomark _))))), ?_⟩
    have hlap : (if (if ((ns.map V.int).length : Int) < 8 then ((ns.map V.int).length : Int) else 8) > 1 then (if ((ns.map V.int).length : Int) < 8 then ((ns.map V.int).length : Int) else 8) else 1) ≤ 8 ∧ 0 ≤ (if (if ((ns.map V.int).length : Int) < 8 then ((ns.map V.int).length : Int) else 8) > 1 then (if ((ns.map V.int).length : Int) < 8 then ((ns.map V.int).length : Int) else 8) else 1) := by
      split <;> split <;> omega
    refine ⟨_, rfl, a, _, rfl, Or.inl ha, 8, _, rfl, 1, _, rfl, _, rfl, by omega, by omega, ?_⟩
    refine for_range (fun i σ H' => ∃ (y1 y2 y3 : Option V), σ = [some (.ref a), y1, y2, y3] ∧ SqL K H' a (ns.map V.int) ∧ LamX.Tabs TT H')
      ⟨none, none, none, rfl, ha, hT⟩ ?_ ?_
    · rintro i σ H2 hi ⟨y1, y2, y3, rfl, ha2, hT2⟩
      have hi8 : i < 8 := by omega
      refine ⟨_, rfl, _, rfl, a, ns, i, (by rw [Int.zero_add]; rfl), ha2, by omega, hl, fun p H3 hp s3 rok => ?_⟩
      have L0 := LS.own rok (hT2.ext s3)
      have ha3 : SqL K (bs H3 p) a (ns.map V.int) := sql_ext (H1 := H2) (fun b o e n => bs_of (s3 b o e) (ne_of_none e hp) n) ha2
      generalize bs H3 p = B at L0 ha3
      refine ⟨6, rfl, by decide, by decide, ?_⟩
      refine for_range (fun j σ H' => ∃ (y3 : Option V), σ = [some (.ref a), some (.int (0 + (i : Int))), some (.ref p), y3] ∧ LS TT p (2000 * j) B H')
        ⟨_, rfl, L0⟩ ?_ ?_
      · rintro j σ H4 hj ⟨y3, rfl, L4⟩
        have hj6 : j < 6 := hj
        refine ⟨_, rfl, p, _, B, rfl, L4, by omega, fun H5 L5 => ?_⟩
        exact ⟨_, rfl, iteF ⟨_, rfl, L5.mono (by omega)⟩⟩
      · rintro σ H4 ⟨y3, rfl, L4⟩
        exact ⟨_, _, _, rfl, sql L4.rs.s ha3, L4.tb⟩
    · rintro σ H0 ⟨y1, y2, y3, rfl, ha2, hT0⟩
      clear ha ha2 hT hlap
      refine ⟨Nat.zero_le _, fun l0 hl0 => ⟨(by show 3 ≤ sizeLine; decide), fun t0 ht0 => ⟨(by show 1 ≤ sizeLine; decide), fun l1 hl1 => ?_⟩⟩⟩
      have s1 : Same H0 (upd (upd (upd H0 l0 (.lst [])) t0 (.tup [.str "a", .int 0, .ref l0])) l1 (.lst [.ref t0])) := same_tr (snew hl0) (same_tr (snew ht0) (snew hl1))
      have D1 : Dp K (upd (upd (upd H0 l0 (.lst [])) t0 (.tup [.str "a", .int 0, .ref l0])) l1 (.lst [.ref t0])) (.ref l1) (.list ([bare].map Tb.d)) := by
        refine .lst (Or.inl (Or.inl upd_same)) (.cons (.tup (Or.inl (Or.inl (snew hl1 _ _ upd_same))) (.cons (.str _) (.cons (.int _) (.cons (.lst (Or.inl (Or.inl (snew hl1 _ _ (snew ht0 _ _ upd_same)))) .nil) .nil)))) .nil)
      generalize upd (upd (upd H0 l0 (.lst [])) t0 (.tup [.str "a", .int 0, .ref l0])) l1 (.lst [.ref t0]) = H1 at s1 D1
      have hT1 := hT0.ext s1
      have BO : OkSys 2 1000003 [bare] := bare_ok (by decide) (by decide) (by decide)
      refine fun x dx nx ndx nex => mk_sys hT1 BO D1 nx ndx nex fun H7 X7 T7 S7 => ?_
      refine ⟨(by show 1 ≤ sizeLine; decide), fun t1 ht1 => ⟨(by show 2 ≤ sizeLine; decide), fun t2 ht2 => ?_⟩⟩
      have s8 := same_tr (snew (o := .tup [.int 1]) ht1) (snew (o := .tup [.str "b", .ref t1]) ht2)
      have pl : Dp K (upd (upd H7 t1 (.tup [.int 1])) t2 (.tup [.str "b", .ref t1])) (.ref t2) (ceD "b" [1]) := .tup (Or.inl (Or.inl upd_same)) (.cons (.str _) (.cons (.tup (Or.inl (Or.inl (snew ht2 _ _ upd_same))) (.cons (.int _) .nil)) .nil))
      generalize upd (upd H7 t1 (.tup [.int 1])) t2 (.tup [.str "b", .ref t1]) = H8 at s8 pl
      have AR : ArOk 2 (srt [bare]) [1] := ⟨by rw [bare_names]; decide +kernel, by decide +kernel, by decide, fun l hl => (by rw [bare_links] at hl; cases hl), fun l hl => (by rw [bare_links] at hl; cases hl), fun n hn => by rw [List.mem_singleton.mp hn]; decide⟩
      refine ⟨x, 2, 1000003, 0, srt [bare], .ref t2, "b", [1], rfl, S7.mono s8, pl, by decide, AR, by decide, by decide, fun n hn => ?_, fun l hl => (by rw [bare_links] at hl; cases hl), ?_, fun l H9 _ s9 hl9 => ?_⟩
      · rw [bare_names] at hn
        rw [List.mem_singleton.mp hn]
        decide +kernel
      · rw [bare_names]
        decide +kernel
      unfold toldA at hl9
      rw [if_neg (by rw [bare_names]; decide +kernel)] at hl9
      refine ⟨(by show 2 ≤ sizeLine; decide), fun l2 hl2 => ?_⟩
      have s10 := snew (o := .lst [.str "table", .str "b"]) hl2
      have sh : SeqAt.shaped (.list [.str "table", .str "b"]) = true := by decide +kernel
      refine ⟨.list [.str "table", .str "b"], .list [.str "table", .str "b"], .lst (Or.inl (Or.inl (s10 _ _ hl9))) (.cons (.str _) (.cons (.str _) .nil)), .lst (Or.inl (Or.inl upd_same)) (.cons (.str _) (.cons (.str _) .nil)), sh, sh, ?_⟩
      rw [SeqAt.eqv_refl _ (SeqAt.canLay_of_shaped sh)]
      exact q _
end
end Fr

namespace Fr
open PySem PySem.Spec PyProof.Rows L2
section
variable {P : Program} {w : World} {K : PySem.W.Frag} {mg mb : Str → Option Value} {a : Addr} {cs : List (Addr × Addr)} {s : Shared} {vs : List Value} {ns : List Int}
/-- what is tracked when the law is called: the tables, and the script unless it is written down -/
structure Begin (K : PySem.W.Frag) (cs : List (Addr × Addr)) (a : Addr) (so : Obj) (ns : List Int) (H : Hp) : Prop where
  tab : ∀ p ∈ cs, H p.2 = some (.tbl #[])
  scr : SqL K H a (ns.map V.int)
  only : ∀ b u, H b = some u → (u = .tbl #[] ∧ ∃ p ∈ cs, p.2 = b) ∨ (b = a ∧ u = .frz so (.lst (ns.map V.int)) ∧ K.lookup a = none)
theorem begin_ex (inK : K.In s.heap) (ha : s.heap.get? a = some { cls := .type "list", data := .seq vs.toArray }) (hi : IntsAre vs ns) (hl : ns.length ≤ sizeLine) (hT : ∀ p ∈ cs, s.heap.get? p.2 = some { cls := .none, data := .fields #[] }) :
    ∃ H, Begin K cs a { cls := .type "list", data := .seq vs.toArray } ns H := by
  have na : ¬ ∃ p ∈ cs, p.2 = a := by
    rintro ⟨p, hp, e⟩
    have z := hT p hp
    rw [e, ha] at z
    have z2 : Data.seq vs.toArray _ = Data.fields #[] := congrArg Obj.data (Option.some.inj z)
    cases z2
  haveI : DecidablePred fun b => ∃ p ∈ cs, p.2 = b := fun b => Classical.propDecidable _
  refine ⟨fun b => if ∃ p ∈ cs, p.2 = b then some (.tbl #[]) else if b = a then (match K.lookup a with | none => some (.frz { cls := .type "list", data := .seq vs.toArray } (.lst (ns.map V.int))) | some _ => none) else none, ⟨fun p hp => if_pos ⟨p, hp, rfl⟩, ?_, ?_⟩⟩
  · cases hk : K.lookup a with
    | none =>
      refine .inl (.inr ⟨{ cls := .type "list", data := .seq vs.toArray }, ?_⟩)
      exact (if_neg na).trans (if_pos rfl)
    | some o =>
      have e := inK a o hk
      rw [ha] at e
      cases e
      exact .inr ⟨_, vs.toArray, _, hk, rfl, rfl, rfl, by rw [List.size_toArray, hi.length]; exact hl, by simpa using vals_ints hi⟩
  · intro b u h
    by_cases h1 : ∃ p ∈ cs, p.2 = b
    · rw [if_pos h1] at h
      cases h
      exact .inl ⟨rfl, h1⟩
    · rw [if_neg h1] at h
      by_cases h2 : b = a
      · rw [if_pos h2] at h
        cases hk : K.lookup a with
        | none =>
          rw [hk] at h
          cases h
          exact .inr ⟨h2, rfl, rfl⟩
        | some o =>
          rw [hk] at h
          cases h
      · rw [if_neg h2] at h
        cases h
theorem law_callG {k : Nat} {fa : Addr} {fd : FuncData} {x : Str} {sp : Sp} (inK : K.In s.heap) (hns : s.heap.Ns mainGlobals mg) (hb : s.heap.Ns builtinsNs mb) (hbb : ∀ x : Str, x ≠ "__name__" → mb x = bootBuiltins x) (hlim : s.heap.NoLimit) (hg : s.gens = #[])
    (hT : ∀ p ∈ cs, s.heap.get? p.2 = some { cls := .none, data := .fields #[] }) (nT : ∀ p ∈ cs, K.lookup p.2 = none) (hC : ∀ p ∈ cs, PySem.W.CodeHd s.heap p.1 p.2)
    (hbm : ∃ (bm : Addr) (ob : Obj), mg "__builtins__" = some (.ref bm) ∧ bm ≠ builtinsNs ∧ s.heap.get? bm = some ob ∧ ob.cls = .type "module" ∧ ob.dict = some builtinsNs ∧ ob.data = .plain)
    (ha : s.heap.get? a = some { cls := .type "list", data := .seq vs.toArray }) (hi : IntsAre vs ns) (hl : ns.length ≤ sizeLine) (hr : Room k callerA)
    (F : ∀ base : Heap, K.In base → base.Ns mainGlobals mg → (∀ p ∈ cs, LamX.TabB base mg p.1 p.2) → FnG P w K mg base k fa fd [x] sp) (bind : ∀ (s : Shared) (u : Value), BindsTo s fd ⟨[u], []⟩ [(x, u)])
    (hsp : ∀ H : Hp, (∀ p ∈ cs, H p.2 = some (.tbl #[])) → SqL K H a (ns.map V.int) → sp [.ref a] H (fun v _ => v = .bl true) fun _ _ _ => False) :
    codeAny (model P w) callerA (.call (.ref fa) ⟨[.ref a], []⟩) (fun r s' => r = .ok (.ret (.bool true)) ∧ OldK s.heap s'.heap ∧ s'.os = s.os ∧ AllBare s'.gens) s := by
  obtain ⟨H, B⟩ := begin_ex inK ha hi hl hT
  have hok : HOk P w H s.heap := by
    intro b u h
    rcases B.only b u h with ⟨rfl, p, hp, rfl⟩ | ⟨rfl, rfl, _⟩
    · exact hT p hp
    · exact ⟨ha, by rw [List.length_map]; exact hl, vs, _, vals_ints hi, ha⟩
  -- what is no list and no empty table is not tracked
  have out : ∀ {b : Addr} {o : Obj}, s.heap.get? b = some o → (∀ ys n, o.data ≠ .seq ys n) → o.data ≠ .fields #[] → H b = none := by
    intro b o h1 h2 h3
    cases hb : H b with
    | none => rfl
    | some u =>
      rcases B.only b u hb with ⟨_, p, hp, rfl⟩ | ⟨rfl, _, _⟩
      · rw [hT p hp] at h1
        cases h1
        exact (h3 rfl).elim
      · rw [ha] at h1
        cases h1
        exact (h2 _ _ rfl).elim
  have low : ∀ {b : Addr} {o : Obj}, s.heap.get? b = some o → (∀ ys n, o.data ≠ .seq ys n) → o.data ≠ .fields #[] → (hidT s.heap H).get? b = some o := fun h1 h2 h3 => hidT_get h1 (out h1 h2 h3)
  have nsB : ∀ {b : Addr} {m : Str → Option Value}, s.heap.Ns b m → (hidT s.heap H).Ns b m := by
    rintro b m ⟨o, es, ep, h1, h2, h3⟩
    exact ⟨o, es, ep, low h1 (fun ys n z => by rw [h2] at z; cases z) (fun z => by rw [h2] at z; cases z), h2, h3⟩
  have inB : K.In (hidT s.heap H) := by
    intro b o h
    refine hidT_get (inK b o h) ?_
    cases hb : H b with
    | none => rfl
    | some u =>
      rcases B.only b u hb with ⟨_, p, hp, rfl⟩ | ⟨rfl, _, z⟩
      · rw [nT p hp] at h
        cases h
      · rw [z] at h
        cases h
  have md : L2.Mod K mg (hidT s.heap H) := by
    obtain ⟨mc, l1, l2⟩ := hlim
    exact ⟨inB, nsB hns, ⟨mb, nsB hb, hbb⟩, ⟨mc, nsB l1, l2⟩⟩
  have tb : ∀ p ∈ cs, LamX.TabB (hidT s.heap H) mg p.1 p.2 := by
    intro p hp
    have hp0 := hT p hp
    constructor
    · obtain ⟨o, us, f1, f2, f3, f4, f5, f6, f7, g, r1, r2, r3, r4, r5, r6, r7, r8, ne⟩ := hC p hp
      refine ⟨o, us, f1, f2, f3, f4, f5, f6, f7, low g (fun ys n z => by rw [r2] at z; cases z) (fun z => ?_), r1, r2, r3, r4, r5, r6, r7, r8, ne⟩
      rw [r2] at z
      cases z
      simp at r3
    · obtain ⟨bm, ob, b1, b2, b3, b4, b5, b6⟩ := hbm
      refine ⟨bm, ob, b1, b2, fun z => ?_, fun z => ?_, low b3 (fun ys n z => by rw [b6] at z; cases z) (fun z => by rw [b6] at z; cases z), b4, b5, b6⟩
      · obtain ⟨o, es, ep, e1, e2, _⟩ := hns
        rw [z, e1] at b3
        cases b3
        rw [e2] at b6
        cases b6
      · rw [z, hp0] at b3
        cases b3
        cases b6
    · intro z
      obtain ⟨o, es, ep, e1, e2, _⟩ := hns
      rw [z, hp0] at e1
      cases e1
      cases e2
  have env : Env0 P w K mg (hidT s.heap H) callerA [] s H :=
    { frames := rfl, mod := md, bs := fun _ _ z => of_hidT z, bsz := Nat.le_of_eq (hidT_size _ _), funs := trivial, frf := fun b z => absurd (show b ∈ ([] : List Addr) from z) (List.not_mem_nil), hok := hok, bare := .of_eq hg }
  refine codeAny_mono ((F _ inB (nsB hns) tb).go callerA [] s H ⟨[.ref a], []⟩ [.ref a] [.ref a] _ _ ⟨hr, rfl⟩ env (bind s (.ref a)) (.cons rfl .nil) (hsp H B.tab B.scr)) ?_
  intro rs s2 z
  match rs, z with
  | .error e, z => exact (show False from z).elim
  | .ok .next, z => exact z.elim
  | .ok .brk, z => exact z.elim
  | .ok .cont, z => exact z.elim
  | .ok (.ret u), z =>
    obtain ⟨v, H2, os, bare, un, hok2, ru, rfl⟩ := z
    obtain rfl : u = Value.bool true := ru
    have grow : ∀ p ∈ cs, ∃ more : Array Value, s2.heap.get? p.2 = some { cls := .none, data := .fields more } := fun p hp => by
      obtain ⟨more, e⟩ := un.tbls p.2 #[] (B.tab p hp)
      exact ⟨_, hok2 _ _ e⟩
    have keep : ∀ b o, (¬ ∃ p ∈ cs, p.2 = b) → s.heap.get? b = some o → s2.heap.get? b = some o := by
      intro b o nb h
      cases hb : H b with
      | none => exact un.keep b o h hb (fun z => absurd (show b ∈ ([] : List Addr) from z) List.not_mem_nil) List.not_mem_nil
      | some u =>
        rcases B.only b u hb with ⟨_, z⟩ | ⟨rfl, rfl, _⟩
        · exact (nb z).elim
        · have h1 := (hok _ _ hb).1
          rw [h] at h1
          cases h1
          exact (hok2 _ _ (un.frzs _ _ _ hb)).1
    refine ⟨rfl, ⟨fun b o h => ?_, fun b o h => ?_⟩, os, bare⟩
    · by_cases hb : ∃ p ∈ cs, p.2 = b
      · obtain ⟨p, hp, rfl⟩ := hb
        obtain ⟨more, e⟩ := grow p hp
        have h0 := hT p hp
        rw [h] at h0
        cases h0
        refine .inr (.inl ⟨((hC p hp).tab (hT p hp)).isCodeTable, rfl, #[], more, rfl, ?_⟩)
        rw [Array.empty_append]
        exact e
      · exact .inl (keep b o hb h)
    · by_cases hb : ∃ p ∈ cs, p.2 = b
      · obtain ⟨p, hp, rfl⟩ := hb
        obtain ⟨more, e⟩ := grow p hp
        exact ⟨_, e⟩
      · exact ⟨o, keep b o hb h⟩
/-- what is to be known of a law's def, at the heap behind its program's top -/
def LawAtG (l : PySem.W.OpenLaw) (w : World) (K : PySem.W.Frag) (k n : Nat) (x : Str) (mg : Str → Option Value) (fa : Addr) (h : Heap) : Prop :=
  ∃ (fd : FuncData) (cs : List (Addr × Addr)) (sp : Sp), ((∀ p ∈ cs, h.get? p.2 = some { cls := .none, data := .fields #[] }) ∧ (∀ p ∈ cs, K.lookup p.2 = none) ∧ ∀ p ∈ cs, PySem.W.CodeHd h p.1 p.2) ∧ (∀ (s : Shared) (u : Value), BindsTo s fd ⟨[u], []⟩ [(x, u)]) ∧
    (∀ (H : Hp) (a : Addr) (ns : List Int), ns.length ≤ n → (∀ p ∈ cs, H p.2 = some (.tbl #[])) → SqL K H a (ns.map V.int) → sp [.ref a] H (fun v _ => v = .bl true) fun _ _ _ => False) ∧
    ∀ base : Heap, K.In base → base.Ns mainGlobals mg → (∀ p ∈ cs, LamX.TabB base mg p.1 p.2) → FnG l.prog w K mg base k fa fd [x] sp
theorem walk_ofG {l : PySem.W.OpenLaw} {n k : Nat} {q : Program} {loose : List Str} {XP : (Str → Option Value) → Heap → Prop} {YP : World → Heap → Prop} {d : DefRec} {K : Params → PySem.W.Frag} {x : Str}
    (hn : l.most = some n) (hz : n ≤ sizeLine) (hdf : d.params.defaults = []) (hr : Room k callerA) (hY : ∀ (w : World) (h : Heap), YP w h → (K w.params).In h)
    (F : ∀ (w : World) (mg : Str → Option Value) (fa : Addr) (h : Heap), YP w h → (K w.params).In h → h.Ns mainGlobals mg → mg d.name = some (.ref fa) → LawAtG l w (K w.params) k n x mg fa h) : PySem.W.WalkO q loose XP YP l.row.toRowW d [] (fun f vs => PySem.call f vs) := by
  refine Att.attach_callB hn hdf ?_
  intro w _ s mg mb fa _ _ _ _ a vs ns G Y _ _ _ hmg hobj hints hlen _ hg
  have inK := hY w _ Y
  obtain ⟨fd, cs, sp, ⟨h1, h2, h3⟩, hb, hsp, hF⟩ := F w mg fa _ Y inK G.T.g hmg
  exact law_callG inK G.T.g G.T.b G.T.builtins G.T.nolimit hg h1 h2 h3 G.T.bmain hobj hints (Nat.le_trans hlen hz) hr hF hb fun H t => hsp H a ns hlen t
end
end Fr

namespace Fr
open PySem PySem.Spec PyProof.Rows L2
theorem kb1 {K : PySem.W.Frag} {fd : FuncData} {a b : Str} (h : ∀ (s : Shared) (u v : Value), BindsTo s fd ⟨[u], [(b, v)]⟩ [(a, u), (b, v)]) : L2.KBinds K fd [a, b] [b] kw1 kw1 :=
  ⟨fun s us ws _ hlen => (match us, ws, hlen with
    | [u], [v], _ => h s u v
    | [], _, h => absurd h (by simp [kw1])
    | [_], [], h => absurd h (by simp [kw1])
    | [_], _ :: _ :: _, h => absurd h (by simp [kw1])
    | _ :: _ :: _, _, h => absurd h (by simp [kw1])), fun hv hz => by
    cases hv with
    | nil => exact .nil
    | cons h1 h2 =>
      cases h2 with
      | nil =>
        cases hz with
        | nil => exact .nil
        | cons h3 h4 =>
          cases h4 with
          | nil => exact .cons h1 (.cons h3 .nil)
          | cons _ _ => exact .nil
      | cons _ _ => exact .nil⟩
def cOf (l : List Addr) (i : Nat) : Addr := l.getD i 0
def ExcRow (K : PySem.W.Frag) (C : Addr) : Prop := ∃ nm q N bs bm sn sub ab col dd k0 k1 k2 k3 k5, K.lookup C = some (excClassObj nm q C N bs bm true sn sub ab col dd k0 k1 k2 k3 k5 "ValueError.__new__") ∧ PySem.HandSPX.refsVE bm = true
theorem excRow_of {K : PySem.W.Frag} {C N : Addr} {nm q : Str} {bs bm sub : List Value} {sn : List Str} {ab : Bool} {col : Option Bool} {dd : Option Addr} {k0 k1 k2 k3 k5 : Option Value} (l : K.lookup C = some (excClassObj nm q C N bs bm true sn sub ab col dd k0 k1 k2 k3 k5 "ValueError.__new__")) (r : PySem.HandSPX.refsVE bm = true) : ExcRow K C := ⟨_, _, _, _, _, _, _, _, _, _, _, _, _, _, _, l, r⟩
theorem all_mk {l : PySem.W.OpenLaw} {w : World} {K : PySem.W.Frag} {h : Heap} {mg : Str → Option Value} {fa : Addr} (X : K.In h) (G : h.Ns mainGlobals mg) (hfa : mg "law" = some (.ref fa))
    {C c0 Pt T0 fI f1 f2 f3 f4 f5 f6 f7 f8 f9 f10 f11 f12 f13 f14 f15 f16 f17 f18 f19 f20 f21 f22 f23 f24 f25 f26 f27 f28 f29 f30 pPdimensions gPdimensions pPmodulus gPmodulus pPnames gPnames fMreads fMall_reads fMeq D0 D1 D2 D3 D4 D5 D6 D7 D8 D9 D10 D11 D12 fE CTa fCTainit fCTaentering fCTaleaving fCTaexchange fCTasolution fCTaprices CAr fCArinit fCArbest : Addr} {od1 an1 od2 an2 od3 an3 od4 an4 od5 an5 od6 an6 od7 an7 od8 an8 od9 an9 od10 an10 od11 an11 od12 an12 od13 an13 od14 an14 od15 an15 od16 an16 od17 an17 od18 an18 od19 an19 od20 an20 od21 an21 od22 an22 od23 an23 od24 an24 od25 an25 od26 an26 od27 an27 od28 an28 od29 an29 od30 an30 odPdimensions anPdimensions odPmodulus anPmodulus odPnames anPnames odMreads anMreads odMall_reads anMall_reads odMeq anMeq odI anI odT odE anE odCTainit anCTainit odCTaentering anCTaentering odCTaleaving anCTaleaving odCTaexchange anCTaexchange odCTasolution anCTasolution odCTaprices anCTaprices odCArinit anCArinit odCArbest anCArbest : Option Addr} {sl1 sl2 sl3 sl4 sl5 sl6 sl7 sl8 sl9 sl10 sl11 sl12 sl13 sl14 sl15 sl16 sl17 sl18 sl19 sl20 sl21 sl22 sl23 sl24 sl25 sl26 sl27 sl28 sl29 sl30 slPdimensions slPmodulus slPnames slMreads slMall_reads slMeq slI slT slE slCTainit slCTaentering slCTaleaving slCTaexchange slCTasolution slCTaprices slCArinit slCArbest : Array (Option Value)} {oc1 kV1 dc1 pm1 ct1 cd1 oc2 kV2 dc2 pm2 ct2 cd2 oc3 kV3 dc3 pm3 ct3 cd3 oc4 kV4 dc4 pm4 ct4 cd4 oc5 kV5 dc5 pm5 ct5 cd5 oc6 kV6 dc6 pm6 ct6 cd6 oc7 kV7 dc7 pm7 ct7 cd7 oc8 kV8 dc8 pm8 ct8 cd8 oc9 kV9 dc9 pm9 ct9 cd9 oc10 kV10 dc10 pm10 ct10 cd10 oc11 kV11 dc11 pm11 ct11 cd11 oc12 kV12 dc12 pm12 ct12 cd12 oc13 kV13 dc13 pm13 ct13 cd13 oc14 kV14 dc14 pm14 ct14 cd14 oc15 kV15 dc15 pm15 ct15 cd15 oc16 kV16 dc16 pm16 ct16 cd16 oc17 kV17 dc17 pm17 ct17 cd17 oc18 kV18 dc18 pm18 ct18 cd18 oc19 kV19 dc19 pm19 ct19 cd19 oc20 kV20 dc20 pm20 ct20 cd20 oc21 kV21 dc21 pm21 ct21 cd21 oc22 kV22 dc22 pm22 ct22 cd22 oc23 kV23 dc23 pm23 ct23 cd23 oc24 kV24 dc24 pm24 ct24 cd24 oc25 kV25 dc25 pm25 ct25 cd25 oc26 kV26 dc26 pm26 ct26 cd26 oc27 kV27 dc27 pm27 ct27 cd27 oc28 kV28 dc28 pm28 ct28 cd28 oc29 kV29 dc29 pm29 ct29 cd29 oc30 kV30 dc30 pm30 ct30 cd30 ocPdimensions kVPdimensions dcPdimensions pmPdimensions ctPdimensions cdPdimensions ocPmodulus kVPmodulus dcPmodulus pmPmodulus ctPmodulus cdPmodulus ocPnames kVPnames dcPnames pmPnames ctPnames cdPnames ocMreads kVMreads dcMreads pmMreads ctMreads cdMreads ocMall_reads kVMall_reads dcMall_reads pmMall_reads ctMall_reads cdMall_reads ocMeq kVMeq dcMeq pmMeq ctMeq cdMeq ocI kVI dcI pmI ctI ocT ocE kVE dcE pmE ctE cdE ocCTainit kVCTainit dcCTainit pmCTainit ctCTainit cdCTainit ocCTaentering kVCTaentering dcCTaentering pmCTaentering ctCTaentering cdCTaentering ocCTaleaving kVCTaleaving dcCTaleaving pmCTaleaving ctCTaleaving cdCTaleaving ocCTaexchange kVCTaexchange dcCTaexchange pmCTaexchange ctCTaexchange cdCTaexchange ocCTasolution kVCTasolution dcCTasolution pmCTasolution ctCTasolution cdCTasolution ocCTaprices kVCTaprices dcCTaprices pmCTaprices ctCTaprices cdCTaprices ocCArinit kVCArinit dcCArinit pmCArinit ctCArinit cdCArinit ocCArbest kVCArbest dcCArbest pmCArbest ctCArbest cdCArbest : Value} {restPdimensions restPmodulus restPnames : List Value} {tT t_MOST_DIMENSIONS t_MOST_TABLES t_MOST_READS t_MOST_LETTERS : Tok} {nT : Nat}
    (a1 : PySem.W.nsIn K mainGlobals "is_name" = some (some (.ref f1)))
    (l1 : K.lookup f1 = some ⟨oc1, od1, .func (PySem.W.fnOf "is_name" "is_name" (defArgs s_is_name) (defBody s_is_name) (defScope s_is_name) .none kV1 dc1 pm1 an1 cd1 ct1), sl1⟩)
    (e1 : PySem.W.codeIn K cd1 "is_name" = true)
    (k1 : PySem.W.keepIn K (.ref f1) = true)
    (a2 : PySem.W.nsIn K mainGlobals "is_read" = some (some (.ref f2)))
    (l2 : K.lookup f2 = some ⟨oc2, od2, .func (PySem.W.fnOf "is_read" "is_read" (defArgs s_is_read) (defBody s_is_read) (defScope s_is_read) .none kV2 dc2 pm2 an2 cd2 ct2), sl2⟩)
    (e2 : PySem.W.codeIn K cd2 "is_read" = true)
    (k2 : PySem.W.keepIn K (.ref f2) = true)
    (a3 : PySem.W.nsIn K mainGlobals "is_point" = some (some (.ref f3)))
    (l3 : K.lookup f3 = some ⟨oc3, od3, .func (PySem.W.fnOf "is_point" "is_point" (defArgs s_is_point) (defBody s_is_point) (defScope s_is_point) .none kV3 dc3 pm3 an3 cd3 ct3), sl3⟩)
    (e3 : PySem.W.codeIn K cd3 "is_point" = true)
    (k3 : PySem.W.keepIn K (.ref f3) = true)
    (a4 : PySem.W.nsIn K mainGlobals "check_table" = some (some (.ref f4)))
    (l4 : K.lookup f4 = some ⟨oc4, od4, .func (PySem.W.fnOf "check_table" "check_table" (defArgs s_check_table) (defBody s_check_table) (defScope s_check_table) .none kV4 dc4 pm4 an4 cd4 ct4), sl4⟩)
    (e4 : PySem.W.codeIn K cd4 "check_table" = true)
    (k4 : PySem.W.keepIn K (.ref f4) = true)
    (a5 : PySem.W.nsIn K mainGlobals "check_tables" = some (some (.ref f5)))
    (l5 : K.lookup f5 = some ⟨oc5, od5, .func (PySem.W.fnOf "check_tables" "check_tables" (defArgs s_check_tables) (defBody s_check_tables) (defScope s_check_tables) .none kV5 dc5 pm5 an5 cd5 ct5), sl5⟩)
    (e5 : PySem.W.codeIn K cd5 "check_tables" = true)
    (k5 : PySem.W.keepIn K (.ref f5) = true)
    (a6 : PySem.W.nsIn K mainGlobals "check_tables_that_are_read" = some (some (.ref f6)))
    (l6 : K.lookup f6 = some ⟨oc6, od6, .func (PySem.W.fnOf "check_tables_that_are_read" "check_tables_that_are_read" (defArgs s_check_tables_that_are_read) (defBody s_check_tables_that_are_read) (defScope s_check_tables_that_are_read) .none kV6 dc6 pm6 an6 cd6 ct6), sl6⟩)
    (e6 : PySem.W.codeIn K cd6 "check_tables_that_are_read" = true)
    (k6 : PySem.W.keepIn K (.ref f6) = true)
    (a7 : PySem.W.nsIn K mainGlobals "check_system" = some (some (.ref f7)))
    (l7 : K.lookup f7 = some ⟨oc7, od7, .func (PySem.W.fnOf "check_system" "check_system" (defArgs s_check_system) (defBody s_check_system) (defScope s_check_system) .none kV7 dc7 pm7 an7 cd7 ct7), sl7⟩)
    (e7 : PySem.W.codeIn K cd7 "check_system" = true)
    (k7 : PySem.W.keepIn K (.ref f7) = true)
    (a8 : PySem.W.nsIn K mainGlobals "check_cell" = some (some (.ref f8)))
    (l8 : K.lookup f8 = some ⟨oc8, od8, .func (PySem.W.fnOf "check_cell" "check_cell" (defArgs s_check_cell) (defBody s_check_cell) (defScope s_check_cell) .none kV8 dc8 pm8 an8 cd8 ct8), sl8⟩)
    (e8 : PySem.W.codeIn K cd8 "check_cell" = true)
    (k8 : PySem.W.keepIn K (.ref f8) = true)
    (a9 : PySem.W.nsIn K mainGlobals "links_of" = some (some (.ref f9)))
    (l9 : K.lookup f9 = some ⟨oc9, od9, .func (PySem.W.fnOf "links_of" "links_of" (defArgs s_links_of) (defBody s_links_of) (defScope s_links_of) .none kV9 dc9 pm9 an9 cd9 ct9), sl9⟩)
    (e9 : PySem.W.codeIn K cd9 "links_of" = true)
    (k9 : PySem.W.keepIn K (.ref f9) = true)
    (a10 : PySem.W.nsIn K mainGlobals "join" = some (some (.ref f10)))
    (l10 : K.lookup f10 = some ⟨oc10, od10, .func (PySem.W.fnOf "join" "join" (defArgs s_join) (defBody s_join) (defScope s_join) .none kV10 dc10 pm10 an10 cd10 ct10), sl10⟩)
    (e10 : PySem.W.codeIn K cd10 "join" = true)
    (k10 : PySem.W.keepIn K (.ref f10) = true)
    (a11 : PySem.W.nsIn K mainGlobals "pieces" = some (some (.ref f11)))
    (l11 : K.lookup f11 = some ⟨oc11, od11, .func (PySem.W.fnOf "pieces" "pieces" (defArgs s_pieces) (defBody s_pieces) (defScope s_pieces) .none kV11 dc11 pm11 an11 cd11 ct11), sl11⟩)
    (e11 : PySem.W.codeIn K cd11 "pieces" = true)
    (k11 : PySem.W.keepIn K (.ref f11) = true)
    (a12 : PySem.W.nsIn K mainGlobals "tables_of" = some (some (.ref f12)))
    (l12 : K.lookup f12 = some ⟨oc12, od12, .func (PySem.W.fnOf "tables_of" "tables_of" (defArgs s_tables_of) (defBody s_tables_of) (defScope s_tables_of) .none kV12 dc12 pm12 an12 cd12 ct12), sl12⟩)
    (e12 : PySem.W.codeIn K cd12 "tables_of" = true)
    (k12 : PySem.W.keepIn K (.ref f12) = true)
    (a13 : PySem.W.nsIn K mainGlobals "piece_of" = some (some (.ref f13)))
    (l13 : K.lookup f13 = some ⟨oc13, od13, .func (PySem.W.fnOf "piece_of" "piece_of" (defArgs s_piece_of) (defBody s_piece_of) (defScope s_piece_of) .none kV13 dc13 pm13 an13 cd13 ct13), sl13⟩)
    (e13 : PySem.W.codeIn K cd13 "piece_of" = true)
    (k13 : PySem.W.keepIn K (.ref f13) = true)
    (a14 : PySem.W.nsIn K mainGlobals "lowest_terms" = some (some (.ref f14)))
    (l14 : K.lookup f14 = some ⟨oc14, od14, .func (PySem.W.fnOf "lowest_terms" "lowest_terms" (defArgs s_lowest_terms) (defBody s_lowest_terms) (defScope s_lowest_terms) .none kV14 dc14 pm14 an14 cd14 ct14), sl14⟩)
    (e14 : PySem.W.codeIn K cd14 "lowest_terms" = true)
    (k14 : PySem.W.keepIn K (.ref f14) = true)
    (a15 : PySem.W.nsIn K mainGlobals "fraction" = some (some (.ref f15)))
    (l15 : K.lookup f15 = some ⟨oc15, od15, .func (PySem.W.fnOf "fraction" "fraction" (defArgs s_fraction) (defBody s_fraction) (defScope s_fraction) .none kV15 dc15 pm15 an15 cd15 ct15), sl15⟩)
    (e15 : PySem.W.codeIn K cd15 "fraction" = true)
    (k15 : PySem.W.keepIn K (.ref f15) = true)
    (a16 : PySem.W.nsIn K mainGlobals "greatest" = some (some (.ref f16)))
    (l16 : K.lookup f16 = some ⟨oc16, od16, .func (PySem.W.fnOf "greatest" "greatest" (defArgs s_greatest) (defBody s_greatest) (defScope s_greatest) .none kV16 dc16 pm16 an16 cd16 ct16), sl16⟩)
    (e16 : PySem.W.codeIn K cd16 "greatest" = true)
    (k16 : PySem.W.keepIn K (.ref f16) = true)
    (a17 : PySem.W.nsIn K mainGlobals "way_bound" = some (some (.ref f17)))
    (l17 : K.lookup f17 = some ⟨oc17, od17, .func (PySem.W.fnOf "way_bound" "way_bound" (defArgs s_way_bound) (defBody s_way_bound) (defScope s_way_bound) .none kV17 dc17 pm17 an17 cd17 ct17), sl17⟩)
    (e17 : PySem.W.codeIn K cd17 "way_bound" = true)
    (k17 : PySem.W.keepIn K (.ref f17) = true)
    (a18 : PySem.W.nsIn K mainGlobals "bound_numbers" = some (some (.ref f18)))
    (l18 : K.lookup f18 = some ⟨oc18, od18, .func (PySem.W.fnOf "bound_numbers" "bound_numbers" (defArgs s_bound_numbers) (defBody s_bound_numbers) (defScope s_bound_numbers) .none kV18 dc18 pm18 an18 cd18 ct18), sl18⟩)
    (e18 : PySem.W.codeIn K cd18 "bound_numbers" = true)
    (k18 : PySem.W.keepIn K (.ref f18) = true)
    (a19 : PySem.W.nsIn K mainGlobals "flow_weights" = some (some (.ref f19)))
    (l19 : K.lookup f19 = some ⟨oc19, od19, .func (PySem.W.fnOf "flow_weights" "flow_weights" (defArgs s_flow_weights) (defBody s_flow_weights) (defScope s_flow_weights) .none kV19 dc19 pm19 an19 cd19 ct19), sl19⟩)
    (e19 : PySem.W.codeIn K cd19 "flow_weights" = true)
    (k19 : PySem.W.keepIn K (.ref f19) = true)
    (a20 : PySem.W.nsIn K mainGlobals "bound_worth" = some (some (.ref f20)))
    (l20 : K.lookup f20 = some ⟨oc20, od20, .func (PySem.W.fnOf "bound_worth" "bound_worth" (defArgs s_bound_worth) (defBody s_bound_worth) (defScope s_bound_worth) .none kV20 dc20 pm20 an20 cd20 ct20), sl20⟩)
    (e20 : PySem.W.codeIn K cd20 "bound_worth" = true)
    (k20 : PySem.W.keepIn K (.ref f20) = true)
    (a21 : PySem.W.nsIn K mainGlobals "flow_worth" = some (some (.ref f21)))
    (l21 : K.lookup f21 = some ⟨oc21, od21, .func (PySem.W.fnOf "flow_worth" "flow_worth" (defArgs s_flow_worth) (defBody s_flow_worth) (defScope s_flow_worth) .none kV21 dc21 pm21 an21 cd21 ct21), sl21⟩)
    (e21 : PySem.W.codeIn K cd21 "flow_worth" = true)
    (k21 : PySem.W.keepIn K (.ref f21) = true)
    (a22 : PySem.W.nsIn K mainGlobals "_law_pool" = some (some (.ref f22)))
    (l22 : K.lookup f22 = some ⟨oc22, od22, .func (PySem.W.fnOf "_law_pool" "_law_pool" (defArgs s_Lpool) (defBody s_Lpool) (defScope s_Lpool) .none kV22 dc22 pm22 an22 cd22 ct22), sl22⟩)
    (e22 : PySem.W.codeIn K cd22 "_law_pool" = true)
    (k22 : PySem.W.keepIn K (.ref f22) = true)
    (a23 : PySem.W.nsIn K mainGlobals "_law_draw" = some (some (.ref f23)))
    (l23 : K.lookup f23 = some ⟨oc23, od23, .func (PySem.W.fnOf "_law_draw" "_law_draw" (defArgs s_Ldraw) (defBody s_Ldraw) (defScope s_Ldraw) .none kV23 dc23 pm23 an23 cd23 ct23), sl23⟩)
    (e23 : PySem.W.codeIn K cd23 "_law_draw" = true)
    (k23 : PySem.W.keepIn K (.ref f23) = true)
    (a24 : PySem.W.nsIn K mainGlobals "_law_vector" = some (some (.ref f24)))
    (l24 : K.lookup f24 = some ⟨oc24, od24, .func (PySem.W.fnOf "_law_vector" "_law_vector" (defArgs s_Lvector) (defBody s_Lvector) (defScope s_Lvector) .none kV24 dc24 pm24 an24 cd24 ct24), sl24⟩)
    (e24 : PySem.W.codeIn K cd24 "_law_vector" = true)
    (k24 : PySem.W.keepIn K (.ref f24) = true)
    (a25 : PySem.W.nsIn K mainGlobals "_law_tables" = some (some (.ref f25)))
    (l25 : K.lookup f25 = some ⟨oc25, od25, .func (PySem.W.fnOf "_law_tables" "_law_tables" (defArgs s_Ltables) (defBody s_Ltables) (defScope s_Ltables) .none kV25 dc25 pm25 an25 cd25 ct25), sl25⟩)
    (e25 : PySem.W.codeIn K cd25 "_law_tables" = true)
    (k25 : PySem.W.keepIn K (.ref f25) = true)
    (a26 : PySem.W.nsIn K mainGlobals "_law_made" = some (some (.ref f26)))
    (l26 : K.lookup f26 = some ⟨oc26, od26, .func (PySem.W.fnOf "_law_made" "_law_made" (defArgs s_Lmade) (defBody s_Lmade) (defScope s_Lmade) .none kV26 dc26 pm26 an26 cd26 ct26), sl26⟩)
    (e26 : PySem.W.codeIn K cd26 "_law_made" = true)
    (k26 : PySem.W.keepIn K (.ref f26) = true)
    (a27 : PySem.W.nsIn K mainGlobals "_law_kind" = some (some (.ref f27)))
    (l27 : K.lookup f27 = some ⟨oc27, od27, .func (PySem.W.fnOf "_law_kind" "_law_kind" (defArgs s_Lkind) (defBody s_Lkind) (defScope s_Lkind) .none kV27 dc27 pm27 an27 cd27 ct27), sl27⟩)
    (e27 : PySem.W.codeIn K cd27 "_law_kind" = true)
    (k27 : PySem.W.keepIn K (.ref f27) = true)
    (a28 : PySem.W.nsIn K mainGlobals "_law_told" = some (some (.ref f28)))
    (l28 : K.lookup f28 = some ⟨oc28, od28, .func (PySem.W.fnOf "_law_told" "_law_told" (defArgs s_Ltold) (defBody s_Ltold) (defScope s_Ltold) .none kV28 dc28 pm28 an28 cd28 ct28), sl28⟩)
    (e28 : PySem.W.codeIn K cd28 "_law_told" = true)
    (k28 : PySem.W.keepIn K (.ref f28) = true)
    (a29 : PySem.W.nsIn K mainGlobals "_law_right" = some (some (.ref f29)))
    (l29 : K.lookup f29 = some ⟨oc29, od29, .func (PySem.W.fnOf "_law_right" "_law_right" (defArgs s_Lright) (defBody s_Lright) (defScope s_Lright) .none kV29 dc29 pm29 an29 cd29 ct29), sl29⟩)
    (e29 : PySem.W.codeIn K cd29 "_law_right" = true)
    (k29 : PySem.W.keepIn K (.ref f29) = true)
    (a30 : PySem.W.nsIn K mainGlobals "law" = some (some (.ref f30)))
    (l30 : K.lookup f30 = some ⟨oc30, od30, .func (PySem.W.fnOf "law" "law" (defArgs s_law) (defBody s_law) (defScope s_law) .none kV30 dc30 pm30 an30 cd30 ct30), sl30⟩)
    (e30 : PySem.W.codeIn K cd30 "law" = true)
    (k30 : PySem.W.keepIn K (.ref f30) = true)
    (aC : PySem.W.nsIn K mainGlobals "System" = some (some (.ref C)))
    (atPdimensions : PySem.W.findIn K (.ref C) "dimensions" = some (some (.ref pPdimensions)))
    (gePdimensions : PySem.W.specialIn K (.ref pPdimensions) "__get__" = some (some (.builtin "property.__get__")))
    (taPdimensions : PySem.W.takesIn K (.ref pPdimensions) = some true)
    (rePdimensions : PySem.W.recIn K pPdimensions "property" = some (.ref gPdimensions :: restPdimensions))
    (lPdimensions : K.lookup gPdimensions = some ⟨ocPdimensions, odPdimensions, .func (PySem.W.fnOf "dimensions" "System.dimensions" (defArgs s_System_dimensions) (defBody s_System_dimensions) (defScope s_System_dimensions) .none kVPdimensions dcPdimensions pmPdimensions anPdimensions cdPdimensions ctPdimensions), slPdimensions⟩)
    (ePdimensions : PySem.W.codeIn K cdPdimensions "System.dimensions" = true)
    (kPdimensions : PySem.W.keepIn K (.ref gPdimensions) = true)
    (atPmodulus : PySem.W.findIn K (.ref C) "modulus" = some (some (.ref pPmodulus)))
    (gePmodulus : PySem.W.specialIn K (.ref pPmodulus) "__get__" = some (some (.builtin "property.__get__")))
    (taPmodulus : PySem.W.takesIn K (.ref pPmodulus) = some true)
    (rePmodulus : PySem.W.recIn K pPmodulus "property" = some (.ref gPmodulus :: restPmodulus))
    (lPmodulus : K.lookup gPmodulus = some ⟨ocPmodulus, odPmodulus, .func (PySem.W.fnOf "modulus" "System.modulus" (defArgs s_System_modulus) (defBody s_System_modulus) (defScope s_System_modulus) .none kVPmodulus dcPmodulus pmPmodulus anPmodulus cdPmodulus ctPmodulus), slPmodulus⟩)
    (ePmodulus : PySem.W.codeIn K cdPmodulus "System.modulus" = true)
    (kPmodulus : PySem.W.keepIn K (.ref gPmodulus) = true)
    (atPnames : PySem.W.findIn K (.ref C) "names" = some (some (.ref pPnames)))
    (gePnames : PySem.W.specialIn K (.ref pPnames) "__get__" = some (some (.builtin "property.__get__")))
    (taPnames : PySem.W.takesIn K (.ref pPnames) = some true)
    (rePnames : PySem.W.recIn K pPnames "property" = some (.ref gPnames :: restPnames))
    (lPnames : K.lookup gPnames = some ⟨ocPnames, odPnames, .func (PySem.W.fnOf "names" "System.names" (defArgs s_System_names) (defBody s_System_names) (defScope s_System_names) .none kVPnames dcPnames pmPnames anPnames cdPnames ctPnames), slPnames⟩)
    (ePnames : PySem.W.codeIn K cdPnames "System.names" = true)
    (kPnames : PySem.W.keepIn K (.ref gPnames) = true)
    (atMreads : PySem.W.findIn K (.ref C) "reads" = some (some (.ref fMreads)))
    (isMreads : PySem.W.isFn K (.ref fMreads) = true)
    (lMreads : K.lookup fMreads = some ⟨ocMreads, odMreads, .func (PySem.W.fnOf "reads" "System.reads" (defArgs s_System_reads) (defBody s_System_reads) (defScope s_System_reads) .none kVMreads dcMreads pmMreads anMreads cdMreads ctMreads), slMreads⟩)
    (eMreads : PySem.W.codeIn K cdMreads "System.reads" = true)
    (kMreads : PySem.W.keepIn K (.ref fMreads) = true)
    (atMall_reads : PySem.W.findIn K (.ref C) "all_reads" = some (some (.ref fMall_reads)))
    (isMall_reads : PySem.W.isFn K (.ref fMall_reads) = true)
    (lMall_reads : K.lookup fMall_reads = some ⟨ocMall_reads, odMall_reads, .func (PySem.W.fnOf "all_reads" "System.all_reads" (defArgs s_System_all_reads) (defBody s_System_all_reads) (defScope s_System_all_reads) .none kVMall_reads dcMall_reads pmMall_reads anMall_reads cdMall_reads ctMall_reads), slMall_reads⟩)
    (eMall_reads : PySem.W.codeIn K cdMall_reads "System.all_reads" = true)
    (kMall_reads : PySem.W.keepIn K (.ref fMall_reads) = true)
    (atMeq : PySem.W.findIn K (.ref C) "__eq__" = some (some (.ref fMeq)))
    (isMeq : PySem.W.isFn K (.ref fMeq) = true)
    (lMeq : K.lookup fMeq = some ⟨ocMeq, odMeq, .func (PySem.W.fnOf "__eq__" "System.__eq__" (defArgs s_System_eq) (defBody s_System_eq) (defScope s_System_eq) .none kVMeq dcMeq pmMeq anMeq cdMeq ctMeq), slMeq⟩)
    (eMeq : PySem.W.codeIn K cdMeq "System.__eq__" = true)
    (kMeq : PySem.W.keepIn K (.ref fMeq) = true)
    (atI : PySem.W.findIn K (.ref C) "__init__" = some (some (.ref fI)))
    (isI : PySem.W.isFn K (.ref fI) = true)
    (lI : K.lookup fI = some ⟨ocI, odI, .func (PySem.W.fnOf "__init__" "System.__init__" (defArgs s_System_init) (defBody s_System_init) (defScope s_System_init) (.ref T0) kVI dcI pmI anI (.ref c0) ctI), slI⟩)
    (eI : PySem.W.codeIn K (.ref c0) "System.__init__" = true)
    (kI : PySem.W.keepIn K (.ref fI) = true)
    (lT : K.lookup T0 = some ⟨ocT, odT, .seq [Value.int 1000003 tT].toArray nT, slT⟩)
    (pg : PySem.W.plainGet K C Str.empty = true)
    (hd : PySem.W.hasDictIn K C = true)
    (po : PySem.W.plainOver K C = true)
    (sa : PySem.W.findIn K (.ref C) "__setattr__" = some (some (.builtin "object.__setattr__")))
    (mk : PySem.W.makesIn K C = true)
    (kc : PySem.W.keepIn K (.ref C) = true)
    (haC : PySem.W.findIn K (.ref C) "__class__" = some (some (.builtin "object.__class__")))
    (hnC : PySem.W.specialIn K (.builtin "object.__class__") "__get__" = some (some (.builtin "getset_descriptor.__get__")))
    (htC : PySem.W.takesIn K (.builtin "object.__class__") = some true)
    (hmC : PySem.W.mroIn K C (.type "object") = some true)
    (n_dimensions : PySem.W.findIn K (.ref C) "_dimensions" = some none)
    (n_modulus : PySem.W.findIn K (.ref C) "_modulus" = some none)
    (n_tables : PySem.W.findIn K (.ref C) "_tables" = some none)
    (z_len : PySem.W.nsIn K mainGlobals "len" = some none)
    (z_all : PySem.W.nsIn K mainGlobals "all" = some none)
    (z_min : PySem.W.nsIn K mainGlobals "min" = some none)
    (z_abs : PySem.W.nsIn K mainGlobals "abs" = some none)
    (z_int : PySem.W.nsIn K mainGlobals "int" = some none)
    (z_list : PySem.W.nsIn K mainGlobals "list" = some none)
    (z_tuple : PySem.W.nsIn K mainGlobals "tuple" = some none)
    (z_range : PySem.W.nsIn K mainGlobals "range" = some none)
    (z_zip : PySem.W.nsIn K mainGlobals "zip" = some none)
    (z_enumerate : PySem.W.nsIn K mainGlobals "enumerate" = some none)
    (z_sorted : PySem.W.nsIn K mainGlobals "sorted" = some none)
    (z_max : PySem.W.nsIn K mainGlobals "max" = some none)
    (z_isinstance : PySem.W.nsIn K mainGlobals "isinstance" = some none)
    (z_sum : PySem.W.nsIn K mainGlobals "sum" = some none)
    (z_set : PySem.W.nsIn K mainGlobals "set" = some none)
    (z_dict : PySem.W.nsIn K mainGlobals "dict" = some none)
    (v_MOST_DIMENSIONS : PySem.W.nsIn K mainGlobals "MOST_DIMENSIONS" = some (some (.int 3 t_MOST_DIMENSIONS)))
    (v_MOST_TABLES : PySem.W.nsIn K mainGlobals "MOST_TABLES" = some (some (.int 6 t_MOST_TABLES)))
    (v_MOST_READS : PySem.W.nsIn K mainGlobals "MOST_READS" = some (some (.int 12 t_MOST_READS)))
    (v_MOST_LETTERS : PySem.W.nsIn K mainGlobals "MOST_LETTERS" = some (some (.int 8 t_MOST_LETTERS)))
    (cg0 : PySem.W.nsIn K mainGlobals "InvalidSystem" = some (some (.ref D0)))
    (cg1 : PySem.W.nsIn K mainGlobals "InvalidName" = some (some (.ref D1)))
    (cg2 : PySem.W.nsIn K mainGlobals "InvalidAxes" = some (some (.ref D2)))
    (cg3 : PySem.W.nsIn K mainGlobals "UnknownTable" = some (some (.ref D3)))
    (cg4 : PySem.W.nsIn K mainGlobals "InvalidCell" = some (some (.ref D4)))
    (cg5 : PySem.W.nsIn K mainGlobals "InvalidRead" = some (some (.ref D5)))
    (cg6 : PySem.W.nsIn K mainGlobals "InvalidShifts" = some (some (.ref D6)))
    (cg7 : PySem.W.nsIn K mainGlobals "InvalidNumber" = some (some (.ref D7)))
    (cg8 : PySem.W.nsIn K mainGlobals "NotReady" = some (some (.ref D8)))
    (cg9 : PySem.W.nsIn K mainGlobals "NoFar" = some (some (.ref D9)))
    (cg10 : PySem.W.nsIn K mainGlobals "NothingToUndo" = some (some (.ref D10)))
    (cg11 : PySem.W.nsIn K mainGlobals "Unreadable" = some (some (.ref D11)))
    (cg12 : PySem.W.nsIn K mainGlobals "ReadError" = some (some (.ref D12)))
    (x3 : ExcRow K D3)
    (sa3 : PySem.W.findIn K (.ref D3) "__setattr__" = some (some (.builtin "object.__setattr__")))
    (ex3 : PySem.W.subIn K (.ref D3) (.type "BaseException") = some true)
    (ty3 : PySem.W.typeIn K (.ref D3) = some (.type "type"))
    (kp3 : PySem.W.keepIn K (.ref D3) = true)
    (ga3 : PySem.W.findIn K (.ref D3) "__getattribute__" = some (some (.builtin "BaseException.__getattribute__")))
    (gg3 : PySem.W.findIn K (.ref D3) "__getattr__" = some none)
    (hd3 : PySem.W.hasDictIn K D3 = true)
    (kc3 : PySem.W.findIn K (.ref D3) "__class__" = some (some (.builtin "object.__class__")))
    (km3 : PySem.W.mroIn K D3 (.type "object") = some true)
    (in3 : PySem.W.findIn K (.ref D3) "__init__" = some (some (.ref fE)))
    (no3 : PySem.W.findIn K (.ref D3) "value" = some none)
    (sub3 : ((List.range 13).all fun j => PySem.W.kitOne K (.ref D3) (.ref ((cOf [D0, D1, D2, D3, D4, D5, D6, D7, D8, D9, D10, D11, D12]) j)) == some (decide (j = 3) || decide (j = 12))) = true)
    (vv3 : PySem.W.kitOne K (.ref D3) (.type "ValueError") = some true)
    (hx3 : PySem.W.exmOne K (.ref D3) (.ref D12) = some true)
    (x4 : ExcRow K D4)
    (sa4 : PySem.W.findIn K (.ref D4) "__setattr__" = some (some (.builtin "object.__setattr__")))
    (ex4 : PySem.W.subIn K (.ref D4) (.type "BaseException") = some true)
    (ty4 : PySem.W.typeIn K (.ref D4) = some (.type "type"))
    (kp4 : PySem.W.keepIn K (.ref D4) = true)
    (ga4 : PySem.W.findIn K (.ref D4) "__getattribute__" = some (some (.builtin "BaseException.__getattribute__")))
    (gg4 : PySem.W.findIn K (.ref D4) "__getattr__" = some none)
    (hd4 : PySem.W.hasDictIn K D4 = true)
    (kc4 : PySem.W.findIn K (.ref D4) "__class__" = some (some (.builtin "object.__class__")))
    (km4 : PySem.W.mroIn K D4 (.type "object") = some true)
    (in4 : PySem.W.findIn K (.ref D4) "__init__" = some (some (.ref fE)))
    (no4 : PySem.W.findIn K (.ref D4) "value" = some none)
    (sub4 : ((List.range 13).all fun j => PySem.W.kitOne K (.ref D4) (.ref ((cOf [D0, D1, D2, D3, D4, D5, D6, D7, D8, D9, D10, D11, D12]) j)) == some (decide (j = 4) || decide (j = 12))) = true)
    (vv4 : PySem.W.kitOne K (.ref D4) (.type "ValueError") = some true)
    (hx4 : PySem.W.exmOne K (.ref D4) (.ref D12) = some true)
    (lE : K.lookup fE = some ⟨ocE, odE, .func (PySem.W.fnOf "__init__" "ReadError.__init__" (defArgs s_ReadError_init) (defBody s_ReadError_init) (defScope s_ReadError_init) .none kVE dcE pmE anE cdE ctE), slE⟩)
    (eE : PySem.W.codeIn K cdE "ReadError.__init__" = true)
    (kE : PySem.W.keepIn K (.ref fE) = true)
    (tyE : PySem.W.typeIn K (.ref fE) = some (.type "function"))
    (z_ValueError : PySem.W.nsIn K mainGlobals "ValueError" = some none)
    (aCTa : PySem.W.nsIn K mainGlobals "Tableau" = some (some (.ref CTa)))
    (pgCTa : PySem.W.plainGet K CTa Str.empty = true)
    (hdCTa : PySem.W.hasDictIn K CTa = true)
    (poCTa : PySem.W.plainOver K CTa = true)
    (saCTa : PySem.W.findIn K (.ref CTa) "__setattr__" = some (some (.builtin "object.__setattr__")))
    (mkCTa : PySem.W.makesIn K CTa = true)
    (kcCTa : PySem.W.keepIn K (.ref CTa) = true)
    (nCTagrid : PySem.W.findIn K (.ref CTa) "grid" = some none)
    (nCTascale : PySem.W.findIn K (.ref CTa) "scale" = some none)
    (nCTaacross : PySem.W.findIn K (.ref CTa) "across" = some none)
    (nCTadown : PySem.W.findIn K (.ref CTa) "down" = some none)
    (atCTainit : PySem.W.findIn K (.ref CTa) "__init__" = some (some (.ref fCTainit)))
    (isCTainit : PySem.W.isFn K (.ref fCTainit) = true)
    (lCTainit : K.lookup fCTainit = some ⟨ocCTainit, odCTainit, .func (PySem.W.fnOf "__init__" "Tableau.__init__" (defArgs s_Tableau_init) (defBody s_Tableau_init) (defScope s_Tableau_init) .none kVCTainit dcCTainit pmCTainit anCTainit cdCTainit ctCTainit), slCTainit⟩)
    (eCTainit : PySem.W.codeIn K cdCTainit "Tableau.__init__" = true)
    (kCTainit : PySem.W.keepIn K (.ref fCTainit) = true)
    (atCTaentering : PySem.W.findIn K (.ref CTa) "entering" = some (some (.ref fCTaentering)))
    (isCTaentering : PySem.W.isFn K (.ref fCTaentering) = true)
    (lCTaentering : K.lookup fCTaentering = some ⟨ocCTaentering, odCTaentering, .func (PySem.W.fnOf "entering" "Tableau.entering" (defArgs s_Tableau_entering) (defBody s_Tableau_entering) (defScope s_Tableau_entering) .none kVCTaentering dcCTaentering pmCTaentering anCTaentering cdCTaentering ctCTaentering), slCTaentering⟩)
    (eCTaentering : PySem.W.codeIn K cdCTaentering "Tableau.entering" = true)
    (kCTaentering : PySem.W.keepIn K (.ref fCTaentering) = true)
    (atCTaleaving : PySem.W.findIn K (.ref CTa) "leaving" = some (some (.ref fCTaleaving)))
    (isCTaleaving : PySem.W.isFn K (.ref fCTaleaving) = true)
    (lCTaleaving : K.lookup fCTaleaving = some ⟨ocCTaleaving, odCTaleaving, .func (PySem.W.fnOf "leaving" "Tableau.leaving" (defArgs s_Tableau_leaving) (defBody s_Tableau_leaving) (defScope s_Tableau_leaving) .none kVCTaleaving dcCTaleaving pmCTaleaving anCTaleaving cdCTaleaving ctCTaleaving), slCTaleaving⟩)
    (eCTaleaving : PySem.W.codeIn K cdCTaleaving "Tableau.leaving" = true)
    (kCTaleaving : PySem.W.keepIn K (.ref fCTaleaving) = true)
    (atCTaexchange : PySem.W.findIn K (.ref CTa) "exchange" = some (some (.ref fCTaexchange)))
    (isCTaexchange : PySem.W.isFn K (.ref fCTaexchange) = true)
    (lCTaexchange : K.lookup fCTaexchange = some ⟨ocCTaexchange, odCTaexchange, .func (PySem.W.fnOf "exchange" "Tableau.exchange" (defArgs s_Tableau_exchange) (defBody s_Tableau_exchange) (defScope s_Tableau_exchange) .none kVCTaexchange dcCTaexchange pmCTaexchange anCTaexchange cdCTaexchange ctCTaexchange), slCTaexchange⟩)
    (eCTaexchange : PySem.W.codeIn K cdCTaexchange "Tableau.exchange" = true)
    (kCTaexchange : PySem.W.keepIn K (.ref fCTaexchange) = true)
    (atCTasolution : PySem.W.findIn K (.ref CTa) "solution" = some (some (.ref fCTasolution)))
    (isCTasolution : PySem.W.isFn K (.ref fCTasolution) = true)
    (lCTasolution : K.lookup fCTasolution = some ⟨ocCTasolution, odCTasolution, .func (PySem.W.fnOf "solution" "Tableau.solution" (defArgs s_Tableau_solution) (defBody s_Tableau_solution) (defScope s_Tableau_solution) .none kVCTasolution dcCTasolution pmCTasolution anCTasolution cdCTasolution ctCTasolution), slCTasolution⟩)
    (eCTasolution : PySem.W.codeIn K cdCTasolution "Tableau.solution" = true)
    (kCTasolution : PySem.W.keepIn K (.ref fCTasolution) = true)
    (atCTaprices : PySem.W.findIn K (.ref CTa) "prices" = some (some (.ref fCTaprices)))
    (isCTaprices : PySem.W.isFn K (.ref fCTaprices) = true)
    (lCTaprices : K.lookup fCTaprices = some ⟨ocCTaprices, odCTaprices, .func (PySem.W.fnOf "prices" "Tableau.prices" (defArgs s_Tableau_prices) (defBody s_Tableau_prices) (defScope s_Tableau_prices) .none kVCTaprices dcCTaprices pmCTaprices anCTaprices cdCTaprices ctCTaprices), slCTaprices⟩)
    (eCTaprices : PySem.W.codeIn K cdCTaprices "Tableau.prices" = true)
    (kCTaprices : PySem.W.keepIn K (.ref fCTaprices) = true)
    (aCAr : PySem.W.nsIn K mainGlobals "Around" = some (some (.ref CAr)))
    (pgCAr : PySem.W.plainGet K CAr Str.empty = true)
    (hdCAr : PySem.W.hasDictIn K CAr = true)
    (poCAr : PySem.W.plainOver K CAr = true)
    (saCAr : PySem.W.findIn K (.ref CAr) "__setattr__" = some (some (.builtin "object.__setattr__")))
    (mkCAr : PySem.W.makesIn K CAr = true)
    (kcCAr : PySem.W.keepIn K (.ref CAr) = true)
    (nCArlinks : PySem.W.findIn K (.ref CAr) "links" = some none)
    (nCArtables : PySem.W.findIn K (.ref CAr) "tables" = some none)
    (nCArrows : PySem.W.findIn K (.ref CAr) "rows" = some none)
    (nCArlimits : PySem.W.findIn K (.ref CAr) "limits" = some none)
    (atCArinit : PySem.W.findIn K (.ref CAr) "__init__" = some (some (.ref fCArinit)))
    (isCArinit : PySem.W.isFn K (.ref fCArinit) = true)
    (lCArinit : K.lookup fCArinit = some ⟨ocCArinit, odCArinit, .func (PySem.W.fnOf "__init__" "Around.__init__" (defArgs s_Around_init) (defBody s_Around_init) (defScope s_Around_init) .none kVCArinit dcCArinit pmCArinit anCArinit cdCArinit ctCArinit), slCArinit⟩)
    (eCArinit : PySem.W.codeIn K cdCArinit "Around.__init__" = true)
    (kCArinit : PySem.W.keepIn K (.ref fCArinit) = true)
    (atCArbest : PySem.W.findIn K (.ref CAr) "best" = some (some (.ref fCArbest)))
    (isCArbest : PySem.W.isFn K (.ref fCArbest) = true)
    (lCArbest : K.lookup fCArbest = some ⟨ocCArbest, odCArbest, .func (PySem.W.fnOf "best" "Around.best" (defArgs s_Around_best) (defBody s_Around_best) (defScope s_Around_best) .none kVCArbest dcCArbest pmCArbest anCArbest cdCArbest ctCArbest), slCArbest⟩)
    (eCArbest : PySem.W.codeIn K cdCArbest "Around.best" = true)
    (kCArbest : PySem.W.keepIn K (.ref fCArbest) = true)
    (vgcd : PySem.W.nsIn K mainGlobals "gcd" = some (some (.builtin "math.gcd")))
    (hPt : h.get? Pt = some { cls := .none, data := .fields #[] })
    (nPt : K.lookup Pt = none)
    (hc0 : PySem.W.codeHdIn K c0 Pt = true)
    : LawAtG l w K 11 63 "_law_script" mg fa h := by
  have e := hfa.symm.trans (PySem.W.mg_of X G a30)
  cases e
  have T : Txt mg := ⟨PySem.W.mg_none_of X G z_len, PySem.W.mg_none_of X G z_all, PySem.W.mg_none_of X G z_min, PySem.W.mg_none_of X G z_abs, PySem.W.mg_none_of X G z_int, PySem.W.mg_none_of X G z_list, PySem.W.mg_none_of X G z_tuple, PySem.W.mg_none_of X G z_range, PySem.W.mg_none_of X G z_zip, PySem.W.mg_none_of X G z_enumerate, PySem.W.mg_none_of X G z_sorted, ⟨_, PySem.W.mg_of X G v_MOST_DIMENSIONS, ⟨_, rfl⟩⟩, ⟨_, PySem.W.mg_of X G v_MOST_TABLES, ⟨_, rfl⟩⟩, ⟨_, PySem.W.mg_of X G v_MOST_READS, ⟨_, rfl⟩⟩, ⟨_, PySem.W.mg_of X G v_MOST_LETTERS, ⟨_, rfl⟩⟩⟩
  have zm := PySem.W.mg_none_of X G z_max
  have zi := PySem.W.mg_none_of X G z_isinstance
  have zs := PySem.W.mg_none_of X G z_sum
  have zset := PySem.W.mg_none_of X G z_set
  have zd := PySem.W.mg_none_of X G z_dict
  have cl : Cls K C := ⟨pg, hd, po, sa⟩
  have TC : TxtC K mg C := ⟨cl, n_dimensions, n_modulus, n_tables, PySem.W.mg_of X G aC⟩
  have g_gcd := PySem.W.mg_of X G vgcd
  have clCTa : Cls K CTa := ⟨pgCTa, hdCTa, poCTa, saCTa⟩
  have TXTableau : TxtT K mg CTa := ⟨clCTa, nCTagrid, nCTascale, nCTaacross, nCTadown, PySem.W.mg_of X G aCTa⟩
  have clCAr : Cls K CAr := ⟨pgCAr, hdCAr, poCAr, saCAr⟩
  have TXAround : TxtA K mg CAr := ⟨clCAr, nCArlinks, nCArtables, nCArrows, nCArlimits, PySem.W.mg_of X G aCAr⟩
  have isC : C8.InsC K C := ⟨cl, haC, hnC, htC, hmC, if_pos (beq_self_eq_true _)⟩
  have F1 := fun_mk (st := s_is_name) l1 e1 k1
  have b1 := F1.binds (ps := ["text"]) fun _ _ _ _ _ _ us hl => match us, hl with | [_], _ => rfl
  have F2 := fun_mk (st := s_is_read) l2 e2 k2
  have b2 := F2.binds (ps := ["read", "dimensions"]) fun _ _ _ _ _ _ us hl => match us, hl with | [_, _], _ => rfl
  have F3 := fun_mk (st := s_is_point) l3 e3 k3
  have b3 := F3.binds (ps := ["system", "point"]) fun _ _ _ _ _ _ us hl => match us, hl with | [_, _], _ => rfl
  have F4 := fun_mk (st := s_check_table) l4 e4 k4
  have b4 := F4.binds (ps := ["system", "name"]) fun _ _ _ _ _ _ us hl => match us, hl with | [_, _], _ => rfl
  have F5 := fun_mk (st := s_check_tables) l5 e5 k5
  have b5 := F5.binds (ps := ["dimensions", "tables"]) fun _ _ _ _ _ _ us hl => match us, hl with | [_, _], _ => rfl
  have F6 := fun_mk (st := s_check_tables_that_are_read) l6 e6 k6
  have b6 := F6.binds (ps := ["tables"]) fun _ _ _ _ _ _ us hl => match us, hl with | [_], _ => rfl
  have F7 := fun_mk (st := s_check_system) l7 e7 k7
  have b7 := F7.binds (ps := ["dimensions", "tables", "modulus"]) fun _ _ _ _ _ _ us hl => match us, hl with | [_, _, _], _ => rfl
  have F8 := fun_mk (st := s_check_cell) l8 e8 k8
  have b8 := F8.binds (ps := ["system", "cell"]) fun _ _ _ _ _ _ us hl => match us, hl with | [_, _], _ => rfl
  have F9 := fun_mk (st := s_links_of) l9 e9 k9
  have b9 := F9.binds (ps := ["system"]) fun _ _ _ _ _ _ us hl => match us, hl with | [_], _ => rfl
  have F10 := fun_mk (st := s_join) l10 e10 k10
  have b10 := F10.binds (ps := ["labels", "one", "other"]) fun _ _ _ _ _ _ us hl => match us, hl with | [_, _, _], _ => rfl
  have F11 := fun_mk (st := s_pieces) l11 e11 k11
  have b11 := F11.binds (ps := ["links"]) fun _ _ _ _ _ _ us hl => match us, hl with | [_], _ => rfl
  have F12 := fun_mk (st := s_tables_of) l12 e12 k12
  have b12 := F12.binds (ps := ["links"]) fun _ _ _ _ _ _ us hl => match us, hl with | [_], _ => rfl
  have F13 := fun_mk (st := s_piece_of) l13 e13 k13
  have b13 := F13.binds (ps := ["links", "name"]) fun _ _ _ _ _ _ us hl => match us, hl with | [_, _], _ => rfl
  have F14 := fun_mk (st := s_lowest_terms) l14 e14 k14
  have b14 := F14.binds (ps := ["numbers"]) fun _ _ _ _ _ _ us hl => match us, hl with | [_], _ => rfl
  have F15 := fun_mk (st := s_fraction) l15 e15 k15
  have b15 := F15.binds (ps := ["top", "bottom"]) fun _ _ _ _ _ _ us hl => match us, hl with | [_, _], _ => rfl
  have F16 := fun_mk (st := s_greatest) l16 e16 k16
  have b16 := F16.binds (ps := ["rows", "limits", "worths"]) fun _ _ _ _ _ _ us hl => match us, hl with | [_, _, _], _ => rfl
  have F17 := fun_mk (st := s_way_bound) l17 e17 k17
  have b17 := F17.binds (ps := ["system", "cell"]) fun _ _ _ _ _ _ us hl => match us, hl with | [_, _], _ => rfl
  have F18 := fun_mk (st := s_bound_numbers) l18 e18 k18
  have b18 := F18.binds (ps := ["system", "cell"]) fun _ _ _ _ _ _ us hl => match us, hl with | [_, _], _ => rfl
  have F19 := fun_mk (st := s_flow_weights) l19 e19 k19
  have b19 := F19.binds (ps := ["system", "cell"]) fun _ _ _ _ _ _ us hl => match us, hl with | [_, _], _ => rfl
  have F20 := fun_mk (st := s_bound_worth) l20 e20 k20
  have b20 := F20.binds (ps := ["system", "cell", "found"]) fun _ _ _ _ _ _ us hl => match us, hl with | [_, _, _], _ => rfl
  have F21 := fun_mk (st := s_flow_worth) l21 e21 k21
  have b21 := F21.binds (ps := ["system", "cell", "found"]) fun _ _ _ _ _ _ us hl => match us, hl with | [_, _, _], _ => rfl
  have F22 := fun_mk (st := s_Lpool) l22 e22 k22
  have b22 := F22.binds (ps := ["_law_script", "_law_at"]) fun _ _ _ _ _ _ us hl => match us, hl with | [_, _], _ => rfl
  have F23 := fun_mk (st := s_Ldraw) l23 e23 k23
  have b23 := F23.binds (ps := ["_law_pool_here", "_law_many"]) fun _ _ _ _ _ _ us hl => match us, hl with | [_, _], _ => rfl
  have F24 := fun_mk (st := s_Lvector) l24 e24 k24
  have b24 := F24.binds (ps := ["_law_pool_here", "_law_axes", "_law_rows"]) fun _ _ _ _ _ _ us hl => match us, hl with | [_, _, _], _ => rfl
  have F25 := fun_mk (st := s_Ltables) l25 e25 k25
  have b25 := F25.binds (ps := ["_law_pool_here", "_law_axes", "_law_most"]) fun _ _ _ _ _ _ us hl => match us, hl with | [_, _, _], _ => rfl
  have F26 := fun_mk (st := s_Lmade) l26 e26 k26
  have b26 := F26.binds (ps := ["_law_axes", "_law_tables_here"]) fun _ _ _ _ _ _ us hl => match us, hl with | [_, _], _ => rfl
  have F27 := fun_mk (st := s_Lkind) l27 e27 k27
  have b27 := F27.binds (ps := ["_law_caught"]) fun _ _ _ _ _ _ us hl => match us, hl with | [_], _ => rfl
  have F28 := fun_mk (st := s_Ltold) l28 e28 k28
  have b28 := F28.binds (ps := ["_law_door", "_law_made_here", "_law_place"]) fun _ _ _ _ _ _ us hl => match us, hl with | [_, _, _], _ => rfl
  have F29 := fun_mk (st := s_Lright) l29 e29 k29
  have b29 := F29.binds (ps := ["_law_pool_here"]) fun _ _ _ _ _ _ us hl => match us, hl with | [_], _ => rfl
  have F30 := fun_mk (st := s_law) l30 e30 k30
  have FPdimensions := fun_mk (st := s_System_dimensions) lPdimensions ePdimensions kPdimensions
  have bPdimensions := FPdimensions.binds (ps := ["self"]) fun _ _ _ _ _ _ us hl => match us, hl with | [_], _ => rfl
  have FPmodulus := fun_mk (st := s_System_modulus) lPmodulus ePmodulus kPmodulus
  have bPmodulus := FPmodulus.binds (ps := ["self"]) fun _ _ _ _ _ _ us hl => match us, hl with | [_], _ => rfl
  have FPnames := fun_mk (st := s_System_names) lPnames ePnames kPnames
  have bPnames := FPnames.binds (ps := ["self"]) fun _ _ _ _ _ _ us hl => match us, hl with | [_], _ => rfl
  have FMreads := fun_mk (st := s_System_reads) lMreads eMreads kMreads
  have bMreads := FMreads.binds (ps := ["self", "name"]) fun _ _ _ _ _ _ us hl => match us, hl with | [_, _], _ => rfl
  have FMall_reads := fun_mk (st := s_System_all_reads) lMall_reads eMall_reads kMall_reads
  have bMall_reads := FMall_reads.binds (ps := ["self"]) fun _ _ _ _ _ _ us hl => match us, hl with | [_], _ => rfl
  have FCTainit := fun_mk (st := s_Tableau_init) lCTainit eCTainit kCTainit
  have bCTainit := FCTainit.binds (ps := ["self", "rows", "limits", "worths"]) fun _ _ _ _ _ _ us hl => match us, hl with | [_, _, _, _], _ => rfl
  have FCTaentering := fun_mk (st := s_Tableau_entering) lCTaentering eCTaentering kCTaentering
  have bCTaentering := FCTaentering.binds (ps := ["self"]) fun _ _ _ _ _ _ us hl => match us, hl with | [_], _ => rfl
  have FCTaleaving := fun_mk (st := s_Tableau_leaving) lCTaleaving eCTaleaving kCTaleaving
  have bCTaleaving := FCTaleaving.binds (ps := ["self", "column"]) fun _ _ _ _ _ _ us hl => match us, hl with | [_, _], _ => rfl
  have FCTaexchange := fun_mk (st := s_Tableau_exchange) lCTaexchange eCTaexchange kCTaexchange
  have bCTaexchange := FCTaexchange.binds (ps := ["self", "row", "column"]) fun _ _ _ _ _ _ us hl => match us, hl with | [_, _, _], _ => rfl
  have FCTasolution := fun_mk (st := s_Tableau_solution) lCTasolution eCTasolution kCTasolution
  have bCTasolution := FCTasolution.binds (ps := ["self"]) fun _ _ _ _ _ _ us hl => match us, hl with | [_], _ => rfl
  have FCTaprices := fun_mk (st := s_Tableau_prices) lCTaprices eCTaprices kCTaprices
  have bCTaprices := FCTaprices.binds (ps := ["self"]) fun _ _ _ _ _ _ us hl => match us, hl with | [_], _ => rfl
  have FCArinit := fun_mk (st := s_Around_init) lCArinit eCArinit kCArinit
  have bCArinit := FCArinit.binds (ps := ["self", "system", "cell"]) fun _ _ _ _ _ _ us hl => match us, hl with | [_, _, _], _ => rfl
  have FCArbest := fun_mk (st := s_Around_best) lCArbest eCArbest kCArbest
  have bCArbest := FCArbest.binds (ps := ["self"]) fun _ _ _ _ _ _ us hl => match us, hl with | [_], _ => rfl
  have FMeq := fun_mk (st := s_System_eq) lMeq eMeq kMeq
  have bMeq := FMeq.binds (ps := ["self", "other"]) fun _ _ _ _ _ _ us hl => match us, hl with | [_, _], _ => rfl
  have FI : FunC K "__init__" "System.__init__" s_System_init fI _ c0 := ⟨_, _, _, _, _, _, _, _, _, rfl, lI, eI⟩
  have FID : FunD K "__init__" "System.__init__" (defArgs s_System_init) (defBody s_System_init) (defScope s_System_init) [.int 1000003] [] fI _ := ⟨⟨_, _, _, _, _, _, _, _, _, _, rfl, lI, eI, .inr ⟨by simp, T0, _, _, _, rfl, lT, rfl, .cons ⟨_, rfl⟩ .nil⟩, .inl rfl⟩, kI⟩
  obtain ⟨ds, hds, bI⟩ := FID.binds1 (ps := ["self", "dimensions", "tables", "modulus"]) 3 0 (by simp) rfl fun _ _ _ _ _ _ _ us its h1 h2 => match us, its, h1, h2 with | [_, _, _], [_], _, _ => ⟨_, rfl, rfl⟩
  obtain ⟨ds3, hds3, bI3⟩ := FID.binds1 (ps := ["self", "dimensions", "tables", "modulus"]) 4 1 (by simp) rfl fun _ _ _ _ _ _ _ us its h1 h2 => match us, its, h1, h2 with | [_, _, _, _], [_], _, _ => ⟨_, rfl, rfl⟩
  obtain ⟨TT, hTT⟩ : ∃ TT : List (Addr × Str), TT = [(Pt, ("System.__init__.<locals>.<lambda>" : Str))] := ⟨_, rfl⟩
  have hmT : (Pt, ("System.__init__.<locals>.<lambda>" : Str)) ∈ TT := by rw [hTT]; exact List.mem_singleton.mpr rfl
  have huT : ∀ p ∈ TT, p.1 = Pt → p.2 = ("System.__init__.<locals>.<lambda>" : Str) := fun p hp _ => by rw [hTT] at hp; rw [List.mem_singleton.mp hp]
  refine ⟨PySem.W.fnOf "law" "law" (defArgs s_law) (defBody s_law) (defScope s_law) .none kV30 dc30 pm30 an30 cd30 ct30, [(c0, Pt)], spLaw27 K TT, ⟨?_, ?_, ?_⟩, fun s v => .of_eq rfl, ?_, fun base KB GB TB => ?_⟩
  · intro p hp
    rw [List.mem_singleton.mp hp]
    exact hPt
  · intro p hp
    rw [List.mem_singleton.mp hp]
    exact nPt
  · intro p hp
    rw [List.mem_singleton.mp hp]
    exact PySem.W.codeHd_of_K X hc0
  · intro H a ns hl hT hS
    refine ⟨a, ns, rfl, hS, hl, fun p hp => ?_, fun _ => rfl⟩
    rw [hTT] at hp
    rw [List.mem_singleton.mp hp]
    exact LamX.TabS.nil (hT _ (List.mem_singleton.mpr rfl))
  have TBc := TB _ (List.mem_singleton.mpr rfl)
  have TE : TxX mg (cOf [D0, D1, D2, D3, D4, D5, D6, D7, D8, D9, D10, D11, D12]) := ⟨PySem.W.mg_none_of X G z_ValueError, PySem.W.mg_of X G cg0, PySem.W.mg_of X G cg1, PySem.W.mg_of X G cg2, PySem.W.mg_of X G cg3, PySem.W.mg_of X G cg4, PySem.W.mg_of X G cg5, PySem.W.mg_of X G cg6, PySem.W.mg_of X G cg7, PySem.W.mg_of X G cg8, PySem.W.mg_of X G cg9, PySem.W.mg_of X G cg10, PySem.W.mg_of X G cg11, PySem.W.mg_of X G cg12⟩
  have FE := fun_mk (st := s_ReadError_init) lE eE kE
  have bE := FE.binds (ps := ["self", "value"]) fun _ _ _ _ _ _ us hl => match us, hl with | [_, _], _ => rfl
  have EC3 : ErrC K ((cOf [D0, D1, D2, D3, D4, D5, D6, D7, D8, D9, D10, D11, D12]) 3) := ⟨⟨x3, sa3, ex3, ty3, kp3⟩, ga3, gg3, hd3, kc3, hnC, htC, km3⟩
  have KE3 : KitE K (cOf [D0, D1, D2, D3, D4, D5, D6, D7, D8, D9, D10, D11, D12]) 3 := ⟨fun j hj => eq_of_beq (List.all_eq_true.mp sub3 j (List.mem_range.mpr hj)), vv3⟩
  have r_UnknownTable : MkR l.prog w K mg base 1 "UnknownTable" ((cOf [D0, D1, D2, D3, D4, D5, D6, D7, D8, D9, D10, D11, D12]) 3) := ⟨EC3, no3, _, _, _, in3, tyE, ok_errI FE, bE, PySem.W.mg_of X G cg3⟩
  have EC4 : ErrC K ((cOf [D0, D1, D2, D3, D4, D5, D6, D7, D8, D9, D10, D11, D12]) 4) := ⟨⟨x4, sa4, ex4, ty4, kp4⟩, ga4, gg4, hd4, kc4, hnC, htC, km4⟩
  have KE4 : KitE K (cOf [D0, D1, D2, D3, D4, D5, D6, D7, D8, D9, D10, D11, D12]) 4 := ⟨fun j hj => eq_of_beq (List.all_eq_true.mp sub4 j (List.mem_range.mpr hj)), vv4⟩
  have r_InvalidCell : MkR l.prog w K mg base 1 "InvalidCell" ((cOf [D0, D1, D2, D3, D4, D5, D6, D7, D8, D9, D10, D11, D12]) 4) := ⟨EC4, no4, _, _, _, in4, tyE, ok_errI FE, bE, PySem.W.mg_of X G cg4⟩
  have c_is_name : C8.Cal l.prog w K mg base 1 "is_name" spIsName [] := ⟨_, _, _, _, ok_is_name F1 T, PySem.W.mg_of X G a1, k1, b1, .nil⟩
  have c_is_read : C8.Cal l.prog w K mg base 2 "is_read" (spIsRead K) [] := ⟨_, _, _, _, ok_is_read F2 T c_is_name, PySem.W.mg_of X G a2, k2, b2, .nil⟩
  have p_dimensions : Prp l.prog w K mg base 1 C "dimensions" (spDims K C) := ⟨_, _, _, _, cl, ⟨atPdimensions, gePdimensions, taPdimensions, _, rePdimensions⟩, ok_dims FPdimensions TC, bPdimensions⟩
  have p_modulus : Prp l.prog w K mg base 1 C "modulus" (spMod K C) := ⟨_, _, _, _, cl, ⟨atPmodulus, gePmodulus, taPmodulus, _, rePmodulus⟩, ok_mod FPmodulus TC, bPmodulus⟩
  have p_names : Prp l.prog w K mg base 1 C "names" (spNames K C) := ⟨_, _, _, _, cl, ⟨atPnames, gePnames, taPnames, _, rePnames⟩, ok_names FPnames T TC, bPnames⟩
  have c_is_point : C8.Cal l.prog w K mg base 3 "is_point" (spIsPoint K C) [] := ⟨_, _, _, _, ok_is_point F3 T p_dimensions, PySem.W.mg_of X G a3, k3, b3, .nil⟩
  have c_check_table : C8.Cal l.prog w K mg base 3 "check_table" (spCheckTable K C) [] := ⟨_, _, _, _, ok_check_table F4 T p_names, PySem.W.mg_of X G a4, k4, b4, .nil⟩
  have t_reads : C8.Met l.prog w K mg base 4 C "reads" (spReads K C) [] := ⟨_, _, _, _, cl, ⟨atMreads, isMreads, kMreads⟩, ok_reads FMreads T TC c_check_table, bMreads, .nil⟩
  have t_all_reads : C8.Met l.prog w K mg base 1 C "all_reads" (spAll K C) [] := ⟨_, _, _, _, cl, ⟨atMall_reads, isMall_reads, kMall_reads⟩, ok_all FMall_reads T TC, bMall_reads, .nil⟩
  have c_check_tables : C8.Cal l.prog w K mg base 3 "check_tables" (spCheckTables K) [] := ⟨_, _, _, _, ok_check_tables F5 T c_is_name c_is_read, PySem.W.mg_of X G a5, k5, b5, .nil⟩
  have c_check_tables_that_are_read : C8.Cal l.prog w K mg base 3 "check_tables_that_are_read" (spCheckRead K) [] := ⟨_, _, _, _, ok_check_read F6 T, PySem.W.mg_of X G a6, k6, b6, .nil⟩
  have c_check_system : C8.Cal l.prog w K mg base 4 "check_system" (spCheckSystem K) [] := ⟨_, _, _, _, ok_check_system F7 T c_check_tables c_check_tables_that_are_read, PySem.W.mg_of X G a7, k7, b7, .nil⟩
  have m_System3 : C8.Mak l.prog w K mg base 5 "System" C (spInit K C TT) [] := ⟨_, _, _, ds3, ⟨mk, atI, isI, kc⟩, ok_init FI T TC c_check_system TBc hmT huT, PySem.W.mg_of X G aC, bI3, hds3⟩
  have m_System : C8.Mak l.prog w K mg base 5 "System" C (spInit K C TT) [.int 1000003] := ⟨_, _, _, _, ⟨mk, atI, isI, kc⟩, ok_init FI T TC c_check_system TBc hmT huT, PySem.W.mg_of X G aC, bI, hds⟩
  have eq_System : EqM l.prog w K mg base 1 C (spSysEq K C) := ⟨_, _, _, cl, atMeq, isMeq, ok_eqS FMeq T TC zi isC, bMeq⟩
  have x_check_table : CalX l.prog w K mg base 3 "check_table" (spTabX K C ((cOf [D0, D1, D2, D3, D4, D5, D6, D7, D8, D9, D10, D11, D12]) 3)) := ⟨_, _, _, ok_tabX F4 T p_names r_UnknownTable, PySem.W.mg_of X G a4, k4, b4⟩
  have x_check_cell : CalX l.prog w K mg base 4 "check_cell" (spCellX K C ((cOf [D0, D1, D2, D3, D4, D5, D6, D7, D8, D9, D10, D11, D12]) 3) ((cOf [D0, D1, D2, D3, D4, D5, D6, D7, D8, D9, D10, D11, D12]) 4)) := ⟨_, _, _, ok_cellX F8 T x_check_table c_is_point r_InvalidCell, PySem.W.mg_of X G a8, k8, b8⟩
  have c_links_of : C8.Cal l.prog w K mg base 5 "links_of" (spLinks K C) [] := ⟨_, _, _, _, ok_links F9 T TC t_reads t_all_reads, PySem.W.mg_of X G a9, k9, b9, .nil⟩
  have c_join : C8.Cal l.prog w K mg base 1 "join" spJoin [] := ⟨_, _, _, _, ok_join F10 T, PySem.W.mg_of X G a10, k10, b10, .nil⟩
  have c_pieces : C8.Cal l.prog w K mg base 2 "pieces" (spPieces K) [] := ⟨_, _, _, _, ok_pieces F11 T c_join, PySem.W.mg_of X G a11, k11, b11, .nil⟩
  have c_tables_of : C8.Cal l.prog w K mg base 1 "tables_of" (spTables K) [] := ⟨_, _, _, _, ok_tables_of F12 T zset, PySem.W.mg_of X G a12, k12, b12, .nil⟩
  have c_piece_of : C8.Cal l.prog w K mg base 3 "piece_of" (spPieceOf K) [] := ⟨_, _, _, _, ok_piece_of F13 T c_pieces c_tables_of, PySem.W.mg_of X G a13, k13, b13, .nil⟩
  have c_lowest_terms : C8.Cal l.prog w K mg base 1 "lowest_terms" (spLowest K) [] := ⟨_, _, _, _, ok_lowest_terms F14 T zm g_gcd, PySem.W.mg_of X G a14, k14, b14, .nil⟩
  have c_fraction : C8.Cal l.prog w K mg base 2 "fraction" spFraction [] := ⟨_, _, _, _, ok_fraction F15 T c_lowest_terms, PySem.W.mg_of X G a15, k15, b15, .nil⟩
  have m_Tableau : C8.Mak l.prog w K mg base 1 "Tableau" CTa (spTabInit K CTa) [] := ⟨_, _, _, _, ⟨mkCTa, atCTainit, isCTainit, kcCTa⟩, ok_tabinit FCTainit T TXTableau, PySem.W.mg_of X G aCTa, bCTainit, .nil⟩
  have t_entering : C8.Met l.prog w K mg base 1 CTa "entering" (spEntering K CTa) [] := ⟨_, _, _, _, clCTa, ⟨atCTaentering, isCTaentering, kCTaentering⟩, ok_entering FCTaentering T TXTableau, bCTaentering, .nil⟩
  have t_leaving : C8.Met l.prog w K mg base 1 CTa "leaving" (spLeaving K CTa) [] := ⟨_, _, _, _, clCTa, ⟨atCTaleaving, isCTaleaving, kCTaleaving⟩, ok_leaving FCTaleaving T TXTableau, bCTaleaving, .nil⟩
  have t_exchange : C8.Met l.prog w K mg base 1 CTa "exchange" (spExchange K CTa) [] := ⟨_, _, _, _, clCTa, ⟨atCTaexchange, isCTaexchange, kCTaexchange⟩, ok_exchange FCTaexchange T TXTableau, bCTaexchange, .nil⟩
  have t_solution : C8.Met l.prog w K mg base 1 CTa "solution" (spSolution K CTa) [] := ⟨_, _, _, _, clCTa, ⟨atCTasolution, isCTasolution, kCTasolution⟩, ok_solution FCTasolution T TXTableau, bCTasolution, .nil⟩
  have t_prices : C8.Met l.prog w K mg base 1 CTa "prices" (spPrices K CTa) [] := ⟨_, _, _, _, clCTa, ⟨atCTaprices, isCTaprices, kCTaprices⟩, ok_prices FCTaprices T TXTableau, bCTaprices, .nil⟩
  have c_greatest : C8.Cal l.prog w K mg base 3 "greatest" (spGreatest K) [] := ⟨_, _, _, _, ok_greatest F16 T TXTableau m_Tableau t_entering t_leaving t_exchange t_solution t_prices, PySem.W.mg_of X G a16, k16, b16, .nil⟩
  have x_Around : MakX l.prog w K mg base 6 "Around" CAr (spAroundX K C CAr ((cOf [D0, D1, D2, D3, D4, D5, D6, D7, D8, D9, D10, D11, D12]) 3) ((cOf [D0, D1, D2, D3, D4, D5, D6, D7, D8, D9, D10, D11, D12]) 4)) := ⟨_, _, _, ⟨mkCAr, atCArinit, isCArinit, kcCAr⟩, ok_around FCArinit T TXAround x_check_cell c_links_of c_piece_of c_tables_of p_dimensions, PySem.W.mg_of X G aCAr, bCArinit⟩
  have t_best : C8.Met l.prog w K mg base 4 CAr "best" (spBest K CAr) [] := ⟨_, _, _, _, clCAr, ⟨atCArbest, isCArbest, kCArbest⟩, ok_best FCArbest T TXAround c_greatest, bCArbest, .nil⟩
  have x_way_bound : CalX l.prog w K mg base 8 "way_bound" (spDoorX K C ((cOf [D0, D1, D2, D3, D4, D5, D6, D7, D8, D9, D10, D11, D12]) 3) ((cOf [D0, D1, D2, D3, D4, D5, D6, D7, D8, D9, D10, D11, D12]) 4) noMore) := ⟨_, _, _, ok_way F17 T zs TXAround x_Around t_best c_fraction, PySem.W.mg_of X G a17, k17, b17⟩
  have x_bound_numbers : CalX l.prog w K mg base 8 "bound_numbers" (spDoorX K C ((cOf [D0, D1, D2, D3, D4, D5, D6, D7, D8, D9, D10, D11, D12]) 3) ((cOf [D0, D1, D2, D3, D4, D5, D6, D7, D8, D9, D10, D11, D12]) 4) noMore) := ⟨_, _, _, ok_bound_numbers F18 T zd TXAround x_Around t_best c_fraction, PySem.W.mg_of X G a18, k18, b18⟩
  have x_flow_weights : CalX l.prog w K mg base 8 "flow_weights" (spDoorX K C ((cOf [D0, D1, D2, D3, D4, D5, D6, D7, D8, D9, D10, D11, D12]) 3) ((cOf [D0, D1, D2, D3, D4, D5, D6, D7, D8, D9, D10, D11, D12]) 4) noMore) := ⟨_, _, _, ok_flow_weights F19 T TXAround x_Around t_best c_fraction, PySem.W.mg_of X G a19, k19, b19⟩
  have x_bound_worth : CalX l.prog w K mg base 8 "bound_worth" (spDoorX K C ((cOf [D0, D1, D2, D3, D4, D5, D6, D7, D8, D9, D10, D11, D12]) 3) ((cOf [D0, D1, D2, D3, D4, D5, D6, D7, D8, D9, D10, D11, D12]) 4) (moreB K)) := ⟨_, _, _, ok_bound_worth F20 T TXAround x_Around p_dimensions, PySem.W.mg_of X G a20, k20, b20⟩
  have x_flow_worth : CalX l.prog w K mg base 8 "flow_worth" (spDoorX K C ((cOf [D0, D1, D2, D3, D4, D5, D6, D7, D8, D9, D10, D11, D12]) 3) ((cOf [D0, D1, D2, D3, D4, D5, D6, D7, D8, D9, D10, D11, D12]) 4) moreF) := ⟨_, _, _, ok_flow_worth F21 T TXAround x_Around, PySem.W.mg_of X G a21, k21, b21⟩
  have c_Lpool : C8.Cal l.prog w K mg base 1 "_law_pool" (spPool K) [] := ⟨_, _, _, _, ok_pool F22 T zm, PySem.W.mg_of X G a22, k22, b22, .nil⟩
  have c_Ldraw : C8.Cal l.prog w K mg base 1 "_law_draw" spDraw [] := ⟨_, _, _, _, ok_draw F23 T, PySem.W.mg_of X G a23, k23, b23, .nil⟩
  have c_Lvector : C8.Cal l.prog w K mg base 2 "_law_vector" (spVec K) [] := ⟨_, _, _, _, ok_vec F24 T zm c_Ldraw, PySem.W.mg_of X G a24, k24, b24, .nil⟩
  have c_Ltables : C8.Cal l.prog w K mg base 3 "_law_tables" (spTabs K) [] := ⟨_, _, _, _, ok_tabs F25 T c_Ldraw c_Lvector, PySem.W.mg_of X G a25, k25, b25, .nil⟩
  have c_Lmade : C8.Cal l.prog w K mg base 7 "_law_made" (spMade K C TT) [] := ⟨_, _, _, _, ok_made22 F26 m_System3, PySem.W.mg_of X G a26, k26, b26, .nil⟩
  have c_Lkind : C8.Cal l.prog w K mg base 1 "_law_kind" (spKind K (cOf [D0, D1, D2, D3, D4, D5, D6, D7, D8, D9, D10, D11, D12])) [] := ⟨_, _, _, _, ok_kind F27 T TE zi, PySem.W.mg_of X G a27, k27, b27, .nil⟩
  have c_Ltold : C8.Cal l.prog w K mg base 9 "_law_told" (spToldA K C) [] := ⟨_, _, _, _, ok_toldA F28 T TE no3 no4 EC3 EC4 KE3 KE4 hx3 hx4 x_way_bound x_bound_numbers x_flow_weights x_bound_worth x_flow_worth c_Lkind, PySem.W.mg_of X G a28, k28, b28, .nil⟩
  have c_Lright : C8.Cal l.prog w K mg base 10 "_law_right" (spRight27 K TT) [] := ⟨_, _, _, _, ok_right27 F29 T eq_System c_Ldraw c_Ltables c_Lmade c_Ltold, PySem.W.mg_of X G a29, k29, b29, .nil⟩
  exact ok_law27 F30 T zm TC c_Lpool c_Lright m_System c_Ltold
end Fr

open PySem PySem.W PyProof.Rows
set_option maxRecDepth 100000 in
set_option maxHeartbeats 0 in
theorem PySem.Challenge.cw_farreads_k27_errors_of_bounds_holds : PySem.Challenge.rw_farreads_k27_errors_of_bounds.Holds := by
  w_on; o_law; k_head; (case hw => w_witness2)
  k_fill
  refine Fr.walk_ofG (n := 63) (k := 11) (x := "_law_script") (l := PySem.Challenge.rw_farreads_k27_errors_of_bounds) rfl (by decide) rfl ⟨rfl, by decide, by decide⟩ (fun w h Y => PySem.W.km_in_of Y) ?F
  case F =>
    intro w mg fa h Y KX G hmg
    have hPt := PySem.W.km_tabs_of Y _ (List.mem_singleton.mpr rfl)
    refine' Fr.all_mk (Pt := _) KX G hmg ?a1 ?l1 ?e1 ?k1 ?a2 ?l2 ?e2 ?k2 ?a3 ?l3 ?e3 ?k3 ?a4 ?l4 ?e4 ?k4 ?a5 ?l5 ?e5 ?k5 ?a6 ?l6 ?e6 ?k6 ?a7 ?l7 ?e7 ?k7 ?a8 ?l8 ?e8 ?k8 ?a9 ?l9 ?e9 ?k9 ?a10 ?l10 ?e10 ?k10 ?a11 ?l11 ?e11 ?k11 ?a12 ?l12 ?e12 ?k12 ?a13 ?l13 ?e13 ?k13 ?a14 ?l14 ?e14 ?k14 ?a15 ?l15 ?e15 ?k15 ?a16 ?l16 ?e16 ?k16 ?a17 ?l17 ?e17 ?k17 ?a18 ?l18 ?e18 ?k18 ?a19 ?l19 ?e19 ?k19 ?a20 ?l20 ?e20 ?k20 ?a21 ?l21 ?e21 ?k21 ?a22 ?l22 ?e22 ?k22 ?a23 ?l23 ?e23 ?k23 ?a24 ?l24 ?e24 ?k24 ?a25 ?l25 ?e25 ?k25 ?a26 ?l26 ?e26 ?k26 ?a27 ?l27 ?e27 ?k27 ?a28 ?l28 ?e28 ?k28 ?a29 ?l29 ?e29 ?k29 ?a30 ?l30 ?e30 ?k30 ?aC ?atPdimensions ?gePdimensions ?taPdimensions ?rePdimensions ?lPdimensions ?ePdimensions ?kPdimensions ?atPmodulus ?gePmodulus ?taPmodulus ?rePmodulus ?lPmodulus ?ePmodulus ?kPmodulus ?atPnames ?gePnames ?taPnames ?rePnames ?lPnames ?ePnames ?kPnames ?atMreads ?isMreads ?lMreads ?eMreads ?kMreads ?atMall_reads ?isMall_reads ?lMall_reads ?eMall_reads ?kMall_reads ?atMeq ?isMeq ?lMeq ?eMeq ?kMeq ?atI ?isI ?lI ?eI ?kI ?lT ?pg ?hd ?po ?sa ?mk ?kc ?haC ?hnC ?htC ?hmC ?n_dimensions ?n_modulus ?n_tables ?z_len ?z_all ?z_min ?z_abs ?z_int ?z_list ?z_tuple ?z_range ?z_zip ?z_enumerate ?z_sorted ?z_max ?z_isinstance ?z_sum ?z_set ?z_dict ?v_MOST_DIMENSIONS ?v_MOST_TABLES ?v_MOST_READS ?v_MOST_LETTERS ?cg0 ?cg1 ?cg2 ?cg3 ?cg4 ?cg5 ?cg6 ?cg7 ?cg8 ?cg9 ?cg10 ?cg11 ?cg12 ?x3 ?sa3 ?ex3 ?ty3 ?kp3 ?ga3 ?gg3 ?hd3 ?kc3 ?km3 ?in3 ?no3 ?sub3 ?vv3 ?hx3 ?x4 ?sa4 ?ex4 ?ty4 ?kp4 ?ga4 ?gg4 ?hd4 ?kc4 ?km4 ?in4 ?no4 ?sub4 ?vv4 ?hx4 ?lE ?eE ?kE ?tyE ?z_ValueError ?aCTa ?pgCTa ?hdCTa ?poCTa ?saCTa ?mkCTa ?kcCTa ?nCTagrid ?nCTascale ?nCTaacross ?nCTadown ?atCTainit ?isCTainit ?lCTainit ?eCTainit ?kCTainit ?atCTaentering ?isCTaentering ?lCTaentering ?eCTaentering ?kCTaentering ?atCTaleaving ?isCTaleaving ?lCTaleaving ?eCTaleaving ?kCTaleaving ?atCTaexchange ?isCTaexchange ?lCTaexchange ?eCTaexchange ?kCTaexchange ?atCTasolution ?isCTasolution ?lCTasolution ?eCTasolution ?kCTasolution ?atCTaprices ?isCTaprices ?lCTaprices ?eCTaprices ?kCTaprices ?aCAr ?pgCAr ?hdCAr ?poCAr ?saCAr ?mkCAr ?kcCAr ?nCArlinks ?nCArtables ?nCArrows ?nCArlimits ?atCArinit ?isCArinit ?lCArinit ?eCArinit ?kCArinit ?atCArbest ?isCArbest ?lCArbest ?eCArbest ?kCArbest ?vgcd hPt ?nPt ?hc0
    (case a1 => k_is)
    (case l1 => k_is)
    (case e1 => k_is)
    (case k1 => k_is)
    (case a2 => k_is)
    (case l2 => k_is)
    (case e2 => k_is)
    (case k2 => k_is)
    (case a3 => k_is)
    (case l3 => k_is)
    (case e3 => k_is)
    (case k3 => k_is)
    (case a4 => k_is)
    (case l4 => k_is)
    (case e4 => k_is)
    (case k4 => k_is)
    (case a5 => k_is)
    (case l5 => k_is)
    (case e5 => k_is)
    (case k5 => k_is)
    (case a6 => k_is)
    (case l6 => k_is)
    (case e6 => k_is)
    (case k6 => k_is)
    (case a7 => k_is)
    (case l7 => k_is)
    (case e7 => k_is)
    (case k7 => k_is)
    (case a8 => k_is)
    (case l8 => k_is)
    (case e8 => k_is)
    (case k8 => k_is)
    (case a9 => k_is)
    (case l9 => k_is)
    (case e9 => k_is)
    (case k9 => k_is)
    (case a10 => k_is)
    (case l10 => k_is)
    (case e10 => k_is)
    (case k10 => k_is)
    (case a11 => k_is)
    (case l11 => k_is)
    (case e11 => k_is)
    (case k11 => k_is)
    (case a12 => k_is)
    (case l12 => k_is)
    (case e12 => k_is)
    (case k12 => k_is)
    (case a13 => k_is)
    (case l13 => k_is)
    (case e13 => k_is)
    (case k13 => k_is)
    (case a14 => k_is)
    (case l14 => k_is)
    (case e14 => k_is)
    (case k14 => k_is)
    (case a15 => k_is)
    (case l15 => k_is)
    (case e15 => k_is)
    (case k15 => k_is)
    (case a16 => k_is)
    (case l16 => k_is)
    (case e16 => k_is)
    (case k16 => k_is)
    (case a17 => k_is)
    (case l17 => k_is)
    (case e17 => k_is)
    (case k17 => k_is)
    (case a18 => k_is)
    (case l18 => k_is)
    (case e18 => k_is)
    (case k18 => k_is)
    (case a19 => k_is)
    (case l19 => k_is)
    (case e19 => k_is)
    (case k19 => k_is)
    (case a20 => k_is)
    (case l20 => k_is)
    (case e20 => k_is)
    (case k20 => k_is)
    (case a21 => k_is)
    (case l21 => k_is)
    (case e21 => k_is)
    (case k21 => k_is)
    (case a22 => k_is)
    (case l22 => k_is)
    (case e22 => k_is)
    (case k22 => k_is)
    (case a23 => k_is)
    (case l23 => k_is)
    (case e23 => k_is)
    (case k23 => k_is)
    (case a24 => k_is)
    (case l24 => k_is)
    (case e24 => k_is)
    (case k24 => k_is)
    (case a25 => k_is)
    (case l25 => k_is)
    (case e25 => k_is)
    (case k25 => k_is)
    (case a26 => k_is)
    (case l26 => k_is)
    (case e26 => k_is)
    (case k26 => k_is)
    (case a27 => k_is)
    (case l27 => k_is)
    (case e27 => k_is)
    (case k27 => k_is)
    (case a28 => k_is)
    (case l28 => k_is)
    (case e28 => k_is)
    (case k28 => k_is)
    (case a29 => k_is)
    (case l29 => k_is)
    (case e29 => k_is)
    (case k29 => k_is)
    (case a30 => k_is)
    (case l30 => k_is)
    (case e30 => k_is)
    (case k30 => k_is)
    (case aC => k_is)
    (case atPdimensions => k_is)
    (case gePdimensions => k_is)
    (case taPdimensions => k_is)
    (case rePdimensions => k_is)
    (case lPdimensions => k_is)
    (case ePdimensions => k_is)
    (case kPdimensions => k_is)
    (case atPmodulus => k_is)
    (case gePmodulus => k_is)
    (case taPmodulus => k_is)
    (case rePmodulus => k_is)
    (case lPmodulus => k_is)
    (case ePmodulus => k_is)
    (case kPmodulus => k_is)
    (case atPnames => k_is)
    (case gePnames => k_is)
    (case taPnames => k_is)
    (case rePnames => k_is)
    (case lPnames => k_is)
    (case ePnames => k_is)
    (case kPnames => k_is)
    (case atMreads => k_is)
    (case isMreads => k_is)
    (case lMreads => k_is)
    (case eMreads => k_is)
    (case kMreads => k_is)
    (case atMall_reads => k_is)
    (case isMall_reads => k_is)
    (case lMall_reads => k_is)
    (case eMall_reads => k_is)
    (case kMall_reads => k_is)
    (case atMeq => k_is)
    (case isMeq => k_is)
    (case lMeq => k_is)
    (case eMeq => k_is)
    (case kMeq => k_is)
    (case atI => k_is)
    (case isI => k_is)
    (case lI => k_is)
    (case eI => k_is)
    (case kI => k_is)
    (case lT => k_is)
    (case pg => k_is)
    (case hd => k_is)
    (case po => k_is)
    (case sa => k_is)
    (case mk => k_is)
    (case kc => k_is)
    (case haC => k_is)
    (case hnC => k_is)
    (case htC => k_is)
    (case hmC => k_is)
    (case n_dimensions => k_is)
    (case n_modulus => k_is)
    (case n_tables => k_is)
    (case z_len => k_is)
    (case z_all => k_is)
    (case z_min => k_is)
    (case z_abs => k_is)
    (case z_int => k_is)
    (case z_list => k_is)
    (case z_tuple => k_is)
    (case z_range => k_is)
    (case z_zip => k_is)
    (case z_enumerate => k_is)
    (case z_sorted => k_is)
    (case z_max => k_is)
    (case z_isinstance => k_is)
    (case z_sum => k_is)
    (case z_set => k_is)
    (case z_dict => k_is)
    (case v_MOST_DIMENSIONS => k_is)
    (case v_MOST_TABLES => k_is)
    (case v_MOST_READS => k_is)
    (case v_MOST_LETTERS => k_is)
    (case cg0 => k_is)
    (case cg1 => k_is)
    (case cg2 => k_is)
    (case cg3 => k_is)
    (case cg4 => k_is)
    (case cg5 => k_is)
    (case cg6 => k_is)
    (case cg7 => k_is)
    (case cg8 => k_is)
    (case cg9 => k_is)
    (case cg10 => k_is)
    (case cg11 => k_is)
    (case cg12 => k_is)
    (case x3 => (refine' Fr.excRow_of ?l ?r; (case l => k_is); (case r => decide +kernel)))
    (case sa3 => k_is)
    (case ex3 => k_is)
    (case ty3 => k_is)
    (case kp3 => k_is)
    (case ga3 => k_is)
    (case gg3 => k_is)
    (case hd3 => k_is)
    (case kc3 => k_is)
    (case km3 => k_is)
    (case in3 => k_is)
    (case no3 => k_is)
    (case sub3 => kernel_rfl)
    (case vv3 => kernel_rfl)
    (case hx3 => kernel_rfl)
    (case x4 => (refine' Fr.excRow_of ?l ?r; (case l => k_is); (case r => decide +kernel)))
    (case sa4 => k_is)
    (case ex4 => k_is)
    (case ty4 => k_is)
    (case kp4 => k_is)
    (case ga4 => k_is)
    (case gg4 => k_is)
    (case hd4 => k_is)
    (case kc4 => k_is)
    (case km4 => k_is)
    (case in4 => k_is)
    (case no4 => k_is)
    (case sub4 => kernel_rfl)
    (case vv4 => kernel_rfl)
    (case hx4 => kernel_rfl)
    (case lE => k_is)
    (case eE => k_is)
    (case kE => k_is)
    (case tyE => k_is)
    (case z_ValueError => k_is)
    (case aCTa => k_is)
    (case pgCTa => k_is)
    (case hdCTa => k_is)
    (case poCTa => k_is)
    (case saCTa => k_is)
    (case mkCTa => k_is)
    (case kcCTa => k_is)
    (case nCTagrid => k_is)
    (case nCTascale => k_is)
    (case nCTaacross => k_is)
    (case nCTadown => k_is)
    (case atCTainit => k_is)
    (case isCTainit => k_is)
    (case lCTainit => k_is)
    (case eCTainit => k_is)
    (case kCTainit => k_is)
    (case atCTaentering => k_is)
    (case isCTaentering => k_is)
    (case lCTaentering => k_is)
    (case eCTaentering => k_is)
    (case kCTaentering => k_is)
    (case atCTaleaving => k_is)
    (case isCTaleaving => k_is)
    (case lCTaleaving => k_is)
    (case eCTaleaving => k_is)
    (case kCTaleaving => k_is)
    (case atCTaexchange => k_is)
    (case isCTaexchange => k_is)
    (case lCTaexchange => k_is)
    (case eCTaexchange => k_is)
    (case kCTaexchange => k_is)
    (case atCTasolution => k_is)
    (case isCTasolution => k_is)
    (case lCTasolution => k_is)
    (case eCTasolution => k_is)
    (case kCTasolution => k_is)
    (case atCTaprices => k_is)
    (case isCTaprices => k_is)
    (case lCTaprices => k_is)
    (case eCTaprices => k_is)
    (case kCTaprices => k_is)
    (case aCAr => k_is)
    (case pgCAr => k_is)
    (case hdCAr => k_is)
    (case poCAr => k_is)
    (case saCAr => k_is)
    (case mkCAr => k_is)
    (case kcCAr => k_is)
    (case nCArlinks => k_is)
    (case nCArtables => k_is)
    (case nCArrows => k_is)
    (case nCArlimits => k_is)
    (case atCArinit => k_is)
    (case isCArinit => k_is)
    (case lCArinit => k_is)
    (case eCArinit => k_is)
    (case kCArinit => k_is)
    (case atCArbest => k_is)
    (case isCArbest => k_is)
    (case lCArbest => k_is)
    (case eCArbest => k_is)
    (case kCArbest => k_is)
    (case vgcd => k_is)
    (case nPt => kernel_rfl)
    (case hc0 => kernel_rfl)
