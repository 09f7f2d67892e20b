import PyProof.Rows.All
import Wide.All
import OpenK.AllK
import Wide.FinOn
import HandS.ForMost
import HandS.Wide
import HandS.ForExc
import HandS.Deep
import HandS.Evl
import HandS.Walk
import HandS.Codes
import HandS.Zip
import HandS.Property
import HandS.Defaults
import HandS.TupAny
import HandS.More
import HandS.Lambda
import HandS.SortKw
import KE.SortKeyHeap
import HandS.DictComp
import HandS.EndTab
import PyProof.ReprRoads
import HandS.RaiseMore
import HandS.ExcInit
import HandS.IsInst
import KE.KExcIs
import HandS.Exc
import HandS.ExcOwn
import HandS.ExcField
import HandS.ExcIs
import HandS.Text
import KE.IntTextLaws
import PySem.Challenge.RW_farreads_k50_cells_in_texts
import PyProof.Rows.RegReprOcc
import HandS.NoneIn
import HandS.HotCalls
import HandS.ExcInitHot
set_option Elab.async false
set_option linter.all false
set_option maxRecDepth 100000
set_option maxHeartbeats 8000000
namespace Fr
open PySem PySem.Spec PyProof.Rows L2
section
variable {K : PySem.W.Frag} {H H' : Hp}
theorem sqt (e : Same H H') {a : Addr} {xs : List V} (h : SqT K H a xs) : SqT K H' a xs := Evl.ex_t e h
theorem sql (e : Same H H') {a : Addr} {xs : List V} (h : SqL K H a xs) : SqL K H' a xs := Evl.ex_l e h
/-- lists, tuples, locked things -/
def dat : HO → Bool
  | .lst _ => true
  | .tup _ => true
  | .frz _ _ => true
  | _ => false
/-- what data is made of stays -/
def SD (H H' : Hp) : Prop := ∀ b o, H b = some o → dat o = true → H' b = some o
theorem SD.of (e : Same H H') : SD H H' := fun b o h _ => e b o h
theorem SD.tr {H'' : Hp} (a : SD H H') (b : SD H' H'') : SD H H'' := fun c o h d => b c o (a c o h d) d
theorem SD.upd {s : Addr} {u o : HO} (e : SD H H') (h : H' s = some u) (n : dat u = false) : SD H (upd H' s o) := fun b x q d => by
  have z := e b x q d
  have ne : b ≠ s := fun y => by
    rw [y, h] at z
    cases z
    rw [n] at d
    cases d
  rw [upd_ne ne]
  exact z
theorem sqtd (e : SD H H') {a : Addr} {xs : List V} (h : SqT K H a xs) : SqT K H' a xs := by
  rcases h with (h | ⟨o, h⟩) | h
  · exact .inl (.inl (e _ _ h rfl))
  · exact .inl (.inr ⟨o, e _ _ h rfl⟩)
  · exact .inr h
theorem sqld (e : SD H H') {a : Addr} {xs : List V} (h : SqL K H a xs) : SqL K H' a xs := by
  rcases h with (h | ⟨o, h⟩) | h
  · exact .inl (.inl (e _ _ h rfl))
  · exact .inl (.inr ⟨o, e _ _ h rfl⟩)
  · exact .inr h
mutual
theorem dpd (e : SD H H') : ∀ (d : PyData) (v : V), Dp K H v d → Dp K H' v d
  | .none, _, h => by cases h; exact .non
  | .bool b, _, h => by cases h; exact .bl b
  | .int i, _, h => by cases h; exact .int i
  | .str x, _, h => by cases h; exact .str x
  | .list ds, _, h => by
    cases h with
    | lst hs ha => exact .lst (sqld e hs) (dpsd e ds _ ha)
  | .tuple ds, _, h => by
    cases h with
    | tup hs ha => exact .tup (sqtd e hs) (dpsd e ds _ ha)
  | .dict _, _, h => by cases h
theorem dpsd (e : SD H H') : ∀ (ds : List PyData) (vs : List V), DpAll K H vs ds → DpAll K H' vs ds
  | [], _, h => by cases h; exact .nil
  | d :: ds, _, h => by
    cases h with
    | cons h1 h2 => exact .cons (dpd e d _ h1) (dpsd e ds _ h2)
end
theorem dpm (e : Same H H') (d : PyData) (v : V) (h : Dp K H v d) : Dp K H' v d := dpd (.of e) d v h
theorem dpsm (e : Same H H') (ds : List PyData) (vs : List V) (h : DpAll K H vs ds) : DpAll K H' vs ds := dpsd (.of e) ds vs h
theorem dps_len : ∀ {ds : List PyData} {vs : List V}, DpAll K H vs ds → vs.length = ds.length
  | [], _, h => by cases h; rfl
  | d :: ds, _, h => by
    cases h with
    | cons h1 h2 => exact congrArg Nat.succ (dps_len h2)
theorem dps_get : ∀ {ds : List PyData} {vs : List V} {i : Nat} {v : V}, DpAll K H vs ds → vs[i]? = some v → ∃ d, ds[i]? = some d ∧ Dp K H v d
  | [], _, _, _, h, e => by cases h; cases e
  | d :: ds, _, 0, v, h, e => by
    cases h with
    | cons h1 h2 => cases e; exact ⟨d, rfl, h1⟩
  | d :: ds, _, i + 1, v, h, e => by
    cases h with
    | cons h1 h2 => exact dps_get (i := i) h2 (by simpa using e)
theorem dps_get' : ∀ {ds : List PyData} {vs : List V} {i : Nat} {d : PyData}, DpAll K H vs ds → ds[i]? = some d → ∃ v, vs[i]? = some v ∧ Dp K H v d
  | [], _, _, _, h, e => by cases e
  | d :: ds, _, 0, v, h, e => by
    cases h with
    | cons h1 h2 => cases e; exact ⟨_, rfl, h1⟩
  | d :: ds, _, i + 1, v, h, e => by
    cases h with
    | cons h1 h2 => simpa using dps_get' (i := i) h2 (by simpa using e)
theorem dps_app : ∀ {ds es : List PyData} {vs us : List V}, DpAll K H vs ds → DpAll K H us es → DpAll K H (vs ++ us) (ds ++ es)
  | [], _, _, _, h, k => by cases h; exact k
  | d :: ds, _, _, _, h, k => by
    cases h with
    | cons h1 h2 => exact .cons h1 (dps_app h2 k)
theorem dps_one {v : V} {d : PyData} (h : Dp K H v d) : DpAll K H [v] [d] := .cons h .nil
theorem dps_snoc {ds : List PyData} {vs : List V} {v : V} {d : PyData} (h : DpAll K H vs ds) (k : Dp K H v d) : DpAll K H (vs ++ [v]) (ds ++ [d]) := dps_app h (dps_one k)
/-- a new object leaves what stands -/
theorem snew {p : Addr} {o : HO} (h : H p = none) : Same H (upd H p o) := fun b x e => by
  rw [upd_ne (ne_of_none e h)]
  exact e
theorem smut {p : Addr} {o : HO} (e : Same H H') (h : H p = none) : Same H (upd H' p o) := fun b x q => by
  rw [upd_ne (ne_of_none q h)]
  exact e b x q
theorem dint {v : V} {i : Int} (h : Dp K H v (.int i)) : v = .int i := by cases h; rfl
theorem dstr {v : V} {x : Str} (h : Dp K H v (.str x)) : v = .str x := by cases h; rfl
theorem dtup {v : V} {ds : List PyData} (h : Dp K H v (.tuple ds)) : ∃ a xs, v = .ref a ∧ SqT K H a xs ∧ DpAll K H xs ds := by
  cases h with
  | tup hs ha => exact ⟨_, _, rfl, hs, ha⟩
theorem dlst {v : V} {ds : List PyData} (h : Dp K H v (.list ds)) : ∃ a xs, v = .ref a ∧ SqL K H a xs ∧ DpAll K H xs ds := by
  cases h with
  | lst hs ha => exact ⟨_, _, rfl, hs, ha⟩
theorem dps_ints : ∀ {ns : List Int} {vs : List V}, DpAll K H vs (ns.map PyData.int) → vs = ns.map V.int
  | [], _, h => by cases h; rfl
  | n :: ns, _, h => by
    cases h with
    | cons h1 h2 => cases h1; rw [dps_ints h2]; rfl
theorem dps3 {a b c : PyData} {vs : List V} (h : DpAll K H vs [a, b, c]) : ∃ x y z, vs = [x, y, z] ∧ Dp K H x a ∧ Dp K H y b ∧ Dp K H z c := by
  cases h with
  | cons h1 h =>
    cases h with
    | cons h2 h =>
      cases h with
      | cons h3 h =>
        cases h
        exact ⟨_, _, _, rfl, h1, h2, h3⟩
theorem dps2 {a b : PyData} {vs : List V} (h : DpAll K H vs [a, b]) : ∃ x y, vs = [x, y] ∧ Dp K H x a ∧ Dp K H y b := by
  cases h with
  | cons h1 h =>
    cases h with
    | cons h2 h =>
      cases h
      exact ⟨_, _, rfl, h1, h2⟩
theorem ints_dps : ∀ (ns : List Int), DpAll K H (ns.map V.int) (ns.map PyData.int)
  | [] => .nil
  | n :: ns => .cons (.int n) (ints_dps ns)
end
/-- ** with a base of any size within the line -/
def CPowW (i j : Int) : Prop := 0 ≤ j ∧ j ≤ 3 ∧ i.natAbs < 2 ^ 1000000
section
variable {X : Cx}
theorem op_powW : OpR X (binaryOp .Pow) (rI CPowW fun i j => .int (i ^ j.toNat)) := opI fun i j _ _ _ _ _ hc q => by
  obtain ⟨h0, h3, hb⟩ := hc
  refine pow_int h0 ?_ q
  have b : Builtin.Int.intBits i ≤ i.natAbs.log2 + 1 := by
    unfold Builtin.Int.intBits
    split <;> omega
  have l : i.natAbs.log2 < 1000000 := PySem.Flt.log2_lt_of (by decide) hb
  have c : (Builtin.Int.intBits i : Int) ≤ 1000000 := by omega
  have c0 : (0 : Int) ≤ (Builtin.Int.intBits i : Int) := Int.natCast_nonneg _
  calc (Builtin.Int.intBits i : Int) * j ≤ 1000000 * 3 := Int.mul_le_mul c h3 h0 (by decide)
    _ ≤ 2 ^ 27 := by decide
end
end Fr

namespace Fr
open PySem PySem.Spec PyProof.Rows L2
theorem same_refl {H : Hp} : Same H H := fun _ _ h => h
theorem same_tr {A B C : Hp} (a : Same A B) (b : Same B C) : Same A C := fun x o h => b x o (a x o h)
theorem yat_same {xs : List V} {i : Nat} {H : Hp} {x : V} {H' : Hp} (y : YAt xs i H x H') : Same H H' := by
  obtain ⟨rfl, _⟩ := y
  exact same_refl
theorem ypair_same {xs ys : Nat → Option V} {i : Nat} {H : Hp} {x : V} {H' : Hp} (y : YPair xs ys i H x H') : Same H H' := by
  obtain ⟨T, _, _, _, n, rfl, _⟩ := y
  exact snew n
theorem free_of {H H' : Hp} {p : Addr} (e : Same H H') (h : H' p = none) : H p = none := Same.free e h
theorem get_range {n i : Nat} (h : i < n) : (List.range n)[i]? = some i := by simp [h]
/-- a comprehension whose elements are told by the turn -/
theorem lc_flat {J : It} {n : Nat} {G : Hp → Prop} {Y : Nat → Hp → V → Hp → Prop} (w : Walk J n G Y) {g : TG} {te : TE} {vs : List Nat} {σ : L2.St} {H1 : Hp} {D : Addr} {Qd : Hp → Prop} (f : Nat → V) (hn : n ≤ 1000000) (hD : H1 D = none) (hG : ∀ H, Same H1 H → G H)
    (hY : ∀ i H x H', Y i H x H' → Same H H')
    (hs : ∀ i x H H', i < n → Same H1 H → Y i H x H' → ∀ R : V → Hp → Prop, (∀ H4, Same H' H4 → R (f i) H4) → g x (wipe σ vs) H' fun σ2 H2 => wipe σ2 vs = wipe σ vs ∧ te σ2 H2 R)
    (hd : ∀ H, Same H1 H → H D = some (.lst ((List.range n).map f)) → Qd H) :
    ∃ W : Nat → Nat → Hp → Prop, (∃ m, W 0 m (upd H1 D (.lst []))) ∧ ∀ i m H, W i m H →
      (J.stop i H ∧ Qd H) ∨ (J.go i H ∧ ∃ Nx : Hp → Prop, (∀ H', Nx H' → ∃ m', m' < m ∧ W (i + 1) m' H') ∧ ∀ x H', J.yld i H x H' → g x (wipe σ vs) H' fun σ2 H2 => wipe σ2 vs = wipe σ vs ∧ tYes σ2 H2 fun b H3 =>
        if b = true then te σ2 H3 fun y H4 => ∃ acc, H4 D = some (.lst acc) ∧ acc.length < sizeLine ∧ Nx (upd H4 D (.lst (acc ++ [y]))) else Nx H3) := by
  refine lc_it w (fun i H => Same H1 H ∧ H D = some (.lst ((List.range i).map f))) ⟨snew hD, upd_same⟩ (fun i H _ p => hG H p.1) (fun i x H H' hi p y => ?_) fun H p => hd H p.1 p.2
  have sm := hY i H x H' y
  refine hs i x H H' hi p.1 y _ fun H4 s4 => ⟨_, s4 _ _ (sm _ _ p.2), ?_, ?_, ?_⟩
  · rw [List.length_map, List.length_range]
    exact Nat.lt_of_lt_of_le (by omega : i < 1000001) (by rw [sizeLine_eq]; decide)
  · exact smut (same_tr p.1 (same_tr sm s4)) hD
  · rw [upd_same, List.range_succ, List.map_append]
    rfl
/-- a property that may be read by its name -/
structure Prp (P : Program) (w : World) (K : PySem.W.Frag) (mg : Str → Option Value) (base : Heap) (k : Nat) (C : Addr) (f : Str) (sp : Sp) : Prop where
  ex : ∃ (p g : Addr) (fd : FuncData) (ps : List Str), Cls K C ∧ PropOf K C f p g ∧ FnOk P w K mg base CX0 k g fd ps sp ∧ Binds K fd ps []
section
variable {X : Cx}
theorem pe_pr {k j : Nat} {C : Addr} {f : Str} {sp : Sp} {e : Expr} {pos : Pos} {ta : TE} (he : PE X e ta) (c : Prp X.prog X.w X.K X.mg X.base k C f sp) (hr : Room j X.A) (hk : k + 1 ≤ j) (hab : attributeBase e f X.env (eval e X.env) = eval e X.env) :
    PE X (.Attribute e f pos) (tProp C sp [] E0 ta) := by
  obtain ⟨p, g, fd, ps, hc, hp, F, hb⟩ := c.ex
  exact pe_prop he hc hp F (hr.mono hk) hb .nil pass0 hab
theorem _root_.L2.Room.units1 {k : Nat} {A : Around} (r : Room k A) : A.units + 65 < cLine := by
  have := r.un
  omega
end
def rTupS (K : PySem.W.Frag) : List V → Hp → VK → Prop := fun xs H Q => ∃ p ys, xs = [.ref p] ∧ ((SqL K H p ys ∧ ∀ l, H l = none → Q (.ref l) (upd H l (.tup ys))) ∨ (SqT K H p ys ∧ Q (.ref p) H))
end Fr

namespace Fr
open PySem PySem.Spec PyProof.Rows L2
theorem vals_each1 {α : Type} : ∀ {bs : List (V × α)} {us : List Value}, Vals (bs.map Prod.fst) us → PySem.W.EachIs (fun (v : Value) (x : V × α) => RelV x.1 v) us bs
  | [], _, h => by cases h; exact .nil
  | b :: bs, _, h => by
    cases h with
    | cons h t => exact .cons h (vals_each1 t)
theorem each_vals1 {α : Type} : ∀ {bs : List (V × α)} {us : List Value}, PySem.W.EachIs (fun (v : Value) (x : V × α) => RelV x.1 v) us bs → Vals (bs.map Prod.fst) us
  | [], _, h => by cases h; exact .nil
  | b :: bs, _, h => by
    cases h with
    | cons h t => exact .cons h (each_vals1 t)
/-- one parameter, nothing captured -/
structure LamP (a : Str) (scope : Scope) : Prop where
  kind : scope.kind = .function
  co : scope.isCoroutine = false
  gen : scope.isGenerator = false
  loc : scope.names.lookup a = some .local
  noc : ∀ y ∈ scope.names, y.2 ≠ .cell
  nof : ∀ y ∈ scope.names, y.2 ≠ .free
section
variable {prog : Program} {w : World} {A : Around} {E : Value → Shared → Prop} {s : Shared}
theorem lam_key0 {a q : Str} {f c' t : Addr} {pm ctv : Value} {params : Arguments} {scope : Scope} {cl : List (Str × Addr)} {p1 p2 p3 : Pos} {kk : Nat} {x : Str} {u : Tok} {items : List Value} (L : LamP a scope) (ha : (a == ("__debug__" : Str)) = false)
    (ho : s.heap.get? f = some (PySem.W.kla_obj "<lambda>" q params (.Subscript (.Name a p1) (.Constant (.int 0) kk p2) p3) scope cl pm c' ctv)) (hcr : s.heap.CodeRec (.ref c') q) (hroom : A.depth < recursionLimit) (hlim : s.heap.NoLimit)
    (hbind : ∀ v, bindArgs (PySem.W.kla_fn "<lambda>" q params (.Subscript (.Name a p1) (.Constant (.int 0) kk p2) p3) scope cl pm (.ref c') ctv) ⟨[v], []⟩ = pure [(a, v)]) (ht : IsTup s.heap t (Value.str x u :: items).toArray) :
    wpAny (model prog w) A (call (.ref f) [.ref t]) (PySem.W.KeyPure (.str x) s) E s := by
  refine wpAny_call (PySem.W.kla_callFunE hroom ho rfl L.co L.gen rfl hcr ?_)
  rw [hbind]
  refine wpAny_pure (wpAny_newFunctionEnv (fun y hy => L.noc y hy) (fun y hy => ?_) (fun h₁ hns hsb => ⟨hlim.fresh _ hsb, ?_⟩) L.kind)
  · have e : y = (a, Value.ref t) := by simpa using hy
    rw [e]
    exact L.loc
  · have kp : ∀ b o, s.heap.get? b = some o → h₁.get? b = some o := fun b o e => hsb.extBut b o (Nat.ne_of_lt (Heap.lt_size e)) (Heap.get?_push_of_some _ e)
    refine PySem.W.kla_codeExpr (Subscript_ (wpAny_Name (wpAny_loadName_local (v := .ref t) L.kind L.loc hns ?_ ?_) ha))
    · show List.lookup a ([(a, Value.ref t)] : List (Str × Value)) = _
      simp [List.lookup]
    · refine wpAny_Constant_int ?_
      refine item_tupleL (j := 0) (x := .str x u) (l := Value.str x u :: items) ?_ (by decide) (by decide) ?_ rfl ?_
      · obtain ⟨o, h1, h2, n, h3⟩ := ht
        exact ⟨o, kp _ _ h1, h2, n, h3⟩
      · show (if (decide ((0 : Int) ≤ (if (0 : Int) < 0 then 0 + ((Value.str x u :: items).length : Int) else 0)) && decide ((if (0 : Int) < 0 then 0 + ((Value.str x u :: items).length : Int) else 0) < ((Value.str x u :: items).length : Int))) = true then some (if (0 : Int) < 0 then 0 + ((Value.str x u :: items).length : Int) else 0).toNat else none) = some 0
        rw [if_neg (by decide : ¬ (0 : Int) < 0)]
        have h : (0 : Int) < ((Value.str x u :: items).length : Int) := by
          rw [List.length_cons]
          omega
        rw [decide_eq_true (Int.le_refl 0), decide_eq_true h]
        rfl
      · exact ⟨h₁, _, rfl, kp, PySem.Reads.str x u⟩
end
/-- by the first text, from the least on -/
def leK {β : Type} (k : β → Str) : β → β → Bool := fun a b => decide ((k a).cps.toList ≤ (k b).cps.toList)
def oneV (R : VK) : List V → Hp → Prop
  | [v], H => R v H
  | _, _ => False
theorem oneV_of {R : VK} {vs : List V} {H : Hp} (h : oneV R vs H) : ∃ v, vs = [v] ∧ R v H := by
  match vs, h with
  | [v], h => exact ⟨v, rfl, h⟩
def tSortKey {α : Type} (kf : α → Str) (K : PySem.W.Frag) (T : List (Addr × Str)) (te : TE) : TE := fun σ H Q => te σ H fun v H1 => ∃ (a : Addr) (bs : List (V × α)), v = .ref a ∧ SqL K H1 a (bs.map Prod.fst) ∧ LamX.Tabs T H1 ∧
  (∀ y ∈ bs, ∃ t zs, y.1 = .ref t ∧ SqT K H1 t (.str (kf y.2) :: zs)) ∧ ∀ H2, LamX.ExtN H1 H2 → LamX.Tabs T H2 → ∀ p, H2 p = none → Q (.ref p) (upd H2 p (.lst ((bs.mergeSort (leK fun y => kf y.2)).map Prod.fst)))
theorem same_of_ext {B H1 H2 : Hp} (e : Same B H1) (n : ∀ b ps, B b ≠ some (.tbl ps)) (x : LamX.ExtN H1 H2) : Same B H2 := fun b o h => x b o (e b o h) fun ps z => n b ps (by rw [h, z])
theorem sqt_ext {K : PySem.W.Frag} {H1 H2 : Hp} {a : Addr} {xs : List V} (x : LamX.ExtN H1 H2) (h : SqT K H1 a xs) : SqT K H2 a xs := by
  rcases h with (h | ⟨o, h⟩) | h
  · exact .inl (.inl (x _ _ h fun ps z => by cases z))
  · exact .inl (.inr ⟨o, x _ _ h fun ps z => by cases z⟩)
  · exact .inr h
theorem sql_ext {K : PySem.W.Frag} {H1 H2 : Hp} {a : Addr} {xs : List V} (x : LamX.ExtN H1 H2) (h : SqL K H1 a xs) : SqL K H2 a xs := by
  rcases h with (h | ⟨o, h⟩) | h
  · exact .inl (.inl (x _ _ h fun ps z => by cases z))
  · exact .inl (.inr ⟨o, x _ _ h fun ps z => by cases z⟩)
  · exact .inr h
section
variable {X : Cx}
theorem pe_sortKey {α : Type} (kf : α → Str) {T : List (Addr × Str)} {c P : Addr} {k : Nat} {a : Str} {e : Expr} {params : Arguments} {scope : Scope} {p p1 p2 p3 lpos kpos pos : Pos} {kk : Nat} {te : TE} (hg : Gl X "sorted") (hm : X.mg "sorted" = none) (ha : PE X e te) (hr : Room (k + 1) X.A)
    (TB : LamX.TabB X.base X.mg c P) (hcode : X.env.code = .ref c) (hmT : (P, X.env.qual ++ "<lambda>") ∈ T) (hu : ∀ p ∈ T, p.1 = P → p.2 = X.env.qual ++ "<lambda>") (hdef : defaultsOf params X.env = ([], [])) (L : LamP a scope) (hda : (a == ("__debug__" : Str)) = false)
    (hbind : ∀ (q : Str) (cl : List (Str × Addr)) (pm cv ctv v : Value), bindArgs (PySem.W.kla_fn "<lambda>" q params (.Subscript (.Name a p1) (.Constant (.int 0) kk p2) p3) scope cl pm cv ctv) ⟨[v], []⟩ = pure [(a, v)])
    (he : backTo pos (starEach [e] X.env) = (false, eval e X.env) :: backTo pos (starEach [] X.env) := by rfl) (hpl : (backTo pos (starEach [e] X.env)).any Prod.fst = false := by rfl) (hes : starEach (e :: []) X.env = (false, eval e X.env) :: starEach [] X.env := by rfl) :
    PE X (.Call (.Name "sorted" p) [e] [⟨some "key", .Lambda params (.Subscript (.Name a p1) (.Constant (.int 0) kk p2) p3) scope lpos, kpos⟩] pos) (tSortKey kf X.K T te) := by
  refine ⟨fun pins s σ H Q I h => ?_⟩
  refine wpAny_Call_Name_kw (ld_blt I hg hm PyProof.Rows.boot_sorted ?_)
  refine PyProof.Rows.callWith_kw (thn ((pa_cons ha pa_nil hes).run pos pins s σ H (oneV fun v H1 => ∃ (a : Addr) (bs : List (V × α)), v = .ref a ∧ SqL X.K H1 a (bs.map Prod.fst) ∧ LamX.Tabs T H1 ∧
    (∀ y ∈ bs, ∃ t zs, y.1 = .ref t ∧ SqT X.K H1 t (.str (kf y.2) :: zs)) ∧ ∀ H2, LamX.ExtN H1 H2 → LamX.Tabs T H2 → ∀ p, H2 p = none → Q (.ref p) (upd H2 p (.lst ((bs.mergeSort (leK fun y => kf y.2)).map Prod.fst)))) I h) fun us s1 hh => ?_) he hpl (by rfl) (by rfl)
  · obtain ⟨vs, H1, I1, r1, hh⟩ := hh
    obtain ⟨v, rfl, hh⟩ := oneV_of hh
    obtain ⟨b, bs, rfl, hS, hT, hK, q⟩ := hh
    obtain ⟨u, rfl, hu1⟩ := r1.one
    obtain rfl : u = Value.ref b := hu1
    show wpAny _ _ (evalAll ((do let v ← eval (.Lambda params (.Subscript (.Name a p1) (.Constant (.int 0) kk p2) p3) scope lpos) X.env; standAt pos; pure v) :: [])) _ _ s1
    refine wpAny_evalAll_cons (wpAny_bind (LamX.lam_make2 I1 TB hcode hmT hu hT hdef (fun y hy e => absurd e (L.nof y hy)) fun f c' pm ctv H2 s2 I2 xN hT2 hf hfn hfr hco => wpAny_bind (wpAny_standAt (wpAny_pure (wpAny_evalAll_nil ?_)))))
    show wpAny _ _ (call (.builtin "sorted") [.ref b] [(Str.ofString "key", .ref f)]) _ _ s2
    have hS2 := sql_ext xN hS
    obtain ⟨its, rv, hl, hz⟩ := I2.list hS2
    obtain ⟨⟨oc, vsc, tc, hoc, hdc, hvc⟩, _, _⟩ := I2.hok c' _ hco
    have hcr : s2.heap.CodeRec (.ref c') (X.env.qual ++ "<lambda>") := ⟨c', oc, vsc, tc, rfl, hoc, hdc, hvc⟩
    refine PySem.W.sorted_key_data (β := V × α) (vs := its) (bs := bs) (R := fun v x => RelV x.1 v) (b := false) (fun y => PyData.str (kf y.2)) hl.isList (vals_each1 rv) ?_ ?_ ?_ ?_ (PyProof.Rows.ksk_s1 _ _) (fun _ => PyProof.Rows.ksk_l1 _ _) (fun x => PyProof.Rows.ksk_t1 f x) ?_ ?_
    · intro d hd d' hd'
      obtain ⟨y, _, rfl⟩ := List.mem_map.mp hd
      obtain ⟨y', _, rfl⟩ := List.mem_map.mp hd'
      rfl
    · refine Or.inr fun d hd => ?_
      obtain ⟨y, _, rfl⟩ := List.mem_map.mp hd
      constructor
      · intro z
        cases z
      · intro xs z
        cases z
    · rw [List.length_map] at hz
      exact hz
    · intro y hy
      have := hr.un
      show X.A.units + 2 + PyData.depth (.str (kf y.2)) < cLine
      have e : PyData.depth (.str (kf y.2)) ≤ 1 := by simp [PyData.depth]
      omega
    · intro v y hv hy h tk kp
      obtain ⟨t, zs, ey, ht⟩ := hK y hy
      rw [ey] at hv
      obtain rfl : v = Value.ref t := hv
      obtain ⟨jts, rj, hjt, _⟩ := I2.tuple (sqt_ext xN ht)
      cases rj with
      | @cons _ u0 _ js r0 rr =>
        obtain ⟨t0, rfl⟩ := r0
        obtain ⟨o, h1, h2, n, h3⟩ := hjt
        refine lam_key0 (s := { s2 with heap := h, toks := tk }) (A := X.A.in1.in1) (u := t0) (items := js) L hda (kp _ _ hf) ⟨c', oc, vsc, tc, rfl, kp _ _ hoc, hdc, hvc⟩ ?_ (I2.nolimit.keeps kp) (fun v => hbind _ _ _ _ _ v) ⟨o, kp _ _ h1, h2, n, h3⟩
        have := hr.dp
        show X.A.depth < recursionLimit
        omega
    · intro out cc h' tk kp fresh hD hlen' hE
      have hv := each_vals1 hE
      have hle : PySem.W.dataLe false (fun y : V × α => PyData.str (kf y.2)) = leK fun y => kf y.2 := PySem.W.dataLe_str _
      rw [hle] at hv
      have hl2 : ((bs.mergeSort (leK fun y => kf y.2)).map Prod.fst).length ≤ sizeLine := by
        rw [List.length_map, List.length_mergeSort]
        rw [List.length_map] at hz
        exact hz
      exact ⟨.ref _, upd H2 (s2.heap.objs.size + 1) (.lst ((bs.mergeSort (leK fun y => kf y.2)).map Prod.fst)), I2.laid (t' := tk) kp (Nat.le_succ _) ⟨hl2, out, cc, hv, hD⟩, rfl, q H2 xN hT2 _ (I2.hok.fresh (Nat.le_succ _))⟩
end
/-- a dict comprehension over a walk -/
theorem dc_it {J : It} {n : Nat} {G : Hp → Prop} {Y : Nat → Hp → V → Hp → Prop} (w : Walk J n G Y) {g : TG} {tt : TT} {tk tv : TE} {vs : List Nat} {σ : L2.St} {H1 : Hp} {D : Addr} {Qd : Hp → Prop} (Pv : Nat → Hp → Prop) (h0 : Pv 0 (upd H1 D (.dK []))) (hG : ∀ i H, i ≤ n → Pv i H → G H)
    (hs : ∀ i x H H', i < n → Pv i H → Y i H x H' → g x (wipe σ vs) H' fun σ2 H2 => wipe σ2 vs = wipe σ vs ∧ tt σ2 H2 fun b H3 =>
      if b = true then tk σ2 H3 fun y H4 => tv σ2 H4 fun z H5 => ∃ kvs k, y = kV k ∧ H5 D = some (.dK kvs) ∧ kvs.length < sizeLine ∧ Pv (i + 1) (upd H5 D (.dK (putK kvs k z))) else Pv (i + 1) H3) (hd : ∀ H, Pv n H → Qd H) :
    ∃ W : Nat → Nat → Hp → Prop, (∃ m, W 0 m (upd H1 D (.dK []))) ∧ ∀ i m H, W i m H →
      (J.stop i H ∧ Qd H) ∨ (J.go i H ∧ ∃ Nx : Hp → Prop, (∀ H', Nx H' → ∃ m', m' < m ∧ W (i + 1) m' H') ∧ ∀ x H', J.yld i H x H' → g x (wipe σ vs) H' fun σ2 H2 => wipe σ2 vs = wipe σ vs ∧ tt σ2 H2 fun b H3 =>
        if b = true then tk σ2 H3 fun y H4 => tv σ2 H4 fun z H5 => ∃ kvs k, y = kV k ∧ H5 D = some (.dK kvs) ∧ kvs.length < sizeLine ∧ Nx (upd H5 D (.dK (putK kvs k z))) else Nx H3) := by
  refine ⟨fun i m H => m = n - i ∧ i ≤ n ∧ Pv i H, ⟨n, by simp, Nat.zero_le _, h0⟩, ?_⟩
  rintro i m H ⟨rfl, hi, p⟩
  have q := hG i H hi p
  by_cases hlt : i < n
  · exact .inr ⟨w.goes i H hlt q, Pv (i + 1), fun H' p' => ⟨n - (i + 1), by omega, rfl, hlt, p'⟩, fun x H' y => hs i x H H' hlt p (w.yields i H x H' hlt q y)⟩
  · have e : i = n := by omega
    subst e
    exact .inl ⟨w.stops H q, hd H p⟩
theorem SD.ext {H H' : Hp} (x : LamX.ExtN H H') : SD H H' := fun b o h d => x b o h fun ps z => by
  rw [z] at d
  cases d
theorem tabs_upd {T : List (Addr × Str)} {H : Hp} {s : Addr} {u o : HO} (hT : LamX.Tabs T H) (h : H s = some u) (n1 : ∀ ps, u ≠ .tbl ps) (n2 : ∀ c q, u ≠ LamX.CodeO c q) : LamX.Tabs T (upd H s o) := by
  intro p hp
  obtain ⟨ps, h1, h2, h3⟩ := hT p hp
  refine ⟨ps, ?_, h2, fun pos cv hc => ?_⟩
  · rw [upd_ne fun z => by
      rw [z, h] at h1
      exact n1 _ (Option.some.inj h1)]
    exact h1
  · obtain ⟨c, e1, e2⟩ := h3 pos cv hc
    refine ⟨c, e1, ?_⟩
    rw [upd_ne fun z => by
      rw [z, h] at e2
      exact n2 _ _ (Option.some.inj e2)]
    exact e2
theorem tabs_ins {T : List (Addr × Str)} {H : Hp} {s C dx : Addr} {fs : List (Str × V)} {o : HO} (hT : LamX.Tabs T H) (h : H s = some (.ins C dx fs)) : LamX.Tabs T (upd H s o) := tabs_upd hT h (fun ps z => by cases z) (fun c q z => by unfold LamX.CodeO at z; cases z)
theorem tabs_lst {T : List (Addr × Str)} {H : Hp} {s : Addr} {xs : List V} {o : HO} (hT : LamX.Tabs T H) (h : H s = some (.lst xs)) : LamX.Tabs T (upd H s o) := tabs_upd hT h (fun ps z => by cases z) (fun c q z => by unfold LamX.CodeO at z; cases z)
end Fr

namespace Fr
open PySem PySem.Spec PyProof.Rows L2
section
variable {prog : Program} {w : World} {A : Around} {E : Value → Shared → Prop} {s : Shared}
theorem min_intTup {l : Addr} {xs : Array (Int × Tok)} {Q : Value → Shared → Prop} (hh : A.handled = none) (hl : s.heap.IsTuple l (intItems xs)) (hne : 0 < xs.size)
    (h : ∀ v h' tk, (intItems xs)[argBest (fun i j => decide (numAt xs i < numAt xs j)) (xs.size - 1)]? = some v → (∀ b o, s.heap.get? b = some o → h'.get? b = some o) → Q v { s with heap := h', toks := tk }) :
    wpAny (model prog w) A (call (.builtin "min") [.ref l]) Q E s := by
  refine call_min_walk (wpAny_pyIter_tuple hl ?_)
  obtain ⟨o, ho, hc, n, hd⟩ := hl
  have hlt : l < s.heap.objs.size := Heap.lt_size ho
  refine ⟨_, [_, l], [_], _, _, _, _, rfl, Walks.tuple (A := A.in1) hh _ l (Nat.ne_of_lt hlt) (intItems xs), ⟨⟨_, Heap.get?_push_size _ rfl, rfl, rfl⟩, ⟨o, Heap.get?_push_of_some _ ho, hc, n, hd⟩⟩, fun d hdm => ?_, by simpa [intItems] using hne, CmpOf.ints_lt (numAt xs) (fun _ _ => intItems_at), fun v h' tk hP hk => ?_⟩
  · show d < (s.heap.push _).objs.size
    rw [Heap.size_push]
    rcases List.mem_cons.mp hdm with rfl | hdm
    · exact Nat.lt_succ_self _
    · rcases List.mem_cons.mp hdm with rfl | hdm
      · exact Nat.lt_succ_of_lt hlt
      · cases hdm
  · refine h v h' tk (by simpa [intItems] using hP) fun d o e => hk d o (fun hm => ?_) (Heap.get?_push_of_some _ e)
    rcases List.mem_cons.mp hm with e1 | hm
    · have := Heap.lt_size e
      rw [e1] at this
      exact Nat.lt_irrefl _ this
    · cases hm
end
def rMinT (K : PySem.W.Frag) : List V → Hp → VK → Prop := fun vs H Q => ∃ (a : Addr) (ns : List Int), vs = [V.ref a] ∧ SqT K H a (ns.map V.int) ∧ 0 < ns.length ∧ ∀ m, m ∈ ns → (∀ y, y ∈ ns → m ≤ y) → Q (.int m) H
theorem cr_minT {X : Cx} (hc : X.calm = true) : CallR X (.builtin "min") (rMinT X.K) := by
  intro pins s σ H vs us Q I r h
  obtain ⟨a, ns, rfl, hs, hne, q⟩ := h
  obtain ⟨its, rv, hl, _⟩ := I.tuple hs
  rw [Vals.ref1 r]
  obtain ⟨xs, e⟩ := rv.ints.allInts.items
  have hn : numsOf (intItems xs).toList = ns := by rw [← e]; exact rv.ints.numsOf
  rw [nums_intItems] at hn
  subst hn
  rw [e] at hl
  have hsz : 0 < xs.size := by simpa using hne
  refine min_intTup (I.ok.hd hc) hl hsz fun v h' tk hv hk => ?_
  obtain ⟨t, rfl⟩ := intItems_at hv
  obtain ⟨h1, h2⟩ := argBest_lt (numAt xs) (xs.size - 1)
  refine ⟨.int _, H, I.kept hk, ⟨_, rfl⟩, q _ ?_ fun a ha => ?_⟩
  · rw [numAt_eq]; exact PySem.getD_mem (by rw [List.length_map, Array.length_toList]; omega)
  · obtain ⟨j, hj, rfl⟩ := mem_getD ha
    rw [List.length_map, Array.length_toList] at hj
    rw [← numAt_eq]; exact h2 j (by omega)
theorem sgrow {B H : Hp} {p : Addr} {o : HO} (e : Same B H) : Same (upd B p o) (upd H p o) := fun c u h => by
  by_cases hc : c = p
  · rw [hc, upd_same] at h ⊢
    exact h
  · rw [upd_ne hc] at h ⊢
    exact e c u h
/-- an object that the base does not know may change -/
theorem swrite {B H : Hp} {p : Addr} {o : HO} (e : Same B H) (n : B p = none) : Same B (upd H p o) := fun c u h => by
  rw [upd_ne (ne_of_none h n)]
  exact e c u h
theorem walk_zipT {K : PySem.W.Frag} {a b : Addr} {xs ys : List V} {n : Nat} (hn : n = min xs.length ys.length) : Walk (RZ.ItzT K a b) n (fun H => SqT K H a xs ∧ SqT K H b ys) (YPair (fun i => xs[i]?) (fun i => ys[i]?)) := by
  subst hn
  refine ⟨fun i _ hi q => ?_, fun _ q => ⟨xs, ys, q.1, q.2, by omega⟩, fun i H v H' _ q y => ?_⟩
  · have h1 : i < xs.length := by omega
    have h2 : i < ys.length := by omega
    exact ⟨xs, ys, xs[i], ys[i], q.1, q.2, by simp [h1], by simp [h2]⟩
  · obtain ⟨T, x, z, h1, h2, h3, h4, h5⟩ := y
    exact ⟨T, x, z, h1, h2, h3, h4 xs q.1, h5 ys q.2⟩
theorem range_map_get' {α : Type} (xs : List α) (f : Nat → α) (h : ∀ i x, xs[i]? = some x → f i = x) : (List.range xs.length).map f = xs := by
  refine List.ext_getElem? fun i => ?_
  by_cases hi : i < xs.length
  · rw [List.getElem?_map, get_range hi, List.getElem?_eq_getElem hi]
    exact congrArg some (h i _ (List.getElem?_eq_getElem hi))
  · rw [List.getElem?_eq_none (by simp; omega), List.getElem?_eq_none (by omega)]
/-- p - v -/
def minus (p v : List Int) : List Int := List.zipWith (fun a b => a - b) p v
theorem minus_at {p v : List Int} {i : Nat} {a b : Int} (h1 : p[i]? = some a) (h2 : v[i]? = some b) : (minus p v).getD i 0 = a - b := by
  unfold minus
  rw [List.getD_eq_getElem?_getD, List.getElem?_zipWith, h1, h2]
  rfl
theorem minus_range (p v : List Int) : (List.range (min p.length v.length)).map (fun i => V.int ((minus p v).getD i 0)) = (minus p v).map V.int := by
  have := range_map_get' ((minus p v).map V.int) (fun i => V.int ((minus p v).getD i 0)) (fun i b hb => by
    rw [List.getElem?_map] at hb
    obtain ⟨c, h1, h2⟩ := Option.map_eq_some_iff.mp hb
    rw [List.getD_eq_getElem?_getD, h1]
    exact h2)
  rw [List.length_map] at this
  unfold minus at this ⊢
  rw [List.length_zipWith] at this
  exact this
end Fr

namespace Fr
open PySem PySem.Spec PyProof.Rows L2
/-- room, and nothing under repr -/
structure RoomG (k : Nat) (A : Around) : Prop where
  room : Room k A
  free : A.guards = some []
structure FnG (P : Program) (w : World) (K : PySem.W.Frag) (mg : Str → Option Value) (base : Heap) (k : Nat) (f : Addr) (fd : FuncData) (ps : List Str) (sp : Sp) : Prop where
  len : ∀ vs H Q E, sp vs H Q E → vs.length = ps.length
  go : ∀ (A : Around) (outer : List Env) (s : Shared) (H : Hp) (args : Args) (us : List Value) (vs : List V) (Q : VK) (E : XK), RoomG k A → Env0 P w K mg base A outer s H → BindsTo s fd args (ps.zip us) → Vals vs us → sp vs H Q E → codeAny (model P w) A (.call (.ref f) args) (CR CX0 outer P w H s Q E) s
section
variable {P : Program} {w : World} {K : PySem.W.Frag} {mg : Str → Option Value} {base : Heap}
/-- a def by its body -/
theorem fnG_of {k : Nat} {f : Addr} {x qual : Str} {pa : Arguments} {body : List Stmt} {sc : Scope} {dV kV doc pm cd ct oc : Value} {an od : Option Addr} {osl : Array (Option Value)} {N ps : List Str} {sp : Sp}
    (lk : K.lookup f = some ⟨oc, od, .func (PySem.W.fnOf x qual pa body sc dV kV doc pm an cd ct), osl⟩) (hcd : PySem.W.codeIn K cd qual = true) (S : FnScope N ps sc) (len : ∀ vs H Q E, sp vs H Q E → vs.length = ps.length)
    (hb : ∀ (A : Around) (outer : List Env) (s : Shared) (H : Hp) (vs : List V) (Q : VK) (E : XK), RoomG k (A.deeper (envOfC qual sc s.heap.objs.size f cd)) → sp vs H Q E → ∃ t, PSs (cxOf CX0 P w K mg base N qual sc f cd A outer s H E) body t ∧ t { nx := fun _ H' => Q .non H', rt := Q } (start N vs) H) :
    FnG P w K mg base (k + 1) f (PySem.W.fnOf x qual pa body sc dV kV doc pm an cd ct) ps sp where
  len := len
  go A outer s H args us vs Q E hr e0 bt rv hq := by
    have h1 : vs.length = ps.length := len _ _ _ _ hq
    have inK : K.In s.heap := e0.mod.kin.keeps fun b o z => (e0.bs b o z).1
    have noL : s.heap.NoLimit := e0.mod.nolimit.keeps fun b o z => (e0.bs b o z).1
    have kinds : ∀ y ∈ ps.zip us, sc.names.lookup y.1 = some .local ∨ (sc.names.lookup y.1 = some .cell ∧ ((cellsFrom (s.heap.objs.size + 1) sc.names []).lookup y.1).isSome = true) := by
      intro y hy
      obtain ⟨n, v⟩ := y
      cases S.par n (List.of_mem_zip hy).1 with
      | inl z => exact Or.inl z
      | inr z => exact Or.inr ⟨z, PySem.W.cellsFrom_some _ _ _ (Or.inl z)⟩
    refine codeAny_call_function hr.room.depth (inK _ _ lk) rfl S.co S.gen rfl (PySem.W.codeRec_of inK hcd) (bt _ _ _ _ (wpAny_newFunctionEnv_cells S.kind kinds ?_))
    rintro _ rfl s1 ic
    refine ⟨noL.keeps ic.toInCall.keep, codeAny_func ?_⟩
    obtain ⟨t, pt, ht⟩ := hb A outer s H vs Q E ⟨hr.room.deeper _, hr.free⟩ hq
    have I0 := inv_start (CX := CX0) (E := E) S hr.room.hd e0 h1 rv ic
    refine wpAny_mono (pt.run [] s1 (start N vs) H _ I0 ht) (fun fl s2 z => ?_) fun _ _ z => z
    cases fl with
    | next =>
      obtain ⟨_, H2, J, q⟩ := z
      exact ⟨V.non, H2, J.os, J.bare, J.base, J.hok, rfl, q⟩
    | ret u =>
      obtain ⟨v, _, H2, J, ru, q⟩ := z
      exact ⟨v, H2, J.os, J.bare, J.base, J.hok, ru, q⟩
    | brk => exact z.elim fun _ z => z.elim fun _ z => z.2.elim
    | cont => exact z.elim fun _ z => z.elim fun _ z => z.2.elim
theorem Fun_okG {x qual : Str} {st : Stmt} {f : Addr} {fd : FuncData} {N ps : List Str} {k : Nat} {sp : Sp} (F : Fun K x qual st f fd) (S : FnScope N ps (defScope st)) (len : ∀ vs H Q E, sp vs H Q E → vs.length = ps.length)
    (hb : ∀ (cd : Value) (A : Around) (outer : List Env) (s : Shared) (H : Hp) (vs : List V) (Q : VK) (E : XK), RoomG k (A.deeper (envOfC qual (defScope st) s.heap.objs.size f cd)) → sp vs H Q E →
      ∃ t, PSs (cxOf CX0 P w K mg base N qual (defScope st) f cd A outer s H E).nox (defBody st) t ∧ t { nx := fun _ H' => Q .non H', rt := Q } (start N vs) H) : FnG P w K mg base (k + 1) f fd ps sp := by
  obtain ⟨oc, od, kV, doc, pm, an, cd, ct, osl, rfl, lk, hcd⟩ := F.ex
  refine fnG_of lk hcd S len fun A outer s H vs Q E hr hq => ?_
  obtain ⟨t, pt, ht⟩ := hb cd A outer s H vs Q E hr hq
  exact ⟨t, pt.nox, ht⟩
/-- a def of this kind that may be called by its name -/
structure CalG (P : Program) (w : World) (K : PySem.W.Frag) (mg : Str → Option Value) (base : Heap) (k : Nat) (x : Str) (sp : Sp) : Prop where
  ex : ∃ (f : Addr) (fd : FuncData) (ps : List Str), FnG P w K mg base k f fd ps sp ∧ mg x = some (.ref f) ∧ PySem.W.keepIn K (.ref f) = true ∧ Binds K fd ps []
end
section
variable {X : Cx} {k j : Nat} {x : Str} {sp : Sp} {p pos : Pos} {e : Expr} {es : List Expr} {t : TA}
theorem pe_cG (c : CalG X.prog X.w X.K X.mg X.base k x sp) (hr : RoomG j X.A) (hk : k ≤ j) (hg : Gl X x) (ha : PA X (e :: es) t) (hdb : (x == ("__debug__" : Str)) = false := by decide)
    (he : starEach (e :: es) X.env = (false, eval e X.env) :: starEach es X.env := by rfl) (hpl : (backTo pos (starEach es X.env)).any (·.1) = false := by rfl) : PE X (.Call (.Name x p) (e :: es) [] pos) (tCall sp [] C8.E0 t) := by
  obtain ⟨f, fd, ps, F, hm, kp, hb⟩ := c.ex
  constructor
  intro pins s σ H Q I h
  refine wpAny_Call_Name_kw (ld_glob I hg hm (PySem.W.callWith_K (h₀ := X.base) I.ok.mod.kin kp (thn (ha.run pos pins s σ H _ I h) ?_) he hpl) hdb)
  rintro us s1 ⟨vs, H1, I1, r, q⟩
  refine ⟨I1.kIn, wpAny_call ?_⟩
  have r2 : Vals (vs ++ []) (us ++ []) := r.append .nil
  have hl : (us ++ ([] : List Value)).length = ps.length := r2.length.symm.trans (F.len _ _ _ _ q)
  refine codeAny_mono (F.go X.A X.stack s1 H1 ⟨us, []⟩ (us ++ []) (vs ++ []) Q C8.E0 ⟨hr.room.mono hk, hr.free⟩ I1.env0 (hb s1 us I1.kIn hl) r2 q) fun rs s2 z => ?_
  match rs, z with
  | .error er, z => exact pass0 (X := X) pins σ H1 s1 er s2 I1 z
  | .ok (.ret u), z => exact I1.after z
  | .ok .next, z => exact z.elim
  | .ok .brk, z => exact z.elim
  | .ok .cont, z => exact z.elim
/-- repr(e), e plain data -/
def rReprD (K : PySem.W.Frag) : List V → Hp → VK → Prop := fun xs H Q => ∃ (v : V) (d : PyData), xs = [v] ∧ Dp K H v d ∧ d.canLay0 = true ∧ d.showable = true ∧ d.depth ≤ 60 ∧ ((∃ i, d = .int i) ∨ d.shown.length ≤ sizeLine) ∧ Q (.str d.shown) H
theorem call_reprD (hg : X.A.guards = some []) (hu : X.A.units + 65 < cLine) : CallR X (.builtin "repr") (rReprD X.K) := by
  intro pins s σ H xs us Q I r h
  obtain ⟨v, d, rfl, hd, hc, hs, h6, hz, q⟩ := h
  obtain ⟨u, rfl, ru⟩ := vals1 r
  obtain ⟨as, rd⟩ := Dp.reads I d v u hd ru
  cases hd with
  | non =>
    cases (show u = Value.none from ru)
    simp only [PyData.shown] at q hz
    exact P.repr_of_none ⟨.str _, H, I.tok _, ⟨_, rfl⟩, q⟩
  | bl b =>
    cases (show u = Value.bool b from ru)
    simp only [PyData.shown] at q hz
    refine P.repr_of_bool ⟨.str _, H, I.tok _, ⟨_, rfl⟩, ?_⟩
    cases b <;> exact q
  | int i =>
    obtain ⟨t, rfl⟩ := (show ∃ t, u = Value.int i t from ru)
    simp only [PyData.shown] at q hz
    simp only [PyData.showable] at hs
    exact P.repr_of_int (of_decide_eq_true hs) ⟨.str _, H, I.tok _, ⟨_, rfl⟩, q⟩
  | str y =>
    obtain ⟨t, rfl⟩ := (show ∃ t, u = Value.str y t from ru)
    simp only [PyData.shown] at q hz
    exact P.repr_of_str ⟨.str _, H, I.tok _, ⟨_, rfl⟩, q⟩ (hz.resolve_left fun ⟨_, z⟩ => by cases z)
  | lst hq ha =>
    cases (show u = Value.ref _ from ru)
    exact repr_of_reads' rd hs (PyData.noDict_hsm (PyData.hasDict_of_canLay _ hc)) hg (by omega) (fun _ _ z => z) (fun h' t tk k => ⟨.str _, H, I.kept k, ⟨_, rfl⟩, q⟩) (hz.resolve_left fun ⟨_, z⟩ => by cases z)
  | tup hq ha =>
    cases (show u = Value.ref _ from ru)
    exact repr_of_reads' rd hs (PyData.noDict_hsm (PyData.hasDict_of_canLay _ hc)) hg (by omega) (fun _ _ z => z) (fun h' t tk k => ⟨.str _, H, I.kept k, ⟨_, rfl⟩, q⟩) (hz.resolve_left fun ⟨_, z⟩ => by cases z)
end
end Fr

namespace Fr
open PySem PySem.Spec PyProof.Rows L2
/-- what the written part says of an error class -/
structure ErrC (K : PySem.W.Frag) (C : Addr) : Prop where
  oex : OexC K C
  ga : PySem.W.findIn K (.ref C) "__getattribute__" = some (some (.builtin "BaseException.__getattribute__"))
  gg : PySem.W.findIn K (.ref C) "__getattr__" = some none
  hd : PySem.W.hasDictIn K C = true
  kc : PySem.W.findIn K (.ref C) "__class__" = some (some (.builtin "object.__class__"))
  kg : PySem.W.specialIn K (.builtin "object.__class__") "__get__" = some (some (.builtin "getset_descriptor.__get__"))
  kt : PySem.W.takesIn K (.builtin "object.__class__") = some true
  km : PySem.W.mroIn K C (.type "object") = some true
/-- an error at a with these attributes -/
def ErrAt (H : Hp) (a C : Addr) (fs : List (Str × V)) : Prop := ∃ d : Addr, H a = some (exo a C (some d)) ∧ H d = some (exd d fs)
theorem ErrAt.mono {H H' : Hp} {a C : Addr} {fs : List (Str × V)} (h : ErrAt H a C fs) (e : Same H H') : ErrAt H' a C fs := by
  obtain ⟨d, h1, h2⟩ := h
  exact ⟨d, e _ _ h1, e _ _ h2⟩
section
variable {X : Cx} {C fI : Addr} {k : Nat} {fd : FuncData} {ps : List Str} {sp : Sp} {x f : Str} {p pos : Pos} {e : Expr} {es : List Expr} {t : TA} {te : TE}
/-- C(e, ..), the error itself -/
def tMkV (C : Addr) (sp : Sp) (t : TA) : TE := fun σ H Q => t σ H fun vs H1 => vs.length ≤ 1000 ∧ ∀ a, H1 a = none → sp (.ref a :: vs) (upd H1 a (exo a C none)) (fun v H2 => v = .non ∧ Q (.ref a) H2) C8.E0
theorem pe_mkV (T : OexC X.K C) (iC : PySem.W.findIn X.K (.ref C) "__init__" = some (some (.ref fI))) (tI : PySem.W.typeIn X.K (.ref fI) = some (.type "function")) (F : FnOk X.prog X.w X.K X.mg X.base CX0 k fI fd ps sp) (hr : Room (k + 1) X.A) (hb : Binds X.K fd ps [])
    (hg : Gl X x) (hm : X.mg x = some (.ref C)) (ha : PA X (e :: es) t) (hdb : (x == ("__debug__" : Str)) = false := by decide) (he : starEach (e :: es) X.env = (false, eval e X.env) :: starEach es X.env := by rfl) (hpl : (backTo pos (starEach es X.env)).any (·.1) = false := by rfl) :
    PE X (.Call (.Name x p) (e :: es) [] pos) (tMkV C sp t) := by
  constructor
  intro pins s σ H Q I h
  obtain ⟨nm, q, N, bs, bm, sn, sub, ab, col, dd, k0, k1, k2, k3, k5, hC, hbm⟩ := T.cls
  refine wpAny_Call_Name_kw (ld_glob I hg hm (PySem.W.callWith_K (h₀ := X.base) I.ok.mod.kin T.kC (thn (ha.run pos pins s σ H _ I h) ?_) he hpl) hdb)
  rintro us s1 ⟨vs, H1, I1, r1, hz, q1⟩
  refine ⟨I1.kIn, ?_⟩
  show wpAny _ _ (call (.ref C) us) _ _ _
  obtain ⟨hp, g, dr, tk, os⟩ := s1
  have big : hp.objs.size ≤ hp.objs.size + 1 := Nat.le_succ _
  have hq := q1 (hp.objs.size + 1) (I1.hok.fresh big)
  have old : ∀ b o, hp.get? b = some o → ((hp.push (PySem.W.kdv_tup us)).push (PySem.HandSPX.excO C hp.objs.size)).get? b = some o := fun b o z => Heap.get?_push_of_some _ (Heap.get?_push_of_some _ z)
  have new : ((hp.push (PySem.W.kdv_tup us)).push (PySem.HandSPX.excO C hp.objs.size)).get? (hp.objs.size + 1) = some (PySem.HandSPX.excO C hp.objs.size) := by heap_get
  have J : Inv X pins σ (upd H1 (hp.objs.size + 1) (exo (hp.objs.size + 1) C none)) ⟨(hp.push (PySem.W.kdv_tup us)).push (PySem.HandSPX.excO C hp.objs.size), g, dr, tk, os⟩ := I1.laid (t' := tk) (o := exo (hp.objs.size + 1) C none) old big (exo_ok new)
  have rr : Vals (V.ref (hp.objs.size + 1) :: vs) (Value.ref (hp.objs.size + 1) :: us) := .cons rfl r1
  have hl : ((Value.ref (hp.objs.size + 1) :: us) ++ ([] : List Value)).length = ps.length := by
    rw [List.append_nil, ← rr.length]
    exact F.len _ _ _ _ hq
  have hu : us.length ≤ sizeLine := by
    rw [← Paired.length r1, sizeLine_eq]
    omega
  have bd := hb ⟨(hp.push (PySem.W.kdv_tup us)).push (PySem.HandSPX.excO C hp.objs.size), g, dr, tk, os⟩ (Value.ref (hp.objs.size + 1) :: us) J.kIn hl
  rw [List.append_nil] at bd
  refine wpAny_call (PySem.HandSPX.call_own PySem.F.excBase_ValueError (fun Y => PySem.HandSPX.refsVE_contains Y bm hbm) (I1.kIn _ _ hC) (PySem.W.looks_findIn I1.kIn iC) (fun self => PySem.W.bind_fn I1.kIn self tI) hu
    (codeAny_mono (FnOk.run F _ X.stack _ _ ⟨Value.ref (hp.objs.size + 1) :: us, []⟩ (Value.ref (hp.objs.size + 1) :: us) _ _ C8.E0 (hr.make C us []) (J.env0.make C us []) bd rr hq) ?_))
  intro rs s2 z
  match rs, z with
  | .error er, z => exact pass0 (X := X) pins σ _ _ er s2 J z
  | .ok .next, z => exact z.elim
  | .ok .brk, z => exact z.elim
  | .ok .cont, z => exact z.elim
  | .ok (.ret u), z =>
    obtain ⟨v, H2, I3, rv, ev, q3⟩ := J.after z
    subst ev
    exact ⟨rv, .ref (hp.objs.size + 1), H2, I3, rfl, q3⟩
/-- e.f, e an error -/
def tErrF (K : PySem.W.Frag) (f : Str) (te : TE) : TE := fun σ H Q => te σ H fun x H1 => ∃ (a C : Addr) (fs : List (Str × V)) (v : V), x = .ref a ∧ ErrC K C ∧ ErrAt H1 a C fs ∧ PySem.W.findIn K (.ref C) f = some none ∧ fs.lookup f = some v ∧ Q v H1
theorem pe_errF (he : PE X e te) (hb : attributeBase e f X.env (eval e X.env) = eval e X.env := by rfl) : PE X (.Attribute e f pos) (tErrF X.K f te) := by
  constructor
  intro pins s σ H Q I h
  refine attr_of hb (thn (he.run pins s σ H _ I h) ?_)
  rintro u s1 ⟨x, H1, I1, rx, a, C, fs, v, rfl, T, ⟨d, h1, h2⟩, no, hl, q⟩
  obtain rfl : u = Value.ref a := rx
  obtain ⟨t1, ho⟩ := exo_at I1.hok h1
  obtain ⟨mA, hns, rel⟩ := exd_at I1.hok h2
  obtain ⟨od, hod, lk⟩ := lookIn_ns hns
  obtain ⟨u, hu, ru⟩ := RelO.some_of (v := v) (o := mA f) (by rw [← hl]; exact rel f)
  exact HandSPX.exc_get I1.kIn (od := some od) ⟨ho, rfl, rfl, hod⟩ T.ga T.gg T.oex.exC (PySem.W.findObj_own T.hd no rfl (by rw [lk, hu])) (handed_of ru) ⟨v, H1, I1.tok _, ru, q⟩
/-- isinstance(e, c), e an error -/
def rIsX (K : PySem.W.Frag) : List V → Hp → VK → Prop := fun xs H Q => ∃ (a C : Addr) (fs : List (Str × V)) (c : V) (cv : Value) (b : Bool), xs = [.ref a, c] ∧ ErrC K C ∧ ErrAt H a C fs ∧ ClsV c cv ∧ PySem.W.kitOne K (.ref C) cv = some b ∧ Q (.bl b) H
theorem call_isX : CallR X (.builtin "isinstance") (rIsX X.K) := by
  intro pins s σ H xs us Q I r h
  obtain ⟨a, C, fs, c, cv, b, rfl, T, ⟨d, h1, h2⟩, hc, e, q⟩ := h
  obtain ⟨u1, u2, rfl, r1, r2⟩ := vals2 r
  obtain rfl := hc.eq r2
  obtain rfl : u1 = Value.ref a := r1
  obtain ⟨t1, ho⟩ := exo_at I.hok h1
  obtain ⟨mA, hns, rel⟩ := exd_at I.hok h2
  obtain ⟨od, hod, lk⟩ := lookIn_ns hns
  have is : PySem.W.InstAt s.heap a _ C (some od) := ⟨ho, rfl, rfl, hod⟩
  have cl : (PySem.W.clsIn X.K C).isSome = true := by
    obtain ⟨cd, hcd, _⟩ := PySem.W.any_some T.hd
    rw [hcd]
    rfl
  exact PySem.W.kia_one (PySem.W.kitx_exc cl T.ga T.gg T.oex.exC T.kc T.kg T.kt T.km) I.kIn is e (fun z => by cases z) fun tk => ⟨.bl b, H, I.tok tk, rfl, q⟩
end
end Fr

namespace Fr
open PySem PySem.Spec PyProof.Rows L2
/-- an error as a thing that is tracked: its class, its dict -/
def exq (a : Addr) (cls : Value) (d : Option Addr) : HO := .ext fun h => ∃ (o : PySem.Obj) (vs : Array Value), h.get? a = some o ∧ Zc cls d o ∧ o.data = .fields vs
theorem exq_ok {P : Program} {w : World} {H : Hp} {h : Heap} {a : Addr} {cls : Value} {d : Option Addr} {o : PySem.Obj} {vs : Array Value} (e : h.get? a = some o) (z : Zc cls d o) (f : o.data = .fields vs) : ObjOk P w H h a (exq a cls d) :=
  ⟨⟨o, vs, e, z, f⟩, ⟨_, e⟩, fun h1 h2 q k => by
    obtain ⟨o', vs', e', z', f'⟩ := q
    exact ⟨o', vs', k _ e', z', f'⟩⟩
section
variable {X : Cx} {pins : List (Addr × PySem.Obj)} {σ : L2.St} {H : Hp} {s : Shared} {a : Addr} {o : HO}
/-- a thing of the heap that was not tracked is tracked from now on -/
theorem inv_adopt (I : Inv X pins σ H s) (na : H a = none) (old : X.s_0.heap.get? a = none) (nl : a ≠ X.env.locals) (nc : ∀ x c, X.env.cells.lookup x = some c → c ≠ a) (np : ∀ p ∈ X.pn ++ pins, p.1 ≠ a) (new : ObjOk X.prog X.w (upd H a o) s.heap a o) : Inv X pins σ (upd H a o) s := by
  have up : ∀ {b : Addr} {u : HO}, H b = some u → upd H a o b = some u := fun {b u} e => by
    rw [upd_ne (ne_of_none e na)]
    exact e
  have u := I.base
  refine { I with base := { keep := u.keep, slot := u.slot, free := ?_, there := u.there, tups := ?_, frzs := ?_, tbls := ?_ }, free := ?_, freeC := ?_, pin := ?_, hok := ?_ }
  · intro b q e n hx
    have hb : b ≠ a := fun z => by
      rw [z, old] at e
      cases e
    rw [upd_ne hb]
    exact u.free b q e n hx
  · exact fun b xs e => up (u.tups b xs e)
  · exact fun b q v e => up (u.frzs b q v e)
  · intro b ps e
    obtain ⟨more, z⟩ := u.tbls b ps e
    exact ⟨more, up z⟩
  · rw [upd_ne nl.symm]
    exact I.free
  · intro x c e
    rw [upd_ne (nc x c e)]
    exact I.freeC x c e
  · intro p hp
    obtain ⟨z1, z2, z3⟩ := I.pin p hp
    exact ⟨z1, by rw [upd_ne (np p hp)]; exact z2, z3⟩
  · intro b q e
    by_cases hb : b = a
    · subst hb
      rw [upd_same] at e
      cases e
      exact new
    · rw [upd_ne hb] at e
      exact (I.hok b q e).stay (fun _ _ _ z => z) (fun c z => up z) fun c xs z => up z
end
/-- what a body must know of its error when the clause keeps it: slot i is the clause's name, slot j the variable -/
def wKeep (K : PySem.W.Frag) (c : Value) (i j : Nat) (D : Ends) : WX := fun cls d σ H => PySem.W.exmOne K cls c = some true ∧ ∀ a, H a = none → D.nx ((((σ.set i (some (.ref a))).set j (some (.ref a)))).set i none) (upd H a (exq a cls d))
section
variable {X : Cx} {x n y : Str} {c : Value} {i j : Nat} {body : List Stmt} {np yp ep pos pos' apos : Pos} {tb : WX → TS}
theorem ps_try_keep (hs : X.stack = X.env :: X.outer) (hf : X.env.frame = some X.env.locals) (hex : X.ex = []) (hN : X.N.Nodup) (hi : X.N[i]? = some n) (hj : X.N[j]? = some y) (hln : X.env.kindOf n = some .local) (hly : X.env.kindOf y = some .local) (hij : i ≠ j) (hc : Names X x c)
    (hb : ∀ (W : WX) (pn : List (Addr × PySem.Obj)) (xe : Value → Shared → Prop), Takes (X.tr pn xe) W → PassesOwn (model X.prog X.w) X.A X.env xe → PSs (X.tr pn xe) body (tb W))
    (hsw : swapsWith (.Name n ep) (some (.Name y yp)) apos.line X.env = pure false := by rfl) (hd : (n == ("__debug__" : Str)) = false := by decide) (hcd : (n == ("__classdict__" : Str)) = false := by decide) :
    PS X (.Try body [.ExceptHandler (some (.Name x np)) (some n) [.Assign [.Name y yp] (.Name n ep) apos] pos'] [] [] pos) (fun D σ H => tb (wKeep X.K c i j D) D σ H) := by
  constructor
  intro pins s σ H D I h
  have ok := I.ok
  have fra : X.A.frames = some (X.env :: X.outer) := ok.frames.trans (congrArg some hs)
  obtain ⟨xe, hxe⟩ : ∃ xe : Value → Shared → Prop, xe = fun e s₁ => wpAny (model X.prog X.w) X.A (noteFrame e X.env) (fun _ s₂ => wpAny (model X.prog X.w) X.A (setFlight e none) (fun _ s₃ =>
    wpAny (model X.prog X.w) X.A (handleBy e X.env [.ExceptHandler (some (.Name x np)) (some n) [.Assign [.Name y yp] (.Name n ep) apos] pos']) (SP X pins D) X.xe s₃) X.xe s₂) X.xe s₁ := ⟨_, rfl⟩
  have pas : PassesOwn (model X.prog X.w) X.A X.env xe := by rw [hxe]; exact PassesOwn.looking
  have caught : Takes (X.tr (X.pn ++ pins) xe) (wKeep X.K c i j D) := by
    rw [hxe]
    rintro u s1 ⟨a, B, sI, pins', σ1, H1, cls, d, rfl, J0, nb, up, sky, na, os, ag, hb1, hyes⟩
    have J : Inv X pins σ1 H1 sI := J0.ofTry ok
    have sky1 : Sky B (X.env :: X.outer) a (Zc cls d) X.env.locals s1.heap := hs ▸ sky
    show wpAny (model X.prog X.w) X.A (noteFrame (.ref a) X.env) _ _ _
    refine Sky.land Zc.steady fra hf sky1 fun g3 fly3 u3 => ?_
    have K3 : Inv X pins σ1 H1 { s1 with heap := g3 } := J.landed nb fly3.1 (up.trans u3) os ag
    obtain ⟨q3, vs3, at3, z3, dat3⟩ := fly3.there
    have out : a ∉ frs (X.env :: X.outer) := fun hm => by
      obtain ⟨_, q', e', nof⟩ := fly3.2.2.1.mem hm
      rw [at3] at e'
      cases e'
      exact nof _ dat3
    have aL : a ≠ X.env.locals := fun z => out (List.mem_filterMap.mpr ⟨X.env, List.mem_cons_self, by rw [hf, z]⟩)
    have aF : a ∉ X.fs := fun hm => by
      obtain ⟨e, he, q⟩ := List.mem_filterMap.mp hm
      exact out (List.mem_filterMap.mpr ⟨e, List.mem_cons_of_mem _ he, q⟩)
    have gone : sI.heap.get? a = none := by
      cases q : sI.heap.get? a with
      | none => rfl
      | some w =>
        have z := nb a w q (by rw [hs]; exact out)
        rw [fly3.2.1] at z
        cases z
    have S3 := K3.suite at3 dat3 na aL aF
    refine wpAny_handleBy_cons (codeAny_handlers_test ?_) (by intro q; cases q)
    have ty3 : PySem.W.Looks (model X.prog X.w) g3 (typeOf (.ref a)) cls := fun A Q E s k q => wpAny_typeOf_ref (k _ _ at3) (by rw [z3.1]; exact q)
    have hit := PySem.W.exm_one (M := model X.prog X.w) K3.kIn ty3 hb1
    have asks : ∀ {Q : Value → Shared → Prop} {E : Value → Shared → Prop}, Q c { s1 with heap := g3 } → wpAny (model X.prog X.w) (X.A.mark (some (.ref a))) (eval (.Name x np) X.env) Q E { s1 with heap := g3 } := fun {Q E} q => by
      obtain ⟨hg, nd, hm | ⟨hm, hv, nn⟩⟩ := hc
      · exact ld_glob S3 hg hm q nd
      · exact ld_blt S3 hg hm hv q nn nd
    refine asks (hit.here ?_)
    refine codeAny_handlers_suite_as (HandSPX.lands_againZ fly3 fun g4 fly4 u4 => ?_)
    have K4 : Inv X pins σ1 H1 { s1 with heap := g4 } := J.landed nb fly4.1 ((up.trans u3).trans u4) os ag
    obtain ⟨q4, vs4, at4, z4, dat4⟩ := fly4.there
    have S4 := K4.suite at4 dat4 na aL aF
    have one : PSs (X.suite a ((a, q4) :: (X.pn ++ pins))) [.Assign [.Name y yp] (.Name n ep) apos] (tAsg (tVar i) (gName j)) :=
      pss_one (ps_set (X := X.suite a ((a, q4) :: (X.pn ++ pins))) hN hj (.inl hly) (pe_var (X := X.suite a ((a, q4) :: (X.pn ++ pins))) hi (.inl hln) hd hcd) hsw (.inr hly))
    refine store_ok (X := X.suite a ((a, q4) :: (X.pn ++ pins))) (v := .ref a) S4 hN hi (.inl hln) rfl (fun s5 S5 => ?_) (.inr hln)
    have hlen : i < σ1.length := by
      rw [K4.len]
      exact (List.getElem?_eq_some_iff.mp hi).1
    refine wpAny_mono (one.run [] s5 _ H1 { nx := fun σ' H' => σ' = (σ1.set i (some (.ref a))).set j (some (.ref a)) ∧ H' = H1, rt := fun _ _ => False, bk := fun _ _ => False, ct := fun _ _ => False } S5 ⟨.ref a, List.getElem?_set_self hlen, rfl, rfl⟩) (fun f s6 q => ?_) (fun _ _ z => False.elim z)
    cases f with
    | brk => obtain ⟨_, _, _, z⟩ := q; exact z.elim
    | cont => obtain ⟨_, _, _, z⟩ := q; exact z.elim
    | ret u => obtain ⟨_, _, _, _, _, z⟩ := q; exact z.elim
    | next =>
      obtain ⟨σ6, H6, S6, rfl, rfl⟩ := q
      obtain ⟨at6, _⟩ := S6.pin (a, q4) (List.mem_append_left _ List.mem_cons_self)
      have K6 : Inv X pins _ H6 s6 := S6.unsuite ok
      have K7 := inv_adopt K6 na ?_ aL ?_ ?_ (exq_ok at6 z4 dat4)
      · exact gone_ok K7 hN hi hln fun s7 K8 => ⟨_, _, K8, hyes a na⟩
      · cases q : X.s_0.heap.get? a with
        | none => rfl
        | some w =>
          obtain ⟨w', z⟩ := J.base.there a w q (by rw [hex]; exact fun z => nomatch z)
          rw [gone] at z
          cases z
      · intro v k e z
        subst z
        obtain ⟨w, q, z, _⟩ := J.cell v _ e
        rw [gone] at z
        cases z
      · intro p hp z
        obtain ⟨e, _⟩ := J.pin p hp
        rw [z, gone] at e
        cases e
  have R := (hb (wKeep X.K c i j D) (X.pn ++ pins) xe caught pas).run [] s σ H D (I.toTry _) h
  rw [hxe] at R
  refine wpAny_Try_except (wpAny_mono R (fun f s1 q => ?_) fun _ _ z => z)
  cases f with
  | next =>
    obtain ⟨σ1, H1, J, z⟩ := q
    exact wpAny_execs_nil ⟨σ1, H1, J.ofTry ok, z⟩
  | brk =>
    obtain ⟨σ1, H1, J, z⟩ := q
    exact ⟨σ1, H1, J.ofTry ok, z⟩
  | cont =>
    obtain ⟨σ1, H1, J, z⟩ := q
    exact ⟨σ1, H1, J.ofTry ok, z⟩
  | ret u =>
    obtain ⟨v, σ1, H1, J, r, z⟩ := q
    exact ⟨v, σ1, H1, J.ofTry ok, r, z⟩
end
end Fr

namespace Fr
open PySem PySem.Spec PyProof.Rows L2
section
variable {P : Program} {w : World} {K : PySem.W.Frag} {mg : Str → Option Value} {base : Heap}
/-- the promise of a def whose body may raise -/
theorem fun_okX {x qual : Str} {st : Stmt} {f : Addr} {fd : FuncData} {N ps : List Str} {k : Nat} {sp : Sp} (F : Fun K x qual st f fd) (S : FnScope N ps (defScope st)) (len : ∀ vs H Q E, sp vs H Q E → vs.length = ps.length)
    (body : ∀ (cdv : Value) (A : Around) (outer : List Env) (s : Shared) (H : Hp) (vs : List V) (Q : VK) (E : XK), Room k (A.deeper (envOfC qual (defScope st) s.heap.objs.size f cdv)) → sp vs H Q E →
      ∃ t, PSs (cxOf (L2.CX P w) P w K mg base N qual (defScope st) f cdv A outer s H E) (defBody st) t ∧ t { nx := fun _ H' => Q .non H', rt := Q } (start N vs) H) : FnOk P w K mg base (L2.CX P w) (k + 1) f fd ps sp := by
  obtain ⟨oc, od, kV, doc, pm, an, cdv, ct, osl, rfl, lk, hcd⟩ := F.ex
  exact fn_of lk hcd S len fun A outer s H vs Q E hr hsp => body cdv A outer s H vs Q E hr hsp
/-- a def that raises, by its name -/
structure CalX (P : Program) (w : World) (K : PySem.W.Frag) (mg : Str → Option Value) (base : Heap) (k : Nat) (x : Str) (sp : Sp) : Prop where
  ex : ∃ (f : Addr) (fd : FuncData) (ps : List Str), FnOk P w K mg base (L2.CX P w) k f fd ps sp ∧ mg x = some (.ref f) ∧ PySem.W.keepIn K (.ref f) = true ∧ Binds K fd ps []
theorem pe_cx {X : Cx} {k j : Nat} {x : Str} {sp : Sp} {W : WX} {e : Expr} {es : List Expr} {t : TA} {p pos : Pos} (c : CalX X.prog X.w X.K X.mg X.base k x sp) (hr : Room j X.A) (hk : k ≤ j) (hg : Gl X x) (tk : Takes X W) (ha : PA X (e :: es) t)
    (hdb : (x == ("__debug__" : Str)) = false := by decide) (he : starEach (e :: es) X.env = (false, eval e X.env) :: starEach es X.env := by rfl) (hpl : (backTo pos (starEach es X.env)).any (·.1) = false := by rfl) : PE X (.Call (.Name x p) (e :: es) [] pos) (tCallS sp (WE W) t) := by
  obtain ⟨f, fd, ps, F, hm, kp, b⟩ := c.ex
  exact pe_callS F (hr.mono hk) hg hm kp b (fun σ => passAt tk σ) ha hdb he hpl
/-- two promises of one def, one of them without errors -/
theorem fn_or {k : Nat} {f : Addr} {fd : FuncData} {ps : List Str} {sp0 sp1 : Sp} (F0 : FnOk P w K mg base CX0 k f fd ps sp0) (F1 : FnOk P w K mg base (L2.CX P w) k f fd ps sp1) : FnOk P w K mg base (L2.CX P w) k f fd ps (fun vs H Q E => sp0 vs H Q E ∨ sp1 vs H Q E) :=
  ⟨fun vs H Q E h => h.elim (F0.len vs H Q E) (F1.len vs H Q E), fun A outer s H args us vs Q E hr e0 hb r h => h.elim
    (fun h => codeAny_mono (F0.run A outer s H args us vs Q E hr e0 hb r h) fun rs s' z => by
      cases rs with
      | error e => exact False.elim z
      | ok fl => cases fl <;> exact z) (F1.run A outer s H args us vs Q E hr e0 hb r)⟩
end
def ErrQ (H : Hp) (a C : Addr) (fs : List (Str × V)) : Prop := ∃ d : Addr, H a = some (exq a (.ref C) (some d)) ∧ H d = some (.xd fs)
theorem ErrQ.mono {H H' : Hp} {a C : Addr} {fs : List (Str × V)} (h : ErrQ H a C fs) (e : Same H H') : ErrQ H' a C fs := by
  obtain ⟨d, h1, h2⟩ := h
  exact ⟨d, e _ _ h1, e _ _ h2⟩
theorem ErrQ.look {X : Cx} {pins : List (Addr × PySem.Obj)} {σ : L2.St} {H : Hp} {s : Shared} {a C : Addr} {fs : List (Str × V)} (I : Inv X pins σ H s) (h : ErrQ H a C fs) :
    ∃ (o od : PySem.Obj) (mA : Str → Option Value), PySem.W.InstAt s.heap a o C (some od) ∧ (∀ f, RelO (fs.lookup f) (mA f)) ∧ ∀ f, PySem.W.lookIn f od = some (mA f) := by
  obtain ⟨d, h1, h2⟩ := h
  obtain ⟨⟨o, vs, e, z, df⟩, _⟩ := (show ObjOk X.prog X.w H s.heap a (exq a (.ref C) (some d)) from I.hok a _ h1)
  obtain ⟨mA, hns, rel⟩ := (show ObjOk X.prog X.w H s.heap d (.xd fs) from I.hok d _ h2)
  obtain ⟨od, hod, lk⟩ := lookIn_ns hns
  refine ⟨o, od, mA, ⟨e, z.1, ?_, ?_⟩, rel, lk⟩
  · unfold PySem.W.notCls
    rw [df]
  · rw [z.2]
    exact hod
section
variable {X : Cx} {f : Str} {pos : Pos} {e : Expr} {te : TE}
/-- e.f, e a caught error -/
def tErrG (K : PySem.W.Frag) (f : Str) (te : TE) : TE := fun σ H Q => te σ H fun x H1 => ∃ (a C : Addr) (fs : List (Str × V)) (v : V), x = .ref a ∧ ErrC K C ∧ ErrQ H1 a C fs ∧ PySem.W.findIn K (.ref C) f = some none ∧ fs.lookup f = some v ∧ Q v H1
theorem pe_errG (he : PE X e te) (hb : attributeBase e f X.env (eval e X.env) = eval e X.env := by rfl) : PE X (.Attribute e f pos) (tErrG X.K f te) := by
  constructor
  intro pins s σ H Q I h
  refine attr_of hb (thn (he.run pins s σ H _ I h) ?_)
  rintro u s1 ⟨x, H1, I1, rx, a, C, fs, v, rfl, T, eq, no, hl, q⟩
  obtain rfl : u = Value.ref a := rx
  obtain ⟨o, od, mA, J, rel, lk⟩ := eq.look I1
  obtain ⟨u, hu, ru⟩ := RelO.some_of (v := v) (o := mA f) (by rw [← hl]; exact rel f)
  exact HandSPX.exc_get I1.kIn J T.ga T.gg T.oex.exC (PySem.W.findObj_own T.hd no rfl (by rw [lk, hu])) (handed_of ru) ⟨v, H1, I1.tok _, ru, q⟩
/-- isinstance(e, c), e a caught error -/
def rIsQ (K : PySem.W.Frag) : List V → Hp → VK → Prop := fun xs H Q => ∃ (a C : Addr) (fs : List (Str × V)) (c : V) (cv : Value) (b : Bool), xs = [.ref a, c] ∧ ErrC K C ∧ ErrQ H a C fs ∧ ClsV c cv ∧ PySem.W.kitOne K (.ref C) cv = some b ∧ Q (.bl b) H
theorem ErrC.cl {K : PySem.W.Frag} {C : Addr} (T : ErrC K C) : (PySem.W.clsIn K C).isSome = true := by
  obtain ⟨cd, hcd, _⟩ := PySem.W.any_some T.hd
  rw [hcd]
  rfl
theorem call_isQ : CallR X (.builtin "isinstance") (rIsQ X.K) := by
  intro pins s σ H xs us Q I r h
  obtain ⟨a, C, fs, c, cv, b, rfl, T, eq, hc, e, q⟩ := h
  obtain ⟨u1, u2, rfl, r1, r2⟩ := vals2 r
  obtain rfl := hc.eq r2
  obtain rfl : u1 = Value.ref a := r1
  obtain ⟨o, od, mA, J, _, _⟩ := eq.look I
  exact PySem.W.kia_one (PySem.W.kitx_exc T.cl T.ga T.gg T.oex.exC T.kc T.kg T.kt T.km) I.kIn J e (fun z => by cases z) fun tk => ⟨.bl b, H, I.tok tk, rfl, q⟩
/-- isinstance(e, (c, ..)), e a caught error -/
def rIsQT (K : PySem.W.Frag) : List V → Hp → VK → Prop := fun xs H Q => ∃ (a C tp : Addr) (fs : List (Str × V)) (cs : List V) (ws : List Value) (b : Bool), xs = [.ref a, .ref tp] ∧ ErrC K C ∧ ErrQ H a C fs ∧ H tp = some (.tup cs) ∧ Paired ClsV cs ws ∧ PySem.W.kitAny K (.ref C) ws = some b ∧ Q (.bl b) H
theorem call_isQT : CallR X (.builtin "isinstance") (rIsQT X.K) := by
  intro pins s σ H xs us Q I r h
  obtain ⟨a, C, tp, fs, cs, ws, b, rfl, T, eq, ht, hc, e, q⟩ := h
  obtain ⟨u1, u2, rfl, r1, r2⟩ := vals2 r
  obtain rfl : u2 = Value.ref tp := r2
  obtain rfl : u1 = Value.ref a := r1
  obtain ⟨o, od, mA, J, _, _⟩ := eq.look I
  obtain ⟨_, its, rv, to, h1, h2, n, h3⟩ := (show ObjOk X.prog X.w H s.heap tp (.tup cs) from I.hok tp _ ht)
  obtain rfl := ClsV.all hc rv
  obtain ⟨oc, odd, dt, sl⟩ := to
  simp only at h2 h3
  subst h2 h3
  exact PySem.W.kia_tup (PySem.W.kitx_exc T.cl T.ga T.gg T.oex.exC T.kc T.kg T.kt T.km) I.kIn J h1 e (fun z => by cases z) fun tk => ⟨.bl b, H, I.tok tk, rfl, q⟩
end
end Fr

namespace Fr
open PySem PySem.Spec PyProof.Rows L2
/-- behind a comprehension's block: its own env is known, and so its frame -/
def BackC (M : Model) (A : Around) (E : Value → Shared → Prop) (Q : Value → Shared → Prop) (acc : Value) (cenv : Env) (r : Result) (s1 : Shared) : Prop :=
  ∃ m, s1.heap.Ns cenv.locals m ∧ ∀ h, Heap.SameBut cenv.locals s1.heap h → match r with
    | .ok _ => Q acc { s1 with heap := h }
    | .error x => wpAny M A (passOn "comprehension.variables-let-go" x cenv : Sem Value) (fun _ _ => False) E { s1 with heap := h }
theorem comp_back {M : Model} {A : Around} {E : Value → Shared → Prop} {s : Shared} {env : Env} {e : Expr} {scope : Scope} {pos : Pos} {newAcc first : Sem Value} {g : Comprehension} {gs : List Comprehension} {cl : List (Str × Addr)} {Q : Value → Shared → Prop}
    (hcl : clausesOf e = g :: gs) (hs : ∀ x, foldedSetIterable g.iter env x = pure x) (hclos : closureFor scope env = pure cl) (kind : scope.kind = .function) (names : ∀ x ∈ scope.names, x.2 = .local → scope.names.lookup x.1 = some .local)
    (h : wpAny M A first (fun x s1 => wpAny M A (pyIter x) (fun it s2 => wpAny M A newAcc (fun acc s3 => wpAny M A (newFunctionEnv scope env.globals cl [] env.qual none .none (some env))
      (fun cenv s4 => codeAny M A (.compStart e 0 it acc { cenv with scope := relabel scope env }) (BackC M A E Q acc { cenv with scope := relabel scope env }) s4) E s3) E s2) E s1) E s) :
    wpAny M A (comprehension e scope env pos newAcc false first none) Q E s := by
  unfold comprehension
  rw [hclos, hcl]
  refine wpAny_bind (wpAny_mono h ?_ fun _ _ y => y)
  intro x s1 h1
  refine wpAny_bind (wpAny_standAt (wpAny_bind (wpAny_of_eq (hs x) (wpAny_bind (wpAny_holding (wpAny_mono h1 ?_ fun _ _ y => y))))))
  intro it s2 h2
  refine wpAny_standIf (wpAny_bind (wpAny_mono h2 ?_ fun _ _ y => y))
  intro acc s3 h3
  refine wpAny_bind (wpAny_pure (wpAny_bind (wpAny_mono h3 ?_ fun _ _ y => y)))
  intro cenv s4 h4
  dsimp only
  refine wpAny_holding (wpAny_bind (wpAny_attempt (wpAny_holding (wpAny_run (codeAny_mono h4 ?_)))))
  rintro r s5 ⟨m, hn, q⟩
  have known : ∀ x ∈ (scope.names.filter fun x => (x.2 == .local || x.2 == .cell) && x.1 != (".0" : Str)).reverse, x.2 = .local → Env.kindOf { cenv with scope := relabel scope env } x.1 = some .local :=
    fun x hx hl => lookup_relabel_local (names x (List.mem_filter.mp (List.mem_reverse.mp hx)).1 hl)
  cases r with
  | ok f =>
    refine wpAny_bind (wpAny_holding (wpAny_comp_letGo (cenv := { cenv with scope := relabel scope env }) kind _ s5 m known hn ?_))
    intro h5 _ _ sb
    exact wpAny_pure (q h5 sb)
  | error x =>
    refine wpAny_bind (wpAny_holding (wpAny_comp_letGo (cenv := { cenv with scope := relabel scope env }) kind _ s5 m known hn ?_))
    intro h5 _ _ sb
    exact wpAny_mono (q h5 sb) (fun _ _ z => z.elim) fun _ _ y => y
theorem frames_but {B B1 h h1 : Heap} : ∀ {l : List Env}, h.FunFrames B l → (∀ L ∈ frs l, B1.get? L = none) → (∀ L ∈ frs l, ∀ o, h.get? L = some o → h1.get? L = some o) → h1.FunFrames B1 l
  | [], _, _, _ => trivial
  | env :: l, x, n, k => by
    obtain ⟨k1, ⟨L, o, hf, _, ho, hd⟩, r⟩ := x
    have hL : L ∈ frs (env :: l) := List.mem_filterMap.mpr ⟨env, List.mem_cons_self, hf⟩
    have up : ∀ b ∈ frs l, b ∈ frs (env :: l) := fun b hb => by
      obtain ⟨e, he, q⟩ := List.mem_filterMap.mp hb
      exact List.mem_filterMap.mpr ⟨e, List.mem_cons_of_mem _ he, q⟩
    exact ⟨k1, ⟨L, o, hf, n L hL, k L hL o ho, hd⟩, frames_but r (fun b hb => n b (up b hb)) fun b hb => k b (up b hb)⟩
/-- an error that flies in X, from a call -/
def FlyX (X : Cx) (W : WX) (u : Value) (s : Shared) : Prop := XE X W u s ∧ ∃ (B : Heap) (l : List Env) (a : Addr) (Z : PySem.Obj → Prop), u = .ref a ∧ HandSPX.FlyingZ B l a Z s.heap
/-- a block that errors may leave -/
abbrev blkE (X : Cx) (s : Shared) (H : Hp) (scope : Scope) (cenv : Env) (fp : List Addr) (W : WX) : Cx := (X.blk s H scope cenv fp).tr [] (FlyX (X.blk s H scope cenv fp) W)
section
variable {X : Cx} {pins : List (Addr × PySem.Obj)} {σ : L2.St} {H H3 : Hp} {s s3 s1 : Shared} {scope : Scope} {ce : Env} {fp : List Addr} {W : WX}
theorem blkE_pass (ok : (X.blk s3 H3 scope ce fp).Ok) (σ : L2.St) : PassesAt (L2.CX X.prog X.w) (blkE X s3 H3 scope ce fp W) σ (WE W σ) := by
  intro pins H s e s1 I c
  have x := XE.of_call (W := W) I (fun _ _ _ h => h) c
  obtain ⟨a, B, H1, cls, d, rfl, fl, _⟩ := c
  obtain ⟨a1, B1, sI, pins1, σ1, H2, cls1, d1, e1, J, r⟩ := x
  exact ⟨⟨a1, B1, sI, [], σ1, H2, cls1, d1, e1, J.ofTry (X := X.blk s3 H3 scope ce fp) (pins := []) ok, r⟩, B, _, a, _, rfl, fl⟩
/-- the error leaves the block: it is in the air of the def -/
theorem blkE_gone {M : Model} {Q : Value → Shared → Prop} {acc : Value} {u : Value} (hst : X.stack = X.env :: X.outer) (hf : X.env.frame = some X.env.locals) (tk : Takes X W) (hW : ∀ c d σ1 σ2 H, W c d σ1 H → W c d σ2 H)
    (I3 : Inv X pins σ H3 s3) (eL : ce.locals = s3.heap.objs.size) (eF : ce.frame = X.env.frame) (f3 : ∀ b ∈ fp, FpOk X pins H3 b ∧ b < s3.heap.objs.size) (x : FlyX (X.blk s3 H3 scope ce fp) W u s1) :
    notedBy M X.A ce (fun e s2 => BackC M X.A X.xe Q acc ce (.error e) s2) u s1 := by
  obtain ⟨⟨a, B, sI, pins1, σ1, H1, cls, d, rfl, J, nb, up, sky, na, os, ag, w⟩, B0, l0, a0, Z0, ea, fl0⟩ := x
  cases ea
  have fl : HandSPX.FlyingZ B X.stack a (Zc cls d) s1.heap := by
    obtain ⟨_, _, _, oe, vs, T, oT, ts, he, hz, hd, h1, hnT, hTe, hT, hdT, h3⟩ := fl0
    rcases sky with ⟨_, _, _, oe', vs', he', hz', hd', h1'⟩ | fl | ⟨_, _, _, oe', vs', T', oT', ts', he', hz', hd', h1', hnT', hTe', hT', hdT', h3'⟩
    · rw [he] at he'
      cases he'
      rw [hd] at hd'
      cases hd'
      rw [h1] at h1'
      cases h1'
    · exact fl
    · rw [he] at he'
      cases he'
      rw [hd] at hd'
      cases hd'
      rw [h1] at h1'
      cases h1'
      rw [hT] at hT'
      cases hT'
      rw [hdT] at hdT'
      cases hdT'
      rw [h3] at h3'
      cases h3'
  have IX : Inv X pins σ H1 sI := I3.call' (ch := fp) J.os J.base J.hok J.bare fun b hb => ⟨(f3 b hb).1.2.2.2.1, (f3 b hb).1.2.1, (f3 b hb).1.2.2.2.2.1, (f3 b hb).1.2.2.2.2.2⟩
  obtain ⟨m, hn, _⟩ := J.loc
  have hn : sI.heap.Ns ce.locals m := hn
  have nC : ce.locals ∉ frs X.stack := fun hm => by
    obtain ⟨_, o, e, _⟩ := I3.stack.mem hm
    have z := Heap.lt_size e
    rw [eL] at z
    exact absurd z (Nat.lt_irrefl _)
  obtain ⟨oC, es, ep, hoC, dC, kC, fC⟩ := hn
  have bC : B.get? ce.locals = some oC := nb _ _ hoC nC
  have free : H1 ce.locals = none := J.free
  have fo : FpOk X pins H1 ce.locals := by
    rw [eL] at free ⊢
    exact I3.fpOk (Nat.le_refl _) free
  have same : (noteFrame (.ref a) ce : Sem Unit) = noteFrame (.ref a) X.env := by
    unfold noteFrame PySem.frameOf
    rw [eF]
  show wpAny M X.A (noteFrame (.ref a) ce) _ _ s1
  rw [same]
  have hfr : X.A.frames = some (X.env :: X.outer) := by rw [IX.ok.frames, hst]
  have fl' : HandSPX.FlyingZ B (X.env :: X.outer) a (Zc cls d) s1.heap := by rw [← hst]; exact fl
  refine HandSPX.looks_onZ Zc.steady hfr hf fl' ?_
  intro h2 held up2
  have hC2 : h2.get? ce.locals = some oC := held.1 _ _ bC
  refine ⟨m, ⟨oC, es, ep, hC2, dC, kC, fC⟩, ?_⟩
  intro h3 sb
  show wpAny M X.A (passOn "comprehension.variables-let-go" (.ref a) ce : Sem Value) _ _ _
  -- without the block's own dict
  obtain ⟨B1, hB1⟩ : ∃ B1, B1 = PySem.W.hideAll B [ce.locals] := ⟨_, rfl⟩
  obtain ⟨G1, hG1⟩ : ∃ G1, G1 = PySem.W.hideAll sI.heap [ce.locals] := ⟨_, rfl⟩
  have ofB : ∀ b o, B1.get? b = some o → B.get? b = some o ∧ b ≠ ce.locals := fun b o e => by
    rw [hB1] at e
    refine ⟨PySem.W.of_hideAll _ e, fun z => ?_⟩
    rw [z, PySem.W.hideAll_none [ce.locals] List.mem_cons_self] at e
    cases e
  have toB : ∀ b o, B.get? b = some o → b ≠ ce.locals → B1.get? b = some o := fun b o e n => by
    rw [hB1]
    exact PySem.W.hideAll_get _ e (by simpa using n)
  have ofG : ∀ b o, G1.get? b = some o → sI.heap.get? b = some o ∧ b ≠ ce.locals := fun b o e => by
    rw [hG1] at e
    refine ⟨PySem.W.of_hideAll _ e, fun z => ?_⟩
    rw [z, PySem.W.hideAll_none [ce.locals] List.mem_cons_self] at e
    cases e
  have toG : ∀ b o, b ≠ ce.locals → sI.heap.get? b = some o → G1.get? b = some o := fun b o n e => by
    rw [hG1]
    exact PySem.W.hideAll_get _ e (by simpa using n)
  obtain ⟨g0, g1, _, g3, g4, g5⟩ := fo
  have I4 : Inv X pins σ H1 { sI with heap := G1, toks := sI.toks } := IX.turned (t' := sI.toks) toG g0 g1 g3 g4 g5
  obtain ⟨hkb, hen, hl, oe, vs, T, oT, ts, he, hz, hd, h1, hnT, hTe, hT, hdT, hfl⟩ := held
  have none1 : ∀ b, B.get? b = none → B1.get? b = none := fun b e => by
    cases q : B1.get? b with
    | none => rfl
    | some o => rw [(ofB b o q).1] at e; cases e
  have na1 : a ≠ ce.locals := fun z => by
    rw [z, hC2] at he
    cases he
    rw [dC] at hd
    cases hd
  have nT1 : T ≠ ce.locals := fun z => by
    rw [z, hC2] at hT
    cases hT
    rw [dC] at hdT
    cases hdT
  have st3 : B1.StaysIn h3 := fun b o e => (sb.2 b (ofB b o e).2).trans (hkb b o (ofB b o e).1)
  have noF : ∀ L ∈ frs (X.env :: X.outer), B.get? L = none := fun L hL => by
    obtain ⟨e, _⟩ := hl.mem hL
    exact e
  have nF : ∀ L ∈ frs (X.env :: X.outer), L ≠ ce.locals := fun L hL z => nC (by rw [hst, ← z]; exact hL)
  have fr3 : h3.FunFrames B1 (X.env :: X.outer) := frames_but hl (fun L hL => none1 L (noF L hL)) fun L hL o e => (sb.2 L (nF L hL)).trans e
  have tr3 : HandSPX.TracedZ h3 B1 a (Zc cls d) (rawInt X.env.locals) := ⟨oe, vs, T, oT, ts, (sb.2 a na1).trans he, hz, hd, h1, none1 T hnT, hTe, (sb.2 T nT1).trans hT, hdT, hfl⟩
  unfold PySem.passOn
  refine wpAny_bind (wpAny_field ((sb.2 a na1).trans he) hd h1 ?_)
  rw [if_neg (show ¬ ((Value.ref T == Value.none) = true) from by simp)]
  refine wpAny_bind (HandSPX.setFlight_anyZ st3 fr3 tr3 ?_)
  intro h4 k1 k2 k3 k4
  refine wpAny_throw (tk _ _ ⟨a, B1, { sI with heap := G1, toks := sI.toks }, pins, σ, H1, cls, d, rfl, I4, fun b o e hb => toB b o (nb b o (ofG b o e).1 hb) (ofG b o e).2, ?_, .inr (.inr ⟨k1, none1 a hen, ?_, ?_⟩), na, os, ag, hW _ _ _ _ _ w⟩)
  · intro b o e hnf
    obtain ⟨e1, n1⟩ := ofG b o e
    obtain ⟨sl1, e2⟩ := up b o e1 hnf
    obtain ⟨sl2, e3⟩ := up2 b _ e2 hnf
    obtain ⟨sl3, e4⟩ := k4 b _ ((sb.2 b n1).trans e3) hnf
    exact ⟨sl3, e4⟩
  · rw [hst]
    exact k2
  · rw [eF, hf] at k3
    exact k3
end
end Fr

namespace Fr
open PySem PySem.Spec PyProof.Rows L2
section
variable {X : Cx} {tg : Expr} {W : WX}
theorem pe_lcE {elt iter : Expr} {ifs : List Expr} {scope : Scope} {own : List (Str × Nat)} {pos : Pos} {wi : TI} {g : TG} {tt : TT} {te : TE} (hst : X.stack = X.env :: X.outer) (hf : X.env.frame = some X.env.locals) (tk : Takes X W) (hW : ∀ c d σ1 σ2 H, W c d σ1 H → W c d σ2 H)
    (hc : X.calm = true) (hN : X.N.Nodup) (hi : PI X tg iter wi) (ok : BlkOk X.N X.env.scope scope own)
    (hg : ∀ (s : Shared) (H : Hp) (C : Addr) (cl : List (Str × Addr)) (fp : List Addr), PG (blkE X s H scope (compEnvC scope cl C X.env) fp W) tg g)
    (ht : ∀ (s : Shared) (H : Hp) (C : Addr) (cl : List (Str × Addr)) (fp : List Addr), PTs (blkE X s H scope (compEnvC scope cl C X.env) fp W) ifs tt)
    (he : ∀ (s : Shared) (H : Hp) (C : Addr) (cl : List (Str × Addr)) (fp : List Addr), (∀ σ, PassesAt (L2.CX X.prog X.w) (blkE X s H scope (compEnvC scope cl C X.env) fp W) σ (WE W σ)) → PE (blkE X s H scope (compEnvC scope cl C X.env) fp W) elt te)
    (hs : ∀ x, foldedSetIterable iter X.env x = pure x := by intro _; rfl) : PE X (.ListComp elt [⟨tg, iter, ifs, 0⟩] scope pos) (tLc wi g tt te (own.map (·.2))) := by
  constructor
  intro pins s σ H Q I h
  rw [eval_ListComp]
  have free : ∀ y ∈ scope.names, y.2 = .free → ∃ c, X.env.cells.lookup y.1 = some c := fun y hy e => I.ok.has _ (ok.free y hy e)
  refine comp_back rfl hs (closure_ok free) ok.kind (fun y hy e => by rw [ok.uniq y hy, e]) (thn (hi.run pins s σ H _ I h) fun xv s1 hx => thn hx ?_)
  rintro _ s2 ⟨it, fp, tn, J, H2, rfl, I2, T, st2, f2, q⟩
  refine wpAny_newObj_type (newEnv_comp ?_) (by show 0 ≤ sizeLine; decide)
  obtain ⟨D, hD⟩ : ∃ D, D = s2.heap.objs.size := ⟨_, rfl⟩
  rw [← hD]
  have dn : H2 D = none := I2.hok.fresh (Nat.le_of_eq hD.symm)
  obtain ⟨V0, ⟨m0, w0⟩, turn⟩ := q D dn
  generalize hs3 : ({ s2 with heap := s2.heap.push { cls := .type "list", data := .seq ([] : List Value).toArray } } : Shared) = s3
  have h3 : s3.heap = s2.heap.push { cls := .type "list", data := .seq ([] : List Value).toArray } := by rw [← hs3]
  have I3 : Inv X pins σ (upd H2 D (.lst [])) s3 := by
    rw [← hs3]
    refine I2.laid (t' := s2.toks) (fun b o e => Heap.get?_push_of_some _ e) (Nat.le_of_eq hD.symm) ⟨Nat.zero_le _, [], 0, .nil, ?_⟩
    rw [hD]
    exact Heap.get?_push_size _ rfl
  have f3 : ∀ b ∈ fp, FpOk X pins (upd H2 D (.lst [])) b ∧ b < s3.heap.objs.size := by
    intro b hb
    obtain ⟨o, e, _⟩ := T.obj _ _ st2 b hb
    have lt := Heap.lt_size e
    refine ⟨⟨?_, (f2 b hb).2⟩, by rw [h3, Heap.size_push]; exact Nat.lt_succ_of_lt lt⟩
    rw [upd_ne (by rw [hD]; exact Nat.ne_of_lt lt)]
    exact (f2 b hb).1
  have st3 : tn 0 s3.heap := T.keep _ _ _ st2 fun b _ o e => by rw [h3]; exact Heap.get?_push_of_some _ e
  have I4 := block_start I3 ok hN f3
  have pg := hg s3 (upd H2 D (.lst [])) s3.heap.objs.size (cellsFrom (s3.heap.objs.size + 1) scope.names (cloFrom X.env.cells scope.names [])) fp
  have pt := ht s3 (upd H2 D (.lst [])) s3.heap.objs.size (cellsFrom (s3.heap.objs.size + 1) scope.names (cloFrom X.env.cells scope.names [])) fp
  have pe := he s3 (upd H2 D (.lst [])) s3.heap.objs.size (cellsFrom (s3.heap.objs.size + 1) scope.names (cloFrom X.env.cells scope.names [])) fp (blkE_pass I4.ok)
  show codeAny _ _ (.compStart (.ListComp elt [⟨tg, iter, ifs, 0⟩] scope pos) 0 (.ref it) (.ref D) (compEnvC scope (cellsFrom (s3.heap.objs.size + 1) scope.names (cloFrom X.env.cells scope.names [])) s3.heap.objs.size X.env))
    (BackC (model X.prog X.w) X.A X.xe (EP X pins σ Q) (.ref D) (compEnvC scope (cellsFrom (s3.heap.objs.size + 1) scope.names (cloFrom X.env.cells scope.names [])) s3.heap.objs.size X.env)) { s3 with heap := pushCells (s3.heap.push { cls := .type "dict", data := .dict #[] }) scope.names }
  have nfp : ∀ b ∈ fp, (upd H2 D (.lst [])) b = none := fun b hb => (f3 b hb).1.1
  have cL0 : (compEnvC scope (cellsFrom (s3.heap.objs.size + 1) scope.names (cloFrom X.env.cells scope.names [])) s3.heap.objs.size X.env).locals = s3.heap.objs.size := rfl
  have cF0 : (compEnvC scope (cellsFrom (s3.heap.objs.size + 1) scope.names (cloFrom X.env.cells scope.names [])) s3.heap.objs.size X.env).frame = X.env.frame := rfl
  generalize compEnvC scope (cellsFrom (s3.heap.objs.size + 1) scope.names (cloFrom X.env.cells scope.names [])) s3.heap.objs.size X.env = ce at I4 pg pt pe cL0 cF0 ⊢
  generalize upd H2 D (.lst []) = H3 at I3 I4 pg pt pe w0 nfp f3
  generalize hs4 : ({ s3 with heap := pushCells (s3.heap.push { cls := .type "dict", data := .dict #[] }) scope.names } : Shared) = s4 at I4 ⊢
  have st4 : tn 0 s4.heap := T.keep _ _ _ st3 fun b _ o e => by rw [← hs4]; exact pushCells_keeps _ _ _ _ (Heap.get?_push_of_some _ e)
  clear hs4
  have I5 : Inv (blkE X s3 H3 scope ce fp W) [] (wipe σ (own.map (·.2))) H3 s4 := I4.toTry _
  clear I4
  have stay : ∀ {σ1 : L2.St} {H1 : Hp} {s1 : Shared}, Inv (blkE X s3 H3 scope ce fp W) [] σ1 H1 s1 → (∀ b ∈ fp, H1 b = none) → ∀ b ∈ fp, FpOk (blkE X s3 H3 scope ce fp W) [] H1 b := fun {σ1 H1 s1} J1 n1 b hb =>
    ⟨n1 b hb, (J1.ok.exf b hb).1, J1.ok.exfs b hb, .inl hb, fun x c e => (J1.ok.exf b hb).2 x c e, fun z hz => absurd (show z ∈ ([] : List (Addr × PySem.Obj)) ++ [] from hz) (by simp)⟩
  have gone : ∀ u s1, FlyX (X.blk s3 H3 scope ce fp) W u s1 → notedBy (model X.prog X.w) X.A ce (fun e s2 => BackC (model X.prog X.w) X.A X.xe (EP X pins σ Q) (.ref D) ce (.error e) s2) u s1 := fun u s1 x => blkE_gone hst hf tk hW I3 cL0 cF0 f3 x
  refine codeAny_compStart_list ?_ (T.self X.A 0 _ _ _ st4 ?_) <;> (
    refine compLoop_any (fun n s' => ∃ i H', Inv (blkE X s3 H3 scope ce fp W) [] (wipe σ (own.map (·.2))) H' s' ∧ tn i s'.heap ∧ (∀ b ∈ fp, H' b = none) ∧ V0 i n H') ?_ m0 ⟨0, H3, I5, st4, nfp, w0⟩
    rintro n s5 ⟨i, H5, I5, st5, n5, w5⟩
    rcases turn i n H5 w5 with ⟨stop, qq⟩ | ⟨go, Nx, hNx, step⟩
    · refine thnF (T.done (blkE X s3 H3 scope ce fp W) rfl rfl rfl hc i [] s5 _ H5 (fun _ _ => False) I5 (stay I5 n5) st5 stop) ?_
      rintro _ s6 ⟨rfl, I6⟩
      have I7 : Inv X pins σ H5 s6 := I3.call' (ch := fp) I6.os I6.base I6.hok I6.bare fun b hb => ⟨(f3 b hb).1.2.2.2.1, (f3 b hb).1.2.1, (f3 b hb).1.2.2.2.2.1, (f3 b hb).1.2.2.2.2.2⟩
      obtain ⟨m, hn, _⟩ := I6.loc
      have hn1 : s6.heap.Ns ce.locals m := hn
      have free5 : H5 ce.locals = none := I6.free
      have fo : FpOk X pins H5 ce.locals := by
        rw [cL0] at free5 ⊢
        exact I3.fpOk (Nat.le_refl _) free5
      obtain ⟨g0, g1, _, g3, g4, g5⟩ := fo
      exact ⟨m, hn1, fun h sb => ⟨.ref D, H5, I7.turned (t' := s6.toks) (fun b o hb e => (sb.2 b hb).trans e) g0 g1 g3 g4 g5, rfl, qq⟩⟩
    · refine thnF (T.item (blkE X s3 H3 scope ce fp W) rfl rfl rfl hc i [] s5 _ H5 (fun _ _ => False) I5 (stay I5 n5) st5 go) ?_
      rintro _ s6 ⟨u, rfl, h6⟩
      refine thnF h6 ?_
      rintro _ s7 ⟨x, H7, I7, r7, y7, st7, n7⟩
      have K7 := I7.pinned (stay I7 n7) (T.obj _ _ st7)
      refine wpAny_mono (pg.run _ s7 _ H7 x u _ K7 r7 (step x H7 y7)) ?_ gone
      rintro _ s8 ⟨σ8, H8, I8, hw, q8⟩
      refine wpAny_mono (pt.run _ s8 σ8 H8 _ I8 q8) ?_ gone
      rintro b s9 ⟨H9, I9, q9⟩
      have again : ∀ {s' : Shared} {H' : Hp}, Inv (blkE X s3 H3 scope ce fp W) ([] ++ pinsAt fp s7.heap) σ8 H' s' → Nx H' → ∃ m, m < n ∧ ∃ i H', Inv (blkE X s3 H3 scope ce fp W) [] (wipe σ (own.map (·.2))) H' s' ∧ tn i s'.heap ∧ (∀ b ∈ fp, H' b = none) ∧ V0 i m H' := fun {s' H'} J1 nx => by
        obtain ⟨m1, lt, w1⟩ := hNx H' nx
        have there : ∀ b ∈ fp, ∀ o, s7.heap.get? b = some o → s'.heap.get? b = some o ∧ H' b = none := fun b hb o e => by
          obtain ⟨z1, z2, _⟩ := J1.pin (b, o) (List.mem_append_right _ (List.mem_append_right _ (mem_pinsAt hb e)))
          exact ⟨z1, z2⟩
        refine ⟨m1, lt, i + 1, H', (J1.unpinned (pins := [])).weak (by rw [← hw, wipe_length]) (fun j v e => ?_), T.keep _ _ _ st7 fun b hb o e => (there b hb o e).1, fun b hb => ?_, w1⟩
        · rw [← hw] at e
          exact (wipe_some e).1
        · obtain ⟨o, e, _⟩ := T.obj _ _ st7 b hb
          exact (there b hb o e).2
      cases b with
      | false => exact again I9 (by simpa using q9)
      | true =>
        simp only [if_true] at q9 ⊢
        refine wpAny_mono (pe.run _ s9 σ8 H9 _ I9 q9) ?_ gone
        rintro z s10 ⟨yv, H10, I10, r10, acc, hD10, hz10, nx⟩
        exact app_ok (X := blkE X s3 H3 scope ce fp W) I10 hD10 hz10 r10 fun s11 I11 => again I11 nx)
end
end Fr

namespace Fr
open PySem PySem.Spec PyProof.Rows L2
section
variable {X : Cx}
theorem mt_cutPre : MtR X "str.removeprefix" (fun x xs H Q => ∃ a b, x = .str a ∧ xs = [.str b] ∧ a.length ≤ sizeLine ∧ Q (.str (Txt.removeprefix a b)) H) := by
  intro pins s σ H x xs v us Q I rx rs h
  obtain ⟨a, b, rfl, rfl, hz, h⟩ := h
  obtain ⟨t, rfl⟩ := rx
  cases rs with
  | cons r1 rs =>
    cases rs
    obtain ⟨u, rfl⟩ := r1
    exact PySem.SC.removeprefix (fun t' k => ⟨.str _, H, I.tok k, ⟨_, rfl⟩, h⟩) hz
/-- a text of one sign, n times -/
def mulS (c n : Nat) : Str := ⟨(List.replicate n c).toArray⟩
theorem fold_rep (c : Nat) : ∀ (n : Nat) (a : Array Nat), (List.replicate n (#[c] : Array Nat)).foldl (· ++ ·) a = a ++ (List.replicate n c).toArray
  | 0, a => by simp
  | n + 1, a => by
    rw [List.replicate_succ, List.foldl_cons, fold_rep c n, List.replicate_succ]
    apply Array.ext'
    simp
theorem op_mulS : OpR X (binaryOp .Mult) (fun x y H Q => ∃ (c n : Nat), x = .str ⟨#[c]⟩ ∧ y = .int (n : Int) ∧ 2 ≤ n ∧ n ≤ 1000 ∧ Q (.str (mulS c n)) H) := by
  intro pins s σ H x y v u Q I rx ry h
  obtain ⟨c, n, rfl, rfl, h2, hn, q⟩ := h
  obtain ⟨t, rfl⟩ := rx
  obtain ⟨t', rfl⟩ := ry
  have n1 : ¬ ((n : Int) < 1) := by omega
  have e1 : ((n : Int) == 1 || (⟨#[c]⟩ : Str).length == 0) = false := by
    have z : ((n : Int) == 1) = false := by
      rw [beq_eq_false_iff_ne]
      omega
    rw [z]
    rfl
  refine PySem.P.mul_str ?_ (fun _ _ => ?_) (fun _ _ => ?_) ?_
  · rw [decide_eq_false (by omega), decide_eq_false (by omega)]
    rfl
  · have e3 : (((⟨#[c]⟩ : Str).length : Nat) : Int) = 1 := rfl
    rw [e3]
    have z : (1 : Int) ≤ (2 ^ 63 - 1) / (n : Int) := by
      rw [Int.le_ediv_iff_mul_le (by omega)]
      omega
    omega
  · have e3 : (⟨#[c]⟩ : Str).length = 1 := rfl
    rw [e3, Nat.one_mul, Int.toNat_natCast]
    show decide (n > sizeLine) = false
    rw [sizeLine_eq]
    simp
    omega
  · rw [if_neg n1, e1]
    rw [if_neg (by simp), Int.toNat_natCast, fold_rep c n #[]]
    have e4 : (#[] ++ (List.replicate n c).toArray : Array Nat) = (List.replicate n c).toArray := by
      apply Array.ext'
      simp
    rw [e4]
    refine ⟨?_, .str _, H, I.tok _, ⟨_, rfl⟩, q⟩
    show (List.replicate n c).toArray.size ≤ sizeLine
    rw [List.size_toArray, List.length_replicate, sizeLine_eq]
    omega
end
end Fr

namespace Fr
open PySem PySem.NumText TL
/-- the signs of a cell's text -/
def cellL (n : List Nat) (p : List Nat) : List Nat := n ++ 91 :: (joinL [32] (p.map numL) ++ [93])
def letL (c : Nat) : Bool := decide (97 ≤ c) && decide (c ≤ 122)
def nmL (n : List Nat) : Bool := decide (1 ≤ n.length) && decide (n.length ≤ 8) && n.all letL
structure IsC (t : List Nat) (n : List Nat) (p : List Nat) : Prop where
  nm : nmL n = true
  p1 : p ≠ []
  p3 : p.length ≤ 3
  few : ∀ k ∈ p, (numL k).length ≤ 40
  eq : t = cellL n p
theorem nmL_free {n : List Nat} (h : nmL n = true) {s : Nat} (hs : s < 97 ∨ 122 < s) : s ∉ n := fun hm => by
  unfold nmL at h
  rw [Bool.and_eq_true] at h
  have z := List.all_eq_true.mp h.2 s hm
  unfold letL at z
  rw [Bool.and_eq_true, decide_eq_true_iff, decide_eq_true_iff] at z
  omega
theorem nums_free {p : List Nat} {s : Nat} (hs : s < 48 ∨ 57 < s) : ∀ w ∈ p.map numL, s ∉ w := fun w hw => by
  obtain ⟨k, _, rfl⟩ := List.mem_map.mp hw
  exact numL_free hs
theorem par_cell {t n p : List Nat} (h : IsC t n p) : par [91] [] t = some (n, joinL [32] (p.map numL) ++ [93]) := by
  rw [h.eq]
  have e := par_part1 (s := 91) (S := []) (p := n) (rest := joinL [32] (p.map numL) ++ [93]) (acc := []) (nmL_free h.nm (by omega))
  rw [List.nil_append] at e
  exact e
theorem spl_cell {p : List Nat} (h : p ≠ []) : spl [32] 0 [] (joinL [32] (p.map numL)) = p.map numL :=
  spl_join (fun e => h (List.map_eq_nil_iff.mp e)) (nums_free (by omega))
theorem IsC.uniq {t n p n' p' : List Nat} (h : IsC t n p) (h' : IsC t n' p') : n = n' ∧ p = p' := by
  have e := par_cell h
  rw [par_cell h', Option.some.injEq, Prod.mk.injEq] at e
  obtain ⟨e1, e2⟩ := e
  have e3 := List.append_cancel_right e2
  have e4 := spl_cell h.p1
  rw [← e3, spl_cell h'.p1] at e4
  refine ⟨e1.symm, ?_⟩
  have inj : ∀ {a b : List Nat}, a.map numL = b.map numL → a = b := fun {a} => by
    induction a with
    | nil =>
      intro b e
      cases b with
      | nil => rfl
      | cons x b => cases e
    | cons y a ih =>
      intro b e
      cases b with
      | nil => cases e
      | cons x b =>
        rw [List.map_cons, List.map_cons, List.cons.injEq] at e
        rw [numL_inj e.1, ih e.2]
  exact (inj e4).symm
/-- split and joined again -/
theorem join_spl (s : Nat) : ∀ (l acc : List Nat), joinL [s] (spl [s] 0 acc l) = acc ++ l
  | [], acc => by rw [spl_nil, List.append_nil]; rfl
  | c :: l, acc => by
    by_cases h : c = s
    · rw [spl_hit (by unfold pre; rw [h]; simp)]
      have e : ∃ q r, spl [s] 0 [] l = q :: r := by
        cases l with
        | nil => exact ⟨[], [], rfl⟩
        | cons d l =>
          show ∃ q r, (if pre [s] (d :: l) = true then [] :: spl [s] 0 [] l else spl [s] 0 ([] ++ [d]) l) = q :: r
          by_cases hd : pre [s] (d :: l) = true
          · rw [if_pos hd]
            exact ⟨_, _, rfl⟩
          · rw [if_neg hd]
            have := join_spl s l ([] ++ [d])
            cases q : spl [s] 0 ([] ++ [d]) l with
            | nil =>
              rw [q] at this
              simp [joinL] at this
            | cons a b => exact ⟨_, _, rfl⟩
      have ih := join_spl s l []
      obtain ⟨q, r, e⟩ := e
      show joinL [s] (acc :: spl [s] 0 [] l) = _
      rw [e] at ih ⊢
      show acc ++ ([s] ++ joinL [s] (q :: r)) = _
      rw [ih, h]
      rfl
    · rw [spl_miss (pre_of_head [] l h), join_spl s l (acc ++ [c]), List.append_assoc]
      rfl
/-- a numeral as this law has it -/
structure Numeral (w : List Nat) : Prop where
  ne : w ≠ []
  few : w.length ≤ 40
  dig : AllDigits w
  lead : w.head? = some 48 → w = [48]
theorem snoc_ind {P : List Nat → Prop} (h0 : P []) (h1 : ∀ l c, P l → P (l ++ [c])) (l : List Nat) : P l := by
  rw [← List.reverse_reverse l]
  induction l.reverse with
  | nil => exact h0
  | cons c r ih =>
    rw [List.reverse_cons]
    exact h1 _ _ ih
theorem digitsVal_snoc (l : List Nat) (c : Nat) : digitsVal (l ++ [c]) = digitsVal l * 10 + (c - 48) := by
  unfold digitsVal
  rw [List.foldl_append]
  rfl
theorem num_back {w : List Nat} : w ≠ [] → AllDigits w → (w.head? = some 48 → w = [48]) → numL (digitsVal w) = w := by
  refine snoc_ind (P := fun w => w ≠ [] → AllDigits w → (w.head? = some 48 → w = [48]) → numL (digitsVal w) = w) ?_ ?_ w
  · intro h _ _; exact absurd rfl h
  · intro l c ih _ hd hl
    have hc := hd c (by simp)
    rw [digitsVal_snoc]
    cases l with
    | nil =>
      show numL (0 * 10 + (c - 48)) = [c]
      rw [Nat.zero_mul, Nat.zero_add, numL_lt (by omega)]
      congr 1
      omega
    | cons d l =>
      have nz : d ≠ 48 := fun e => by
        have z := hl (by rw [e]; rfl)
        simp at z
      have ih := ih (by simp) (fun x hx => hd x (List.mem_append_left _ hx)) fun e => absurd (Option.some.inj e) nz
      have pos : digitsVal (d :: l) ≠ 0 := fun e => by
        rw [e] at ih
        have z : numL 0 = [48] := numL_lt (by omega)
        rw [z] at ih
        exact nz (List.cons.inj ih).1.symm
      generalize digitsVal (d :: l) = k at ih pos
      rw [numL_step (by omega), show (k * 10 + (c - 48)) / 10 = k by omega, ih, show 48 + (k * 10 + (c - 48)) % 10 = c by omega]
theorem Numeral.back {w : List Nat} (h : Numeral w) : numL (digitsVal w) = w := num_back h.ne h.dig h.lead
theorem numeral_num {k : Nat} (h : (numL k).length ≤ 40) : Numeral (numL k) := by
  refine ⟨numL_ne k, h, numL_digits k, fun e => ?_⟩
  by_cases hk : k < 10
  · rw [numL_lt hk] at e ⊢
    rw [show (48 + k) = 48 from Option.some.inj e]
  · exfalso
    have : ∀ (n k : Nat), k ≤ n → 10 ≤ k → (numL k).head? ≠ some 48 := fun n => by
      induction n with
      | zero => intro k h1 h2; omega
      | succ n ih =>
        intro k h1 h2
        rw [numL_step h2]
        by_cases h3 : k / 10 < 10
        · rw [numL_lt h3]
          intro e
          have := Option.some.inj e
          omega
        · have z := ih (k / 10) (by omega) (by omega)
          cases q : numL (k / 10) with
          | nil => exact absurd q (numL_ne _)
          | cons a b =>
            rw [q] at z
            exact z
    exact this k k (Nat.le_refl _) (by omega) e
/-- what a reader takes for an integer -/
def intOk (w : List Nat) : Bool := let d := if w.head? = some 45 then w.tail else w
  decide (1 ≤ d.length) && decide (d.length ≤ 40) && d.all fun c => decide (48 ≤ c) && decide (c ≤ 57)
def intL (w : List Nat) : Int := if w.head? = some 45 then -((digitsVal w.tail : Nat) : Int) else ((digitsVal w : Nat) : Int)
theorem numeral_int {w : List Nat} (h : Numeral w) : intOk w = true ∧ intL w = (digitsVal w : Nat) := by
  have e : w.head? ≠ some 45 := fun e => by
    cases w with
    | nil => cases e
    | cons c w =>
      have := h.dig c (List.mem_cons_self ..)
      have := Option.some.inj e
      omega
  unfold intOk intL
  simp only [if_neg e]
  refine ⟨?_, trivial⟩
  rw [Bool.and_eq_true, Bool.and_eq_true, decide_eq_true_iff, decide_eq_true_iff]
  refine ⟨⟨?_, h.few⟩, List.all_eq_true.mpr fun c hc => ?_⟩
  · cases w with
    | nil => exact absurd rfl h.ne
    | cons c w => simp
  · have := h.dig c hc
    simp
    exact this
/-- the other way: what a program finds in a text that it shows again -/
theorem isC_of {t n : List Nat} {p : List Nat} (nm : nmL n = true) (p1 : p ≠ []) (p3 : p.length ≤ 3) (lt : ∀ k ∈ p, k < 10 ^ 40) (eq : t = cellL n p) : IsC t n p := ⟨nm, p1, p3, fun k hk => numL_len (by decide) (lt k hk), eq⟩
theorem digitsVal_lt (w : List Nat) : AllDigits w → digitsVal w < 10 ^ w.length := by
  refine snoc_ind (P := fun w => AllDigits w → digitsVal w < 10 ^ w.length) ?_ ?_ w
  · intro _; decide
  · intro l c ih h
    have h1 := ih fun x hx => h x (List.mem_append_left _ hx)
    have hc := h c (by simp)
    rw [digitsVal_snoc, List.length_append, List.length_singleton, Nat.pow_succ]
    omega
theorem int_lt {w : List Nat} (h : intOk w = true) (h0 : 0 ≤ intL w) : (intL w).toNat < 10 ^ 40 := by
  unfold intOk at h
  unfold intL at h0 ⊢
  by_cases e : w.head? = some 45
  · simp only [if_pos e] at h h0 ⊢
    have : 0 < 10 ^ 40 := Nat.pow_pos (by decide)
    omega
  · simp only [if_neg e] at h h0 ⊢
    rw [Bool.and_eq_true, Bool.and_eq_true, decide_eq_true_iff, decide_eq_true_iff] at h
    obtain ⟨⟨_, h2⟩, h3⟩ := h
    have d : AllDigits w := fun c hc => by
      have := List.all_eq_true.mp h3 c hc
      simpa using this
    rw [Int.toNat_natCast]
    exact Nat.lt_of_lt_of_le (digitsVal_lt w d) (Nat.pow_le_pow_right (by decide) h2)
end Fr

namespace Fr
open PySem PySem.Spec PyProof.Rows L2
def topS (i : Nat) : Stmt := PySem.Challenge.pw_farreads_k50_cells_in_texts.main.body.getD i (.Pass ⟨0, 0, 0, 0⟩)
abbrev s_Lbag : Stmt := topS 16
theorem sc_Lbag : FnScope ["_law_script", "_law_blend", "_law_great", "_law_cell_now"] ["_law_script"] (defScope s_Lbag) := ⟨rfl, rfl, rfl, by decide +kernel, rfl, by decide +kernel, by decide +kernel⟩
-- slots: 0 _law_script, 1 _law_blend, 2 _law_great, 3 _law_cell_now
abbrev s_Ldraw : Stmt := topS 17
theorem sc_Ldraw : FnScope ["_law_bag_here", "_law_many", "_law_drawn", "_law_turn", "_law_mixed"] ["_law_bag_here", "_law_many"] (defScope s_Ldraw) := ⟨rfl, rfl, rfl, by decide +kernel, rfl, by decide +kernel, by decide +kernel⟩
-- slots: 0 _law_bag_here, 1 _law_many, 2 _law_drawn, 3 _law_turn, 4 _law_mixed
structure Txt (mg : Str → Option Value) : Prop where
  b_len : mg "len" = none
  b_abs : mg "abs" = none
  b_min : mg "min" = none
  b_range : mg "range" = none
  b_all : mg "all" = none
  b_int : mg "int" = none
  b_str : mg "str" = none
  b_tuple : mg "tuple" = none
  b_isinstance : mg "isinstance" = none
  g_MOST_DIMENSIONS : ∃ u, mg "MOST_DIMENSIONS" = some u ∧ RelV (.int 3) u
  g_MOST_LETTERS : ∃ u, mg "MOST_LETTERS" = some u ∧ RelV (.int 8) u
  g_MOST_DIGITS : ∃ u, mg "MOST_DIGITS" = some u ∧ RelV (.int 40) u
def bagL (g : Addr) (l t b : Int) : List (Key × V) := [(Sum.inr "great", .ref g), (Sum.inr "left", .int l), (Sum.inr "turn", .int t), (Sum.inr "blend", .int b)]
theorem nGL : ¬ (("great" : Str) = "left") := by decide +kernel
theorem nGT : ¬ (("great" : Str) = "turn") := by decide +kernel
theorem nGB : ¬ (("great" : Str) = "blend") := by decide +kernel
theorem nLT : ¬ (("left" : Str) = "turn") := by decide +kernel
theorem nLB : ¬ (("left" : Str) = "blend") := by decide +kernel
theorem nTB : ¬ (("turn" : Str) = "blend") := by decide +kernel
theorem inr_ne {a b : Str} (h : ¬ a = b) : ¬ ((Sum.inr a : Key) = Sum.inr b) := fun e => h (Sum.inr.inj e)
section
variable {g : Addr} {l t b : Int}
theorem bag_great : valV (bagL g l t b) (Sum.inr ("great" : Str)) = some (.ref g) := valV_pos rfl
theorem bag_left : valV (bagL g l t b) (Sum.inr ("left" : Str)) = some (.int l) := (valV_neg (inr_ne nGL)).trans (valV_pos rfl)
theorem bag_turn : valV (bagL g l t b) (Sum.inr ("turn" : Str)) = some (.int t) := (valV_neg (inr_ne nGT)).trans ((valV_neg (inr_ne nLT)).trans (valV_pos rfl))
theorem bag_blend : valV (bagL g l t b) (Sum.inr ("blend" : Str)) = some (.int b) := (valV_neg (inr_ne nGB)).trans ((valV_neg (inr_ne nLB)).trans ((valV_neg (inr_ne nTB)).trans (valV_pos rfl)))
theorem bag_putL {x : Int} : putK (bagL g l t b) (Sum.inr ("left" : Str)) (.int x) = bagL g x t b := by
  unfold putK
  rw [if_pos (by rw [valV_any, bag_left]; rfl)]
  unfold bagL
  rw [List.map_cons, List.map_cons, List.map_cons, List.map_cons, if_neg (inr_ne nGL), if_pos rfl, if_neg (inr_ne fun e => nLT e.symm), if_neg (inr_ne fun e => nLB e.symm)]
  rfl
theorem bag_putT {x : Int} : putK (bagL g l t b) (Sum.inr ("turn" : Str)) (.int x) = bagL g l x b := by
  unfold putK
  rw [if_pos (by rw [valV_any, bag_turn]; rfl)]
  unfold bagL
  rw [List.map_cons, List.map_cons, List.map_cons, List.map_cons, if_neg (inr_ne nGT), if_neg (inr_ne nLT), if_pos rfl, if_neg (inr_ne fun e => nTB e.symm)]
  rfl
theorem bag_merge {x y z : V} {g : Addr} : mergeK [] [(Sum.inr ("great" : Str), V.ref g), (Sum.inr ("left" : Str), x), (Sum.inr ("turn" : Str), y), (Sum.inr ("blend" : Str), z)] = [(Sum.inr ("great" : Str), V.ref g), (Sum.inr ("left" : Str), x), (Sum.inr ("turn" : Str), y), (Sum.inr ("blend" : Str), z)] := by
  have h1 : putK ([] : List (Key × V)) (Sum.inr ("great" : Str)) (V.ref g) = [(Sum.inr ("great" : Str), V.ref g)] := putK_new _ rfl
  have h2 : putK [(Sum.inr ("great" : Str), V.ref g)] (Sum.inr ("left" : Str)) x = [(Sum.inr ("great" : Str), V.ref g), (Sum.inr ("left" : Str), x)] := putK_new _ (valV_neg (inr_ne nGL))
  have h3 : putK [(Sum.inr ("great" : Str), V.ref g), (Sum.inr ("left" : Str), x)] (Sum.inr ("turn" : Str)) y = [(Sum.inr ("great" : Str), V.ref g), (Sum.inr ("left" : Str), x), (Sum.inr ("turn" : Str), y)] := putK_new _ ((valV_neg (inr_ne nGT)).trans (valV_neg (inr_ne nLT)))
  have h4 : putK [(Sum.inr ("great" : Str), V.ref g), (Sum.inr ("left" : Str), x), (Sum.inr ("turn" : Str), y)] (Sum.inr ("blend" : Str)) z = [(Sum.inr ("great" : Str), V.ref g), (Sum.inr ("left" : Str), x), (Sum.inr ("turn" : Str), y), (Sum.inr ("blend" : Str), z)] := putK_new _ ((valV_neg (inr_ne nGB)).trans ((valV_neg (inr_ne nLB)).trans (valV_neg (inr_ne nTB))))
  unfold mergeK
  rw [List.foldl_cons, List.foldl_cons, List.foldl_cons, List.foldl_cons, List.foldl_nil]
  show putK (putK (putK (putK [] _ _) _ _) _ _) _ _ = _
  rw [h1, h2, h3, h4]
end
/-- a statement, up to what holds behind it -/
def tCsq (t : TS) : TS := fun D σ H => ∃ N : L2.St → Hp → Prop, (∀ σ H, N σ H → D.nx σ H) ∧ t { D with nx := N } σ H
theorem ps_csq {X : Cx} {st : Stmt} {t : TS} (h : PS X st t) : PS X st (tCsq t) := ⟨fun pins s σ H D I ⟨N, hN, q⟩ => thn (h.run pins s σ H _ I q) fun f s2 q2 => by
  cases f with
  | next =>
    obtain ⟨σ3, H3, I3, n3⟩ := q2
    exact ⟨σ3, H3, I3, hN _ _ n3⟩
  | cont => exact q2
  | brk => exact q2
  | ret v => exact q2⟩
/-- the bag at b, its list at g -/
structure BagOk (H : Hp) (b g : Addr) (m : Nat) : Prop where
  ex : ∃ (ns : List Int) (l t z : Int), H b = some (.dK (bagL g l t z)) ∧ H g = some (.lst (ns.map V.int)) ∧ 0 ≤ l ∧ (∀ n ∈ ns, 0 ≤ n) ∧ ns.length ≤ 1000 ∧ 0 ≤ t ∧ t ≤ m ∧ 0 ≤ z ∧ z < 2 ^ 61
structure DrB (b g : Addr) (m : Nat) (H H' : Hp) : Prop where
  ne : ∀ a, a ≠ b → a ≠ g → H' a = H a
  ok : BagOk H' b g m
section
variable {P : Program} {w : World} {K : PySem.W.Frag} {mg : Str → Option Value} {base : Heap}
def spBag (K : PySem.W.Frag) : Sp := fun vs H Q _ => ∃ (a : Addr) (ns : List Int), vs = [.ref a] ∧ SqL K H a (ns.map V.int) ∧ ns.length ≤ 63 ∧ ∀ b g H', H b = none → H g = none → Same H H' → BagOk H' b g 0 → Q (.ref b) H'
theorem pos18 : (0 : Int) < 10 ^ ((18 : Int).toNat) + 9 := by decide +kernel
theorem posM : (0 : Int) < 2305843009213693951 := by decide
theorem nat_lt_of {x : Int} {n : Nat} (h0 : 0 ≤ x) (h : x < 2 ^ n) : x.natAbs < 2 ^ n := by
  have e : (x.natAbs : Int) = x := Int.natAbs_of_nonneg h0
  have h' : (x.natAbs : Int) < ((2 ^ n : Nat) : Int) := by
    rw [e]
    push_cast
    exact h
  exact Int.ofNat_lt.mp h'
theorem smut2 {B H : Hp} {p : Addr} {o : HO} (e : Same B H) (n : B p = none) : Same B (upd H p o) := fun c u h => by
  rw [upd_ne (ne_of_none h n)]
  exact e c u h
theorem ok_bag {f : Addr} {fd : FuncData} (F : Fun K "_law_bag" "_law_bag" s_Lbag f fd) (T : Txt mg) : FnOk P w K mg base CX0 1 f fd ["_law_script"] (spBag K) := by
  refine F.ok sc_Lbag (fun vs H Q E h => ?_) (fun cdv A outer sh H vs Q E hr h => ?_)
  · obtain ⟨a, ns, rfl, _⟩ := h
    rfl
  · obtain ⟨a, ns, rfl, ha, hl, q⟩ := h
    refine ⟨_, (pss_cons (ps_par (i := 1) (j := 2) (by rfl) sc_Lbag.nd rfl rfl (by decide) rfl rfl (pa_cons pe_int (pa_cons (pe_lst pa_nil) pa_nil)) (by rfl))
  (pss_cons (ps_for PassesOwn.never rfl (pi_list (pv 0)) (pg_name (i := 3) sc_Lbag.nd rfl (by first | exact Or.inl rfl | exact Or.inr rfl))
    (pss_cons (ps_set (i := 1) sc_Lbag.nd rfl (by first | exact Or.inl rfl | exact Or.inr rfl) (pe_op op_mod (pe_op op_add (pe_op op_mulW (pv 1) pe_int) (pv 3)) pe_int))
    (pss_one (ps_if (pt_cmpR op_ge (pe_callB call_abs (by rfl) T.b_abs (by decide +kernel) (pa_cons (pv 3) pa_nil)) (pe_op op_pow pe_int pe_int) (nomark _))
      (pss_one (ps_expr (pe_bm PySem.F.plainAttrs_list PySem.F.slot_list_append PySem.F.type_list_append mt_append (pv 2) (pa_cons (pe_callB call_abs (by rfl) T.b_abs (by decide +kernel) (pa_cons (pv 3) pa_nil)) pa_nil))))
      pss_nil))))
  (pss_one (ps_ret (pe_disp (pps_cons pe_str (pv 2) (pps_cons pe_str pe_int (pps_cons pe_str pe_int (pps_cons pe_str (pv 1) pps_nil)))) (by rfl) (by rfl) (fun z => by cases z) (by decide)))))), ?_⟩
    refine ⟨Nat.zero_le _, fun g hg => ⟨_, _, rfl, ?_⟩⟩
    refine ⟨_, rfl, a, rfl, ⟨_, sql (snew hg) ha⟩, for_it (walk_list (K := K) (a := a) (xs := ns.map V.int)) (fun i σ H' => ∃ (z : Int) (y3 : Option V) (gs : List Int), σ = [some (.ref a), some (.int z), some (.ref g), y3] ∧ 0 ≤ z ∧ z < 2 ^ 61 ∧ H' g = some (.lst (gs.map V.int)) ∧ (∀ n ∈ gs, 0 ≤ n) ∧ gs.length ≤ i ∧ Same H H')
      ⟨11, none, [], rfl, by decide, by decide, upd_same, (by intro n hn; cases hn), Nat.le_refl _, snew hg⟩ (fun i σ H' _ ⟨_, _, _, _, _, _, _, _, _, s⟩ => sql s ha) ?_ ?_⟩
    · rintro i y σ _ H2 hi ⟨z, y3, gs, rfl, z0, z1, hgs, g0, gl, s⟩ ⟨rfl, hy⟩
      rw [List.getElem?_map] at hy
      obtain ⟨n, hn, rfl⟩ := Option.map_eq_some_iff.mp hy
      rw [List.length_map] at hi
      refine ⟨_, rfl, z, 1000003, rfl, rfl, wide_mul (a := 61) (b := 100) (nat_lt_of z0 z1) (by decide) (by decide) (by decide) (by decide), _, rfl, _, _, rfl, rfl, _, _, rfl, rfl, posM, ?_⟩
      refine ⟨_, rfl, n, rfl, 10, 18, rfl, rfl, ⟨by decide, by decide, by decide⟩, _, _, rfl, rfl, _, rfl, ?_⟩
      have e0 := Int.emod_nonneg (z * 1000003 + n) (Int.ne_of_gt posM)
      have e1 : (z * 1000003 + n) % 2305843009213693951 < 2 ^ 61 := Int.lt_trans (Int.emod_lt_of_pos _ posM) (by decide)
      refine ite2 (fun _ => ?_) (fun _ => ?_)
      · refine ⟨_, rfl, Or.inl ⟨rfl, _, Or.inl (Or.inl hgs)⟩, _, rfl, n, rfl, g, _, _, rfl, rfl, hgs, small1000 (by rw [List.length_map]; omega), ?_⟩
        refine ⟨_, _, gs ++ [if n < 0 then -n else n], rfl, e0, e1, by rw [upd_same, List.map_append]; rfl, ?_, by rw [List.length_append]; show gs.length + 1 ≤ _; omega, smut2 s hg⟩
        intro x hx
        rcases List.mem_append.mp hx with h | h
        · exact g0 x h
        · rw [List.mem_singleton.mp h]
          split <;> omega
      · exact ⟨_, _, gs, rfl, e0, e1, hgs, g0, by omega, s⟩
    · rintro σ H2 ⟨z, y3, gs, rfl, z0, z1, hgs, g0, gl, s⟩
      rw [List.length_map] at gl
      refine fun b hb => ⟨_, rfl, _, rfl, ?_⟩
      refine ⟨upd_same, [(Sum.inr ("great" : Str), .ref g), (Sum.inr ("left" : Str), .int 0), (Sum.inr ("turn" : Str), .int 0), (Sum.inr ("blend" : Str), .int z)], rfl, by show 4 ≤ 15; decide, ?_⟩
      rw [bag_merge]
      have ngb : g ≠ b := ne_of_none hgs hb
      refine q b g _ (free_of s hb) hg (smut2 (same_tr s (snew hb)) (free_of s hb)) ⟨gs, 0, 0, z, upd_same, ?_, by decide, g0, by omega, by decide, by decide, z0, z1⟩
      rw [upd_ne ngb, upd_ne ngb]
      exact hgs
def spDraw : Sp := fun vs H Q _ => ∃ (b g : Addr) (lim : Int) (m : Nat), vs = [.ref b, .int lim] ∧ BagOk H b g m ∧ m ≤ 2 ^ 60 ∧ 0 < lim ∧ lim.natAbs < 2 ^ 200 ∧ ∀ d H', 0 ≤ d → d < lim → DrB b g (m + 1) H H' → Q (.int d) H'
theorem ok_draw {f : Addr} {fd : FuncData} (F : Fun K "_law_draw" "_law_draw" s_Ldraw f fd) (T : Txt mg) : FnOk P w K mg base CX0 1 f fd ["_law_bag_here", "_law_many"] spDraw := by
  refine F.ok sc_Ldraw (fun vs H Q E h => ?_) (fun cdv A outer sh H vs Q E hr h => ?_)
  · obtain ⟨b, g, lim, m, rfl, _⟩ := h
    rfl
  · obtain ⟨b, g, lim, m, rfl, BO, hm, l0, l1, q⟩ := h
    have hu := hu_of hr
    refine ⟨_, (pss_cons (ps_csq (ps_if (PW.pt (pw_and (pt_cmpR op_lt (pe_dget hu (pv 0) pe_str (fun _ _ => rfl)) (pv 1) (nomark _)) (pw_and1 (pt_cmpR op_gt (pe_callB call_len_seq (by rfl) T.b_len PySem.boot_len (pa_cons (pe_dget hu (pv 0) pe_str (fun _ _ => rfl)) pa_nil)) pe_int (nomark _)))))
    (pss_one (ps_dput hu (pv 0) pe_str (pe_bm PySem.F.plainAttrs_list PySem.F.slot_list_pop PySem.F.type_list_pop mt_popAt (pe_dget hu (pv 0) pe_str (fun _ _ => rfl)) (pa_cons pe_int pa_nil)) rfl))
    pss_nil))
  (pss_cons (ps_if (pt_cmpR op_ge (pe_dget hu (pv 0) pe_str (fun _ _ => rfl)) (pv 1) (nomark _))
    (pss_cons (ps_set (i := 2) sc_Ldraw.nd rfl (by first | exact Or.inl rfl | exact Or.inr rfl) (pe_op op_mod (pe_dget hu (pv 0) pe_str (fun _ _ => rfl)) (pv 1)))
    (pss_cons (ps_dput hu (pv 0) pe_str (pe_op op_fdivW (pe_dget hu (pv 0) pe_str (fun _ _ => rfl)) (pv 1)) rfl)
    (pss_one (ps_ret (pv 2)))))
    pss_nil)
  (pss_cons (ps_daug hu (pv 0) pe_str pe_int in_add (fun _ _ _ => rfl))
  (pss_cons (ps_set (i := 3) sc_Ldraw.nd rfl (by first | exact Or.inl rfl | exact Or.inr rfl) (pe_dget hu (pv 0) pe_str (fun _ _ => rfl)))
  (pss_cons (ps_set (i := 4) sc_Ldraw.nd rfl (by first | exact Or.inl rfl | exact Or.inr rfl) (pe_op op_add (pe_op op_mulW (pe_op op_add (pe_dget hu (pv 0) pe_str (fun _ _ => rfl)) (pe_op op_mulW pe_int (pv 3))) (pe_op op_powW (pe_op op_add (pv 3) pe_int) pe_int)) (pe_op op_mulW pe_int (pv 3))))
  (pss_one (ps_ret (pe_op op_mod (pe_op op_fdivW (pe_op op_mod (pe_op op_powW (pe_op op_mod (pv 4) pe_int) pe_int) (pe_op op_add (pe_op op_pow pe_int pe_int) pe_int)) pe_int) (pv 1))))))))), ?_⟩
    have ngb : g ≠ b := by
      obtain ⟨ns, l, t, z, hb, hg, _⟩ := BO.ex
      intro e
      rw [e, hb] at hg
      cases hg
    -- up to a left, whatever the first if does
    refine ⟨fun σ H' => σ = [some (.ref b), some (.int lim), none, none, none] ∧ DrB b g m H H', ?_, ?_⟩
    · rintro σ H2 ⟨rfl, D⟩
      obtain ⟨ns, l, t, z, hb, hg, n0, n1, n2, t0, t1, z0, z1⟩ := D.ok.ex
      have hgl := DGet.k (k := Sum.inr ("left" : Str)) hb
      rw [bag_left] at hgl
      refine ⟨_, rfl, b, .int l, rfl, hgl, _, rfl, l, lim, rfl, rfl, decide (lim ≤ l), rfl, ?_⟩
      refine ite2 (fun _ => ?_) (fun _ => ?_)
      · refine ⟨_, rfl, b, .int l, rfl, hgl, _, rfl, l, lim, rfl, rfl, l0, ?_⟩
        refine ⟨_, rfl, b, .int l, rfl, hgl, _, rfl, l, lim, rfl, rfl, wide_div l0 l1 (by decide) (by decide), _, rfl, b, _, rfl, DPut.k (k := Sum.inr ("left" : Str)) hb (by show 4 < sizeLine; decide), ?_⟩
        rw [bag_putL]
        refine ⟨_, rfl, q _ _ (Int.emod_nonneg _ (Int.ne_of_gt l0)) (Int.emod_lt_of_pos _ l0) ⟨fun a h1 h2 => by rw [upd_ne h1]; exact D.ne a h1 h2, ns, _, t, z, upd_same, by rw [upd_ne ngb]; exact hg, Int.ediv_nonneg n0 (Int.le_of_lt l0), n1, n2, t0, by omega, z0, z1⟩⟩
      · have hgt := DGet.k (k := Sum.inr ("turn" : Str)) hb
        rw [bag_turn] at hgt
        refine ⟨_, rfl, b, .int t, rfl, hgt, t, 1, rfl, rfl, _, DPut.k (k := Sum.inr ("turn" : Str)) hb (by show 4 < sizeLine; decide), ?_⟩
        rw [bag_putT]
        have hb2 : (upd H2 b (.dK (bagL g l (t + 1) z))) b = some (.dK (bagL g l (t + 1) z)) := upd_same
        have D2 : DrB b g (m + 1) H (upd H2 b (.dK (bagL g l (t + 1) z))) := ⟨fun a h1 h2 => by rw [upd_ne h1]; exact D.ne a h1 h2, ns, l, t + 1, z, upd_same, by rw [upd_ne ngb]; exact hg, n0, n1, n2, by omega, by omega, z0, z1⟩
        generalize upd H2 b (.dK (bagL g l (t + 1) z)) = H3 at hb2 D2 ⊢
        have hgt3 := DGet.k (k := Sum.inr ("turn" : Str)) hb2
        rw [bag_turn] at hgt3
        have hgb3 := DGet.k (k := Sum.inr ("blend" : Str)) hb2
        rw [bag_blend] at hgb3
        have w0 : (t + 1 + 29).natAbs < 2 ^ 1000000 := Nat.lt_of_lt_of_le (m := 2 ^ 100) (by omega) (Nat.pow_le_pow_right (by decide) (by decide))
        have w3 : (t + 1 + 29).natAbs < 2 ^ 100 := by omega
        have w4 : ((t + 1 + 29) ^ ((2 : Int).toNat)).natAbs < 2 ^ 200 := by
          rw [show (2 : Int).toNat = 2 from rfl, Int.pow_succ, Int.pow_succ, Int.pow_zero, Int.one_mul]
          exact wide_lt (a := 100) (b := 100) w3 w3
        refine ⟨_, rfl, b, .int (t + 1), rfl, hgt3, ?_⟩
        refine ⟨_, rfl, b, .int z, rfl, hgb3, _, rfl, 17, _, rfl, rfl, wide_mul (a := 100) (b := 100) (by decide) (by omega) (by decide) (by decide) (by decide), _, _, rfl, rfl, _, rfl, _, _, rfl, rfl, _, 2, rfl, rfl, ⟨by decide, by decide, w0⟩, _, _, rfl, rfl, wide_mul (a := 200) (b := 200) (by omega) w4 (by decide) (by decide) (by decide), _, rfl, 7919, _, rfl, rfl, wide_mul (a := 100) (b := 100) (by decide) (by omega) (by decide) (by decide) (by decide), _, _, rfl, rfl, ?_⟩
        have w5 : ∀ mx : Int, (mx % 2305843009213693951).natAbs < 2 ^ 1000000 := fun mx => by
          have x0 := Int.emod_nonneg mx (Int.ne_of_gt posM)
          have x1 := Int.emod_lt_of_pos mx posM
          exact Nat.lt_of_lt_of_le (m := 2 ^ 100) (by omega) (Nat.pow_le_pow_right (by decide) (by decide))
        refine ⟨_, rfl, _, _, rfl, rfl, posM, _, 3, rfl, rfl, ⟨by decide, by decide, w5 _⟩, 10, 18, rfl, rfl, ⟨by decide, by decide, by decide⟩, _, _, rfl, rfl, _, _, rfl, rfl, pos18, _, _, rfl, rfl, wide_div (b := 100) (by decide) (by decide) (by decide) (by decide), _, rfl, _, lim, rfl, rfl, l0, ?_⟩
        exact q _ _ (Int.emod_nonneg _ (Int.ne_of_gt l0)) (Int.emod_lt_of_pos _ l0) D2
    · obtain ⟨ns, l, t, z, hb, hg, n0, n1, n2, t0, t1, z0, z1⟩ := BO.ex
      have hgl := DGet.k (k := Sum.inr ("left" : Str)) hb
      rw [bag_left] at hgl
      have hgg := DGet.k (k := Sum.inr ("great" : Str)) hb
      rw [bag_great] at hgg
      refine ⟨_, rfl, b, .int l, rfl, hgl, _, rfl, l, lim, rfl, rfl, decide (l < lim), rfl, ?_⟩
      have D0 : DrB b g m H H := ⟨fun _ _ _ => rfl, BO⟩
      refine ite2 (fun _ => ?_) (fun _ => ?_)
      · refine ⟨_, rfl, b, .ref g, rfl, hgg, g, _, rfl, Or.inl (Or.inl (Or.inl hg)), _, 0, rfl, rfl, _, rfl, ?_⟩
        refine ite2 (fun h0 => ?_) (fun _ => ?_)
        · have h0 := of_decide_eq_true h0
          cases ns with
          | nil => exact absurd h0 (by decide)
          | cons n ns =>
            refine ⟨_, rfl, b, .ref g, rfl, hgg, Or.inl ⟨rfl, _, Or.inl (Or.inl hg)⟩, g, _, 0, 0, .int n, rfl, rfl, hg, by decide, by decide, ?_, rfl, ?_⟩
            · show seqIndex? 0 (List.map V.int ns).length.succ = some 0
              unfold seqIndex?
              simp
            · have nbg : b ≠ g := ngb.symm
              refine ⟨_, rfl, b, _, rfl, DPut.k (k := Sum.inr ("left" : Str)) (kvs := bagL g l t z) (by rw [upd_ne nbg]; exact hb) (by show 4 < sizeLine; decide), ?_⟩
              rw [bag_putL]
              refine ⟨rfl, fun a h1 h2 => by rw [upd_ne h1, upd_ne h2], ns, n, t, z, upd_same, ?_, n1 n List.mem_cons_self, fun x hx => n1 x (List.mem_cons_of_mem _ hx), by rw [List.length_cons] at n2; omega, t0, t1, z0, z1⟩
              rw [upd_ne ngb, upd_same]
              rfl
        · exact ⟨rfl, D0⟩
      · exact ⟨rfl, D0⟩
end
end Fr

namespace Fr
open PySem PySem.Spec PyProof.Rows L2
abbrev s_ReadError_init : Stmt := inClass (topS 1) 0
theorem sc_ReadError_init : FnScope ["self", "value"] ["self", "value"] (defScope s_ReadError_init) := ⟨rfl, rfl, rfl, by decide +kernel, rfl, by decide +kernel, by decide +kernel⟩
-- slots: 0 self, 1 value
section
variable {P : Program} {w : World} {K : PySem.W.Frag} {mg : Str → Option Value} {base : Heap}
/-- self.value = value, the error being made -/
def spErrI (K : PySem.W.Frag) : Sp := fun vs H Q _ => ∃ (a C : Addr) (y : V), vs = [.ref a, y] ∧ OexC K C ∧ H a = some (exo a C none) ∧ PySem.W.findIn K (.ref C) "value" = some none ∧ ∀ dx, H dx = none → dx ≠ a → Q .non (upd (upd H dx (exd dx [(("value" : Str), y)])) a (exo a C (some dx)))
theorem ok_errI {f : Addr} {fd : FuncData} (F : Fun K "__init__" "ReadError.__init__" s_ReadError_init f fd) : FnOk P w K mg base CX0 1 f fd ["self", "value"] (spErrI K) := by
  refine F.ok sc_ReadError_init (fun vs H Q E h => ?_) (fun cdv A outer sh H vs Q E hr h => ?_)
  · obtain ⟨a, C, y, rfl, _⟩ := h
    rfl
  · obtain ⟨a, C, y, rfl, T, ha, no, q⟩ := h
    exact ⟨_, pss_one (ps_ost (pv 0) (pv 1)), _, rfl, _, rfl, a, C, rfl, T, no, Or.inl ⟨ha, q⟩⟩
/-- an error class of the program, to be raised -/
structure MkR (P : Program) (w : World) (K : PySem.W.Frag) (mg : Str → Option Value) (base : Heap) (k : Nat) (x : Str) (C : Addr) : Prop where
  err : ErrC K C
  no : PySem.W.findIn K (.ref C) "value" = some none
  ex : ∃ (f : Addr) (fd : FuncData) (ps : List Str), PySem.W.findIn K (.ref C) "__init__" = some (some (.ref f)) ∧ PySem.W.typeIn K (.ref f) = some (.type "function") ∧ FnOk P w K mg base CX0 k f fd ps (spErrI K) ∧ Binds K fd ps [] ∧ mg x = some (.ref C)
theorem ps_err {X : Cx} {W : WX} {k j : Nat} {x : Str} {C : Addr} {e : Expr} {t : TA} {p pos pos' : Pos} (c : MkR X.prog X.w X.K X.mg X.base k x C) (hc : X.calm = true) (tk : Takes X W) (hr : Room j X.A) (hk : k + 1 ≤ j) (hg : Gl X x) (ha : PA X [e] t)
    (hdb : (x == ("__debug__" : Str)) = false := by decide) (he : starEach [e] X.env = (false, eval e X.env) :: starEach [] X.env := by rfl) : PS X (.Raise (some (.Call (.Name x p) [e] [] pos)) none pos') (fun _ σ H => tMkO C (spErrI X.K) [] t σ H fun cls d H' => W cls d σ H') := by
  obtain ⟨f, fd, ps, i, ty, F, b, hm⟩ := c.ex
  exact ps_raise hc tk (pmk_oex c.err.oex i ty F (hr.mono hk) b .nil pass0 hg hm ha hdb he rfl)
theorem err_raise {C : Addr} {y : V} {Q : XK} {H1 : Hp} {vs : List V} (e : vs = [y]) (T : OexC K C) (no : PySem.W.findIn K (.ref C) "value" = some none) (q : ∀ d, H1 d = none → Q (.ref C) (some d) (upd H1 d (.xd [(("value" : Str), y)]))) :
    vs.length ≤ 1000 ∧ ∀ a, H1 a = none → spErrI K (.ref a :: (vs ++ [])) (upd H1 a (exo a C none))
      (fun v H2 => v = .non ∧ ∃ (d : Addr) (fs : List (Str × V)), H2 a = some (exo a C (some d)) ∧ H2 d = some (exd d fs) ∧ H1 d = none ∧ Q (.ref C) (some d) (upd (L2.del H2 a) d (.xd fs))) (fun _ _ _ => False) := by
  subst e
  refine ⟨(by show 1 ≤ 1000; decide), fun a ha => ⟨a, C, y, rfl, T, upd_same, no, fun dx hdx ne => ⟨rfl, dx, _, upd_same, by rw [upd_ne ne]; exact upd_same, ?_, ?_⟩⟩⟩
  · rw [upd_ne ne] at hdx
    exact hdx
  · have hd : H1 dx = none := by
      rw [upd_ne ne] at hdx
      exact hdx
    have e : upd (L2.del (upd (upd (upd H1 a (exo a C none)) dx (exd dx [(("value" : Str), y)])) a (exo a C (some dx))) a) dx (.xd [(("value" : Str), y)]) = upd H1 dx (.xd [(("value" : Str), y)]) := by
      funext b
      by_cases h1 : b = dx
      · rw [h1, upd_same, upd_same]
      · rw [upd_ne h1, upd_ne h1]
        by_cases h2 : b = a
        · rw [h2, del_same, ha]
        · rw [del_ne h2, upd_ne h2, upd_ne h1, upd_ne h2]
    rw [e]
    exact q dx hd
end
end Fr

namespace Fr
open PySem PySem.Spec PyProof.Rows L2 TL
abbrev s_is_name : Stmt := topS 7
theorem sc_is_name : FnScope ["text", "letter"] ["text"] (defScope s_is_name) := ⟨rfl, rfl, rfl, by decide +kernel, rfl, by decide +kernel, by decide +kernel⟩
-- slots: 0 text, 1 letter
abbrev s_show_cell : Stmt := topS 9
theorem sc_show_cell : FnScope ["cell", "name", "point", "place"] ["cell"] (defScope s_show_cell) := ⟨rfl, rfl, rfl, by decide +kernel, rfl, by decide +kernel, by decide +kernel⟩
-- slots: 0 cell, 1 name, 2 point, 3 place
abbrev s_read_integer : Stmt := topS 14
theorem sc_read_integer : FnScope ["word", "text", "digits", "sign"] ["word", "text"] (defScope s_read_integer) := ⟨rfl, rfl, rfl, by decide +kernel, rfl, by decide +kernel, by decide +kernel⟩
-- slots: 0 word, 1 text, 2 digits, 3 sign
abbrev s_read_integers : Stmt := topS 13
theorem sc_read_integers : FnScope ["part", "text", "word"] ["part", "text"] (defScope s_read_integers) := ⟨rfl, rfl, rfl, by decide +kernel, rfl, by decide +kernel, by decide +kernel⟩
-- slots: 0 part, 1 text, 2 word
abbrev s_read_cell : Stmt := topS 12
theorem sc_read_cell : FnScope ["text", "name", "_", "rest", "point"] ["text"] (defScope s_read_cell) := ⟨rfl, rfl, rfl, by decide +kernel, rfl, by decide +kernel, by decide +kernel⟩
-- slots: 0 text, 1 name, 2 _, 3 rest, 4 point
def okSign (c : Nat) : Bool := !decide ([c] < [97]) && !decide ([122] < [c])
def isName (x : Str) : Bool := decide (1 ≤ (x.length : Int)) && decide ((x.length : Int) ≤ 8) && x.cps.toList.all okSign
theorem one_lt (a b : Nat) : ([a] < [b]) = (a < b) := by
  rw [List.cons_lt_cons_iff]
  simp
theorem okSign_eq (c : Nat) : okSign c = letL c := by
  unfold okSign letL
  simp only [one_lt]
  by_cases h1 : c < 97
  · rw [decide_eq_true h1, decide_eq_false (show ¬ 97 ≤ c by omega)]
    rfl
  · rw [decide_eq_false h1, decide_eq_true (show 97 ≤ c by omega)]
    by_cases h2 : 122 < c
    · rw [decide_eq_true h2, decide_eq_false (show ¬ c ≤ 122 by omega)]
      rfl
    · rw [decide_eq_false h2, decide_eq_true (show c ≤ 122 by omega)]
      rfl
theorem isName_eq (x : Str) : isName x = nmL (TL.tl x) := by
  unfold isName nmL
  rw [show okSign = letL from funext okSign_eq, ← TL.len_tl]
  have e1 : decide (1 ≤ (x.length : Int)) = decide (1 ≤ x.length) := by
    apply decide_eq_decide.mpr
    omega
  have e2 : decide ((x.length : Int) ≤ 8) = decide (x.length ≤ 8) := by
    apply decide_eq_decide.mpr
    omega
  rw [e1, e2]
theorem range_map_get {α : Type} (xs : List α) (f : Nat → α) (h : ∀ i x, xs[i]? = some x → f i = x) : (List.range xs.length).map f = xs := by
  refine List.ext_getElem? fun i => ?_
  by_cases hi : i < xs.length
  · rw [List.getElem?_map, get_range hi, List.getElem?_eq_getElem hi]
    exact congrArg some (h i _ (List.getElem?_eq_getElem hi))
  · rw [List.getElem?_eq_none (by simp; omega), List.getElem?_eq_none (by omega)]
section
variable {P : Program} {w : World} {K : PySem.W.Frag} {mg : Str → Option Value} {base : Heap}
def spIsName : Sp := fun vs H Q _ => ∃ x : Str, vs = [.str x] ∧ x.length ≤ 100000 ∧ ∀ H', Same H H' → Q (.bl (isName x)) H'
theorem ok_is_name {f : Addr} {fd : FuncData} (F : Fun K "is_name" "is_name" s_is_name f fd) (T : Txt mg) : FnOk P w K mg base CX0 1 f fd ["text"] spIsName := by
  refine F.ok sc_is_name (fun vs H Q E h => ?_) (fun cdv A outer s H vs Q E hr h => ?_)
  · obtain ⟨x, rfl, _⟩ := h
    rfl
  · obtain ⟨x, rfl, hx, q⟩ := h
    refine ⟨_, (pss_one (ps_ret (pe_and (pe_chain op_le op_le pe_int (pe_callB call_len_str (by rfl) T.b_len PySem.boot_len (pa_cons (pv 0) pa_nil)) (C8.pe_gc (by rfl) T.g_MOST_LETTERS)) (pe_one (pe_callB (cr_all rfl) (by rfl) T.b_all (by decide +kernel) (pa_cons (pe_lc (own := [("letter", 1)]) (g := gName 1) (tt := tYes) (by rfl) sc_is_name.nd (pi_str (pv 0)) (blkOk_by (N := ["text", "letter"]) (sc := defScope s_is_name) (by decide +kernel)) (fun _ _ _ _ _ => (pg_name (i := 1) sc_is_name.nd rfl (by first | exact Or.inl rfl | exact Or.inr rfl))) (fun _ _ _ _ _ => pts_nil) (fun _ _ _ _ _ => (pe_chain op_le_str op_le_str pe_str (pv 1) pe_str))) pa_nil)))))), ?_⟩
    have hs : x.length ≤ sizeLine := Nat.le_trans hx (by rw [sizeLine_eq]; decide)
    refine ⟨.str x, rfl, x, rfl, hs, 1, x.length, rfl, rfl, decide (1 ≤ (x.length : Int)), rfl, ?_⟩
    unfold isName at q
    refine ite2 (fun h1 => ?_) (fun h1 => ?_)
    · refine ⟨x.length, 8, rfl, rfl, decide ((x.length : Int) ≤ 8), rfl, ?_⟩
      rw [h1] at q
      refine ite2 (fun h2 => ?_) (fun h2 => ?_)
      · rw [h2] at q
        refine ⟨.str x, rfl, x, rfl, fun D hD => lc_flat walk_str (fun i => .bl (okSign (x.cps.toList.getD i 0))) ?_ hD (fun _ _ => True.intro) (fun i H x H' y => by obtain ⟨rfl, _⟩ := y; exact same_refl) ?_ ?_⟩
        · show x.length ≤ _
          omega
        · rintro i v H1 H2 hi sm ⟨rfl, c, hc, rfl⟩ R hR
          have ec : x.cps.toList.getD i 0 = c := by
            rw [List.getD_eq_getElem?_getD, Array.getElem?_toList, hc]
            rfl
          refine ⟨rfl, .str ⟨#[c]⟩, rfl, ⟨#[97]⟩, ⟨#[c]⟩, rfl, rfl, _, rfl, ?_⟩
          have e2 : okSign (x.cps.toList.getD i 0) = (!decide ([c] < [97]) && !decide ([122] < [c])) := by rw [ec]; rfl
          refine ite2 (fun h3 => ?_) (fun h3 => ?_)
          · refine ⟨⟨#[c]⟩, ⟨#[122]⟩, rfl, rfl, ?_⟩
            have r := hR H2 same_refl
            rw [e2] at r
            have h3' : (!decide ([c] < [97])) = true := h3
            rw [h3'] at r
            exact r
          · have r := hR H2 same_refl
            rw [e2] at r
            have h3' : (!decide ([c] < [97])) = false := by simpa using h3
            rw [h3'] at r
            exact r
        · intro H1 sm hD1
          refine ⟨D, (List.range x.cps.size).map fun i => okSign (x.cps.toList.getD i 0), rfl, Or.inl (Or.inl ?_), ?_⟩
          · rw [hD1, List.map_map]
            rfl
          · have e : (List.range x.cps.size).map (fun i => okSign (x.cps.toList.getD i 0)) = x.cps.toList.map okSign := by
              have := range_map_get (x.cps.toList.map okSign) (fun i => okSign (x.cps.toList.getD i 0)) (fun i b hb => by
                rw [List.getElem?_map] at hb
                obtain ⟨c, h1, h2⟩ := Option.map_eq_some_iff.mp hb
                rw [List.getD_eq_getElem?_getD, h1]
                exact h2)
              rw [List.length_map] at this
              exact this
            rw [e, List.all_map]
            exact q H1 sm
      · have h2' : decide ((x.length : Int) ≤ 8) = false := by simpa using h2
        rw [h2'] at q
        exact q H same_refl
    · have h1' : decide (1 ≤ (x.length : Int)) = false := by simpa using h1
      rw [h1'] at q
      refine ⟨false, rfl, ?_⟩
      exact q H same_refl
theorem dnats {H : Hp} {p : List Nat} {xs : List V} (h : DpAll K H xs (p.map fun (k : Nat) => PyData.int (k : Int))) : xs = p.map fun (k : Nat) => V.int (k : Int) := by
  have e : (p.map fun (k : Nat) => PyData.int (k : Int)) = (p.map fun (k : Nat) => (k : Int)).map PyData.int := by
    rw [List.map_map]
    rfl
  rw [e] at h
  rw [dps_ints h, List.map_map]
  rfl
theorem sum_few {p : List Nat} {m : Nat} (h : ∀ k ∈ p, (numL k).length ≤ m) : (p.map fun k => (numL k).length).sum ≤ m * p.length := by
  induction p with
  | nil => simp
  | cons k p ih =>
    have h1 := h k (List.mem_cons_self ..)
    have h2 := ih fun x hx => h x (List.mem_cons_of_mem _ hx)
    rw [List.map_cons, List.sum_cons, List.length_cons, Nat.mul_succ]
    omega
theorem join_len : ∀ (p : List Nat), (joinL [32] (p.map numL)).length ≤ (p.map fun k => (numL k).length).sum + p.length
  | [] => by simp [joinL]
  | [k] => by simp [joinL]
  | k :: l :: p => by
    have z := join_len (l :: p)
    have e : ((k :: l :: p).map fun k => (numL k).length).sum = (numL k).length + ((l :: p).map fun k => (numL k).length).sum := by rw [List.map_cons, List.sum_cons]
    have e2 : (k :: l :: p).length = (l :: p).length + 1 := rfl
    rw [e, e2]
    show (numL k ++ ([32] ++ joinL [32] ((l :: p).map numL))).length ≤ _
    rw [List.length_append, List.length_append, List.length_singleton]
    omega
theorem num_lt {k m : Nat} (h : (numL k).length ≤ m) : k < 10 ^ m := by
  have z := digitsVal_lt (numL k) (numL_digits k)
  rw [numL_val] at z
  exact Nat.lt_of_lt_of_le z (Nat.pow_le_pow_right (by decide) h)
theorem log_num {k : Nat} (h : (numL k).length ≤ 100) : ((k : Nat) : Int).natAbs.log2 < 1920 := by
  rw [Int.natAbs_natCast]
  by_cases k0 : k = 0
  · rw [k0]
    decide
  · rw [Nat.log2_lt k0]
    exact Nat.lt_trans (num_lt h) (by decide +kernel)
/-- a cell as a value: (name, point) -/
def cellD (n : Str) (p : List Nat) : PyData := .tuple [.str n, .tuple (p.map fun (k : Nat) => .int (k : Int))]
def spShowCell (K : PySem.W.Frag) : Sp := fun vs H Q _ => ∃ (v : V) (n : Str) (p : List Nat), vs = [v] ∧ Dp K H v (cellD n p) ∧ n.length ≤ 100000 ∧ p.length ≤ 100 ∧ (∀ k ∈ p, (numL k).length ≤ 100) ∧ ∀ (x : Str) H', Same H H' → TL.tl x = cellL (TL.tl n) p → Q (.str x) H'
theorem ok_show_cell {f : Addr} {fd : FuncData} (F : Fun K "show_cell" "show_cell" s_show_cell f fd) (T : Txt mg) : FnOk P w K mg base CX0 1 f fd ["cell"] (spShowCell K) := by
  refine F.ok sc_show_cell (fun vs H Q E h => ?_) (fun cdv A outer s H vs Q E hr h => ?_)
  · obtain ⟨v, n, p, rfl, _⟩ := h
    rfl
  · obtain ⟨v, n, p, rfl, hd, hn, hp, few, q⟩ := h
    refine ⟨_, (pss_cons (ps_asg (pv 0) (pg_tup rfl (pgs_cons (pg_name (i := 1) sc_show_cell.nd rfl (by first | exact Or.inl rfl | exact Or.inr rfl)) (pgs_cons (pg_name (i := 2) sc_show_cell.nd rfl (by first | exact Or.inl rfl | exact Or.inr rfl)) pgs_nil))))
  (pss_one (ps_ret (pe_op op_add_str (pe_op op_add_str (pe_op op_add_str (pv 1) pe_str) (pe_bm PySem.F.plainAttrs_str PySem.F.slot_str_join PySem.F.type_str_join mt_join pe_str (pa_cons (pe_lc (own := [("place", 3)]) (g := gName 3) (tt := tYes) (by rfl) sc_show_cell.nd (pi_tup (pv 2)) (blkOk_by (N := ["cell", "name", "point", "place"]) (sc := defScope s_show_cell) (by decide +kernel)) (fun _ _ _ _ _ => (pg_name (i := 3) sc_show_cell.nd rfl (by first | exact Or.inl rfl | exact Or.inr rfl))) (fun _ _ _ _ _ => pts_nil) (fun _ _ _ _ _ => (pe_callTy call_str_int (by rfl) T.b_str (by decide +kernel) (pa_cons (pv 3) pa_nil)))) pa_nil))) pe_str)))), ?_⟩
    obtain ⟨a, xs, rfl, ht, hxs⟩ := dtup hd
    obtain ⟨x1, x2, rfl, h1, h2⟩ := dps2 hxs
    obtain rfl := dstr h1
    obtain ⟨a2, xs2, rfl, ht2, hp2⟩ := dtup h2
    obtain rfl := dnats hp2
    refine ⟨_, rfl, a, _, rfl, ht, rfl, _, _, rfl, _, _, rfl, rfl, ?_⟩
    refine ⟨_, rfl, _, _, rfl, rfl, by rw [sizeLine_eq]; show n.length + 1 ≤ _; omega, rfl, _, rfl, a2, rfl, ⟨_, ht2⟩, fun D hD => lc_flat (walk_tup (K := K) (a := a2)) (fun i => .str (Str.ofString (toString ((p.getD i 0 : Nat) : Int)))) ?_ hD (fun H1 sm => sqt sm ht2) (fun i H x H' y => by obtain ⟨rfl, _⟩ := y; exact same_refl) ?_ ?_⟩
    · rw [List.length_map]
      omega
    · rintro i v H1 H2 hi sm ⟨rfl, hy⟩ R hR
      rw [List.getElem?_map] at hy
      obtain ⟨k, hk, rfl⟩ := Option.map_eq_some_iff.mp hy
      have ek : p.getD i 0 = k := by
        rw [List.getD_eq_getElem?_getD, hk]
        rfl
      rw [ek] at hR
      exact ⟨rfl, _, rfl, _, rfl, log_num (few k (List.mem_of_getElem? hk)), hR _ same_refl⟩
    · intro H1 sm hD1
      have el : ((List.range (p.map fun (k : Nat) => V.int (k : Int)).length).map fun i => V.str (Str.ofString (toString ((p.getD i 0 : Nat) : Int)))) = (p.map fun (k : Nat) => Str.ofString (toString ((k : Nat) : Int))).map V.str := by
        rw [List.length_map, List.map_map]
        have z := range_map_get (p.map fun (k : Nat) => V.str (Str.ofString (toString ((k : Nat) : Int)))) (fun i => V.str (Str.ofString (toString ((p.getD i 0 : Nat) : Int)))) (fun i v hv => by
          rw [List.getElem?_map] at hv
          obtain ⟨k, hk, rfl⟩ := Option.map_eq_some_iff.mp hv
          rw [List.getD_eq_getElem?_getD, hk]
          rfl)
        rw [List.length_map] at z
        exact z
      rw [el] at hD1
      have es : ((p.map fun (k : Nat) => Str.ofString (toString ((k : Nat) : Int))).map (·.length)).sum + (p.map fun (k : Nat) => Str.ofString (toString ((k : Nat) : Int))).length * 1 ≤ 20000 := by
        have z := sum_few few
        rw [List.map_map, List.length_map]
        have e2 : ((fun x : Str => x.length) ∘ fun (k : Nat) => Str.ofString (toString ((k : Nat) : Int))) = fun (k : Nat) => (numL k).length := by
          funext k
          show (Str.ofString (toString ((k : Nat) : Int))).length = _
          rw [len_tl, tl_num]
        rw [e2]
        have : 100 * p.length ≤ 10000 := by omega
        omega
      have ej : TL.tl (Txt.join " " (p.map fun (k : Nat) => Str.ofString (toString ((k : Nat) : Int)))) = joinL [32] (p.map numL) := by
        rw [join_eq, tl_join, List.map_map]
        congr 1
        refine List.map_congr_left fun k _ => ?_
        exact tl_num k
      have lj : (Txt.join " " (p.map fun (k : Nat) => Str.ofString (toString ((k : Nat) : Int)))).length ≤ 20000 := by
        rw [len_tl, ej]
        have z := sum_few few
        have z2 : 100 * p.length ≤ 10000 := by omega
        exact Nat.le_trans (join_len p) (by omega)
      generalize (p.map fun (k : Nat) => Str.ofString (toString ((k : Nat) : Int))) = ys at hD1 es ej lj ⊢
      refine ⟨_, D, ys, rfl, rfl, Or.inl (Or.inl (Or.inl hD1)), Nat.le_trans es (by decide), _, _, rfl, rfl, ?_, _, _, rfl, rfl, ?_, q _ _ sm ?_⟩
      · rw [sizeLine_eq, len_tl, tl_append]
        rw [len_tl] at hn
        rw [List.length_append]
        show (TL.tl n).length + 1 + _ ≤ _
        omega
      · rw [sizeLine_eq, len_tl, tl_append, tl_append, List.length_append, List.length_append, ← len_tl, ← len_tl (Txt.join " " ys)]
        show n.length + 1 + _ + 1 ≤ _
        omega
      · rw [tl_append, tl_append, tl_append, ej]
        unfold cellL
        rw [List.append_assoc, List.append_assoc]
        rfl
end
end Fr

namespace Fr
open PySem PySem.Spec PyProof.Rows L2 TL
theorem takes_nil {X : Cx} : Takes X (fun _ _ _ _ => False) := fun u s' x => by
  obtain ⟨_, _, _, _, _, _, _, _, _, _, _, _, _, _, _, _, h⟩ := x
  exact h.elim
/-- a call of a def that raises, where it is known what passes -/
theorem pe_cxS {X : Cx} {k j : Nat} {x : Str} {sp : Sp} {W : WX} {e : Expr} {es : List Expr} {t : TA} {p pos : Pos} (c : CalX X.prog X.w X.K X.mg X.base k x sp) (hr : Room j X.A) (hk : k ≤ j) (hg : Gl X x) (hx : ∀ σ, PassesAt (L2.CX X.prog X.w) X σ (WE W σ)) (ha : PA X (e :: es) t)
    (hdb : (x == ("__debug__" : Str)) = false := by decide) (he : starEach (e :: es) X.env = (false, eval e X.env) :: starEach es X.env := by rfl) (hpl : (backTo pos (starEach es X.env)).any (·.1) = false := by rfl) : PE X (.Call (.Name x p) (e :: es) [] pos) (tCallS sp (WE W) t) := by
  obtain ⟨f, fd, ps, F, hm, kp, b⟩ := c.ex
  exact pe_callS F (hr.mono hk) hg hm kp b hx ha hdb he hpl
theorem cut_minus (w : Str) : tl (Txt.removeprefix w "-") = if (tl w).head? = some 45 then (tl w).tail else tl w := by
  have hy : tl ("-" : Str) ≠ [] := by decide
  have hi := at_iff (x := w) (y := "-") hy 0
  rw [List.drop_zero] at hi
  have e1 : (pre (tl ("-" : Str)) (tl w) = true) ↔ (tl w).head? = some 45 := by
    show ((tl w).take 1 == [45]) = true ↔ _
    cases tl w with
    | nil => simp
    | cons c l => simp
  rw [StrLaws.removeprefix_eq]
  by_cases h : (tl w).head? = some 45
  · obtain ⟨z1, z2⟩ := hi.mpr (e1.mpr h)
    rw [if_pos h, if_pos (by rw [z2, decide_eq_true z1]; rfl)]
    show ((tl w).drop 1).take (w.length - 1) = _
    rw [List.drop_one, List.take_of_length_le]
    rw [List.length_tail, len_tl]
    exact Nat.le_refl _
  · rw [if_neg h, if_neg]
    intro z
    rw [Bool.and_eq_true, decide_eq_true_iff] at z
    exact h (e1.mp (hi.mp z))
def okDig (c : Nat) : Bool := !decide ([c] < [48]) && !decide ([57] < [c])
def digL (c : Nat) : Bool := decide (48 ≤ c) && decide (c ≤ 57)
theorem okDig_eq (c : Nat) : okDig c = digL c := by
  unfold okDig digL
  simp only [one_lt]
  by_cases h1 : c < 48
  · rw [decide_eq_true h1, decide_eq_false (show ¬ 48 ≤ c by omega)]
    rfl
  · rw [decide_eq_false h1, decide_eq_true (show 48 ≤ c by omega)]
    by_cases h2 : 57 < c
    · rw [decide_eq_true h2, decide_eq_false (show ¬ c ≤ 57 by omega)]
      rfl
    · rw [decide_eq_false h2, decide_eq_true (show c ≤ 57 by omega)]
      rfl
theorem int_text {w : Str} (h : intOk (tl w) = true) : intText? w = some (intL (tl w)) ∧ w.length ≤ 41 := by
  unfold intOk at h
  unfold intL
  by_cases e : (tl w).head? = some 45
  · simp only [if_pos e] at h ⊢
    rw [Bool.and_eq_true, Bool.and_eq_true, decide_eq_true_iff, decide_eq_true_iff] at h
    obtain ⟨⟨h1, h2⟩, h3⟩ := h
    obtain ⟨cs, hc⟩ : ∃ cs, tl w = 45 :: cs := by
      cases q : tl w with
      | nil => rw [q] at e; cases e
      | cons c cs => rw [q] at e; cases e; exact ⟨cs, rfl⟩
    rw [hc] at h1 h2 h3 ⊢
    have d : NumText.AllDigits cs := fun c hcs => by
      have := List.all_eq_true.mp h3 c hcs
      simpa using this
    have l : w.length ≤ 41 := by
      rw [len_tl, hc]
      simp at h2 ⊢
      omega
    refine ⟨?_, l⟩
    rw [PySem.intText_neg hc d (fun z => by rw [z] at h1; simp at h1) (by omega)]
    rfl
  · simp only [if_neg e] at h ⊢
    rw [Bool.and_eq_true, Bool.and_eq_true, decide_eq_true_iff, decide_eq_true_iff] at h
    obtain ⟨⟨h1, h2⟩, h3⟩ := h
    have d : NumText.AllDigits (tl w) := fun c hcs => by
      have := List.all_eq_true.mp h3 c hcs
      simpa using this
    have l : w.length ≤ 41 := by
      rw [len_tl]
      omega
    refine ⟨?_, l⟩
    rw [PySem.intText_digits d (fun z => by rw [show tl w = [] from z] at h1; simp at h1) (by omega)]
section
variable {P : Program} {w : World} {K : PySem.W.Frag} {mg : Str → Option Value} {base : Heap}
def spReadInt (CU : Addr) : Sp := fun vs H Q E => ∃ (z x : Str), vs = [.str z, .str x] ∧ z.length ≤ 100000 ∧ ((intOk (tl z) = true ∧ ∀ H', Same H H' → Q (.int (intL (tl z))) H') ∨
  (intOk (tl z) = false ∧ ∀ d H', Same H H' → H' d = some (.xd [(("value" : Str), .str x)]) → E (.ref CU) (some d) H'))
theorem ok_read_integer {f CU : Addr} {fd : FuncData} (F : Fun K "read_integer" "read_integer" s_read_integer f fd) (T : Txt mg) (r_Unreadable : MkR P w K mg base 1 "Unreadable" CU) : FnOk P w K mg base (L2.CX P w) 3 f fd ["word", "text"] (spReadInt CU) := by
  refine fun_okX F sc_read_integer (fun vs H Q E h => ?_) (fun cdv A outer s H vs Q E hr h => ?_)
  · obtain ⟨z, x, rfl, _⟩ := h
    rfl
  · obtain ⟨z, x, rfl, hz, q⟩ := h
    refine ⟨_, (pss_cons (ps_set (i := 2) sc_read_integer.nd rfl (by first | exact Or.inl rfl | exact Or.inr rfl) (pe_bm PySem.F.plainAttrs_str PySem.F.slot_str_removeprefix PySem.F.type_str_removeprefix mt_cutPre (pv 0) (pa_cons pe_str pa_nil)))
  (pss_cons (ps_if (PW.pt (pw_or (pt_not (pt_chain op_le op_le pe_int (pe_callB call_len_str (by rfl) T.b_len PySem.boot_len (pa_cons (pv 2) pa_nil)) (C8.pe_gc (by rfl) T.g_MOST_DIGITS))) (pw_or1 (pt_not (pt_val (pe_callB (cr_all rfl) (by rfl) T.b_all (by decide +kernel) (pa_cons (pe_lc (own := [("sign", 3)]) (g := gName 3) (tt := tYes) (by rfl) sc_read_integer.nd (pi_str (pv 2)) (blkOk_by (N := ["word", "text", "digits", "sign"]) (sc := defScope s_read_integer) (by decide +kernel)) (fun _ _ _ _ _ => (pg_name (i := 3) sc_read_integer.nd rfl (by first | exact Or.inl rfl | exact Or.inr rfl))) (fun _ _ _ _ _ => pts_nil) (fun _ _ _ _ _ => (pe_chain op_le_str op_le_str pe_str (pv 3) pe_str))) pa_nil)))))))
    (pss_one (ps_err r_Unreadable rfl (takes_of rfl rfl rfl rfl) hr (by decide) (by rfl) (pa_cons (pv 1) pa_nil)))
    pss_nil)
  (pss_one (ps_ret (pe_callTy call_int_str (by rfl) T.b_int (by decide +kernel) (pa_cons (pv 0) pa_nil)))))), ?_⟩
    have hz2 : z.length ≤ sizeLine := Nat.le_trans hz (by rw [sizeLine_eq]; decide)
    have ed := cut_minus z
    refine ⟨_, rfl, rfl, _, _, rfl, rfl, hz2, ?_⟩
    generalize Txt.removeprefix z "-" = dg at ed ⊢
    have ei : intOk (tl z) = (decide (1 ≤ (dg.length : Int)) && decide ((dg.length : Int) ≤ 40) && (tl dg).all digL) := by
      have e1 : decide (1 ≤ (dg.length : Int)) = decide (1 ≤ (tl dg).length) := by
        apply decide_eq_decide.mpr
        rw [len_tl]
        omega
      have e2 : decide ((dg.length : Int) ≤ 40) = decide ((tl dg).length ≤ 40) := by
        apply decide_eq_decide.mpr
        rw [len_tl]
        omega
      rw [e1, e2, ed]
      rfl
    have ld : dg.length ≤ 100000 := by
      rw [len_tl, ed]
      rw [len_tl] at hz
      split
      · rw [List.length_tail]
        omega
      · exact hz
    have hd2 : dg.length ≤ sizeLine := Nat.le_trans ld (by rw [sizeLine_eq]; decide)
    have bad : intOk (tl z) = false → ∀ d H', Same H H' → H' d = some (.xd [(("value" : Str), .str x)]) → E (.ref CU) (some d) H' := fun e => by
      rcases q with ⟨q1, _⟩ | ⟨_, q2⟩
      · rw [e] at q1; cases q1
      · exact q2
    have good : intOk (tl z) = true → ∀ H', Same H H' → Q (.int (intL (tl z))) H' := fun e => by
      rcases q with ⟨_, q1⟩ | ⟨q2, _⟩
      · exact q1
      · rw [e] at q2; cases q2
    refine ⟨_, rfl, _, rfl, hd2, _, _, rfl, rfl, _, rfl, ?_⟩
    refine ite2 (fun h1 => ?_) (fun h1 => ?_)
    · rw [h1] at ei
      refine ⟨_, _, rfl, rfl, _, rfl, ?_⟩
      refine ite2 (fun h2 => ?_) (fun h2 => ?_)
      · have h2' : decide ((dg.length : Int) ≤ 40) = false := by simpa using h2
        rw [h2'] at ei
        exact iteT ⟨_, rfl, err_raise rfl r_Unreadable.err.oex r_Unreadable.no fun e he => bad ei e _ (snew he) upd_same⟩
      · have h2' : decide ((dg.length : Int) ≤ 40) = true := by simpa using h2
        rw [h2'] at ei
        refine ⟨_, rfl, dg, rfl, fun D hD => lc_flat walk_str (fun i => .bl (okDig (dg.cps.toList.getD i 0))) ?_ hD (fun _ _ => True.intro) (fun i H x H' y => by obtain ⟨rfl, _⟩ := y; exact same_refl) ?_ ?_⟩
        · show dg.length ≤ _
          omega
        · rintro i v H1 H2 hi sm ⟨rfl, c, hc, rfl⟩ R hR
          have ec : dg.cps.toList.getD i 0 = c := by
            rw [List.getD_eq_getElem?_getD, Array.getElem?_toList, hc]
            rfl
          rw [ec] at hR
          refine ⟨rfl, _, rfl, ⟨#[48]⟩, ⟨#[c]⟩, rfl, rfl, _, rfl, ?_⟩
          refine ite2 (fun h3 => ?_) (fun h3 => ?_)
          · refine ⟨⟨#[c]⟩, ⟨#[57]⟩, rfl, rfl, ?_⟩
            have r := hR H2 same_refl
            have h3' : (!decide ([c] < [48])) = true := h3
            unfold okDig at r
            rw [h3'] at r
            exact r
          · have r := hR H2 same_refl
            have h3' : (!decide ([c] < [48])) = false := by simpa using h3
            unfold okDig at r
            rw [h3'] at r
            exact r
        · intro H1 sm hD1
          refine ⟨D, (List.range dg.cps.size).map fun i => okDig (dg.cps.toList.getD i 0), rfl, Or.inl (Or.inl ?_), ?_⟩
          · rw [hD1, List.map_map]
            rfl
          · have e : (List.range dg.cps.size).map (fun i => okDig (dg.cps.toList.getD i 0)) = dg.cps.toList.map okDig := by
              have := range_map_get (dg.cps.toList.map okDig) (fun i => okDig (dg.cps.toList.getD i 0)) (fun i b hb => by
                rw [List.getElem?_map] at hb
                obtain ⟨c, h1, h2⟩ := Option.map_eq_some_iff.mp hb
                rw [List.getD_eq_getElem?_getD, h1]
                exact h2)
              rw [List.length_map] at this
              exact this
            rw [e, List.all_map]
            have e3 : dg.cps.toList.all (id ∘ okDig) = (tl dg).all digL := by
              rw [show (id ∘ okDig) = digL from funext okDig_eq]
            rw [e3]
            refine ⟨_, rfl, ?_⟩
            refine ite2 (fun h4 => ?_) (fun h4 => ?_)
            · have h4' : (tl dg).all digL = false := by simpa using h4
              rw [h4'] at ei
              exact ⟨_, rfl, err_raise rfl r_Unreadable.err.oex r_Unreadable.no fun e he => bad ei e _ (same_tr sm (snew he)) upd_same⟩
            · have h4' : (tl dg).all digL = true := by simpa using h4
              rw [h4'] at ei
              obtain ⟨it, il⟩ := int_text ei
              exact ⟨_, rfl, z, _, rfl, it, by omega, good ei H1 sm⟩
    · have h1' : decide (1 ≤ (dg.length : Int)) = false := by simpa using h1
      rw [h1'] at ei
      refine ⟨false, rfl, ?_⟩
      exact iteT ⟨_, rfl, err_raise rfl r_Unreadable.err.oex r_Unreadable.no fun e he => bad ei e _ (snew he) upd_same⟩
end
end Fr

namespace Fr
open PySem PySem.Spec PyProof.Rows L2 TL
theorem spl_bounds (s : Nat) : ∀ (l acc : List Nat), (spl [s] 0 acc l).length ≤ l.length + 1 ∧ ∀ w ∈ spl [s] 0 acc l, w.length ≤ acc.length + l.length
  | [], acc => by
    rw [spl_nil]
    refine ⟨Nat.le_refl _, fun w hw => ?_⟩
    rw [List.mem_singleton.mp hw]
    exact Nat.le_add_right _ _
  | c :: l, acc => by
    by_cases h : c = s
    · rw [spl_hit (by unfold pre; rw [h]; simp)]
      obtain ⟨h1, h2⟩ := spl_bounds s l []
      show (acc :: spl [s] 0 [] l).length ≤ _ ∧ ∀ w ∈ acc :: spl [s] 0 [] l, _
      refine ⟨?_, fun w hw => ?_⟩
      · rw [List.length_cons, List.length_cons]
        omega
      · rw [List.length_cons]
        rcases List.mem_cons.mp hw with rfl | hw
        · omega
        · have z := h2 w hw
          rw [List.length_nil] at z
          omega
    · rw [spl_miss (pre_of_head [] l h)]
      obtain ⟨h1, h2⟩ := spl_bounds s l (acc ++ [c])
      refine ⟨?_, fun w hw => ?_⟩
      · rw [List.length_cons]
        omega
      · have z := h2 w hw
        rw [List.length_append, List.length_singleton] at z
        rw [List.length_cons]
        omega
/-- the words of a part -/
def wordsL (l : List Nat) : List (List Nat) := spl [32] 0 [] l
theorem split_words (z : Str) : (Txt.split z " ").map tl = wordsL (tl z) := split_spl z " " (by decide) (kind_ok (by decide +kernel))
theorem words_small (z : Str) : (Txt.split z " ").length ≤ z.length + 1 ∧ ∀ w ∈ Txt.split z " ", w.length ≤ z.length := by
  have e := split_words z
  obtain ⟨h1, h2⟩ := spl_bounds 32 (tl z) []
  refine ⟨?_, fun w hw => ?_⟩
  · have := congrArg List.length e
    rw [List.length_map] at this
    rw [this, len_tl]
    exact h1
  · have z2 := h2 (tl w) (by rw [show spl [32] 0 [] (tl z) = wordsL (tl z) from rfl, ← e]; exact List.mem_map.mpr ⟨w, hw, rfl⟩)
    rw [List.length_nil, Nat.zero_add] at z2
    rw [len_tl, len_tl]
    exact z2
section
variable {P : Program} {w : World} {K : PySem.W.Frag} {mg : Str → Option Value} {base : Heap}
def spReadInts (CU : Addr) : Sp := fun vs H Q E => ∃ (z x : Str), vs = [.str z, .str x] ∧ z.length ≤ 1000 ∧
  (((∀ v ∈ wordsL (tl z), intOk v = true) ∧ ∀ a H', Same H H' → H' a = some (.tup ((wordsL (tl z)).map fun v => V.int (intL v))) → Q (.ref a) H') ∨
  ((∃ v ∈ wordsL (tl z), intOk v = false) ∧ ∀ d H', Same H H' → H' d = some (.xd [(("value" : Str), .str x)]) → E (.ref CU) (some d) H'))
theorem ok_read_integers {f CU : Addr} {fd : FuncData} (F : Fun K "read_integers" "read_integers" s_read_integers f fd) (T : Txt mg) (x_read_integer : CalX P w K mg base 3 "read_integer" (spReadInt CU)) : FnOk P w K mg base (L2.CX P w) 4 f fd ["part", "text"] (spReadInts CU) := by
  refine fun_okX F sc_read_integers (fun vs H Q E h => ?_) (fun cdv A outer s H vs Q E hr h => ?_)
  · obtain ⟨z, x, rfl, _⟩ := h
    rfl
  · obtain ⟨z, x, rfl, hz, q⟩ := h
    refine ⟨_, (pss_one (ps_ret (pe_callTy call_tuple_of (by rfl) T.b_tuple (by decide +kernel) (pa_cons (pe_lcE rfl rfl (takes_of rfl rfl rfl rfl) (fun _ _ _ _ _ h => h) (own := [("word", 2)]) (g := gName 2) (tt := tYes) (by rfl) sc_read_integers.nd (pi_list (pe_bm PySem.F.plainAttrs_str PySem.F.slot_str_split PySem.F.type_str_split mt_split (pv 0) (pa_cons pe_str pa_nil))) (blkOk_by (N := ["part", "text", "word"]) (sc := defScope s_read_integers) (by decide +kernel)) (fun _ _ _ _ _ => (pg_name (i := 2) sc_read_integers.nd rfl (by first | exact Or.inl rfl | exact Or.inr rfl))) (fun _ _ _ _ _ => pts_nil) (fun _ _ _ _ _ hx => (pe_cxS x_read_integer hr (by decide) (by rfl) hx (pa_cons (pv 2) (pa_cons (pv 1) pa_nil))))) pa_nil)))), ?_⟩
    obtain ⟨n1, n2⟩ := words_small z
    have ew := split_words z
    refine ⟨_, rfl, rfl, z, _, rfl, rfl, by decide, by rw [sizeLine_eq]; omega, fun l hl => ?_⟩
    have s0 : Same H (upd H l (.lst ((Txt.split z " ").map V.str))) := snew hl
    have hl1 : (upd H l (.lst ((Txt.split z " ").map V.str))) l = some (.lst ((Txt.split z " ").map V.str)) := upd_same
    generalize upd H l (.lst ((Txt.split z " ").map V.str)) = H0 at s0 hl1 ⊢
    have bad : (∃ v ∈ wordsL (tl z), intOk v = false) → ∀ d H', Same H H' → H' d = some (.xd [(("value" : Str), .str x)]) → E (.ref CU) (some d) H' := fun ⟨v, hv, e⟩ => by
      rcases q with ⟨q1, _⟩ | ⟨_, q2⟩
      · rw [q1 v hv] at e; cases e
      · exact q2
    have good : (∀ v ∈ wordsL (tl z), intOk v = true) → ∀ a H', Same H H' → H' a = some (.tup ((wordsL (tl z)).map fun v => V.int (intL v))) → Q (.ref a) H' := fun e => by
      rcases q with ⟨_, q1⟩ | ⟨⟨v, hv, q2⟩, _⟩
      · exact q1
      · rw [e v hv] at q2; cases q2
    clear q
    rw [← ew] at good bad
    generalize Txt.split z " " = ws at *
    refine ⟨l, rfl, ⟨_, Or.inl (Or.inl hl1)⟩, fun D hD => lc_it (walk_list (K := K) (a := l) (xs := ws.map V.str)) (fun i H1 => Same H0 H1 ∧ (∀ v ∈ ws.take i, intOk (tl v) = true) ∧ H1 D = some (.lst ((ws.take i).map fun v => V.int (intL (tl v)))))
      ⟨snew hD, fun v hv => (nomatch hv), upd_same⟩ (fun i H1 _ p => Or.inl (Or.inl (p.1 _ _ hl1))) ?_ ?_⟩
    · rintro i y H1 H2 hi ⟨sm, al, hD1⟩ ⟨rfl, hy⟩
      rw [List.getElem?_map] at hy
      obtain ⟨v, hv, rfl⟩ := Option.map_eq_some_iff.mp hy
      rw [List.length_map] at hi
      have mv := List.mem_of_getElem? hv
      refine ⟨rfl, _, rfl, _, rfl, v, x, rfl, Nat.le_trans (n2 v mv) (by omega), ?_⟩
      cases e : intOk (tl v) with
      | true =>
        refine .inl ⟨rfl, fun H3 s3 => ⟨_, s3 _ _ hD1, ?_, smut (same_tr sm s3) hD, ?_, ?_⟩⟩
        · rw [List.length_map, List.length_take, sizeLine_eq]
          omega
        · intro u hu
          rw [List.take_add_one, hv] at hu
          rcases List.mem_append.mp hu with hu | hu
          · exact al u hu
          · obtain rfl : u = v := by simpa using hu
            exact e
        · rw [upd_same, List.take_add_one, hv, List.map_append]
          rfl
      | false =>
        exact .inr ⟨rfl, fun d H3 s3 h3 => bad ⟨tl v, List.mem_map.mpr ⟨v, mv, rfl⟩, e⟩ d H3 (same_tr s0 (same_tr sm s3)) h3⟩
    · rintro H1 ⟨sm, al, hD1⟩
      rw [List.length_map, List.take_length] at al hD1
      refine ⟨D, _, rfl, Or.inl ⟨Or.inl (Or.inl hD1), fun a ha => good (fun v hv => ?_) a _ (same_tr s0 (same_tr sm (snew ha))) ?_⟩⟩
      · obtain ⟨u, hu, rfl⟩ := List.mem_map.mp hv
        exact al u hu
      · rw [upd_same, List.map_map]
        rfl
end
end Fr

namespace Fr
open PySem PySem.Spec PyProof.Rows L2 TL
/-- what stands before the first bracket, and behind it -/
def nameL (t : List Nat) : List Nat := match par [91] [] t with | some (a, _) => a | none => t
def restL (t : List Nat) : List Nat := match par [91] [] t with | some (_, b) => b | none => []
def cellWords (t : List Nat) : List (List Nat) := wordsL (restL t).dropLast
theorem isC_read {t n p : List Nat} (h : IsC t n p) : nameL t = n ∧ cellWords t = p.map numL := by
  have e := par_cell h
  unfold nameL cellWords restL
  rw [e]
  refine ⟨rfl, ?_⟩
  show wordsL (joinL [32] (p.map numL) ++ [93]).dropLast = _
  rw [List.dropLast_concat]
  exact spl_cell h.p1
theorem words_ne (l : List Nat) : wordsL l ≠ [] := fun e => by
  have z := join_spl 32 l []
  have e1 : spl [32] 0 [] l = [] := e
  cases l with
  | nil => cases e1
  | cons c l =>
    rw [e1] at z
    cases z
theorem cell_of {t : List Nat} (ok : ∀ w ∈ cellWords t, intOk w = true) (nm : nmL (nameL t) = true) (few : (cellWords t).length ≤ 3) (pos : ∀ w ∈ cellWords t, 0 ≤ intL w) (eq : cellL (nameL t) ((cellWords t).map fun w => (intL w).toNat) = t) :
    IsC t (nameL t) ((cellWords t).map fun w => (intL w).toNat) := by
  refine isC_of nm (fun e => words_ne _ (List.map_eq_nil_iff.mp e)) (by rw [List.length_map]; exact few) (fun k hk => ?_) eq.symm
  obtain ⟨w, hw, rfl⟩ := List.mem_map.mp hk
  exact int_lt (ok w hw) (pos w hw)
theorem part_cell (x : Str) : tl (Txt.partition x "[").1 = nameL (tl x) ∧ tl (Txt.partition x "[").2.2 = restL (tl x) := by
  have e := partition_par x "[" (by decide)
  rw [e]
  unfold nameL restL
  show tl (match par [91] [] (tl x) with | some (a, b) => ((⟨a.toArray⟩ : Str), ("[" : Str), (⟨b.toArray⟩ : Str)) | none => (x, Str.empty, Str.empty)).1 = _ ∧ tl (match par [91] [] (tl x) with | some (a, b) => ((⟨a.toArray⟩ : Str), ("[" : Str), (⟨b.toArray⟩ : Str)) | none => (x, Str.empty, Str.empty)).2.2 = _
  cases par [91] [] (tl x) with
  | none => exact ⟨rfl, rfl⟩
  | some ab => exact ⟨rfl, rfl⟩
theorem par_len {s : Nat} : ∀ (l acc : List Nat) {a b : List Nat}, par [s] acc l = some (a, b) → a.length ≤ acc.length + l.length ∧ b.length ≤ l.length
  | [], _, _, _, h => by cases h
  | c :: l, acc, a, b, h => by
    by_cases hc : c = s
    · rw [par_hit (by unfold pre; rw [hc]; simp), Option.some.injEq, Prod.mk.injEq] at h
      obtain ⟨rfl, rfl⟩ := h
      refine ⟨Nat.le_add_right _ _, ?_⟩
      show (List.drop 1 (c :: l)).length ≤ _
      rw [List.length_drop]
      omega
    · rw [par_miss (pre_of_head [] l hc)] at h
      obtain ⟨h1, h2⟩ := par_len l (acc ++ [c]) h
      rw [List.length_append, List.length_singleton] at h1
      rw [List.length_cons]
      omega
theorem part_len (x : Str) : (Txt.partition x "[").1.length ≤ x.length ∧ (Txt.partition x "[").2.2.length ≤ x.length := by
  obtain ⟨e1, e2⟩ := part_cell x
  rw [len_tl, len_tl, len_tl, e1, e2]
  unfold nameL restL
  cases h : par [91] [] (tl x) with
  | none => exact ⟨Nat.le_refl _, Nat.zero_le _⟩
  | some ab =>
    obtain ⟨h1, h2⟩ := par_len (tl x) [] (a := ab.1) (b := ab.2) h
    rw [List.length_nil] at h1
    show ab.1.length ≤ _ ∧ ab.2.length ≤ _
    exact ⟨by omega, h2⟩
theorem cut_last (z : Str) : tl (cutS z none (some (-1))) = (tl z).dropLast := by
  show ((tl z).drop (HT.sIx z.length 0 none)).take (HT.sIx z.length z.length (some (-1)) - HT.sIx z.length 0 none) = _
  rw [HT.sIx_none, List.drop_zero, Nat.sub_zero, List.dropLast_eq_take]
  congr 1
  show (if (-1 : Int) < 0 then ((-1 : Int) + (z.length : Int)).toNat else min (-1 : Int).toNat z.length) = _
  rw [if_pos (by decide), len_tl]
  omega
section
variable {P : Program} {w : World} {K : PySem.W.Frag} {mg : Str → Option Value} {base : Heap}
theorem dnat {H : Hp} {a : Addr} {p : List Nat} (h : H a = some (.tup (p.map fun (k : Nat) => V.int (k : Int)))) : Dp K H (.ref a) (.tuple (p.map fun (k : Nat) => .int (k : Int))) := by
  have e : (p.map fun (k : Nat) => PyData.int (k : Int)) = (p.map fun (k : Nat) => (k : Int)).map PyData.int := by
    rw [List.map_map]
    rfl
  have e2 : (p.map fun (k : Nat) => V.int (k : Int)) = (p.map fun (k : Nat) => (k : Int)).map V.int := by
    rw [List.map_map]
    rfl
  rw [e2] at h
  rw [e]
  exact .tup (Or.inl (Or.inl h)) (ints_dps _)
def spReadCell (K : PySem.W.Frag) (CU : Addr) : Sp := fun vs H Q E => ∃ (x : Str), vs = [.str x] ∧ x.length ≤ 1000 ∧
  ((∃ (n : Str) (p : List Nat), IsC (tl x) (tl n) p ∧ ∀ v H', Same H H' → Dp K H' v (cellD n p) → Q v H') ∨
  ((∀ n p, ¬ IsC (tl x) n p) ∧ ∀ d H', Same H H' → H' d = some (.xd [(("value" : Str), .str x)]) → E (.ref CU) (some d) H'))
theorem ok_read_cell {f CU : Addr} {fd : FuncData} (F : Fun K "read_cell" "read_cell" s_read_cell f fd) (T : Txt mg) (c_is_name : C8.Cal P w K mg base 1 "is_name" spIsName []) (c_show_cell : C8.Cal P w K mg base 1 "show_cell" (spShowCell K) [])
    (x_read_integers : CalX P w K mg base 4 "read_integers" (spReadInts CU)) (r_Unreadable : MkR P w K mg base 1 "Unreadable" CU) : FnOk P w K mg base (L2.CX P w) 5 f fd ["text"] (spReadCell K CU) := by
  refine fun_okX F sc_read_cell (fun vs H Q E h => ?_) (fun cdv A outer s H vs Q E hr h => ?_)
  · obtain ⟨x, rfl, _⟩ := h
    rfl
  · obtain ⟨x, rfl, hx, q⟩ := h
    refine ⟨_, (pss_cons (ps_asg (pe_bm PySem.F.plainAttrs_str PySem.F.slot_str_partition PySem.F.type_str_partition mt_partition (pv 0) (pa_cons pe_str pa_nil)) (pg_tup rfl (pgs_cons (pg_name (i := 1) sc_read_cell.nd rfl (by first | exact Or.inl rfl | exact Or.inr rfl)) (pgs_cons (pg_name (i := 2) sc_read_cell.nd rfl (by first | exact Or.inl rfl | exact Or.inr rfl)) (pgs_cons (pg_name (i := 3) sc_read_cell.nd rfl (by first | exact Or.inl rfl | exact Or.inr rfl)) pgs_nil)))))
  (pss_cons (ps_set (i := 4) sc_read_cell.nd rfl (by first | exact Or.inl rfl | exact Or.inr rfl) (pe_cx x_read_integers hr (by decide) (by rfl) (takes_of rfl rfl rfl rfl) (pa_cons (pe_slice sl_str (pv 3) po_none (po_some (pe_un un_neg pe_int))) (pa_cons (pv 0) pa_nil))))
  (pss_cons (ps_if (PW.pt (pw_or (pt_not (pt_val (C8.pe_c c_is_name hr (by decide) (by rfl) (pa_cons (pv 1) pa_nil)))) (pw_or (pt_cmpR op_gt (pe_callB call_len_seq (by rfl) T.b_len PySem.boot_len (pa_cons (pv 4) pa_nil)) (C8.pe_gc (by rfl) T.g_MOST_DIMENSIONS) (nomark _)) (pw_or (pt_cmpR op_lt (pe_callB (cr_minT rfl) (by rfl) T.b_min (by decide +kernel) (pa_cons (pv 4) pa_nil)) pe_int (nomark _)) (pw_or1 (pt_cmpR op_ne (C8.pe_c c_show_cell hr (by decide) (by rfl) (pa_cons (pe_tup (pa_cons (pv 1) (pa_cons (pv 4) pa_nil))) pa_nil)) (pv 0) (nomark _)))))))
    (pss_one (ps_err r_Unreadable rfl (takes_of rfl rfl rfl rfl) hr (by decide) (by rfl) (pa_cons (pv 0) pa_nil)))
    pss_nil)
  (pss_one (ps_ret (pe_tup (pa_cons (pv 1) (pa_cons (pv 4) pa_nil)))))))), ?_⟩
    obtain ⟨e1, e2⟩ := part_cell x
    obtain ⟨l1, l2⟩ := part_len x
    refine ⟨_, rfl, rfl, x, _, rfl, rfl, by decide, by rw [sizeLine_eq]; omega, fun a ha => ?_⟩
    have s0 : Same H (upd H a (.tup [.str (Txt.partition x "[").1, .str (Txt.partition x "[").2.1, .str (Txt.partition x "[").2.2])) := snew ha
    have ha1 : (upd H a (.tup [.str (Txt.partition x "[").1, .str (Txt.partition x "[").2.1, .str (Txt.partition x "[").2.2])) a = some (.tup [.str (Txt.partition x "[").1, .str (Txt.partition x "[").2.1, .str (Txt.partition x "[").2.2]) := upd_same
    generalize upd H a (.tup [.str (Txt.partition x "[").1, .str (Txt.partition x "[").2.1, .str (Txt.partition x "[").2.2]) = H0 at s0 ha1 ⊢
    generalize Txt.partition x "[" = pt at *
    obtain ⟨n, m, r⟩ := pt
    simp only at e1 e2 l1 l2 ha1
    refine ⟨a, _, rfl, Or.inl (Or.inl ha1), rfl, _, _, rfl, _, _, rfl, _, _, rfl, rfl, ?_⟩
    have lr : (cutS r none (some (-1))).length ≤ 1000 := Nat.le_trans (cutS_length _ _ _) (by omega)
    have ew : wordsL (tl (cutS r none (some (-1)))) = cellWords (tl x) := by
      rw [cut_last, e2]
      rfl
    have bad : (∀ n p, ¬ IsC (tl x) n p) → ∀ d H', Same H H' → H' d = some (.xd [(("value" : Str), .str x)]) → E (.ref CU) (some d) H' := fun e => by
      rcases q with ⟨n, p, c, _⟩ | ⟨_, q2⟩
      · exact absurd c (e _ _)
      · exact q2
    refine ⟨_, rfl, 1, rfl, -1, rfl, r, rfl, by rw [sizeLine_eq]; omega, _, rfl, _, x, rfl, lr, ?_⟩
    have nm : n.length ≤ 100000 := by omega
    by_cases ok : ∀ w ∈ cellWords (tl x), intOk w = true
    · refine .inl ⟨by rw [ew]; exact ok, fun a1 H1 s1 h1 => ?_⟩
      rw [ew] at h1
      have s01 := same_tr s0 s1
      have raise : (∀ n p, ¬ IsC (tl x) n p) → ∀ H2, Same H H2 → ∀ d, H2 d = none → E (.ref CU) (some d) (upd H2 d (.xd [(("value" : Str), .str x)])) := fun e H2 s2 d hd => bad e d _ (same_tr s2 (snew hd)) upd_same
      refine ⟨_, rfl, n, rfl, nm, fun H2 s2 => ⟨_, rfl, ?_⟩⟩
      have h2 := s2 _ _ h1
      rw [isName_eq, e1]
      cases hn : nmL (nameL (tl x)) with
      | false =>
        refine iteT ⟨_, rfl, err_raise rfl r_Unreadable.err.oex r_Unreadable.no fun d hd => raise (fun n' p' c => ?_) _ (same_tr s01 s2) d hd⟩
        rw [(isC_read c).1, c.nm] at hn
        cases hn
      | true =>
        refine iteF ?_
        refine ⟨_, rfl, a1, _, rfl, Or.inr (Or.inl (Or.inl h2)), _, _, rfl, rfl, _, rfl, ?_⟩
        rw [List.length_map]
        refine ite2 (fun h3 => ?_) (fun h3 => ?_)
        · refine ⟨_, rfl, err_raise rfl r_Unreadable.err.oex r_Unreadable.no fun d hd => raise (fun n' p' c => ?_) _ (same_tr s01 s2) d hd⟩
          have z := of_decide_eq_true h3
          rw [(isC_read c).2, List.length_map] at z
          have := c.p3
          omega
        · have few : (cellWords (tl x)).length ≤ 3 := by
            have z := of_decide_eq_false (by simpa using h3 : decide (((cellWords (tl x)).length : Int) > 3) = false)
            omega
          have em : (cellWords (tl x)).map (fun v => V.int (intL v)) = ((cellWords (tl x)).map intL).map V.int := by rw [List.map_map]; rfl
          have h2' := h2
          rw [em] at h2'
          refine ⟨_, rfl, a1, (cellWords (tl x)).map intL, rfl, Or.inl (Or.inl h2'), ?_, fun m hm hle => ⟨_, _, rfl, rfl, _, rfl, ?_⟩⟩
          · rw [List.length_map]
            exact List.length_pos_iff.mpr (words_ne _)
          refine ite2 (fun h4 => ?_) (fun h4 => ?_)
          · refine ⟨_, rfl, err_raise rfl r_Unreadable.err.oex r_Unreadable.no fun d hd => raise (fun n' p' c => ?_) _ (same_tr s01 s2) d hd⟩
            have z := of_decide_eq_true h4
            obtain ⟨w, hw, rfl⟩ := List.mem_map.mp hm
            rw [(isC_read c).2] at hw
            obtain ⟨k, hk, rfl⟩ := List.mem_map.mp hw
            rw [(numeral_int (numeral_num (c.few k hk))).2] at z
            omega
          · have pos : ∀ w ∈ cellWords (tl x), 0 ≤ intL w := fun w hw => by
              have z := of_decide_eq_false (by simpa using h4 : decide (m < 0) = false)
              have := hle _ (List.mem_map.mpr ⟨w, hw, rfl⟩)
              omega
            have ep : (cellWords (tl x)).map (fun v => V.int (intL v)) = ((cellWords (tl x)).map fun w => (intL w).toNat).map fun (k : Nat) => V.int (k : Int) := by
              rw [List.map_map]
              refine List.map_congr_left fun w hw => ?_
              show V.int (intL w) = V.int ((intL w).toNat : Int)
              rw [Int.toNat_of_nonneg (pos w hw)]
            have ek : ∀ k ∈ (cellWords (tl x)).map (fun w => (intL w).toNat), (numL k).length ≤ 40 := fun k hk => by
              obtain ⟨w, hw, rfl⟩ := List.mem_map.mp hk
              exact numL_len (by decide) (int_lt (ok w hw) (pos w hw))
            have ec := cell_of (t := tl x) ok hn few pos
            have epp : ∀ n' p', IsC (tl x) n' p' → (cellWords (tl x)).map (fun w => (intL w).toNat) = p' := fun n' p' c => by
              rw [(isC_read c).2, List.map_map]
              have z : ∀ k ∈ p', ((fun w => (intL w).toNat) ∘ numL) k = k := fun k hk => by
                show (intL (numL k)).toNat = k
                rw [(numeral_int (numeral_num (c.few k hk))).2, Int.toNat_natCast, numL_val]
              rw [List.map_congr_left z, List.map_id']
            generalize (cellWords (tl x)).map (fun w => (intL w).toNat) = p at ep ek ec epp
            rw [ep] at h2
            have lp : p.length ≤ 3 := by
              have z := congrArg List.length ep
              rw [List.length_map, List.length_map] at z
              omega
            have dcell : ∀ {H3 : Hp} {b : Addr}, Same H2 H3 → H3 b = some (.tup [.str n, .ref a1]) → Dp K H3 (.ref b) (cellD n p) := fun {H3 b} s3 hb => .tup (Or.inl (Or.inl hb)) (.cons (.str n) (.cons (dnat (s3 _ _ h2)) .nil))
            refine ⟨_, rfl, _, rfl, (by show 2 ≤ sizeLine; decide), fun b hb => ⟨.ref b, n, p, rfl, dcell (snew hb) upd_same, nm, by omega, fun k hk => Nat.le_trans (ek k hk) (by decide), fun y H3 s3 ey => ⟨_, rfl, rfl, ?_⟩⟩⟩
            refine ⟨_, rfl, ?_⟩
            refine ite2 (fun h5 => ?_) (fun h5 => ?_)
            · refine ⟨_, rfl, err_raise rfl r_Unreadable.err.oex r_Unreadable.no fun d hd => raise (fun n' p' c => ?_) _ (same_tr s01 (same_tr s2 (same_tr (snew hb) s3))) d hd⟩
              have z : decide (V.str y = V.str x) = false := by simpa using h5
              refine of_decide_eq_false z (congrArg V.str (ext_tl ?_))
              rw [ey, e1, (isC_read c).1, epp n' p' c]
              exact c.eq.symm
            · have z : decide (V.str y = V.str x) = true := by simpa using h5
              have yx : y = x := V.str.inj (of_decide_eq_true z)
              have c := ec (by rw [← e1, ← ey, yx])
              rw [← e1] at c
              have good : ∀ v H', Same H H' → Dp K H' v (cellD n p) → Q v H' := by
                rcases q with ⟨n0, p0, c0, q1⟩ | ⟨q2, _⟩
                · obtain ⟨u1, u2⟩ := IsC.uniq c0 c
                  rw [ext_tl u1, u2] at q1
                  exact q1
                · exact absurd c (q2 _ _)
              refine ⟨_, rfl, _, rfl, (by show 2 ≤ sizeLine; decide), fun b2 hb2 => good _ _ (same_tr s01 (same_tr s2 (same_tr (snew hb) (same_tr s3 (snew hb2))))) (dcell (same_tr (snew hb) (same_tr s3 (snew hb2))) upd_same)⟩
    · refine .inr ⟨?_, fun d H' sm hd => bad (fun n' p' c => ok fun w hw => ?_) d H' (same_tr s0 sm) hd⟩
      · rw [ew]
        exact Classical.byContradiction fun z => ok fun w hw => by
          cases e : intOk w with
          | true => rfl
          | false => exact absurd ⟨w, hw, e⟩ z
      · rw [(isC_read c).2] at hw
        obtain ⟨k, hk, rfl⟩ := List.mem_map.mp hw
        exact (numeral_int (numeral_num (c.few k hk))).1
end
end Fr

namespace Fr
open PySem PySem.NumText TL PyProof.Rows
/-- one opening bracket, and a closing one at the end -/
structure CutL (t a b : List Nat) : Prop where
  eq : t = a ++ 91 :: (b ++ [93])
  na : 91 ∉ a
  nb : 91 ∉ b
theorem isC_cut {t n p : List Nat} (h : IsC t n p) : CutL t n (joinL [32] (p.map numL)) := by
  refine ⟨h.eq, nmL_free h.nm (by omega), ?_⟩
  have : ∀ p : List Nat, 91 ∉ joinL [32] (p.map numL) := fun p => by
    induction p with
    | nil => intro z; cases z
    | cons k p ih =>
      cases p with
      | nil => exact numL_free (by omega)
      | cons l p =>
        show 91 ∉ numL k ++ ([32] ++ joinL [32] ((l :: p).map numL))
        rw [List.mem_append, List.mem_append]
        rintro (z | z | z)
        · exact numL_free (by omega) z
        · simp at z
        · exact ih z
  exact this p
theorem CutL.par {t a b : List Nat} (h : CutL t a b) : TL.par [91] [] t = some (a, b ++ [93]) := by
  rw [h.eq]
  have e := par_part1 (s := 91) (S := []) (p := a) (rest := b ++ [93]) (acc := []) h.na
  rw [List.nil_append] at e
  exact e
theorem CutL.uniq {t a b a' b' : List Nat} (h : CutL t a b) (h' : CutL t a' b') : a = a' ∧ b = b' := by
  have e := h.par
  rw [h'.par, Option.some.injEq, Prod.mk.injEq] at e
  exact ⟨e.1.symm, (List.append_cancel_right e.2).symm⟩
theorem CutL.spl {t a b : List Nat} (h : CutL t a b) : TL.spl [91] 0 [] t.dropLast = [a, b] := by
  have e : t.dropLast = a ++ ([91] ++ b) := by
    rw [h.eq, show a ++ 91 :: (b ++ [93]) = (a ++ 91 :: b) ++ [93] by simp, List.dropLast_concat]
    rfl
  rw [e, spl_part1 (s := 91) (S := []) h.na, spl_last1 h.nb]
  rfl
theorem cnt_free {l : List Nat} (h : 91 ∉ l) : cnt 91 l = 0 := by
  induction l with
  | nil => exact cnt_nil 91
  | cons c l ih =>
    rw [cnt_cons, if_neg (fun e => h (by rw [e]; exact List.mem_cons_self ..)), ih fun z => h (List.mem_cons_of_mem _ z)]
    rfl
theorem cnt_pos (l : List Nat) : 0 ≤ cnt 91 l := by
  induction l with
  | nil => rw [cnt_nil]; decide
  | cons c l ih =>
    rw [cnt_cons]
    split <;> omega
theorem cnt_zero {l : List Nat} (h : cnt 91 l = 0) : 91 ∉ l := by
  induction l with
  | nil => simp
  | cons c l ih =>
    rw [cnt_cons] at h
    have := cnt_pos l
    intro z
    by_cases e : c = 91
    · rw [if_pos e] at h
      omega
    · rw [if_neg e] at h
      rcases List.mem_cons.mp z with z | z
      · exact e z.symm
      · exact ih (by omega) z
theorem cnt_one : ∀ {l : List Nat}, cnt 91 l = 1 → ∃ a b, l = a ++ 91 :: b ∧ 91 ∉ a ∧ 91 ∉ b
  | [], h => by rw [cnt_nil] at h; cases h
  | c :: l, h => by
    rw [cnt_cons] at h
    by_cases e : c = 91
    · rw [if_pos e] at h
      exact ⟨[], l, by rw [e]; rfl, by simp, cnt_zero (by omega)⟩
    · rw [if_neg e] at h
      obtain ⟨a, b, h1, h2, h3⟩ := cnt_one (l := l) (by omega)
      refine ⟨c :: a, b, by rw [h1]; rfl, fun z => ?_, h3⟩
      rcases List.mem_cons.mp z with z | z
      · exact e z.symm
      · exact h2 z
theorem CutL.cnt {t a b : List Nat} (h : CutL t a b) : PyProof.Rows.cnt 91 t = 1 := by
  have ap : ∀ (l m : List Nat), PyProof.Rows.cnt 91 (l ++ m) = PyProof.Rows.cnt 91 l + PyProof.Rows.cnt 91 m := fun l m => by
    induction l with
    | nil => rw [List.nil_append, cnt_nil]; omega
    | cons c l ih =>
      rw [List.cons_append, cnt_cons, cnt_cons, ih]
      omega
  rw [h.eq, ap, cnt_free h.na, cnt_cons, if_pos rfl, ap, cnt_free h.nb, cnt_free (by simp)]
  rfl
theorem ends_iff (x : Str) : Txt.endswith x "]" = true ↔ (tl x).getLast? = some 93 := by
  have hy : tl ("]" : Str) ≠ [] := by decide
  have hi := at_iff (x := x) (y := "]") hy (x.length - 1)
  have lx := len_tl x
  have e1 : (pre (tl ("]" : Str)) ((tl x).drop (x.length - 1)) = true) ↔ (tl x).getLast? = some 93 := by
    show (((tl x).drop (x.length - 1)).take 1 == [93]) = true ↔ _
    rw [lx]
    rcases List.eq_nil_or_concat (tl x) with e | ⟨l, c, e⟩
    · rw [e]
      simp
    · rw [e, List.concat_eq_append]
      simp
  rw [← e1, ← hi]
  unfold Txt.endswith StrLaws.At
  show (decide (0 + 1 ≤ x.length) && PySem.Builtin.Str.subAt x "]" (x.length - 1)) = true ↔ x.length - 1 + 1 ≤ x.length ∧ _
  rw [Bool.and_eq_true, decide_eq_true_iff]
  constructor
  · rintro ⟨h1, h2⟩
    exact ⟨by omega, h2⟩
  · rintro ⟨h1, h2⟩
    exact ⟨by omega, h2⟩
theorem cut_of {t : List Nat} (h1 : PyProof.Rows.cnt 91 t = 1) (h2 : t.getLast? = some 93) : ∃ a b, CutL t a b := by
  obtain ⟨a, b, e, na, nb⟩ := cnt_one h1
  rcases List.eq_nil_or_concat b with eb | ⟨l, c, eb⟩
  · rw [e, eb] at h2
    simp at h2
  · rw [List.concat_eq_append] at eb
    have ec : c = 93 := by
      rw [e, eb, show a ++ 91 :: (l ++ [c]) = (a ++ 91 :: l) ++ [c] by simp, List.getLast?_concat] at h2
      exact Option.some.inj h2
    refine ⟨a, l, by rw [e, eb, ec], na, fun z => nb (by rw [eb]; exact List.mem_append_left _ z)⟩
/-- what the law finds is a cell -/
theorem cell_due {t a b : List Nat} (c : CutL t a b) (nm : nmL a = true) (all : ∀ w ∈ spl [32] 0 [] b, Numeral w) (few : (spl [32] 0 [] b).length ≤ 3) (ne : spl [32] 0 [] b ≠ []) : IsC t a ((spl [32] 0 [] b).map digitsVal) := by
  have back : ((spl [32] 0 [] b).map digitsVal).map numL = spl [32] 0 [] b := by
    rw [List.map_map]
    have z : ∀ w ∈ spl [32] 0 [] b, (numL ∘ digitsVal) w = w := fun w hw => (all w hw).back
    rw [List.map_congr_left z, List.map_id']
  refine ⟨nm, fun e => ne (List.map_eq_nil_iff.mp e), by rw [List.length_map]; exact few, fun k hk => ?_, ?_⟩
  · obtain ⟨w, hw, rfl⟩ := List.mem_map.mp hk
    rw [(all w hw).back]
    exact (all w hw).few
  · unfold cellL
    rw [back, join_spl 32 b []]
    exact c.eq
end Fr

namespace Fr
open PySem PySem.Spec PyProof.Rows L2 TL
abbrev s_Ldue : Stmt := topS 18
theorem sc_Ldue : FnScope ["_law_wording", "_law_title", "_law_inner", "_law_sign", "_law_numbers", "_law_part"] ["_law_wording"] (defScope s_Ldue) := ⟨rfl, rfl, rfl, by decide +kernel, rfl, by decide +kernel, by decide +kernel⟩
-- slots: 0 _law_wording, 1 _law_title, 2 _law_inner, 3 _law_sign, 4 _law_numbers, 5 _law_part
def Good (d : PyData) : Prop := d.canLay0 = true ∧ d.depth ≤ 30
theorem goods : ∀ {ds : List PyData}, (∀ d ∈ ds, Good d) → PyData.canLayAll0 ds = true ∧ PyData.depthAll ds ≤ 30
  | [], _ => ⟨by simp [PyData.canLayAll0], by simp [PyData.depthAll]⟩
  | d :: ds, h => by
    obtain ⟨h1, h2⟩ := h d List.mem_cons_self
    obtain ⟨h3, h4⟩ := goods fun e he => h e (List.mem_cons_of_mem _ he)
    exact ⟨by simp [PyData.canLayAll0, h1, h3], by simp [PyData.depthAll]; omega⟩
theorem shaped_list {ds : List PyData} (h : ∀ d ∈ ds, Good d) : SeqAt.shaped (.list ds) = true := by
  obtain ⟨h1, h2⟩ := goods h
  unfold SeqAt.shaped
  rw [Bool.and_eq_true]
  refine ⟨by simpa [PyData.canLay0] using h1, decide_eq_true ?_⟩
  simp [PyData.depth]
  omega
theorem eqv_nil (ds : List PyData) : PyData.eqv (.list ds) (.list []) = ds.isEmpty := by
  cases ds <;> simp [PyData.eqv, PyData.eqvAll]
theorem one_good {c : Nat} (h : c < 128) : Good (.str ⟨#[c]⟩) := by
  refine ⟨?_, by simp [PyData.depth]⟩
  have z : PyData.strOk ⟨#[c]⟩ = true := by
    show (#[c] : Array Nat).all (fun y => decide (y < 0x110000)) = true
    simp
    omega
  simpa [PyData.canLay0] using z
theorem signs_dp {K : PySem.W.Frag} {H : Hp} : ∀ (l : List Nat), DpAll K H (l.map fun c => V.str ⟨#[c]⟩) (l.map fun c => PyData.str ⟨#[c]⟩)
  | [] => .nil
  | c :: l => .cons (.str _) (signs_dp l)
theorem abc_is (c : Nat) : decide (c ∈ ("abcdefghijklmnopqrstuvwxyz" : Str).cps.toList) = letL c := by
  have e : ("abcdefghijklmnopqrstuvwxyz" : Str).cps.toList = (List.range 26).map (97 + ·) := by decide +kernel
  rw [e, Bool.eq_iff_iff]
  unfold letL
  rw [Bool.and_eq_true, decide_eq_true_iff, decide_eq_true_iff, decide_eq_true_iff, List.mem_map]
  constructor
  · rintro ⟨k, hk, rfl⟩
    have := List.mem_range.mp hk
    omega
  · rintro ⟨h1, h2⟩
    exact ⟨c - 97, List.mem_range.mpr (by omega), by omega⟩
theorem dig_is (c : Nat) : decide (c ∈ ("0123456789" : Str).cps.toList) = digL c := by
  have e : ("0123456789" : Str).cps.toList = (List.range 10).map (48 + ·) := by decide +kernel
  rw [e, Bool.eq_iff_iff]
  unfold digL
  rw [Bool.and_eq_true, decide_eq_true_iff, decide_eq_true_iff, decide_eq_true_iff, List.mem_map]
  constructor
  · rintro ⟨k, hk, rfl⟩
    have := List.mem_range.mp hk
    omega
  · rintro ⟨h1, h2⟩
    exact ⟨c - 48, List.mem_range.mpr (by omega), by omega⟩
theorem mem_joinL {s : List Nat} {w : List Nat} {c : Nat} : ∀ {ws : List (List Nat)}, w ∈ ws → c ∈ w → c ∈ joinL s ws
  | [], hw, _ => nomatch hw
  | [x], hw, h => by
    rw [List.mem_singleton.mp hw] at h
    exact h
  | x :: y :: r, hw, h => by
    show c ∈ x ++ (s ++ joinL s (y :: r))
    rcases List.mem_cons.mp hw with rfl | hw
    · exact List.mem_append_left _ h
    · exact List.mem_append_right _ (List.mem_append_right _ (mem_joinL hw h))
/-- no sign is kept -/
theorem kept_none (l : List Nat) (ok : Nat → Bool) : ((l.filter fun c => !ok c).map fun c => PyData.str ⟨#[c]⟩).isEmpty = l.all ok := by
  induction l with
  | nil => rfl
  | cons c l ih =>
    cases e : ok c with
    | true =>
      rw [List.filter_cons_of_neg (by rw [e]; exact Bool.false_ne_true), List.all_cons, e]
      exact ih
    | false =>
      rw [List.filter_cons_of_pos (by rw [e]; rfl), List.all_cons, e]
      rfl
/-- the signs of a text that a test keeps -/
theorem lc_signs {u : Str} (f : Nat → Bool) (hu : u.length ≤ 100000) {g : TG} {tt : TT} {te : TE} {vs : List Nat} {σ : L2.St} {H1 : Hp} {D : Addr} {Qd : Hp → Prop} (hD : H1 D = none)
    (hs : ∀ (c : Nat) (H : Hp) (N : V → Hp → Prop) (M : Hp → Prop), (f c = true → N (.str ⟨#[c]⟩) H) → (f c = false → M H) → g (.str ⟨#[c]⟩) (wipe σ vs) H fun σ2 H2 => wipe σ2 vs = wipe σ vs ∧ tt σ2 H2 fun b H3 => if b = true then te σ2 H3 N else M H3)
    (hd : ∀ H, Same H1 H → H D = some (.lst ((u.cps.toList.filter f).map fun c => V.str ⟨#[c]⟩)) → Qd H) :
    ∃ W : Nat → Nat → Hp → Prop, (∃ m, W 0 m (upd H1 D (.lst []))) ∧ ∀ i m H, W i m H →
      ((Its u).stop i H ∧ Qd H) ∨ ((Its u).go i H ∧ ∃ Nx : Hp → Prop, (∀ H', Nx H' → ∃ m', m' < m ∧ W (i + 1) m' H') ∧ ∀ x H', (Its u).yld i H x H' → g x (wipe σ vs) H' fun σ2 H2 => wipe σ2 vs = wipe σ vs ∧ tt σ2 H2 fun b H3 =>
        if b = true then te σ2 H3 fun y H4 => ∃ acc, H4 D = some (.lst acc) ∧ acc.length < sizeLine ∧ Nx (upd H4 D (.lst (acc ++ [y]))) else Nx H3) := by
  refine lc_it walk_str (fun i H => Same H1 H ∧ H D = some (.lst (((u.cps.toList.take i).filter f).map fun c => V.str ⟨#[c]⟩))) ⟨snew hD, upd_same⟩ (fun _ _ _ _ => True.intro) ?_ ?_
  · rintro i v H2 H3 hi ⟨sm, hD2⟩ ⟨rfl, c, hc, rfl⟩
    have hc' : u.cps.toList[i]? = some c := by rw [Array.getElem?_toList]; exact hc
    refine hs c _ _ _ (fun e => ⟨_, hD2, ?_, smut sm hD, ?_⟩) fun e => ⟨sm, ?_⟩
    · rw [List.length_map]
      have z := List.length_filter_le f (u.cps.toList.take i)
      rw [List.length_take] at z
      have z2 : u.cps.toList.length ≤ 100000 := hu
      rw [sizeLine_eq]
      omega
    · rw [upd_same, List.take_add_one, hc', List.filter_append, List.map_append]
      show _ = some (HO.lst (_ ++ (([c].filter f).map fun c => V.str ⟨#[c]⟩)))
      rw [List.filter_cons_of_pos e]
      rfl
    · rw [hD2, List.take_add_one, hc', List.filter_append]
      show _ = some (HO.lst ((_ ++ ([c].filter f)).map fun c => V.str ⟨#[c]⟩))
      rw [List.filter_cons_of_neg (by rw [e]; exact Bool.false_ne_true), List.filter_nil, List.append_nil]
  · rintro H2 ⟨sm, hD2⟩
    rw [show u.cps.size = u.cps.toList.length from Array.length_toList.symm, List.take_length] at hD2
    exact hd H2 sm hD2
section
variable {P : Program} {w : World} {K : PySem.W.Frag} {mg : Str → Option Value} {base : Heap}
def spDue (K : PySem.W.Frag) : Sp := fun vs H Q _ => ∃ (x : Str), vs = [.str x] ∧ x.length ≤ 1000 ∧ (∀ c ∈ tl x, c < 128) ∧
  ((∃ (n : Str) (p : List Nat), IsC (tl x) (tl n) p ∧ ∀ l v H', Same H H' → H' l = some (.lst [v]) → Dp K H' v (cellD n p) → Q (.ref l) H') ∨
  ((∀ n p, ¬ IsC (tl x) n p) ∧ ∀ l H', Same H H' → H' l = some (.lst []) → Q (.ref l) H'))
theorem ok_due {f : Addr} {fd : FuncData} (F : Fun K "_law_due" "_law_due" s_Ldue f fd) (T : Txt mg) : FnOk P w K mg base CX0 1 f fd ["_law_wording"] (spDue K) := by
  refine F.ok sc_Ldue (fun vs H Q E h => ?_) (fun cdv A outer s H vs Q E hr h => ?_)
  · obtain ⟨x, rfl, _⟩ := h
    rfl
  · obtain ⟨x, rfl, hx, h128, q⟩ := h
    refine ⟨_, (pss_cons (ps_if (PW.pt (pw_or (pt_cmpR op_ne (pe_bm PySem.F.plainAttrs_str PySem.F.slot_str_count PySem.F.type_str_count L2.mt_count (pv 0) (pa_cons pe_str pa_nil)) pe_int (nomark _)) (pw_or1 (pt_not (pt_val (pe_bm PySem.F.plainAttrs_str PySem.F.slot_str_endswith PySem.F.type_str_endswith mt_endswith (pv 0) (pa_cons pe_str pa_nil)))))))
    (pss_one (ps_ret (pe_lst pa_nil)))
    pss_nil)
  (pss_cons (ps_asg (pe_bm PySem.F.plainAttrs_str PySem.F.slot_str_split PySem.F.type_str_split mt_split (pe_slice sl_str (pv 0) po_none (po_some (pe_un un_neg pe_int))) (pa_cons pe_str pa_nil)) (pg_unl rfl (pgs_cons (pg_name (i := 1) sc_Ldue.nd rfl (by first | exact Or.inl rfl | exact Or.inr rfl)) (pgs_cons (pg_name (i := 2) sc_Ldue.nd rfl (by first | exact Or.inl rfl | exact Or.inr rfl)) pgs_nil))))
  (pss_cons (ps_if (PW.pt (pw_or (pt_not (pt_chain op_lt op_lt pe_int (pe_callB call_len_str (by rfl) T.b_len PySem.boot_len (pa_cons (pv 1) pa_nil)) pe_int)) (pw_or1 (pt_cmpR (op_neD hr.units) (pe_lc (own := [("_law_sign", 3)]) (g := gName 3) (by rfl) sc_Ldue.nd (pi_str (pv 1)) (blkOk_by (N := ["_law_wording", "_law_title", "_law_inner", "_law_sign", "_law_numbers", "_law_part"]) (sc := defScope s_Ldue) (by decide +kernel)) (fun _ _ _ _ _ => (pg_name (i := 3) sc_Ldue.nd rfl (by first | exact Or.inl rfl | exact Or.inr rfl))) (fun _ _ _ _ _ => (pts_one (pt_cmpR op_notIn_sign (pv 3) pe_str rfl))) (fun _ _ _ _ _ => (pv 3))) (pe_lst pa_nil) (nomark _)))))
    (pss_one (ps_ret (pe_lst pa_nil)))
    pss_nil)
  (pss_cons (ps_set (i := 4) sc_Ldue.nd rfl (by first | exact Or.inl rfl | exact Or.inr rfl) (pe_lst pa_nil))
  (pss_cons (ps_for PassesOwn.never rfl (pi_list (pe_bm PySem.F.plainAttrs_str PySem.F.slot_str_split PySem.F.type_str_split mt_split (pv 2) (pa_cons pe_str pa_nil))) (pg_name (i := 5) sc_Ldue.nd rfl (by first | exact Or.inl rfl | exact Or.inr rfl))
    (pss_cons (ps_if (PW.pt (pw_or (pt_cmpR op_eq (pv 5) pe_str (nomark _)) (pw_or (pt_cmpR op_gt (pe_callB call_len_str (by rfl) T.b_len PySem.boot_len (pa_cons (pv 5) pa_nil)) pe_int (nomark _)) (pw_or1 (pt_cmpR (op_neD hr.units) (pe_lc (own := [("_law_sign", 3)]) (g := gName 3) (by rfl) sc_Ldue.nd (pi_str (pv 5)) (blkOk_by (N := ["_law_wording", "_law_title", "_law_inner", "_law_sign", "_law_numbers", "_law_part"]) (sc := defScope s_Ldue) (by decide +kernel)) (fun _ _ _ _ _ => (pg_name (i := 3) sc_Ldue.nd rfl (by first | exact Or.inl rfl | exact Or.inr rfl))) (fun _ _ _ _ _ => (pts_one (pt_cmpR op_notIn_sign (pv 3) pe_str rfl))) (fun _ _ _ _ _ => (pv 3))) (pe_lst pa_nil) (nomark _))))))
      (pss_one (ps_ret (pe_lst pa_nil)))
      pss_nil)
    (pss_cons (ps_if (PW.pt (pw_and (pt_cmpR op_eq (pe_ix ix_str (pv 5) pe_int (fun _ _ => rfl)) pe_str (nomark _)) (pw_and1 (pt_cmpR op_ne (pv 5) pe_str (nomark _)))))
      (pss_one (ps_ret (pe_lst pa_nil)))
      pss_nil)
    (pss_one (ps_expr (pe_bm PySem.F.plainAttrs_list PySem.F.slot_list_append PySem.F.type_list_append mt_append (pv 4) (pa_cons (pe_callTy call_int_str (by rfl) T.b_int (by decide +kernel) (pa_cons (pv 5) pa_nil)) pa_nil)))))))
  (pss_cons (ps_if (pt_cmpR op_gt (pe_callB call_len_seq (by rfl) T.b_len PySem.boot_len (pa_cons (pv 4) pa_nil)) pe_int (nomark _))
    (pss_one (ps_ret (pe_lst pa_nil)))
    pss_nil)
  (pss_one (ps_ret (pe_lst (pa_cons (pe_tup (pa_cons (pv 1) (pa_cons (pe_callTy call_tuple_of (by rfl) T.b_tuple (by decide +kernel) (pa_cons (pv 4) pa_nil)) pa_nil))) pa_nil)))))))))), ?_⟩
    have none : (∀ n p, ¬ IsC (tl x) n p) → ∀ H1, Same H H1 → ∀ l, H1 l = Option.none → Q (.ref l) (upd H1 l (.lst [])) := fun e H1 s1 l hl => by
      rcases q with ⟨n, p, c, _⟩ | ⟨_, q2⟩
      · exact absurd c (e _ _)
      · exact q2 l _ (same_tr s1 (snew hl)) upd_same
    have ec : Txt.count x "[" = PyProof.Rows.cnt 91 (tl x) := PyProof.Rows.count_cnt x 91
    refine ⟨_, rfl, rfl, _, _, rfl, rfl, rfl, ?_⟩
    rw [ec]
    by_cases hcut : ∃ a b, CutL (tl x) a b
    · obtain ⟨a, b, c⟩ := hcut
      have ew : Txt.endswith x "]" = true := (ends_iff x).mpr (by rw [c.eq, show a ++ 91 :: (b ++ [93]) = (a ++ 91 :: b) ++ [93] by simp, List.getLast?_concat])
      rw [c.cnt]
      refine ⟨_, rfl, ?_⟩
      refine ite2 (fun h => absurd h (by simp)) (fun _ => ?_)
      refine ⟨_, rfl, rfl, _, _, rfl, rfl, _, rfl, ?_⟩
      rw [ew]
      refine iteF ?_
      have lc : (cutS x Option.none (some (-1))).length ≤ 1000 := Nat.le_trans (cutS_length _ _ _) hx
      have es : (Txt.split (cutS x Option.none (some (-1))) "[").map tl = [a, b] := by
        have z := split_spl (cutS x Option.none (some (-1))) "[" (by decide) (kind_ok (by decide +kernel))
        rw [cut_last] at z
        exact z.trans c.spl
      obtain ⟨u, v, e2, eu, ev⟩ : ∃ u v, Txt.split (cutS x Option.none (some (-1))) "[" = [u, v] ∧ tl u = a ∧ tl v = b := by
        generalize Txt.split (cutS x Option.none (some (-1))) "[" = ys at es
        match ys, es with
        | [], es => cases es
        | [_], es => cases es
        | [u, v], es =>
          injection es with e1 e2
          injection e2 with e2 _
          exact ⟨u, v, rfl, e1, e2⟩
        | _ :: _ :: _ :: _, es =>
          injection es with _ e2
          injection e2 with _ e3
          cases e3
      have lt : (tl x).length = a.length + b.length + 2 := by
        rw [c.eq, List.length_append, List.length_cons, List.length_append, List.length_singleton]
        omega
      have lx := len_tl x
      have lu : u.length ≤ 1000 := by
        rw [len_tl, eu]
        omega
      have lv : v.length ≤ 1000 := by
        rw [len_tl, ev]
        omega
      subst eu ev
      refine ⟨_, rfl, 1, rfl, -1, rfl, x, rfl, by rw [sizeLine_eq]; omega, rfl, _, _, rfl, rfl, by decide, by rw [sizeLine_eq]; omega, fun l hl => ?_⟩
      rw [e2]
      have s0 : Same H (upd H l (.lst ([u, v].map V.str))) := snew hl
      have hl0 : (upd H l (.lst ([u, v].map V.str))) l = some (.lst ([u, v].map V.str)) := upd_same
      generalize upd H l (.lst ([u, v].map V.str)) = H0 at s0 hl0 ⊢
      refine ⟨l, _, rfl, Or.inl (Or.inl hl0), rfl, _, _, rfl, _, _, rfl, rfl, ?_⟩
      have hu2 : u.length ≤ sizeLine := by
        rw [sizeLine_eq]
        omega
      have un : ∀ n p, IsC (tl x) n p → n = tl u ∧ joinL [32] (p.map numL) = tl v := fun n p h => (isC_cut h).uniq c
      have en : nmL (tl u) = (decide ((0 : Int) < (u.length : Int)) && decide ((u.length : Int) < 9) && (tl u).all letL) := by
        unfold nmL
        have z1 : decide ((0 : Int) < (u.length : Int)) = decide (1 ≤ (tl u).length) := by
          apply decide_eq_decide.mpr
          rw [len_tl]
          omega
        have z2 : decide ((u.length : Int) < 9) = decide ((tl u).length ≤ 8) := by
          apply decide_eq_decide.mpr
          rw [len_tl]
          omega
        rw [z1, z2]
      have noN : nmL (tl u) = false → ∀ H1, Same H H1 → ∀ l, H1 l = Option.none → Q (.ref l) (upd H1 l (.lst [])) := fun e => none fun n p h => by
        rw [← (un n p h).1, h.nm] at e
        cases e
      refine ⟨_, rfl, _, rfl, hu2, _, _, rfl, rfl, _, rfl, ?_⟩
      refine ite2 (fun h1 => ?_) (fun h1 => ?_)
      · rw [h1] at en
        refine ⟨_, _, rfl, rfl, _, rfl, ?_⟩
        refine ite2 (fun h2 => ?_) (fun h2 => ?_)
        · have h2' : decide ((u.length : Int) < 9) = false := by simpa using h2
          rw [h2'] at en
          exact iteT ⟨by show 0 ≤ sizeLine; decide, fun l hl => noN en H0 s0 l hl⟩
        · have h2' : decide ((u.length : Int) < 9) = true := by simpa using h2
          rw [h2'] at en
          refine ⟨_, rfl, u, rfl, fun D hD => lc_signs (fun c => !letL c) (by omega) hD ?_ ?_⟩
          · intro c' H' N M g1 g2
            refine ⟨rfl, _, rfl, c', _, rfl, rfl, _, rfl, ?_⟩
            rw [abc_is]
            cases e : letL c' with
            | true => exact iteF (g2 (by rw [e]; rfl))
            | false => exact iteT ⟨_, rfl, g1 (by rw [e]; rfl)⟩
          · intro H1 s1 hD1
            have s01 := same_tr s0 s1
            refine ⟨by show 0 ≤ sizeLine; decide, fun e0 he0 => ⟨_, _, .lst (Or.inl (Or.inl (snew he0 _ _ hD1))) (signs_dp _), .lst (Or.inl (Or.inl upd_same)) .nil, shaped_list (fun d hd => ?_), shaped_list (fun d hd => nomatch hd), _, rfl, ?_⟩⟩
            · obtain ⟨c', hc', rfl⟩ := List.mem_map.mp hd
              refine one_good (h128 c' ?_)
              rw [c.eq]
              exact List.mem_append_left _ (List.mem_filter.mp hc').1
            · have s02 := same_tr s01 (snew (o := .lst []) he0)
              generalize upd H1 e0 (.lst []) = H2 at s02 ⊢
              rw [eqv_nil, kept_none]
              cases e3 : (tl u).all letL with
              | false =>
                rw [e3] at en
                exact iteT ⟨by show 0 ≤ sizeLine; decide, fun l hl => noN en H2 s02 l hl⟩
              | true =>
                rw [e3] at en
                refine iteF ?_
                refine ⟨by show 0 ≤ sizeLine; decide, fun nl hnl => ?_⟩
                obtain ⟨n1, n2⟩ := words_small v
                have ev := split_words v
                refine ⟨_, rfl, rfl, v, _, rfl, rfl, by decide, by rw [sizeLine_eq]; omega, fun pl hpl => ?_⟩
                have ne : pl ≠ nl := fun e => by rw [e, upd_same] at hpl; cases hpl
                have p1 : (upd (upd H2 nl (.lst [])) pl (.lst ((Txt.split v " ").map V.str))) pl = some (.lst ((Txt.split v " ").map V.str)) := upd_same
                have p2 : (upd (upd H2 nl (.lst [])) pl (.lst ((Txt.split v " ").map V.str))) nl = some (.lst []) := by rw [upd_ne (Ne.symm ne), upd_same]
                have s2 : Same H2 (upd (upd H2 nl (.lst [])) pl (.lst ((Txt.split v " ").map V.str))) := same_tr (snew hnl) (snew hpl)
                generalize upd (upd H2 nl (.lst [])) pl (.lst ((Txt.split v " ").map V.str)) = H3 at p1 p2 s2 ⊢
                generalize Txt.split v " " = ws at *
                have hnl2 : H2 nl = Option.none := hnl
                have hpl2 : H2 pl = Option.none := by
                  rw [upd_ne ne] at hpl
                  exact hpl
                refine ⟨pl, rfl, ⟨_, Or.inl (Or.inl p1)⟩, for_it (walk_list (K := K) (a := pl) (xs := ws.map V.str)) (fun i σ H4 => ∃ y5, σ = [some (.str x), some (.str u), some (.str v), Option.none, some (.ref nl), y5] ∧ Same H2 H4 ∧ H4 pl = some (.lst (ws.map V.str)) ∧ H4 nl = some (.lst ((ws.take i).map fun z => V.int ((NumText.digitsVal (tl z) : Nat) : Int))) ∧ ∀ z ∈ ws.take i, Numeral (tl z))
                  ⟨_, rfl, s2, p1, p2, fun z hz => nomatch hz⟩ (fun i σ H4 _ ⟨_, _, _, h, _, _⟩ => Or.inl (Or.inl h)) ?_ ?_⟩
                · rintro i y σ H4 H5 hi ⟨y5, rfl, s4, hp4, h4, all⟩ ⟨rfl, hy⟩
                  rw [List.getElem?_map] at hy
                  obtain ⟨z, hz, rfl⟩ := Option.map_eq_some_iff.mp hy
                  have mz := List.mem_of_getElem? hz
                  have lz := n2 z mz
                  have s04 := same_tr s02 s4
                  have notNum : ¬ Numeral (tl z) → ∀ H1, Same H H1 → ∀ l, H1 l = Option.none → Q (.ref l) (upd H1 l (.lst [])) := fun e => none fun n p h => by
                    have e5 : wordsL (tl v) = p.map numL := by
                      rw [← (un n p h).2]
                      exact spl_cell h.p1
                    have m5 : tl z ∈ wordsL (tl v) := by
                      rw [← ev]
                      exact List.mem_map.mpr ⟨z, mz, rfl⟩
                    rw [e5] at m5
                    obtain ⟨k, hk, ek⟩ := List.mem_map.mp m5
                    rw [← ek] at e
                    exact e (numeral_num (h.few k hk))
                  have ret : ¬ Numeral (tl z) → ∀ H1, Same H H1 → (0 : Nat) ≤ sizeLine ∧ ∀ l, H1 l = Option.none → Q (.ref l) (upd H1 l (.lst [])) := fun e H1 s1 => ⟨by decide, notNum e H1 s1⟩
                  refine ⟨_, rfl, rfl, _, rfl, ?_⟩
                  refine ite2 (fun g1 => ?_) (fun g1 => ?_)
                  · refine ret (fun e => e.ne ?_) _ s04
                    have w : V.str z = V.str "" := of_decide_eq_true g1
                    rw [V.str.inj w]
                    rfl
                  · have ne0 : tl z ≠ [] := fun e => by
                      have w : decide (V.str z = V.str "") = false := by simpa using g1
                      exact of_decide_eq_false w (congrArg V.str (ext_tl e))
                    refine ⟨_, rfl, z, rfl, by rw [sizeLine_eq]; omega, _, _, rfl, rfl, _, rfl, ?_⟩
                    refine ite2 (fun g2 => ?_) (fun g2 => ?_)
                    · refine ret (fun e => ?_) _ s04
                      have w := of_decide_eq_true g2
                      have := e.few
                      rw [len_tl] at w
                      omega
                    · have few : (tl z).length ≤ 40 := by
                        have w := of_decide_eq_false (by simpa using g2 : decide ((z.length : Int) > 40) = false)
                        rw [len_tl] at w
                        omega
                      refine ⟨_, rfl, z, rfl, fun D hD => lc_signs (fun c => !digL c) (by omega) hD ?_ ?_⟩
                      · intro c' H' N M g1 g2
                        refine ⟨rfl, _, rfl, c', _, rfl, rfl, _, rfl, ?_⟩
                        rw [dig_is]
                        cases e : digL c' with
                        | true => exact iteF (g2 (by rw [e]; rfl))
                        | false => exact iteT ⟨_, rfl, g1 (by rw [e]; rfl)⟩
                      · intro H6 s6 hD6
                        have s06 := same_tr s04 s6
                        refine ⟨by show 0 ≤ sizeLine; decide, fun e0 he0 => ⟨_, _, .lst (Or.inl (Or.inl (snew he0 _ _ hD6))) (signs_dp _), .lst (Or.inl (Or.inl upd_same)) .nil, shaped_list (fun d hd => ?_), shaped_list (fun d hd => nomatch hd), _, rfl, ?_⟩⟩
                        · obtain ⟨c', hc', rfl⟩ := List.mem_map.mp hd
                          refine one_good (h128 c' ?_)
                          have m1 : c' ∈ tl z := (List.mem_filter.mp hc').1
                          have m2 : c' ∈ tl v := by
                            have w := join_spl 32 (tl v) []
                            rw [List.nil_append] at w
                            rw [← w]
                            exact mem_joinL (by rw [show spl [32] 0 [] (tl v) = wordsL (tl v) from rfl, ← ev]; exact List.mem_map.mpr ⟨z, mz, rfl⟩) m1
                          rw [c.eq]
                          exact List.mem_append_right _ (List.mem_cons_of_mem _ (List.mem_append_left _ m2))
                        · have s67 := snew (o := .lst []) he0
                          have s07 := same_tr s06 s67
                          have s47 := same_tr s6 s67
                          generalize upd H6 e0 (.lst []) = H7 at s07 s47 ⊢
                          rw [eqv_nil, kept_none]
                          cases e3 : (tl z).all digL with
                          | false =>
                            refine iteT (ret (fun e => ?_) H7 s07)
                            have w : (tl z).all digL = true := List.all_eq_true.mpr fun c' hc' => by
                              have := e.dig c' hc'
                              unfold digL
                              simp
                              exact this
                            rw [w] at e3
                            cases e3
                          | true =>
                            refine iteF ?_
                            have dg : NumText.AllDigits (tl z) := fun c' hc' => by
                              have w := List.all_eq_true.mp e3 c' hc'
                              unfold digL at w
                              simpa using w
                            obtain ⟨c0, r0, e0z⟩ : ∃ c0 r0, tl z = c0 :: r0 := by
                              cases q0 : tl z with
                              | nil => exact absurd q0 ne0
                              | cons c0 r0 => exact ⟨c0, r0, rfl⟩
                            refine ⟨_, rfl, z, 0, c0, rfl, rfl, by rw [sizeLine_eq]; omega, atI_nat (xs := z.cps.toList) (j := 0) (by rw [show z.cps.toList = c0 :: r0 from e0z]; rfl), rfl, _, rfl, ?_⟩
                            refine ite2 (fun k1 => ?_) (fun k1 => ?_)
                            · refine ⟨_, rfl, rfl, _, rfl, ?_⟩
                              refine ite2 (fun k2 => ?_) (fun k2 => ?_)
                              · refine ret (fun e => ?_) H7 s07
                                have w1 : V.str ⟨#[c0]⟩ = V.str "0" := of_decide_eq_true k1
                                have w2 : decide (V.str z = V.str "0") = false := by simpa using k2
                                refine of_decide_eq_false w2 (congrArg V.str (ext_tl (e.lead ?_)))
                                rw [e0z]
                                have w3 : tl (⟨#[c0]⟩ : Str) = tl ("0" : Str) := congrArg tl (V.str.inj w1)
                                have w4 : [c0] = [48] := w3
                                rw [List.head?_cons, (List.cons.inj w4).1]
                              · have w2 : decide (V.str z = V.str "0") = true := by simpa using k2
                                have w3 : tl z = [48] := congrArg tl (V.str.inj (of_decide_eq_true w2))
                                have N : Numeral (tl z) := ⟨ne0, few, dg, fun _ => w3⟩
                                have l41 : z.length ≤ 41 := by rw [len_tl]; omega
                                have hnl := s47 _ _ h4
                                refine ⟨_, rfl, Or.inl ⟨rfl, _, Or.inl (Or.inl hnl)⟩, _, rfl, z, _, rfl, PySem.intText_digits dg ne0 (by omega), by omega, nl, _, _, rfl, rfl, hnl, ?_, ⟨_, rfl, smut (same_tr s4 s47) hnl2, ?_, ?_, ?_⟩⟩
                                · rw [List.length_map, List.length_take, sizeLine_eq]
                                  omega
                                · rw [upd_ne ne]
                                  exact s47 _ _ hp4
                                · rw [upd_same, List.take_add_one, hz, List.map_append]
                                  rfl
                                · intro z' hz'
                                  rw [List.take_add_one, hz] at hz'
                                  rcases List.mem_append.mp hz' with hz' | hz'
                                  · exact all z' hz'
                                  · obtain rfl : z' = z := by simpa using hz'
                                    exact N
                            · have w1 : decide (V.str ⟨#[c0]⟩ = V.str "0") = false := by simpa using k1
                              have N : Numeral (tl z) := ⟨ne0, few, dg, fun e => absurd (congrArg V.str (ext_tl (x := ⟨#[c0]⟩) (y := "0") (by rw [e0z, List.head?_cons] at e; show [c0] = [48]; rw [Option.some.inj e]))) (of_decide_eq_false w1)⟩
                              have l41 : z.length ≤ 41 := by rw [len_tl]; omega
                              have hnl := s47 _ _ h4
                              refine ⟨_, rfl, Or.inl ⟨rfl, _, Or.inl (Or.inl hnl)⟩, _, rfl, z, _, rfl, PySem.intText_digits dg ne0 (by omega), by omega, nl, _, _, rfl, rfl, hnl, ?_, ⟨_, rfl, smut (same_tr s4 s47) hnl2, ?_, ?_, ?_⟩⟩
                              · rw [List.length_map, List.length_take, sizeLine_eq]
                                omega
                              · rw [upd_ne ne]
                                exact s47 _ _ hp4
                              · rw [upd_same, List.take_add_one, hz, List.map_append]
                                rfl
                              · intro z' hz'
                                rw [List.take_add_one, hz] at hz'
                                rcases List.mem_append.mp hz' with hz' | hz'
                                · exact all z' hz'
                                · obtain rfl : z' = z := by simpa using hz'
                                  exact N
                · rintro σ H4 ⟨y5, rfl, s4, _, h4, all⟩
                  rw [List.length_map, List.take_length] at h4 all
                  have s04 := same_tr s02 s4
                  have ep : ws.map (fun z => V.int ((NumText.digitsVal (tl z) : Nat) : Int)) = ((wordsL (tl v)).map NumText.digitsVal).map fun (k : Nat) => V.int (k : Int) := by
                    rw [← ev, List.map_map, List.map_map]
                    rfl
                  have lw : ws.length = (wordsL (tl v)).length := by rw [← ev, List.length_map]
                  have alw : ∀ z ∈ wordsL (tl v), Numeral z := fun z hz => by
                    rw [← ev] at hz
                    obtain ⟨y, hy, rfl⟩ := List.mem_map.mp hz
                    exact all y hy
                  refine ⟨_, rfl, nl, _, rfl, Or.inl (Or.inl (Or.inl h4)), _, _, rfl, rfl, _, rfl, ?_⟩
                  rw [List.length_map]
                  refine ite2 (fun h5 => ⟨by show 0 ≤ sizeLine; decide, fun l hl => none (fun n p h => ?_) H4 s04 l hl⟩) (fun h5 => ?_)
                  · have z := of_decide_eq_true h5
                    have e5 : wordsL (tl v) = p.map numL := by
                      rw [← (un n p h).2]
                      exact spl_cell h.p1
                    rw [lw, e5, List.length_map] at z
                    have := h.p3
                    omega
                  · have few : (wordsL (tl v)).length ≤ 3 := by
                      have z := of_decide_eq_false (by simpa using h5 : decide ((ws.length : Int) > 3) = false)
                      omega
                    have C := cell_due c (by rw [en]; rfl) alw few (words_ne _)
                    have good : ∀ l v' H', Same H H' → H' l = some (.lst [v']) → Dp K H' v' (cellD u ((wordsL (tl v)).map NumText.digitsVal)) → Q (.ref l) H' := by
                      rcases q with ⟨n0, p0, c0, q1⟩ | ⟨q2, _⟩
                      · obtain ⟨u1, u2⟩ := IsC.uniq c0 C
                        rw [ext_tl u1, u2] at q1
                        exact q1
                      · exact absurd C (q2 _ _)
                    rw [ep] at h4
                    refine ⟨_, rfl, _, rfl, nl, _, rfl, Or.inl ⟨Or.inl (Or.inl h4), fun t1 ht1 => ⟨by show 2 ≤ sizeLine; decide, fun t2 ht2 => ⟨by show 1 ≤ sizeLine; decide, fun l hl => ?_⟩⟩⟩⟩
                    have z1 := snew (o := .tup (((wordsL (tl v)).map NumText.digitsVal).map fun (k : Nat) => V.int (k : Int))) ht1
                    have z2 := snew (o := .tup [V.str u, V.ref t1]) ht2
                    have z3 := snew (o := .lst [V.ref t2]) hl
                    exact good l (.ref t2) _ (same_tr s04 (same_tr z1 (same_tr z2 z3))) upd_same (.tup (Or.inl (Or.inl (z3 _ _ upd_same))) (.cons (.str u) (.cons (dnat (z3 _ _ (z2 _ _ upd_same))) .nil)))
      · have h1' : decide ((0 : Int) < (u.length : Int)) = false := by simpa using h1
        rw [h1'] at en
        refine ⟨false, rfl, ?_⟩
        exact iteT ⟨by show 0 ≤ sizeLine; decide, fun l hl => noN en H0 s0 l hl⟩
    · have nc : ∀ n p, ¬ IsC (tl x) n p := fun n p h => hcut ⟨_, _, isC_cut h⟩
      refine ⟨_, rfl, ?_⟩
      refine ite2 (fun h => ⟨by show 0 ≤ sizeLine; decide, fun l hl => none nc H same_refl l hl⟩) (fun h => ?_)
      refine ⟨_, rfl, rfl, _, _, rfl, rfl, _, rfl, ?_⟩
      refine ite2 (fun h2 => ⟨by show 0 ≤ sizeLine; decide, fun l hl => none nc H same_refl l hl⟩) (fun h2 => absurd ?_ hcut)
      have z : PyProof.Rows.cnt 91 (tl x) = 1 := by simpa using h
      have z2 : Txt.endswith x "]" = true := by simpa using h2
      exact cut_of z ((ends_iff x).mp z2)
end
end Fr

namespace Fr
open PySem PySem.Spec PyProof.Rows L2 TL
abbrev s_Lchanged : Stmt := topS 19
theorem sc_Lchanged : FnScope ["_law_bag_here", "_law_wording", "_law_spot", "_law_sign", "_law_way_now", "_law_long"] ["_law_bag_here", "_law_wording"] (defScope s_Lchanged) := ⟨rfl, rfl, rfl, by decide +kernel, rfl, by decide +kernel, by decide +kernel⟩
-- slots: 0 _law_bag_here, 1 _law_wording, 2 _law_spot, 3 _law_sign, 4 _law_way_now, 5 _law_long
/-- plain and short -/
def Asc (n : Nat) (y : Str) : Prop := y.length ≤ n ∧ ∀ c ∈ tl y, c < 128
theorem Asc.mono {n m : Nat} {y : Str} (h : Asc n y) (e : n ≤ m) : Asc m y := ⟨Nat.le_trans h.1 e, h.2⟩
theorem Asc.add {n m : Nat} {y z : Str} (h : Asc n y) (k : Asc m z) : Asc (n + m) (y ++ z) := by
  refine ⟨?_, fun c hc => ?_⟩
  · have h1 := h.1
    have k1 := k.1
    rw [len_tl] at h1 k1 ⊢
    rw [tl_append, List.length_append]
    omega
  · rw [tl_append] at hc
    exact (List.mem_append.mp hc).elim (h.2 c) (k.2 c)
theorem Asc.cut {n : Nat} {y : Str} (h : Asc n y) (lo hi : Option Int) : Asc n (cutS y lo hi) :=
  ⟨Nat.le_trans (cutS_length _ _ _) h.1, fun c hc => h.2 c (List.mem_of_mem_drop (List.mem_of_mem_take hc))⟩
theorem asc_sign {c : Nat} (h : c < 128) : Asc 1 ⟨#[c]⟩ := ⟨Nat.le_refl _, fun d hd => by
  have e : d = c := by simpa using hd
  rw [e]
  exact h⟩
theorem atI_ok {α : Type} {xs : List α} {i : Int} (h0 : 0 ≤ i) (h1 : i < xs.length) : ∃ v, atI xs i = some v ∧ v ∈ xs := by
  have h2 : i.toNat < xs.length := by omega
  refine ⟨xs[i.toNat], ?_, List.getElem_mem h2⟩
  have := atI_nat (List.getElem?_eq_getElem h2)
  rw [Int.toNat_of_nonneg h0] at this
  exact this
theorem asc_mul {c n : Nat} (h : c < 128) : Asc n (mulS c n) := by
  refine ⟨?_, fun d hd => ?_⟩
  · show (List.replicate n c).toArray.size ≤ n
    rw [List.size_toArray, List.length_replicate]
    exact Nat.le_refl _
  · have e : tl (mulS c n) = List.replicate n c := rfl
    rw [e] at hd
    rw [List.eq_of_mem_replicate hd]
    exact h
section
variable {P : Program} {w : World} {K : PySem.W.Frag} {mg : Str → Option Value} {base : Heap}
theorem DrB.tr {b g : Addr} {m m' : Nat} {H H1 H2 : Hp} (h : DrB b g m H H1) (k : DrB b g m' H1 H2) : DrB b g m' H H2 := ⟨fun a h1 h2 => (k.ne a h1 h2).trans (h.ne a h1 h2), k.ok⟩
/-- the bag drawn from, new objects beside it -/
structure DrS (b g : Addr) (m : Nat) (H H' : Hp) : Prop where
  ne : ∀ a o, a ≠ b → a ≠ g → H a = some o → H' a = some o
  ok : BagOk H' b g m
theorem DrB.drS {b g : Addr} {m : Nat} {H H' : Hp} (h : DrB b g m H H') : DrS b g m H H' := ⟨fun a o h1 h2 e => by rw [h.ne a h1 h2]; exact e, h.ok⟩
theorem DrS.tr {b g : Addr} {m m' : Nat} {H H1 H2 : Hp} (h : DrS b g m H H1) (k : DrS b g m' H1 H2) : DrS b g m' H H2 := ⟨fun a o h1 h2 e => k.ne a o h1 h2 (h.ne a o h1 h2 e), k.ok⟩
theorem BagOk.same {b g : Addr} {m : Nat} {H H' : Hp} (h : BagOk H b g m) (e : Same H H') : BagOk H' b g m := by
  obtain ⟨ns, l, t, z, h1, h2, r⟩ := h
  exact ⟨ns, l, t, z, e _ _ h1, e _ _ h2, r⟩
theorem DrS.new {b g : Addr} {m : Nat} {H H1 H2 : Hp} (h : DrS b g m H H1) (e : Same H1 H2) : DrS b g m H H2 := ⟨fun a o h1 h2 x => e _ _ (h.ne a o h1 h2 x), h.ok.same e⟩
def spChanged : Sp := fun vs H Q _ => ∃ (b g : Addr) (m : Nat) (x : Str), vs = [.ref b, .str x] ∧ BagOk H b g m ∧ m + 10 ≤ 2 ^ 60 ∧ Asc 400 x ∧ ∀ y m' H', m' ≤ m + 6 → DrS b g m' H H' → Asc 1000 y → Q (.str y) H'
theorem ok_changed {f : Addr} {fd : FuncData} (F : Fun K "_law_changed" "_law_changed" s_Lchanged f fd) (T : Txt mg) (c_Ldraw : C8.Cal P w K mg base 1 "_law_draw" spDraw []) : FnOk P w K mg base CX0 2 f fd ["_law_bag_here", "_law_wording"] spChanged := by
  refine F.ok sc_Lchanged (fun vs H Q E h => ?_) (fun cdv A outer s H vs Q E hr h => ?_)
  · obtain ⟨b, g, m, x, rfl, _⟩ := h
    rfl
  · obtain ⟨b, g, m, x, rfl, BO, hm, ax, q⟩ := h
    refine ⟨_, (pss_cons (ps_set (i := 2) sc_Lchanged.nd rfl (by first | exact Or.inl rfl | exact Or.inr rfl) (C8.pe_c c_Ldraw hr (by decide) (by rfl) (pa_cons (pv 0) (pa_cons (pe_op op_add (pe_callB call_len_str (by rfl) T.b_len PySem.boot_len (pa_cons (pv 1) pa_nil)) pe_int) pa_nil))))
  (pss_cons (ps_set (i := 3) sc_Lchanged.nd rfl (by first | exact Or.inl rfl | exact Or.inr rfl) (pe_ix ix_str pe_str (C8.pe_c c_Ldraw hr (by decide) (by rfl) (pa_cons (pv 0) (pa_cons pe_int pa_nil))) (fun _ _ => rfl)))
  (pss_cons (ps_set (i := 4) sc_Lchanged.nd rfl (by first | exact Or.inl rfl | exact Or.inr rfl) (C8.pe_c c_Ldraw hr (by decide) (by rfl) (pa_cons (pv 0) (pa_cons pe_int pa_nil))))
  (pss_cons (ps_if (pt_cmpR op_eq (pv 4) pe_int (nomark _))
    (pss_one (ps_ret (pe_op op_add_str (pe_op op_add_str (pe_slice sl_str (pv 1) po_none (po_some (pv 2))) (pv 3)) (pe_slice sl_str (pv 1) (po_some (pv 2)) po_none))))
    pss_nil)
  (pss_cons (ps_if (pt_cmpR op_eq (pv 4) pe_int (nomark _))
    (pss_one (ps_ret (pe_op op_add_str (pe_slice sl_str (pv 1) po_none (po_some (pv 2))) (pe_slice sl_str (pv 1) (po_some (pe_op op_add (pv 2) pe_int)) po_none))))
    pss_nil)
  (pss_cons (ps_if (pt_cmpR op_eq (pv 4) pe_int (nomark _))
    (pss_one (ps_ret (pe_op op_add_str (pe_op op_add_str (pe_slice sl_str (pv 1) po_none (po_some (pv 2))) (pv 3)) (pe_slice sl_str (pv 1) (po_some (pe_op op_add (pv 2) pe_int)) po_none))))
    pss_nil)
  (pss_cons (ps_set (i := 5) sc_Lchanged.nd rfl (by first | exact Or.inl rfl | exact Or.inr rfl) (pe_op op_mulS pe_str (pe_op op_add pe_int (C8.pe_c c_Ldraw hr (by decide) (by rfl) (pa_cons (pv 0) (pa_cons pe_int pa_nil))))))
  (pss_one (ps_ret (pe_ix ix_tup (pe_tup (pa_cons (pe_op op_add_str (pe_op op_add_str pe_str (pv 5)) pe_str) (pa_cons pe_str (pa_cons pe_str (pa_cons pe_str (pa_cons pe_str (pa_cons pe_str (pa_cons pe_str (pa_cons pe_str pa_nil))))))))) (C8.pe_c c_Ldraw hr (by decide) (by rfl) (pa_cons (pv 0) (pa_cons pe_int pa_nil))) (fun _ _ => rfl))))))))))), ?_⟩
    have lx := ax.1
    refine ⟨_, rfl, _, rfl, x, rfl, by rw [sizeLine_eq]; omega, _, _, rfl, rfl, b, g, _, m, rfl, BO, by omega, by omega, Nat.lt_trans (show _ < 1000 by omega) (by decide +kernel), fun d1 H1 d10 d11 D1 => ?_⟩
    refine ⟨_, rfl, b, g, 10, m + 1, rfl, D1.ok, by omega, by decide, by decide +kernel, fun d2 H2 d20 d21 D2 => ?_⟩
    have l10 : ("a01 -[]A+_" : Str).cps.toList.length = 10 := by decide +kernel
    obtain ⟨c, hc, mc⟩ := atI_ok (xs := ("a01 -[]A+_" : Str).cps.toList) (i := d2) d20 (by rw [l10]; exact d21)
    have c128 : c < 128 := by
      have z : ∀ c ∈ ("a01 -[]A+_" : Str).cps.toList, c < 128 := by decide +kernel
      exact z c mc
    have as := asc_sign c128
    refine ⟨_, d2, c, rfl, rfl, by decide +kernel, hc, ?_⟩
    refine ⟨_, rfl, b, g, 4, m + 2, rfl, D2.ok, by omega, by decide, by decide +kernel, fun d3 H3 d30 d31 D3 => ?_⟩
    have D03 := (D1.tr D2).tr D3
    have size : ∀ {n : Nat}, n ≤ 2000 → n ≤ sizeLine := fun {n} h => by rw [sizeLine_eq]; omega
    refine ⟨_, rfl, rfl, _, rfl, ?_⟩
    refine ite2 (fun h1 => ?_) (fun h1 => ?_)
    · have a1 := (ax.cut Option.none (some d1)).add as
      have a2 := a1.add (ax.cut (some d1) Option.none)
      refine ⟨_, rfl, _, rfl, d1, rfl, x, rfl, size (by omega), _, rfl, _, _, rfl, rfl, size (Nat.le_trans (Nat.add_le_add (ax.cut _ _).1 as.1) (by decide)), _, rfl, _, rfl, d1, rfl, x, rfl, size (by omega), _, _, rfl, rfl, size (Nat.le_trans (Nat.add_le_add a1.1 (ax.cut _ _).1) (by decide)), q _ (m + 3) _ (by omega) D03.drS (a2.mono (by omega))⟩
    · refine ⟨_, rfl, rfl, _, rfl, ?_⟩
      refine ite2 (fun h2 => ?_) (fun h2 => ?_)
      · have a2 := (ax.cut Option.none (some d1)).add (ax.cut (some (d1 + 1)) Option.none)
        exact ⟨_, rfl, _, rfl, d1, rfl, x, rfl, size (by omega), _, rfl, _, rfl, _, _, rfl, rfl, d1 + 1, rfl, x, rfl, size (by omega), _, _, rfl, rfl, size (Nat.le_trans (Nat.add_le_add (ax.cut _ _).1 (ax.cut _ _).1) (by decide)), q _ (m + 3) _ (by omega) D03.drS (a2.mono (by omega))⟩
      · refine ⟨_, rfl, rfl, _, rfl, ?_⟩
        refine ite2 (fun h3 => ?_) (fun h3 => ?_)
        · have a1 := (ax.cut Option.none (some d1)).add as
          have a2 := a1.add (ax.cut (some (d1 + 1)) Option.none)
          exact ⟨_, rfl, _, rfl, d1, rfl, x, rfl, size (by omega), _, rfl, _, _, rfl, rfl, size (Nat.le_trans (Nat.add_le_add (ax.cut _ _).1 as.1) (by decide)), _, rfl, _, rfl, _, _, rfl, rfl, d1 + 1, rfl, x, rfl, size (by omega), _, _, rfl, rfl, size (Nat.le_trans (Nat.add_le_add a1.1 (ax.cut _ _).1) (by decide)), q _ (m + 3) _ (by omega) D03.drS (a2.mono (by omega))⟩
        · refine ⟨_, rfl, b, g, 3, m + 3, rfl, D3.ok, by omega, by decide, by decide +kernel, fun d4 H4 d40 d41 D4 => ?_⟩
          refine ⟨_, _, rfl, rfl, 57, (39 + d4).toNat, rfl, by rw [Int.toNat_of_nonneg (by omega)], by omega, by omega, ?_⟩
          have am : Asc 50 (mulS 57 (39 + d4).toNat) := (asc_mul (by decide)).mono (by omega)
          generalize mulS 57 (39 + d4).toNat = lg at am ⊢
          have D04 := D03.tr D4
          refine ⟨_, rfl, _, _, rfl, rfl, size (Nat.le_trans (Nat.add_le_add (show ("a[" : Str).length ≤ 2 by decide) am.1) (by decide)), ?_⟩
          have a1 : Asc 52 (("a[" : Str) ++ lg) := (Asc.add (n := 2) ⟨by decide, by decide⟩ am)
          have a2 : Asc 53 ((("a[" : Str) ++ lg) ++ "]") := a1.add (m := 1) ⟨by decide, by decide⟩
          refine ⟨_, _, rfl, rfl, size (Nat.le_trans (Nat.add_le_add a1.1 (show ("]" : Str).length ≤ 1 by decide)) (by decide)), by show 8 ≤ sizeLine; decide, fun p hp => ?_⟩
          generalize (("a[" : Str) ++ lg) ++ "]" = y0 at a2 hp ⊢
          have all8 : ∀ v ∈ [V.str y0, V.str "a[]", V.str "[0]", V.str "a[0 0 0 0]", V.str "a[0", V.str "", V.str "a[00]", V.str "abcdefghi[0]"], ∃ y, v = V.str y ∧ Asc 1000 y := fun v hv => by
            simp only [List.mem_cons, List.not_mem_nil, or_false] at hv
            rcases hv with rfl | rfl | rfl | rfl | rfl | rfl | rfl | rfl
            · exact ⟨_, rfl, a2.mono (by omega)⟩
            all_goals exact ⟨_, rfl, by decide, by decide⟩
          have hp1 : (upd H4 p (.tup [V.str y0, V.str "a[]", V.str "[0]", V.str "a[0 0 0 0]", V.str "a[0", V.str "", V.str "a[00]", V.str "abcdefghi[0]"])) p = some (.tup [V.str y0, V.str "a[]", V.str "[0]", V.str "a[0 0 0 0]", V.str "a[0", V.str "", V.str "a[00]", V.str "abcdefghi[0]"]) := upd_same
          have sp := snew (o := .tup [V.str y0, V.str "a[]", V.str "[0]", V.str "a[0 0 0 0]", V.str "a[0", V.str "", V.str "a[00]", V.str "abcdefghi[0]"]) hp
          have D5 := D04.drS.new sp
          have pb : p ≠ b := fun e => by
            obtain ⟨_, _, _, _, h1, _⟩ := D4.ok
            rw [e, h1] at hp
            cases hp
          have pg : p ≠ g := fun e => by
            obtain ⟨_, _, _, _, _, h1, _⟩ := D4.ok
            rw [e, h1] at hp
            cases hp
          have len8 : [V.str y0, V.str "a[]", V.str "[0]", V.str "a[0 0 0 0]", V.str "a[0", V.str "", V.str "a[00]", V.str "abcdefghi[0]"].length = 8 := rfl
          generalize [V.str y0, V.str "a[]", V.str "[0]", V.str "a[0 0 0 0]", V.str "a[0", V.str "", V.str "a[00]", V.str "abcdefghi[0]"] = xs at hp1 sp all8 D5 len8 ⊢
          generalize upd H4 p (.tup xs) = H5 at hp1 D5 ⊢
          refine ⟨_, rfl, b, g, 8, m + 4, rfl, D5.ok, by omega, by decide, by decide +kernel, fun d5 H6 d50 d51 D6 => ?_⟩
          obtain ⟨v, hv, mv⟩ := atI_ok (xs := xs) (i := d5) d50 (by rw [len8]; exact d51)
          obtain ⟨y, rfl, ay⟩ := all8 v mv
          exact ⟨p, xs, d5, _, rfl, rfl, Or.inl (Or.inl (D6.drS.ne _ _ pb pg hp1)), hv, q _ (m + 5) _ (by omega) (D5.tr D6.drS) ay⟩
end
end Fr

namespace Fr
open PySem PySem.Spec PyProof.Rows L2 HotX
section
variable {prog : Program} {w : World} {A : Around} {E : Value → Shared → Prop} {s : Shared}
theorem list_end_hot {it l x1 : Addr} {i : Nat} {items} {Q : Option Value → Shared → Prop} (hot : HotAt A x1 s.heap) (nx : x1 ≠ it) (hit : s.heap.IsListIter it l i) (hl : s.heap.IsList l items) (hx : items[i]? = none)
    (hQ : ∀ h', Heap.ExtBut it s.heap h' → Q none { s with heap := h' }) : wpAny (model prog w) A (pyNext (.ref it)) Q E s := by
  obtain ⟨hh, o1, vs1, h1, d1, c1⟩ := hot
  obtain ⟨io, hio, _, dio⟩ := id hit
  obtain ⟨lo, hlo, _, _, dlo⟩ := hl
  unfold pyNext
  refine wpAny_bind (wpAny_attempt (wpAny_callSpecial?_slot (name := Str.ofString "__next__") hit.typeIs slot_listiter_next (wpAny_call_entry slot_listiter_next hit.typeIs entry_listiter_next ?_ (args_listiter_next _))))
  show wpAny _ _ (field (.ref it) 0 >>= _) _ _ s
  refine wpAny_bind (wpAny_field hio dio (x := .ref l) rfl ?_)
  show wpAny _ _ (if (Value.ref l == Value.none) = true then _ else _) _ _ s
  rw [if_neg (fun z => by cases z)]
  show wpAny _ _ (field (.ref it) 1 >>= _) _ _ s
  refine wpAny_bind (wpAny_field hio dio (x := .int i 0) rfl ?_)
  show wpAny _ _ (seqItems? (.ref l) >>= _) _ _ s
  refine wpAny_bind (wpAny_seqItems hlo dlo ?_)
  simp only [Int.toNat_natCast, hx]
  have k1 : (s.heap.update it (Obj.mapFields (·.setIfInBounds 0 Value.none))).get? x1 = some o1 := (Heap.get?_update_other _ _ (Ne.symm nx)).trans h1
  refine wpAny_bind (wpAny_rule (wpAny_bind (wpAny_setField hio dio (by simp) ?_)))
  show wpAny _ _ (newExc (.type "StopIteration") [] >>= _) _ _ _
  refine wpAny_bind ?_
  simp only [newExc, newTuple]
  refine wpAny_bind (wpAny_newObj_type ?_ (by size_fits))
  refine wpAny_bind (m := firstArgMember _ _) (wpAny_of_eq (a := Value.none) (by first | rfl | (simp only [firstArgMember]; rfl)) ?_)
  refine wpAny_newObj_type ?_ (by size_fits)
  refine raiseNew_hot ⟨hh, o1, vs1, Heap.get?_push_of_some _ (Heap.get?_push_of_some _ k1), d1, c1⟩ (Nat.ne_of_lt (Heap.lt_size (Heap.get?_push_of_some _ k1))) (Heap.get?_push_size _ rfl) rfl (by first | (simp; done) | (simp; omega) | (simp only [Array.size_append]; simp; omega)) ?_
  refine wpAny_bind (wpAny_isInstance (T := "StopIteration") (b := true) ⟨_, Heap.get?_update_self _ (Heap.get?_push_size _ rfl) rfl, rfl⟩ isSubtype_stop ?_)
  refine wpAny_pure (hQ _ fun b o hb e => ?_)
  have k2 : (s.heap.update it (Obj.mapFields (·.setIfInBounds 0 Value.none))).get? b = some o := (Heap.get?_update_other _ _ (Ne.symm hb)).trans e
  rw [Heap.get?_update_other _ _ (Nat.ne_of_gt (Heap.lt_size (Heap.get?_push_of_some _ k2)))]
  exact Heap.get?_push_of_some _ (Heap.get?_push_of_some _ k2)
theorem tup_end_hot {it l x1 : Addr} {i : Nat} {items} {Q : Option Value → Shared → Prop} (hot : HotAt A x1 s.heap) (nx : x1 ≠ it) (hit : IsTupIter s.heap it l i) (hl : IsTup s.heap l items) (hx : items[i]? = none)
    (hQ : ∀ h', Heap.ExtBut it s.heap h' → Q none { s with heap := h' }) : wpAny (model prog w) A (pyNext (.ref it)) Q E s := by
  obtain ⟨hh, o1, vs1, h1, d1, c1⟩ := hot
  obtain ⟨io, hio, _, dio⟩ := id hit
  obtain ⟨lo, hlo, _, _, dlo⟩ := hl
  unfold pyNext
  refine wpAny_bind (wpAny_attempt (wpAny_callSpecial?_slot (name := Str.ofString "__next__") hit.typeIs slot_tupleiter_next (wpAny_call_entry slot_tupleiter_next hit.typeIs entry_tupleiter_next ?_ (args_tupleiter_next _))))
  show wpAny _ _ (field (.ref it) 0 >>= _) _ _ s
  refine wpAny_bind (wpAny_field hio dio (x := .ref l) rfl ?_)
  show wpAny _ _ (if (Value.ref l == Value.none) = true then _ else _) _ _ s
  rw [if_neg (fun z => by cases z)]
  show wpAny _ _ (field (.ref it) 1 >>= _) _ _ s
  refine wpAny_bind (wpAny_field hio dio (x := .int i 0) rfl ?_)
  show wpAny _ _ (seqItems? (.ref l) >>= _) _ _ s
  refine wpAny_bind (wpAny_seqItems hlo dlo ?_)
  simp only [Int.toNat_natCast, hx]
  have k1 : (s.heap.update it (Obj.mapFields (·.setIfInBounds 0 Value.none))).get? x1 = some o1 := (Heap.get?_update_other _ _ (Ne.symm nx)).trans h1
  refine wpAny_bind (wpAny_rule (wpAny_bind (wpAny_setField hio dio (by simp) ?_)))
  show wpAny _ _ (newExc (.type "StopIteration") [] >>= _) _ _ _
  refine wpAny_bind ?_
  simp only [newExc, newTuple]
  refine wpAny_bind (wpAny_newObj_type ?_ (by size_fits))
  refine wpAny_bind (m := firstArgMember _ _) (wpAny_of_eq (a := Value.none) (by first | rfl | (simp only [firstArgMember]; rfl)) ?_)
  refine wpAny_newObj_type ?_ (by size_fits)
  refine raiseNew_hot ⟨hh, o1, vs1, Heap.get?_push_of_some _ (Heap.get?_push_of_some _ k1), d1, c1⟩ (Nat.ne_of_lt (Heap.lt_size (Heap.get?_push_of_some _ k1))) (Heap.get?_push_size _ rfl) rfl (by first | (simp; done) | (simp; omega) | (simp only [Array.size_append]; simp; omega)) ?_
  refine wpAny_bind (wpAny_isInstance (T := "StopIteration") (b := true) ⟨_, Heap.get?_update_self _ (Heap.get?_push_size _ rfl) rfl, rfl⟩ isSubtype_stop ?_)
  refine wpAny_pure (hQ _ fun b o hb e => ?_)
  have k2 : (s.heap.update it (Obj.mapFields (·.setIfInBounds 0 Value.none))).get? b = some o := (Heap.get?_update_other _ _ (Ne.symm hb)).trans e
  rw [Heap.get?_update_other _ _ (Nat.ne_of_gt (Heap.lt_size (Heap.get?_push_of_some _ k2)))]
  exact Heap.get?_push_of_some _ (Heap.get?_push_of_some _ k2)
theorem unpackItems_hot {t x1 : Addr} {items : Array Value} {Q : List Value → Shared → Prop} (hot : HotAt A x1 s.heap) (ht : IsTup s.heap t items)
    (hQ : ∀ h', Heap.ExtBut s.heap.objs.size s.heap h' → Q items.toList { s with heap := h' }) : wpAny (model prog w) A (unpackItems (.ref t) items.size none) Q E s := by
  have tn : t ≠ s.heap.objs.size := by
    obtain ⟨o, e, _⟩ := ht
    exact Nat.ne_of_lt (Heap.lt_size e)
  have xn : x1 ≠ s.heap.objs.size := by
    obtain ⟨_, o, _, e, _⟩ := hot
    exact Nat.ne_of_lt (Heap.lt_size e)
  unfold unpackItems notIterableAtAll
  refine wpAny_bind (wpAny_bind (wpAny_specialOf ht.typeIs slot_tuple_iter.lookup (wpAny_pure ?_)))
  simp only [Bool.false_eq_true, if_false]
  refine wpAny_bind (wpAny_holding (iter_tuple ht (wpAny_bind (wpAny_holding (draw_tuple tn items.size 0 _ _ ⟨_, Heap.get?_push_size _ rfl, rfl, rfl⟩ (ht.push _) (by omega) fun g1 it1 sb1 => ?_)))))
  rw [List.drop_zero, List.take_of_length_le (by simp), if_neg (by simp)]
  have t1 : IsTup g1 t items := (ht.push _).extBut sb1.extBut tn
  have hot1 : HotAt A x1 g1 := by
    obtain ⟨hh, o, vs, e, d, c⟩ := hot
    exact ⟨hh, o, vs, sb1.extBut _ _ xn (Heap.get?_push_of_some _ e), d, c⟩
  refine wpAny_bind (wpAny_holding (tup_end_hot (s := { s with heap := g1 }) hot1 xn it1 t1 (by simp) fun g2 e2 => ?_))
  simp only [Option.isSome_none, Bool.false_eq_true, if_false]
  exact wpAny_pure (hQ g2 fun b o hb e => e2 b o hb (sb1.extBut b o hb (Heap.get?_push_of_some _ e)))
end
end Fr

namespace Fr
open PySem PySem.Spec PyProof.Rows L2 HotX L2H
section
variable {X : Cx} {pins : List (Addr × PySem.Obj)} {σ : L2.St} {H : Hp} {s : Shared} {tg : Expr}
theorem pg_tupH {es : List Expr} {k n : Nat} {t : TGs} {pos : Pos} (hot : HotC X) (h : PGs X es t) (hn : (assignEach es X.env).length = n := by rfl) (hst : (assignEach es X.env).findIdx? (·.1) = none := by rfl) : PG X (.Tuple es k pos) (gTup X.K n t) := by
  constructor
  rintro pins s σ H v u Q I r ⟨a, xs, rfl, tq, len, q⟩
  obtain rfl : u = Value.ref a := r
  obtain ⟨its, rv, it, _⟩ := I.tuple tq
  obtain ⟨x1, ha⟩ := hot.at I
  rw [assign_Tuple]
  refine wpAny_bind (wpAny_standAt ?_)
  unfold unpack
  rw [show (assignEach es X.env).length = its.toArray.size by simp [hn, ← len, rv.length], hst]
  refine wpAny_bind (wpAny_holding (unpackItems_hot ha it fun g eg => ?_))
  exact h.run pins _ σ H xs _ Q (I.kept (t' := s.toks) fun b o e => eg b o (Nat.ne_of_lt (Heap.lt_size e)) e) (by simpa using rv) q
/-- a list, walked where an exception is handled -/
theorem turn_listH {P : Program} {w : World} {K : PySem.W.Frag} (a it : Addr) : TurnH P w K tg (Itl K a) [it] it (fun i h => h.IsListIter it a i) where
  mem := List.mem_singleton.mpr rfl
  obj i h st b hb := by
    obtain rfl := List.mem_singleton.mp hb
    obtain ⟨o, e, _, d⟩ := st
    exact ⟨o, e, fun v z => by rw [d] at z; cases z⟩
  keep i h h' st k := st.at fun o e => k it (List.mem_singleton.mpr rfl) o e
  item := by
    rintro X rfl rfl rfl hot i pins s σ H E I hf st ⟨xs, x, hq, hx⟩
    obtain ⟨its, rv, p, _⟩ := I.list hq
    obtain ⟨u, hu, ru⟩ := rv.get hx
    obtain ⟨f0, f1, f2, f3, f4, f5⟩ := hf it (List.mem_singleton.mpr rfl)
    refine wpAny_pyNext_list_item st p.isList (x := u) (by simpa using hu) fun g st1 sb => ?_
    have I1 : Inv X pins σ H { s with heap := g } := I.turned (t' := s.toks) (fun b o hb e => (sb.2 b hb).trans e) f0 f1 f3 f4 f5
    obtain ⟨o, e, c, d⟩ := id st1
    exact ⟨u, rfl, go_of (s := { s with heap := g }) e c d (by decide) ⟨x, H, I1, ru, ⟨rfl, fun ys hy => by rw [I.list_inj hy hq]; exact hx⟩, st1, fun b hb => (hf b hb).1⟩⟩
  done := by
    rintro X rfl rfl rfl hot i pins s σ H E I hf st ⟨xs, hq, hx⟩
    obtain ⟨its, rv, p, _⟩ := I.list hq
    obtain ⟨f0, f1, f2, f3, f4, f5⟩ := hf it (List.mem_singleton.mpr rfl)
    obtain ⟨q, ⟨hh, vs, dv, cv⟩, hq1⟩ := hot
    have lv := rv.length
    exact list_end_hot ⟨hh, q.2, vs, (I.pin q (List.mem_append_left _ hq1)).1, dv, cv⟩ (f5 q (List.mem_append_left _ hq1)) st p.isList (by simp; omega) fun g eb => ⟨rfl, I.turned (t' := s.toks) (fun b o hb e => eb b o hb e) f0 f1 f3 f4 f5⟩
  self _ _ _ _ _ st h := wpAny_pyIter_listiter st h
theorem pi_listH {l : Expr} {tl : TE} (hl : PE X l tl) : PIH X tg l (iList X.K tl) := by
  constructor
  intro pins s σ H R I h
  refine thn (hl.run pins s σ H _ I h) ?_
  rintro v s1 ⟨x, H1, I1, r1, a, rfl, ⟨xs, hq⟩, q⟩
  obtain rfl : v = Value.ref a := r1
  obtain ⟨its, rv, p, _⟩ := I1.list hq
  refine wpAny_pyIter_list p.isList ⟨s1.heap.objs.size, [s1.heap.objs.size], _, _, H1, rfl, I1.kept (t' := s1.toks) fun b o e => Heap.get?_push_of_some _ e, turn_listH a _, ⟨_, Heap.get?_push_size _ rfl, rfl, rfl⟩, fun b hb => ?_, q⟩
  obtain rfl := List.mem_singleton.mp hb
  exact I1.fpOk (Nat.le_refl _) (I1.hok.fresh (Nat.le_refl _))
end
/-- a block where p's object is the exception that is handled -/
abbrev blkH (X : Cx) (p : Addr × PySem.Obj) (s : Shared) (H : Hp) (scope : Scope) (cenv : Env) (fp : List Addr) : Cx := { X.blk s H scope cenv fp with pn := [p] }
section
variable {X : Cx} {pins : List (Addr × PySem.Obj)} {σ : L2.St} {H : Hp} {s : Shared}
theorem blkH_start {scope : Scope} {own : List (Str × Nat)} {fp : List Addr} {p : Addr × PySem.Obj} (hp : p ∈ X.pn) (I : Inv X pins σ H s) (ok : BlkOk X.N X.env.scope scope own) (hN : X.N.Nodup) (hfp : ∀ b ∈ fp, FpOk X pins H b ∧ b < s.heap.objs.size) :
    Inv (blkH X p s H scope (compEnvC scope (cellsFrom (s.heap.objs.size + 1) scope.names (cloFrom X.env.cells scope.names [])) s.heap.objs.size X.env) fp) [] (wipe σ (own.map (·.2))) H { s with heap := pushCells (s.heap.push { cls := .type "dict", data := .dict #[] }) scope.names } := by
  have J := block_start I ok hN hfp
  obtain ⟨p1, p2, p3, p4, p5⟩ := I.pin p (List.mem_append_left _ hp)
  refine ⟨⟨J.ok.mod, J.ok.kind, J.ok.glob, J.ok.blt, J.ok.above, J.ok.inj, J.ok.has, J.ok.cab, J.ok.hd, J.ok.frames, J.ok.stk, J.ok.exf, J.ok.bs, J.ok.bsz, J.ok.noex, J.ok.exfs, J.ok.funs, J.ok.frf⟩, J.os, J.bare, J.base, J.loc, J.cell, J.free, J.freeC, fun q hq => ?_, J.hok, J.len⟩
  obtain rfl : q = p := by simpa using hq
  exact ⟨pushCells_keeps _ _ _ _ (Heap.get?_push_of_some _ p1), p2, Nat.ne_of_lt (Heap.lt_size p1), fun hm => (List.mem_cons.mp (I.stkSub q.1 hm)).elim p3 p4, p5⟩
end
end Fr

namespace Fr
open PySem PySem.Spec PyProof.Rows L2 HotX L2H
section
variable {X : Cx} {tg : Expr}
theorem lc_coreH {pins : List (Addr × PySem.Obj)} {s : Shared} {σ : L2.St} {H : Hp} {Q : VK} {elt iter : Expr} {ifs : List Expr} {scope : Scope} {own : List (Str × Nat)} {pos pos' : Pos} {wi : TI} {g : TG} {tt : TT} {te : TE} {use : Option (Value → Sem Unit)} {Qf : Value → Shared → Prop}
    (hot : HotC X) (hN : X.N.Nodup) (I : Inv X pins σ H s) (hi : PIH X tg iter wi) (ok : BlkOk X.N X.env.scope scope own)
    (hg : ∀ (p : Addr × PySem.Obj) (s : Shared) (H : Hp) (C : Addr) (cl : List (Str × Addr)) (fp : List Addr), HotC (blkH X p s H scope (compEnvC scope cl C X.env) fp) → PG (blkH X p s H scope (compEnvC scope cl C X.env) fp) tg g)
    (ht : ∀ (p : Addr × PySem.Obj) (s : Shared) (H : Hp) (C : Addr) (cl : List (Str × Addr)) (fp : List Addr), PTs (blkH X p s H scope (compEnvC scope cl C X.env) fp) ifs tt)
    (he : ∀ (p : Addr × PySem.Obj) (s : Shared) (H : Hp) (C : Addr) (cl : List (Str × Addr)) (fp : List Addr), PE (blkH X p s H scope (compEnvC scope cl C X.env) fp) elt te) (hs : ∀ x, foldedSetIterable iter X.env x = pure x)
    (h : tLc wi g tt te (own.map (·.2)) σ H Q)
    (fin : ∀ D C s' m H', Inv X pins σ H' s' → Q (.ref D) H' → s'.heap.Ns C m → FpOk X pins H' C → compPost (model X.prog X.w) X.A X.xe use Qf (.ref D) C (.ok .next) s') :
    wpAny (model X.prog X.w) X.A (comprehension (.ListComp elt [⟨tg, iter, ifs, 0⟩] scope pos) scope X.env pos' (newList []) false (eval iter X.env) use) Qf X.xe s := by
  obtain ⟨p, h1, hp⟩ := hot
  have free : ∀ y ∈ scope.names, y.2 = .free → ∃ c, X.env.cells.lookup y.1 = some c := fun y hy e => I.ok.has _ (ok.free y hy e)
  refine wpAny_comprehension_free (use := use) rfl hs (closure_ok free) ok.kind (fun y hy e => by rw [ok.uniq y hy, e]) (thn (hi.run pins s σ H _ I h) fun xv s1 hx => thn hx ?_)
  rintro _ s2 ⟨it, fp, tn, J, H2, rfl, I2, T, st2, f2, q⟩
  refine wpAny_newObj_type (newEnv_comp ?_) (by show 0 ≤ sizeLine; decide)
  obtain ⟨D, hD⟩ : ∃ D, D = s2.heap.objs.size := ⟨_, rfl⟩
  rw [← hD]
  have dn : H2 D = none := I2.hok.fresh (Nat.le_of_eq hD.symm)
  obtain ⟨W, ⟨m0, w0⟩, turn⟩ := q D dn
  -- with the new list
  generalize hs3 : ({ s2 with heap := s2.heap.push { cls := .type "list", data := .seq ([] : List Value).toArray } } : Shared) = s3
  have h3 : s3.heap = s2.heap.push { cls := .type "list", data := .seq ([] : List Value).toArray } := by rw [← hs3]
  have I3 : Inv X pins σ (upd H2 D (.lst [])) s3 := by
    rw [← hs3]
    refine I2.laid (t' := s2.toks) (fun b o e => Heap.get?_push_of_some _ e) (Nat.le_of_eq hD.symm) ⟨Nat.zero_le _, [], 0, .nil, ?_⟩
    rw [hD]
    exact Heap.get?_push_size _ rfl
  have f3 : ∀ b ∈ fp, FpOk X pins (upd H2 D (.lst [])) b ∧ b < s3.heap.objs.size := by
    intro b hb
    obtain ⟨o, e, _⟩ := T.obj _ _ st2 b hb
    have lt := Heap.lt_size e
    refine ⟨⟨?_, (f2 b hb).2⟩, by rw [h3, Heap.size_push]; exact Nat.lt_succ_of_lt lt⟩
    rw [upd_ne (by rw [hD]; exact Nat.ne_of_lt lt)]
    exact (f2 b hb).1
  have st3 : tn 0 s3.heap := T.keep _ _ _ st2 fun b _ o e => by rw [h3]; exact Heap.get?_push_of_some _ e
  have I4 := blkH_start hp I3 ok hN f3
  have hotB : ∀ (s : Shared) (H : Hp) (cenv : Env) (fp : List Addr), HotC (blkH X p s H scope cenv fp) := fun _ _ _ _ => ⟨p, h1, List.mem_singleton.mpr rfl⟩
  have pg := hg p s3 (upd H2 D (.lst [])) s3.heap.objs.size (cellsFrom (s3.heap.objs.size + 1) scope.names (cloFrom X.env.cells scope.names [])) fp (hotB _ _ _ _)
  have pt := ht p s3 (upd H2 D (.lst [])) s3.heap.objs.size (cellsFrom (s3.heap.objs.size + 1) scope.names (cloFrom X.env.cells scope.names [])) fp
  have pe := he p s3 (upd H2 D (.lst [])) s3.heap.objs.size (cellsFrom (s3.heap.objs.size + 1) scope.names (cloFrom X.env.cells scope.names [])) fp
  show codeAny _ _ (.compStart (.ListComp elt [⟨tg, iter, ifs, 0⟩] scope pos) 0 (.ref it) (.ref D) (compEnvC scope (cellsFrom (s3.heap.objs.size + 1) scope.names (cloFrom X.env.cells scope.names [])) s3.heap.objs.size X.env)) (compPost (model X.prog X.w) X.A X.xe use Qf (.ref D) s3.heap.objs.size) { s3 with heap := pushCells (s3.heap.push { cls := .type "dict", data := .dict #[] }) scope.names }
  have nfp : ∀ b ∈ fp, (upd H2 D (.lst [])) b = none := fun b hb => (f3 b hb).1.1
  generalize hce : compEnvC scope (cellsFrom (s3.heap.objs.size + 1) scope.names (cloFrom X.env.cells scope.names [])) s3.heap.objs.size X.env = ce at I4 pg pt pe ⊢
  have cL : ce.locals = s3.heap.objs.size := by rw [← hce]; rfl
  generalize hH3 : upd H2 D (.lst []) = H3 at I3 I4 pg pt pe w0 nfp f3
  generalize hs4 : ({ s3 with heap := pushCells (s3.heap.push { cls := .type "dict", data := .dict #[] }) scope.names } : Shared) = s4 at I4 ⊢
  have st4 : tn 0 s4.heap := T.keep _ _ _ st3 fun b _ o e => by rw [← hs4]; exact pushCells_keeps _ _ _ _ (Heap.get?_push_of_some _ e)
  have stay : ∀ {σ1 : L2.St} {H1 : Hp} {s1 : Shared}, Inv (blkH X p s3 H3 scope ce fp) [] σ1 H1 s1 → (∀ b ∈ fp, H1 b = none) → ∀ b ∈ fp, FpOk (blkH X p s3 H3 scope ce fp) [] H1 b := fun {σ1 H1 s1} J1 n1 b hb =>
    ⟨n1 b hb, (J1.ok.exf b hb).1, J1.ok.exfs b hb, .inl hb, fun x c e => (J1.ok.exf b hb).2 x c e, fun z hz => by
      obtain rfl : z = p := by simpa using hz
      exact (f3 b hb).1.2.2.2.2.2 z (List.mem_append_left _ hp)⟩
  refine codeAny_compStart_list ?_ (T.self X.A 0 _ _ _ st4 ?_) <;> (
    refine compLoop_any (fun n s' => ∃ i H', Inv (blkH X p s3 H3 scope ce fp) [] (wipe σ (own.map (·.2))) H' s' ∧ tn i s'.heap ∧ (∀ b ∈ fp, H' b = none) ∧ W i n H') ?_ m0 ⟨0, H3, I4, st4, nfp, w0⟩
    rintro n s5 ⟨i, H5, I5, st5, n5, w5⟩
    rcases turn i n H5 w5 with ⟨stop, qq⟩ | ⟨go, Nx, hNx, step⟩
    · refine thnF (T.done (blkH X p s3 H3 scope ce fp) rfl rfl rfl (hotB _ _ _ _) i [] s5 _ H5 (fun _ _ => False) I5 (stay I5 n5) st5 stop) ?_
      rintro _ s6 ⟨rfl, I6⟩
      have I7 : Inv X pins σ H5 s6 := I3.call' (ch := fp) I6.os I6.base I6.hok I6.bare fun b hb => ⟨(f3 b hb).1.2.2.2.1, (f3 b hb).1.2.1, (f3 b hb).1.2.2.2.2.1, (f3 b hb).1.2.2.2.2.2⟩
      obtain ⟨m, hn, _⟩ := I6.loc
      have hn1 : s6.heap.Ns ce.locals m := hn
      have free5 : H5 ce.locals = none := I6.free
      rw [cL] at hn1 free5
      exact fin D _ s6 m H5 I7 qq hn1 (I3.fpOk (Nat.le_refl _) free5)
    · refine thnF (T.item (blkH X p s3 H3 scope ce fp) rfl rfl rfl (hotB _ _ _ _) i [] s5 _ H5 (fun _ _ => False) I5 (stay I5 n5) st5 go) ?_
      rintro _ s6 ⟨u, rfl, h6⟩
      refine thnF h6 ?_
      rintro _ s7 ⟨x, H7, I7, r7, y7, st7, n7⟩
      have K7 := I7.pinned (stay I7 n7) (T.obj _ _ st7)
      refine thnF (pg.run _ s7 _ H7 x u _ K7 r7 (step x H7 y7)) ?_
      rintro _ s8 ⟨σ8, H8, I8, hw, q8⟩
      refine thnF (pt.run _ s8 σ8 H8 _ I8 q8) ?_
      rintro b s9 ⟨H9, I9, q9⟩
      have again : ∀ {s' : Shared} {H' : Hp}, Inv (blkH X p s3 H3 scope ce fp) ([] ++ pinsAt fp s7.heap) σ8 H' s' → Nx H' → ∃ m, m < n ∧ ∃ i H', Inv (blkH X p s3 H3 scope ce fp) [] (wipe σ (own.map (·.2))) H' s' ∧ tn i s'.heap ∧ (∀ b ∈ fp, H' b = none) ∧ W i m H' := fun {s' H'} J1 nx => by
        obtain ⟨m1, lt, w1⟩ := hNx H' nx
        have there : ∀ b ∈ fp, ∀ o, s7.heap.get? b = some o → s'.heap.get? b = some o ∧ H' b = none := fun b hb o e => by
          obtain ⟨z1, z2, _⟩ := J1.pin (b, o) (List.mem_append_right _ (List.mem_append_right _ (mem_pinsAt hb e)))
          exact ⟨z1, z2⟩
        refine ⟨m1, lt, i + 1, H', (J1.unpinned (pins := [])).weak (by rw [← hw, wipe_length]) (fun j v e => ?_), T.keep _ _ _ st7 fun b hb o e => (there b hb o e).1, fun b hb => ?_, w1⟩
        · rw [← hw] at e
          exact (wipe_some e).1
        · obtain ⟨o, e, _⟩ := T.obj _ _ st7 b hb
          exact (there b hb o e).2
      cases b with
      | false => exact again I9 (by simpa using q9)
      | true =>
        simp only [if_true] at q9 ⊢
        refine thnF (pe.run _ s9 σ8 H9 _ I9 q9) ?_
        rintro z s10 ⟨yv, H10, I10, r10, acc, hD10, hz10, nx⟩
        exact app_ok (X := blkH X p s3 H3 scope ce fp) I10 hD10 hz10 r10 fun s11 I11 => again I11 nx)
theorem pe_lcH {elt iter : Expr} {ifs : List Expr} {scope : Scope} {own : List (Str × Nat)} {pos : Pos} {wi : TI} {g : TG} {tt : TT} {te : TE} (hot : HotC X) (hN : X.N.Nodup) (hi : PIH X tg iter wi) (ok : BlkOk X.N X.env.scope scope own)
    (hg : ∀ (p : Addr × PySem.Obj) (s : Shared) (H : Hp) (C : Addr) (cl : List (Str × Addr)) (fp : List Addr), HotC (blkH X p s H scope (compEnvC scope cl C X.env) fp) → PG (blkH X p s H scope (compEnvC scope cl C X.env) fp) tg g)
    (ht : ∀ (p : Addr × PySem.Obj) (s : Shared) (H : Hp) (C : Addr) (cl : List (Str × Addr)) (fp : List Addr), PTs (blkH X p s H scope (compEnvC scope cl C X.env) fp) ifs tt)
    (he : ∀ (p : Addr × PySem.Obj) (s : Shared) (H : Hp) (C : Addr) (cl : List (Str × Addr)) (fp : List Addr), PE (blkH X p s H scope (compEnvC scope cl C X.env) fp) elt te) (hs : ∀ x, foldedSetIterable iter X.env x = pure x := by intro _; rfl) :
    PE X (.ListComp elt [⟨tg, iter, ifs, 0⟩] scope pos) (tLc wi g tt te (own.map (·.2))) := by
  constructor
  intro pins s σ H Q I h
  rw [eval_ListComp]
  refine lc_coreH hot hN I hi ok hg ht he hs h ?_
  intro D C s1 m H1 I1 q ns fo
  refine ⟨m, ns, fun g sb => ?_⟩
  obtain ⟨g0, g1, _, g3, g4, g5⟩ := fo
  exact ⟨.ref D, H1, I1.turned (t' := s1.toks) (fun b o hb e => (sb.2 b hb).trans e) g0 g1 g3 g4 g5, rfl, q⟩
theorem ps_setLcH {i : Nat} {y : Str} {py : Pos} {elt iter : Expr} {ifs : List Expr} {scope : Scope} {own : List (Str × Nat)} {pos spos : Pos} {wi : TI} {g : TG} {tt : TT} {te : TE} (hot : HotC X) (hN : X.N.Nodup) (hy : X.N[i]? = some y) (hyl : X.env.scope.names.lookup y = some .local)
    (hsw : swapsWith (.ListComp elt [⟨tg, iter, ifs, 0⟩] scope pos) (some (.Name y py)) spos.line X.env = pure true) (hi : PIH X tg iter wi) (ok : BlkOk X.N X.env.scope scope own)
    (hg : ∀ (p : Addr × PySem.Obj) (s : Shared) (H : Hp) (C : Addr) (cl : List (Str × Addr)) (fp : List Addr), HotC (blkH X p s H scope (compEnvC scope cl C X.env) fp) → PG (blkH X p s H scope (compEnvC scope cl C X.env) fp) tg g)
    (ht : ∀ (p : Addr × PySem.Obj) (s : Shared) (H : Hp) (C : Addr) (cl : List (Str × Addr)) (fp : List Addr), PTs (blkH X p s H scope (compEnvC scope cl C X.env) fp) ifs tt)
    (he : ∀ (p : Addr × PySem.Obj) (s : Shared) (H : Hp) (C : Addr) (cl : List (Str × Addr)) (fp : List Addr), PE (blkH X p s H scope (compEnvC scope cl C X.env) fp) elt te) (hs : ∀ x, foldedSetIterable iter X.env x = pure x := by intro _; rfl) :
    PS X (.Assign [.Name y py] (.ListComp elt [⟨tg, iter, ifs, 0⟩] scope pos) spos) (tAsg (tLc wi g tt te (own.map (·.2))) (gName i)) := by
  constructor
  intro pins s σ H D I h
  have h1 : tLc wi g tt te (own.map (·.2)) σ H (fun x H1 => gName i x σ H1 D.nx) := h
  rw [exec_Assign_Name_used _ _ _ _ hsw]
  refine wpAny_bind (wpAny_standAt (wpAny_bind ?_))
  show wpAny _ X.A (do let _ ← comprehension (.ListComp elt [⟨tg, iter, ifs, 0⟩] scope pos) scope X.env (firstIterPos [⟨tg, iter, ifs, 0⟩] pos) (newList []) false (eval iter X.env) (some (assign (.Name y py) X.env))) _ _ s
  refine wpAny_bind (thn (lc_coreH (Qf := fun _ s1 => SP X pins D .next s1) hot hN I hi ok hg ht he hs h1 ?_) fun _ s1 q => wpAny_pure (wpAny_pure q))
  intro L C s1 m H1 I1 q ns fo
  show wpAny _ _ (assign (.Name y py) X.env (.ref L)) _ _ _
  refine wpAny_assign_Name (store_ok2 (v := V.ref L) I1 hN hy (.inl hyl) rfl ?_ (.inr hyl))
  rintro s2 I2 ⟨a, sb, ha⟩
  obtain ⟨g0, g1, _, g3, g4, g5⟩ := fo
  have ne : C ≠ a := by
    cases ha with
    | inl z => exact z ▸ g1
    | inr z => exact fun e => g4 y a z e.symm
  refine ⟨m, ns.sameBut sb ne, fun g sb2 => ?_⟩
  exact ⟨_, H1, I2.turned (t' := s2.toks) (fun b o hb e => (sb2.2 b hb).trans e) g0 g1 g3 g4 g5, q⟩
end
end Fr

namespace Fr
open PySem PySem.Spec PyProof.Rows L2 HotX L2H
section
variable {X : Cx}
/-- an own error made with its __init__: its context is None -/
theorem mk_oexN {CX : CXT} {x : Str} {C fI : Addr} {k : Nat} {fd : FuncData} {ps : List Str} {sp : Sp} {e : Expr} {es : List Expr} {ta : TA} {p pos : Pos} (T : OexC X.K C) (iC : PySem.W.findIn X.K (.ref C) "__init__" = some (some (.ref fI))) (tI : PySem.W.typeIn X.K (.ref fI) = some (.type "function"))
    (F1 : FnOk X.prog X.w X.K X.mg X.base CX k fI fd ps sp) (hr : Room (k + 1) X.A) (hb : Binds X.K fd ps []) (hx : Passes CX X (fun _ _ _ => False)) (hg : Gl X x) (hm : X.mg x = some (.ref C)) (ha : PA X (e :: es) ta)
    (hdb : (x == ("__debug__" : Str)) = false := by decide) (he : starEach (e :: es) X.env = (false, eval e X.env) :: starEach es X.env := by rfl) (hpl : (backTo pos (starEach es X.env)).any (·.1) = false := by rfl) :
    L2N.PMk X (.Call (.Name x p) (e :: es) [] pos) (tMkO C sp [] ta) := by
  intro pins s σ H Q I h
  obtain ⟨_, _, _, _, bm, _, _, _, _, _, _, _, _, _, _, hC, hbm⟩ := T.cls
  refine wpAny_Call_Name_kw (ld_glob I hg hm ?_ hdb)
  refine PySem.W.callWith_K (h₀ := X.base) I.ok.mod.kin T.kC (thn (ha.run pos pins s σ H _ I h) ?_) he hpl
  rintro us ⟨hp, g, dr, tk, os⟩ ⟨vs, H1, I1, r1, few, q1⟩
  refine ⟨I1.kIn, ?_⟩
  show wpAny _ _ (call (.ref C) us) _ _ _
  have up : hp.objs.size ≤ hp.objs.size + 1 := Nat.le_succ _
  have hq := q1 (hp.objs.size + 1) (I1.hok.fresh up)
  have stays : ∀ b o, hp.get? b = some o → ((hp.push (PySem.W.kdv_tup us)).push (PySem.HandSPX.excO C hp.objs.size)).get? b = some o := fun b o e => Heap.get?_push_of_some _ (Heap.get?_push_of_some _ e)
  have there : ((hp.push (PySem.W.kdv_tup us)).push (PySem.HandSPX.excO C hp.objs.size)).get? (hp.objs.size + 1) = some (PySem.HandSPX.excO C hp.objs.size) := by heap_get
  have I2 : Inv X pins σ (upd H1 (hp.objs.size + 1) (exo (hp.objs.size + 1) C none)) ⟨(hp.push (PySem.W.kdv_tup us)).push (PySem.HandSPX.excO C hp.objs.size), g, dr, tk, os⟩ :=
    I1.laid (t' := tk) (a := hp.objs.size + 1) (o := exo (hp.objs.size + 1) C none) (h' := (hp.push (PySem.W.kdv_tup us)).push (PySem.HandSPX.excO C hp.objs.size)) stays up (exo_ok there)
  have r2 : Vals (V.ref (hp.objs.size + 1) :: (vs ++ [])) (Value.ref (hp.objs.size + 1) :: (us ++ [])) := .cons rfl (r1.append .nil)
  have hl : (Value.ref (hp.objs.size + 1) :: us ++ []).length = ps.length := by
    have z := r2.length
    rw [F1.len _ _ _ _ hq] at z
    exact z.symm
  have hus : us.length ≤ sizeLine := by
    rw [← Paired.length r1, sizeLine_eq]
    omega
  refine wpAny_call (PySem.HandSPX.call_own F.excBase_ValueError (fun Y => PySem.HandSPX.refsVE_contains Y bm hbm) (I1.kIn _ _ hC) (PySem.W.looks_findIn I1.kIn iC) (fun self => PySem.W.bind_fn I1.kIn self tI) hus
    (codeAny_mono (F1.run _ X.stack _ _ ⟨Value.ref (hp.objs.size + 1) :: us, []⟩ _ _ _ (fun _ _ _ => False) (hr.make C us []) (I2.env0.make C us []) (hb _ (Value.ref (hp.objs.size + 1) :: us) I2.kIn hl) r2 hq) ?_))
  rintro r ⟨h2, g2, d2, t2, os2⟩ hq2
  cases r with
  | error er => exact hx pins σ _ _ er _ I2 hq2
  | ok fl =>
    cases fl with
    | ret u =>
      obtain ⟨v, H2, o2, bare2, un2, hok2, rv, rfl, d, fs, ea, ed, hd1, q2⟩ := hq2
      obtain ⟨_, G, J, kG, ge, hoe, na⟩ := mk_end0 (d2 := d2) (t2 := t2) I1 up stays un2 hok2 o2 bare2 ea ed hd1
      refine ⟨rv, hp.objs.size + 1, _, _, ⟨G, g2, d2, t2, os2⟩, _, .ref C, some d, rfl, J, kG, ge, hoe, ⟨rfl, rfl, fun vs hv => ?_⟩, rfl, rfl, na, rfl, bare2, raises_own T.exC T.tyC, q2⟩
      cases hv
      rfl
    | next => exact False.elim hq2
    | brk => exact False.elim hq2
    | cont => exact False.elim hq2
/-- a class call whose __init__ may raise -/
theorem run_mkS {CX : CXT} {k : Nat} {f C : Addr} {fd : FuncData} {ps : List Str} {sp : Sp} {dvs : List V} {ds : List Value} {E : L2.St → XK} {pins : List (Addr × PySem.Obj)} {σ : L2.St} {H : Hp} {s : Shared} {Q : VK} {us : List Value} {vs : List V} (M : Mk X.K C f) (F : FnOk X.prog X.w X.K X.mg X.base CX k f fd ps sp) (hr : Room (k + 1) X.A) (hb : Binds X.K fd ps ds) (hd : Vals dvs ds)
    (hx : PassesAt CX X σ (E σ)) (I : Inv X pins σ H s) (r : Vals vs us) (h : ∀ x dx, H x = none → H dx = none → dx ≠ x → sp (.ref x :: (vs ++ dvs)) (upd (upd H dx (.own x)) x (.ins C dx [])) (fun v H2 => v = .non ∧ Q (.ref x) H2) (E σ)) :
    wpAny (model X.prog X.w) X.A (call (.ref C) us) (EP X pins σ Q) X.xe s := by
  have hq := h (s.heap.objs.size + 1) s.heap.objs.size (I.hok.fresh (Nat.le_succ _)) (I.hok.fresh (Nat.le_refl _)) (Nat.ne_of_lt (Nat.lt_succ_self _))
  have J := Inv.made (C := C) I
  have r2 : Vals (V.ref (s.heap.objs.size + 1) :: (vs ++ dvs)) (Value.ref (s.heap.objs.size + 1) :: (us ++ ds)) := .cons rfl (r.append hd)
  have hl : (Value.ref (s.heap.objs.size + 1) :: us ++ ds).length = ps.length := r2.length.symm.trans (F.len _ _ _ _ hq)
  refine wpAny_call (make_map (f := f) I.kIn M.makes M.init (beq_iff_eq.mp M.fn) (codeAny_mono (F.run _ X.stack _ _ ⟨Value.ref (s.heap.objs.size + 1) :: us, []⟩ _ _ _ (E σ) (hr.make C us []) (J.env0.make C us []) (hb _ (Value.ref (s.heap.objs.size + 1) :: us) J.kIn hl) r2 hq) ?_))
  intro rs s2 z
  cases rs with
  | error e => exact hx pins _ _ e s2 J z
  | ok fl =>
    cases fl with
    | ret u =>
      obtain ⟨v, H2, J2, rv, rfl, q⟩ := J.after z
      exact ⟨rv, V.ref (s.heap.objs.size + 1), H2, J2, rfl, q⟩
    | next => exact False.elim z
    | brk => exact False.elim z
    | cont => exact False.elim z
def tMakeS (C : Addr) (sp : Sp) (E : L2.St → XK) (t : TA) : TE := fun σ H Q => t σ H fun vs H1 => ∀ x dx, H1 x = none → H1 dx = none → dx ≠ x → sp (.ref x :: (vs ++ [])) (upd (upd H1 dx (.own x)) x (.ins C dx [])) (fun v H2 => v = .non ∧ Q (.ref x) H2) (E σ)
end
section
variable {P : Program} {w : World} {K : PySem.W.Frag} {mg : Str → Option Value} {base : Heap}
theorem fun_okN {x qual : Str} {st : Stmt} {f : Addr} {fd : FuncData} {N ps : List Str} {k : Nat} {sp : Sp} (F : Fun K x qual st f fd) (S : FnScope N ps (defScope st)) (len : ∀ vs H Q E, sp vs H Q E → vs.length = ps.length)
    (body : ∀ (cdv : Value) (A : Around) (outer : List Env) (s : Shared) (H : Hp) (vs : List V) (Q : VK) (E : XK), Room k (A.deeper (envOfC qual (defScope st) s.heap.objs.size f cdv)) → sp vs H Q E →
      ∃ t, PSs (cxOf (L2N.CX P w) P w K mg base N qual (defScope st) f cdv A outer s H E) (defBody st) t ∧ t { nx := fun _ H' => Q .non H', rt := Q } (start N vs) H) : FnOk P w K mg base (L2N.CX P w) (k + 1) f fd ps sp := by
  obtain ⟨oc, od, kV, doc, pm, an, cdv, ct, osl, rfl, lk, hcd⟩ := F.ex
  exact fn_of lk hcd S len fun A outer s H vs Q E hr hsp => body cdv A outer s H vs Q E hr hsp
structure CalN (P : Program) (w : World) (K : PySem.W.Frag) (mg : Str → Option Value) (base : Heap) (k : Nat) (x : Str) (sp : Sp) : Prop where
  ex : ∃ (f : Addr) (fd : FuncData) (ps : List Str), FnOk P w K mg base (L2N.CX P w) k f fd ps sp ∧ mg x = some (.ref f) ∧ PySem.W.keepIn K (.ref f) = true ∧ Binds K fd ps []
structure MakN (P : Program) (w : World) (K : PySem.W.Frag) (mg : Str → Option Value) (base : Heap) (k : Nat) (x : Str) (C : Addr) (sp : Sp) : Prop where
  ex : ∃ (f : Addr) (fd : FuncData) (ps : List Str), Mk K C f ∧ FnOk P w K mg base (L2N.CX P w) k f fd ps sp ∧ mg x = some (.ref C) ∧ Binds K fd ps []
theorem fn_orN {k : Nat} {f : Addr} {fd : FuncData} {ps : List Str} {sp0 sp1 : Sp} (F0 : FnOk P w K mg base CX0 k f fd ps sp0) (F1 : FnOk P w K mg base (L2N.CX P w) k f fd ps sp1) : FnOk P w K mg base (L2N.CX P w) k f fd ps (fun vs H Q E => sp0 vs H Q E ∨ sp1 vs H Q E) :=
  ⟨fun vs H Q E h => h.elim (F0.len vs H Q E) (F1.len vs H Q E), fun A outer s H args us vs Q E hr e0 hb r h => h.elim
    (fun h => codeAny_mono (F0.run A outer s H args us vs Q E hr e0 hb r h) fun rs s' z => by
      cases rs with
      | error e => exact False.elim z
      | ok fl => cases fl <;> exact z) (F1.run A outer s H args us vs Q E hr e0 hb r)⟩
end
section
variable {X : Cx} {k j : Nat} {x : Str} {sp : Sp} {W : WX} {e : Expr} {es : List Expr} {t : TA} {p pos : Pos} {C : Addr}
theorem pe_cN (c : CalN X.prog X.w X.K X.mg X.base k x sp) (hr : Room j X.A) (hk : k ≤ j) (hg : Gl X x) (tk : L2N.Takes X W) (ha : PA X (e :: es) t)
    (hdb : (x == ("__debug__" : Str)) = false := by decide) (he : starEach (e :: es) X.env = (false, eval e X.env) :: starEach es X.env := by rfl) (hpl : (backTo pos (starEach es X.env)).any (·.1) = false := by rfl) : PE X (.Call (.Name x p) (e :: es) [] pos) (tCallS sp (WE W) t) := by
  obtain ⟨f, fd, ps, F, hm, kp, b⟩ := c.ex
  exact pe_callS F (hr.mono hk) hg hm kp b (fun σ => L2N.passAt tk σ) ha hdb he hpl
theorem pe_mkN (c : MakN X.prog X.w X.K X.mg X.base k x C sp) (hr : Room j X.A) (hk : k + 1 ≤ j) (hg : Gl X x) (tk : L2N.Takes X W) (ha : PA X (e :: es) t)
    (hdb : (x == ("__debug__" : Str)) = false := by decide) (he : starEach (e :: es) X.env = (false, eval e X.env) :: starEach es X.env := by rfl) (hpl : (backTo pos (starEach es X.env)).any (·.1) = false := by rfl) : PE X (.Call (.Name x p) (e :: es) [] pos) (tMakeS C sp (WE W) t) := by
  obtain ⟨f, fd, ps, M, F, hm, b⟩ := c.ex
  constructor
  intro pins s σ H Q I h
  refine wpAny_Call_Name_kw (ld_glob I hg hm (PySem.W.callWith_K (h₀ := X.base) I.ok.mod.kin M.kp (thn (ha.run pos pins s σ H _ I h) ?_) he hpl) hdb)
  rintro us s1 ⟨vs, H1, I1, r, q⟩
  exact ⟨I1.kIn, run_mkS (E := WE W) M F (hr.mono hk) b .nil (L2N.passAt tk σ) I1 r q⟩
end
end Fr

namespace Fr
open PySem PySem.Spec PyProof.Rows L2 HotX L2H
abbrev SpE := Addr → Value → Option Addr → Hp → VK → Prop
/-- the error at a, as it stands while it is handled -/
def HasE (a : Addr) (cls : Value) (d : Option Addr) (oe : PySem.Obj) : Prop := L2N.Zn cls d oe ∧ ∃ vs, oe.data = .fields vs
theorem HasE.hot {A : Around} {a : Addr} {cls : Value} {d : Option Addr} {oe : PySem.Obj} (h : HasE a cls d oe) (e : A.handled = some (.ref a)) : Hot1 A (a, oe) := by
  obtain ⟨z, vs, dv⟩ := h
  exact ⟨e, vs, dv, z.2.2 vs dv⟩
structure FnE (P : Program) (w : World) (K : PySem.W.Frag) (mg : Str → Option Value) (base : Heap) (k : Nat) (f : Addr) (fd : FuncData) (y : Str) (sp : SpE) : Prop where
  go : ∀ (A : Around) (outer : List Env) (s : Shared) (H : Hp) (args : Args) (a : Addr) (oe : PySem.Obj) (cls : Value) (d : Option Addr) (Q : VK), RoomH k A → A.handled = some (.ref a) → HasE a cls d oe → PinOk outer H s (a, oe) → Env0 P w K mg base A outer s H → BindsTo s fd args [(y, .ref a)] → sp a cls d H Q →
    codeAny (model P w) A (.call (.ref f) args) (CR CX0 outer P w H s Q C8.E0) s
section
variable {P : Program} {w : World} {K : PySem.W.Frag} {mg : Str → Option Value} {base : Heap}
theorem Fun_okE {x qual y : Str} {st : Stmt} {f : Addr} {fd : FuncData} {N : List Str} {k : Nat} {sp : SpE} (F : Fun K x qual st f fd) (S : FnScope N [y] (defScope st))
    (hb : ∀ (cd : Value) (A : Around) (outer : List Env) (s : Shared) (H : Hp) (a : Addr) (oe : PySem.Obj) (cls : Value) (d : Option Addr) (Q : VK), HasE a cls d oe → HotC (cxH CX0 P w K mg base N qual (defScope st) f cd A outer s H C8.E0 (a, oe)) → RoomH k (A.deeper (envOfC qual (defScope st) s.heap.objs.size f cd)) → sp a cls d H Q →
      ∃ t, PSs (cxH CX0 P w K mg base N qual (defScope st) f cd A outer s H C8.E0 (a, oe)).nox (defBody st) t ∧ t { nx := fun _ H' => Q .non H', rt := Q } (start N [.ref a]) H) : FnE P w K mg base (k + 1) f fd y sp := by
  obtain ⟨oc, od, kV, doc, pm, an, cd, ct, osl, rfl, lk, hcd⟩ := F.ex
  constructor
  intro A outer s H args a oe cls d Q hr hh he pin e0 bt hq
  have inK : K.In s.heap := e0.mod.kin.keeps fun b o z => (e0.bs b o z).1
  have noL : s.heap.NoLimit := e0.mod.nolimit.keeps fun b o z => (e0.bs b o z).1
  have kinds : ∀ z ∈ [(y, Value.ref a)], (defScope st).names.lookup z.1 = some .local ∨ ((defScope st).names.lookup z.1 = some .cell ∧ ((cellsFrom (s.heap.objs.size + 1) (defScope st).names []).lookup z.1).isSome = true) := by
    intro z hz
    obtain rfl := List.mem_singleton.mp hz
    cases S.par y (List.mem_singleton.mpr rfl) with
    | inl q => exact Or.inl q
    | inr q => exact Or.inr ⟨q, PySem.W.cellsFrom_some _ _ _ (Or.inl q)⟩
  refine codeAny_call_function hr.depth (inK _ _ lk) rfl S.co S.gen rfl (PySem.W.codeRec_of inK hcd) (bt _ _ _ _ (wpAny_newFunctionEnv_cells S.kind kinds ?_))
  rintro _ rfl s1 ic
  refine ⟨noL.keeps ic.toInCall.keep, codeAny_func ?_⟩
  have rv : Vals [V.ref a] [Value.ref a] := .cons rfl .nil
  obtain ⟨t, pt, ht⟩ := hb cd A outer s H a oe cls d Q he ⟨(a, oe), he.hot hh, List.mem_singleton.mpr rfl⟩ (hr.deeper _) hq
  have I0 := inv_startH (CX := CX0) (E := C8.E0) S pin e0 (us := [Value.ref a]) (vs := [V.ref a]) rfl rv ic
  refine wpAny_mono (pt.nox.run [] s1 (start N [.ref a]) H _ I0 ht) (fun fl s2 z => ?_) fun _ _ z => z
  cases fl with
  | next =>
    obtain ⟨_, H2, J, q⟩ := z
    exact ⟨V.non, H2, J.os, J.bare, J.base, J.hok, rfl, q⟩
  | ret u =>
    obtain ⟨v, _, H2, J, ru, q⟩ := z
    exact ⟨v, H2, J.os, J.bare, J.base, J.hok, ru, q⟩
  | brk => exact z.elim fun _ z => z.elim fun _ z => z.2.elim
  | cont => exact z.elim fun _ z => z.elim fun _ z => z.2.elim
structure CalE (P : Program) (w : World) (K : PySem.W.Frag) (mg : Str → Option Value) (base : Heap) (k : Nat) (x : Str) (sp : SpE) : Prop where
  ex : ∃ (f : Addr) (fd : FuncData) (y : Str), FnE P w K mg base k f fd y sp ∧ mg x = some (.ref f) ∧ PySem.W.keepIn K (.ref f) = true ∧ Binds K fd [y] []
end
section
variable {X : Cx} {k j : Nat} {x : Str} {sp : SpE} {p pos : Pos} {e : Expr} {t : TA} {a : Addr} {oe : PySem.Obj} {cls : Value} {d : Option Addr}
def tCallE (a : Addr) (cls : Value) (d : Option Addr) (sp : SpE) (t : TA) : TE := fun σ H Q => t σ H fun vs H1 => vs = [.ref a] ∧ sp a cls d H1 Q
theorem pe_cE (c : CalE X.prog X.w X.K X.mg X.base k x sp) (hr : RoomH j X.A) (hk : k ≤ j) (hh : X.A.handled = some (.ref a)) (he : HasE a cls d oe) (hp : (a, oe) ∈ X.pn) (hg : Gl X x) (ha : PA X [e] t)
    (hdb : (x == ("__debug__" : Str)) = false := by decide) (hst : starEach [e] X.env = (false, eval e X.env) :: starEach [] X.env := by rfl) : PE X (.Call (.Name x p) [e] [] pos) (tCallE a cls d sp t) := by
  obtain ⟨f, fd, y, F1, hm, kp, b⟩ := c.ex
  constructor
  intro pins s σ H Q I h
  refine wpAny_Call_Name_kw (ld_glob I hg hm (PySem.W.callWith_K (h₀ := X.base) I.ok.mod.kin kp (thn (ha.run pos pins s σ H _ I h) ?_) hst rfl) hdb)
  rintro us s1 ⟨vs, H1, I1, r, rfl, q⟩
  refine ⟨I1.kIn, ?_⟩
  cases r with
  | cons r rr =>
    cases rr
    cases r
    obtain ⟨p1, p2, p3, p4, p5⟩ := I1.pin (a, oe) (List.mem_append_left _ hp)
    refine wpAny_call (codeAny_mono (F1.go X.A X.stack s1 H1 ⟨[.ref a], []⟩ a oe cls d Q (hr.mono hk) hh he ⟨p1, p2, fun hm => (List.mem_cons.mp (I1.stkSub a hm)).elim p3 p4, p5⟩ I1.env0 (b s1 [.ref a] I1.kIn rfl) q) ?_)
    intro rs s2 z
    cases rs with
    | error e => exact False.elim z
    | ok fl =>
      cases fl with
      | ret u => exact I1.after z
      | next => exact False.elim z
      | brk => exact False.elim z
      | cont => exact False.elim z
theorem look_hot {pins : List (Addr × PySem.Obj)} {σ : L2.St} {H : Hp} {s : Shared} {C dd : Addr} {fs : List (Str × V)} (I : Inv X pins σ H s) (he : HasE a (.ref C) (some dd) oe) (hp : (a, oe) ∈ X.pn) (hd : H dd = some (.xd fs)) :
    ∃ (od : PySem.Obj) (mA : Str → Option Value), PySem.W.InstAt s.heap a oe C (some od) ∧ (∀ f, RelO (fs.lookup f) (mA f)) ∧ ∀ f, PySem.W.lookIn f od = some (mA f) := by
  obtain ⟨z, vs, df⟩ := he
  obtain ⟨mA, hns, rel⟩ := (show ObjOk X.prog X.w H s.heap dd (.xd fs) from I.hok dd _ hd)
  obtain ⟨od, hod, lk⟩ := lookIn_ns hns
  refine ⟨od, mA, ⟨(I.pin (a, oe) (List.mem_append_left _ hp)).1, z.1, ?_, ?_⟩, rel, lk⟩
  · unfold PySem.W.notCls
    rw [df]
  · rw [z.2.1]
    exact hod
def rIsP (K : PySem.W.Frag) (a : Addr) (cls : Value) (d : Option Addr) : List V → Hp → VK → Prop := fun xs H Q => ∃ (C dd : Addr) (fs : List (Str × V)) (c : V) (cv : Value) (b : Bool), xs = [.ref a, c] ∧ cls = .ref C ∧ d = some dd ∧ H dd = some (.xd fs) ∧ ErrC K C ∧ ClsV c cv ∧ PySem.W.kitOne K (.ref C) cv = some b ∧ Q (.bl b) H
theorem call_isP (he : HasE a cls d oe) (hp : (a, oe) ∈ X.pn) : CallR X (.builtin "isinstance") (rIsP X.K a cls d) := by
  intro pins s σ H xs us Q I r h
  obtain ⟨C, dd, fs, c, cv, b, rfl, rfl, rfl, hd, T, hc, e, q⟩ := h
  obtain ⟨u1, u2, rfl, r1, r2⟩ := vals2 r
  obtain rfl := hc.eq r2
  obtain rfl : u1 = Value.ref a := r1
  obtain ⟨od, mA, J, _, _⟩ := look_hot I he hp hd
  exact PySem.W.kia_one (PySem.W.kitx_exc T.cl T.ga T.gg T.oex.exC T.kc T.kg T.kt T.km) I.kIn J e (fun z => by cases z) fun tk => ⟨.bl b, H, I.tok tk, rfl, q⟩
def tErrP (K : PySem.W.Frag) (a : Addr) (cls : Value) (d : Option Addr) (f : Str) (te : TE) : TE := fun σ H Q => te σ H fun x H1 => ∃ (C dd : Addr) (fs : List (Str × V)) (v : V), x = .ref a ∧ cls = .ref C ∧ d = some dd ∧ H1 dd = some (.xd fs) ∧ ErrC K C ∧ PySem.W.findIn K (.ref C) f = some none ∧ fs.lookup f = some v ∧ Q v H1
theorem pe_errP {f : Str} {te : TE} (he : HasE a cls d oe) (hp : (a, oe) ∈ X.pn) (h : PE X e te) (hb : attributeBase e f X.env (eval e X.env) = eval e X.env := by rfl) : PE X (.Attribute e f pos) (tErrP X.K a cls d f te) := by
  constructor
  intro pins s σ H Q I q
  refine attr_of hb (thn (h.run pins s σ H _ I q) ?_)
  rintro u s1 ⟨x, H1, I1, rx, C, dd, fs, v, rfl, rfl, rfl, hd, T, no, hl, q⟩
  obtain rfl : u = Value.ref a := rx
  obtain ⟨od, mA, J, rel, lk⟩ := look_hot I1 he hp hd
  obtain ⟨u, hu, ru⟩ := RelO.some_of (v := v) (o := mA f) (by rw [← hl]; exact rel f)
  exact HandSPX.exc_get I1.kIn J T.ga T.gg T.oex.exC (PySem.W.findObj_own T.hd no rfl (by rw [lk, hu])) (handed_of ru) ⟨v, H1, I1.tok _, ru, q⟩
end
end Fr

namespace Fr
open PySem PySem.Spec PyProof.Rows L2 TL
abbrev s_Ltold : Stmt := topS 20
theorem sc_Ltold : FnScope ["_law_wording", "e"] ["_law_wording"] (defScope s_Ltold) := ⟨rfl, rfl, rfl, by decide +kernel, rfl, by decide +kernel, by decide +kernel⟩
-- slots: 0 _law_wording, 1 e
section
variable {X : Cx} {a : Addr} {cls : Value} {d : Option Addr} {oe : PySem.Obj} {pos : Pos} {e : Expr}
/-- the handled error, whatever its context -/
def HasZ (cls : Value) (d : Option Addr) (oe : PySem.Obj) : Prop := Zc cls d oe ∧ ∃ vs, oe.data = .fields vs
theorem look_hotZ {pins : List (Addr × PySem.Obj)} {σ : L2.St} {H : Hp} {s : Shared} {C dd : Addr} {fs : List (Str × V)} (I : Inv X pins σ H s) (he : HasZ (.ref C) (some dd) oe) (hp : (a, oe) ∈ X.pn) (hd : H dd = some (.xd fs)) :
    ∃ (od : PySem.Obj) (mA : Str → Option Value), PySem.W.InstAt s.heap a oe C (some od) ∧ (∀ f, RelO (fs.lookup f) (mA f)) ∧ ∀ f, PySem.W.lookIn f od = some (mA f) := by
  obtain ⟨z, vs, df⟩ := he
  obtain ⟨mA, hns, rel⟩ := (show ObjOk X.prog X.w H s.heap dd (.xd fs) from I.hok dd _ hd)
  obtain ⟨od, hod, lk⟩ := lookIn_ns hns
  refine ⟨od, mA, ⟨(I.pin (a, oe) (List.mem_append_left _ hp)).1, z.1, ?_, ?_⟩, rel, lk⟩
  · unfold PySem.W.notCls
    rw [df]
  · rw [z.2]
    exact hod
theorem call_isZ (he : HasZ cls d oe) (hp : (a, oe) ∈ X.pn) : CallR X (.builtin "isinstance") (rIsP X.K a cls d) := by
  intro pins s σ H xs us Q I r h
  obtain ⟨C, dd, fs, c, cv, b, rfl, rfl, rfl, hd, T, hc, e, q⟩ := h
  obtain ⟨u1, u2, rfl, r1, r2⟩ := vals2 r
  obtain rfl := hc.eq r2
  obtain rfl : u1 = Value.ref a := r1
  obtain ⟨od, mA, J, _, _⟩ := look_hotZ I he hp hd
  exact PySem.W.kia_one (PySem.W.kitx_exc T.cl T.ga T.gg T.oex.exC T.kc T.kg T.kt T.km) I.kIn J e (fun z => by cases z) fun tk => ⟨.bl b, H, I.tok tk, rfl, q⟩
theorem pe_errZ {f : Str} {te : TE} (he : HasZ cls d oe) (hp : (a, oe) ∈ X.pn) (h : PE X e te) (hb : attributeBase e f X.env (eval e X.env) = eval e X.env := by rfl) : PE X (.Attribute e f pos) (tErrP X.K a cls d f te) := by
  constructor
  intro pins s σ H Q I q
  refine attr_of hb (thn (h.run pins s σ H _ I q) ?_)
  rintro u s1 ⟨x, H1, I1, rx, C, dd, fs, v, rfl, rfl, rfl, hd, T, no, hl, q⟩
  obtain rfl : u = Value.ref a := rx
  obtain ⟨od, mA, J, rel, lk⟩ := look_hotZ I1 he hp hd
  obtain ⟨u, hu, ru⟩ := RelO.some_of (v := v) (o := mA f) (by rw [← hl]; exact rel f)
  exact HandSPX.exc_get I1.kIn J T.ga T.gg T.oex.exC (PySem.W.findObj_own T.hd no rfl (by rw [lk, hu])) (handed_of ru) ⟨v, H1, I1.tok _, ru, q⟩
theorem pe_errK {K' : PySem.W.Frag} {f : Str} {te : TE} (he : HasZ cls d oe) (hp : (a, oe) ∈ X.pn) (h : PE X e te) (hK : X.K = K') (hb : attributeBase e f X.env (eval e X.env) = eval e X.env := by rfl) : PE X (.Attribute e f pos) (tErrP K' a cls d f te) := by
  rw [← hK]
  exact pe_errZ he hp h hb
end
section
variable {P : Program} {w : World} {K : PySem.W.Frag} {mg : Str → Option Value} {base : Heap}
def spTold (K : PySem.W.Frag) : Sp := fun vs H Q _ => ∃ (x : Str), vs = [.str x] ∧ x.length ≤ 1000 ∧
  ((∃ (n : Str) (p : List Nat), IsC (tl x) (tl n) p ∧ ∀ l v H', Same H H' → H' l = some (.lst [v]) → Dp K H' v (cellD n p) → Q (.ref l) H') ∨
  ((∀ n p, ¬ IsC (tl x) n p) ∧ ∀ l H', Same H H' → H' l = some (.lst []) → Q (.ref l) H'))
theorem ok_told {f CU CI : Addr} {fd : FuncData} (F : Fun K "_law_told" "_law_told" s_Ltold f fd) (T : Txt mg) (gU : mg "Unreadable" = some (.ref CU)) (gI : mg "InvalidCell" = some (.ref CI)) (eU : ErrC K CU) (noU : PySem.W.findIn K (.ref CU) "value" = some none)
    (isU : PySem.W.exmOne K (.ref CU) (.ref CU) = some true) (isI : PySem.W.kitOne K (.ref CU) (.ref CI) = some false) (x_read_cell : CalX P w K mg base 5 "read_cell" (spReadCell K CU)) : FnOk P w K mg base CX0 6 f fd ["_law_wording"] (spTold K) := by
  refine F.ok sc_Ltold (fun vs H Q E h => ?_) (fun cdv A outer s H vs Q E hr h => ?_)
  · obtain ⟨x, rfl, _⟩ := h
    rfl
  · obtain ⟨x, rfl, hx, q⟩ := h
    refine ⟨_, pss_cons (ps_try_as (i := 1) rfl rfl sc_Ltold.nd rfl rfl (c := .ref CU) ⟨by rfl, by decide, .inl gU⟩ takes_nil
      (fun W pn xe tk pas => pss_one (ps_ret (pe_lst (pa_cons (pe_cx x_read_cell hr (by decide) (by rfl) tk (pa_cons (pv 0) pa_nil)) pa_nil))))
      (fun a oe cls d pn hz hf => pss_one (ps_if (PW.pt (pw_or (pt_cmpR op_ne (pe_errK (K' := K) ⟨hz, hf⟩ (List.mem_cons_self ..) (pv 1) rfl) (pv 0) (nomark _)) (pw_or1 (pt_val (pe_callB (r := rIsP K a cls d) (call_isZ ⟨hz, hf⟩ (List.mem_cons_self ..)) (by rfl) T.b_isinstance (by decide +kernel) (pa_cons (pv 1) (pa_cons (pe_glob (v := .ref CI) (by rfl) gI rfl) pa_nil)))))))
        (pss_one (ps_ret (pe_lst (pa_cons pe_str pa_nil)))) pss_nil)))
      (pss_one (ps_ret (pe_lst pa_nil))), ?_⟩
    refine ⟨_, rfl, x, rfl, hx, ?_⟩
    rcases q with ⟨n, p, c, q1⟩ | ⟨nc, q2⟩
    · exact .inl ⟨n, p, c, fun v H1 s1 dv => ⟨by show 1 ≤ sizeLine; decide, fun l hl => q1 l v _ (same_tr s1 (snew hl)) upd_same (dpm (snew hl) _ _ dv)⟩⟩
    · refine .inr ⟨nc, fun d H1 s1 hd => ⟨true, isU, fun _ a ha => ?_, fun h => nomatch h⟩⟩
      refine ⟨_, rfl, CU, d, _, .str x, rfl, rfl, rfl, hd, eU, noU, rfl, _, rfl, rfl, _, rfl, ?_⟩
      have e1 : (!decide (V.str x = V.str x)) = false := by simp
      rw [e1]
      refine iteF ?_
      refine ⟨_, rfl, CU, d, _, .ref CI, .ref CI, false, rfl, rfl, rfl, hd, eU, .own CI, isI, _, rfl, ?_⟩
      refine iteF ?_
      exact ⟨by show 0 ≤ sizeLine; decide, fun l hl => q2 l _ (same_tr s1 (snew hl)) upd_same⟩
end
end Fr

namespace Fr
open PySem PySem.Spec PyProof.Rows L2 TL
/-- a def by its name, called by keywords; nothing passes -/
structure CalY (P : Program) (w : World) (K : PySem.W.Frag) (mg : Str → Option Value) (base : Heap) (k : Nat) (x : Str) (sp : Sp) (ks : List Str) (gV : List V → List V → List V) : Prop where
  ex : ∃ (CX : CXT) (f : Addr) (fd : FuncData) (ps : List Str) (g : List Value → List Value → List Value), FnOk P w K mg base CX k f fd ps sp ∧ mg x = some (.ref f) ∧ PySem.W.keepIn K (.ref f) = true ∧ KBinds K fd ps ks g gV ∧
    ∀ X : Cx, X.prog = P → X.w = w → Passes CX X C8.E0
theorem pass_none {X : Cx} : Passes (L2.CX X.prog X.w) X C8.E0 := passes_call takes_nil fun _ _ _ _ h => h
theorem pe_ck {X : Cx} {k j : Nat} {x : Str} {sp : Sp} {ks : List Str} {gV : List V → List V → List V} {kws : List Keyword} {tk : TA} {p pos : Pos} (c : CalY X.prog X.w X.K X.mg X.base k x sp ks gV) (hr : Room j X.A) (hk : k ≤ j) (hg : Gl X x) (hkw : PK X kws tk)
    (hall : (backToKw pos (keywordEach kws X.env)).all (·.1.isSome) = true := by rfl) (hks : (backToKw pos (keywordEach kws X.env)).filterMap (·.1) = ks := by rfl) (hdb : (x == ("__debug__" : Str)) = false := by decide)
    (hpl : ((backTo pos (starEach [] X.env)).any (·.1) || (backToKw pos (keywordEach kws X.env)).any (·.1.isNone)) = false := by rfl) :
    PE X (.Call (.Name x p) [] kws pos) (tCallK sp gV C8.E0 tNil tk) := by
  obtain ⟨CX, f, fd, ps, g, F, hm, kp, hb, pass⟩ := c.ex
  refine ⟨fun pins s σ H Q I h => ?_⟩
  refine wpAny_Call_Name_kw (ld_glob I hg hm ?_ hdb)
  refine PySem.W.callWith_KW0 (h₀ := X.base) I.ok.mod.kin kp hall (thn (hkw.run pos pins s σ H _ I h) fun ws s2 ⟨zs, H2, I2, rz, q2⟩ => ⟨I2.kIn, ?_⟩) hpl
  rw [hks]
  exact run_fnk (us := []) (vs := []) F (hr.mono hk) hb (pass X rfl rfl) I2 .nil rz q2
/-- the arguments that are given by their names alone -/
def kwO {α : Type} : List α → List α → List α
  | [], ws => ws
  | _ :: _, _ => []
theorem kbO {K : PySem.W.Frag} {fd : FuncData} {a : Str} (h : ∀ (s : Shared) (v : Value), BindsTo s fd ⟨[], [(a, v)]⟩ [(a, v)]) : L2.KBinds K fd [a] [a] kwO kwO :=
  ⟨fun s us ws _ hlen => (match us, ws, hlen with
    | [], [v], _ => h s v
    | [], [], h => absurd h (by simp [kwO])
    | [], _ :: _ :: _, h => absurd h (by simp [kwO])
    | _ :: _, _, h => absurd h (by simp [kwO])), fun hv hz => by
    cases hv with
    | nil => exact hz
    | cons _ _ => exact .nil⟩
end Fr

namespace Fr
open PySem PySem.Spec PyProof.Rows L2 TL
abbrev s_law : Stmt := topS 21
theorem sc_law : FnScope ["_law_script", "_law_bag_here", "_law_turn", "_law_title", "_law_place", "_law_point", "_law_wording", "_law_number", "_law_other"] ["_law_script"] (defScope s_law) := ⟨rfl, rfl, rfl, by decide +kernel, rfl, by decide +kernel, by decide +kernel⟩
-- slots: 0 _law_script, 1 _law_bag_here, 2 _law_turn, 3 _law_title, 4 _law_place, 5 _law_point, 6 _law_wording, 7 _law_number, 8 _law_other
theorem BagOk.mono {H : Hp} {b g : Addr} {m m' : Nat} (h : BagOk H b g m) (e : m ≤ m') : BagOk H b g m' := by
  obtain ⟨ns, l, t, z, h1, h2, h3, h4, h5, h6, h7, h8⟩ := h.ex
  exact ⟨ns, l, t, z, h1, h2, h3, h4, h5, h6, by omega, h8⟩
theorem BagOk.off {H : Hp} {b g D : Addr} {m : Nat} {o : HO} (h : BagOk H b g m) (nb : D ≠ b) (ng : D ≠ g) : BagOk (upd H D o) b g m := by
  obtain ⟨ns, l, t, z, h1, h2, r⟩ := h
  exact ⟨ns, l, t, z, by rw [upd_ne (Ne.symm nb)]; exact h1, by rw [upd_ne (Ne.symm ng)]; exact h2, r⟩
theorem BagOk.ne {H : Hp} {b g p : Addr} {m : Nat} (h : BagOk H b g m) (e : H p = none) : p ≠ b ∧ p ≠ g := by
  obtain ⟨ns, l, t, z, h1, h2, _⟩ := h.ex
  exact ⟨(ne_of_none h1 e).symm, (ne_of_none h2 e).symm⟩
theorem join_signs : ∀ us : List Nat, joinL [] (us.map fun c => [c]) = us
  | [] => rfl
  | [_] => rfl
  | c :: d :: us => by
    have z := join_signs (d :: us)
    show [c] ++ ([] ++ joinL [] ((d :: us).map fun c => [c])) = _
    rw [z]
    rfl
theorem sum_signs : ∀ us : List Nat, ((us.map fun c => (⟨#[c]⟩ : Str)).map (·.length)).sum = us.length
  | [] => rfl
  | c :: us => by
    have z := sum_signs us
    rw [List.map_cons, List.map_cons, List.sum_cons, z, List.length_cons, Nat.add_comm]
    rfl
theorem cellL_len {n p : List Nat} (hn : n.length ≤ 8) (hp : p.length ≤ 3) (few : ∀ k ∈ p, (numL k).length ≤ 40) : (cellL n p).length ≤ 400 := by
  have z := join_len p
  have z2 := sum_few few
  have z3 : 40 * p.length ≤ 120 := by omega
  show (n ++ 91 :: (joinL [32] (p.map numL) ++ [93])).length ≤ 400
  rw [List.length_append, List.length_cons, List.length_append, List.length_singleton]
  omega
theorem join_asc : ∀ (p : List Nat), ∀ c ∈ joinL [32] (p.map numL), c < 128
  | [], c, h => by cases h
  | [k], c, h => by
    have := numL_digits k c h
    omega
  | k :: l :: p, c, h => by
    have h' : c ∈ numL k ++ ([32] ++ joinL [32] ((l :: p).map numL)) := h
    rcases List.mem_append.mp h' with h | h
    · have := numL_digits k c h
      omega
    · rcases List.mem_append.mp h with h | h
      · rw [List.mem_singleton.mp h]
        decide
      · exact join_asc (l :: p) c h
theorem cellL_asc {n p : List Nat} (hn : nmL n = true) : ∀ c ∈ cellL n p, c < 128 := fun c hc => by
  rcases List.mem_append.mp hc with h | h
  · unfold nmL at hn
    rw [Bool.and_eq_true] at hn
    have z := List.all_eq_true.mp hn.2 c h
    unfold letL at z
    rw [Bool.and_eq_true, decide_eq_true_iff, decide_eq_true_iff] at z
    omega
  · rcases List.mem_cons.mp h with h | h
    · rw [h]
      decide
    · rcases List.mem_append.mp h with h | h
      · exact join_asc p c h
      · rw [List.mem_singleton.mp h]
        decide
theorem nmL_len {n : List Nat} (h : nmL n = true) : 1 ≤ n.length ∧ n.length ≤ 8 := by
  unfold nmL at h
  rw [Bool.and_eq_true, Bool.and_eq_true, decide_eq_true_iff, decide_eq_true_iff] at h
  exact h.1
theorem strOk_asc {x : Str} (h : ∀ c ∈ tl x, c < 1000) : PyData.strOk x = true := by
  unfold PyData.strOk
  rw [← Array.all_toList, List.all_eq_true]
  intro c hc
  have := h c hc
  exact decide_eq_true (by omega)
theorem good_cell {n : Str} {p : List Nat} (h : nmL (tl n) = true) : Good (cellD n p) := by
  have hn : PyData.strOk n = true := strOk_asc fun c hc => by
    unfold nmL at h
    rw [Bool.and_eq_true] at h
    have z := List.all_eq_true.mp h.2 c hc
    unfold letL at z
    rw [Bool.and_eq_true, decide_eq_true_iff, decide_eq_true_iff] at z
    omega
  have hp : ∀ p : List Nat, PyData.canLayAll0 (p.map fun (k : Nat) => PyData.int (k : Int)) = true ∧ PyData.depthAll (p.map fun (k : Nat) => PyData.int (k : Int)) = 0 := fun p => by
    induction p with
    | nil => exact ⟨by simp [PyData.canLayAll0], by simp [PyData.depthAll]⟩
    | cons k p ih => exact ⟨by simp [PyData.canLayAll0, PyData.canLay0]; exact ih.1, by simp [PyData.depthAll, PyData.depth]; exact ih.2⟩
  unfold cellD
  exact ⟨by simp [PyData.canLay0, PyData.canLayAll0, hn, (hp p).1], by simp [PyData.depth, PyData.depthAll, (hp p).2]⟩
section
variable {P : Program} {w : World} {K : PySem.W.Frag} {mg : Str → Option Value} {base : Heap}
def spLaw (K : PySem.W.Frag) : Sp := fun vs H Q _ => ∃ (a : Addr) (ns : List Int), vs = [.ref a] ∧ SqL K H a (ns.map V.int) ∧ ns.length ≤ 63 ∧ ∀ H', Q (.bl true) H'
theorem ok_law {f CU : Addr} {fd : FuncData} (F : Fun K "law" "law" s_law f fd) (T : Txt mg) (c_Lbag : C8.Cal P w K mg base 1 "_law_bag" (spBag K) []) (c_Ldraw : C8.Cal P w K mg base 1 "_law_draw" spDraw []) (c_Lchanged : C8.Cal P w K mg base 2 "_law_changed" spChanged [])
    (c_Ltold : C8.Cal P w K mg base 6 "_law_told" (spTold K) []) (c_Ldue : C8.Cal P w K mg base 1 "_law_due" (spDue K) []) (k_show_cell : CalY P w K mg base 1 "show_cell" (spShowCell K) ["cell"] kwO) (k_read_cell : CalY P w K mg base 5 "read_cell" (spReadCell K CU) ["text"] kwO)
    : FnG P w K mg base 7 f fd ["_law_script"] (spLaw K) := by
  refine Fun_okG F sc_law (fun vs H Q E h => ?_) (fun cdv A outer s H vs Q E hr h => ?_)
  · obtain ⟨a, ns, rfl, _⟩ := h
    rfl
  · obtain ⟨a, ns, rfl, ha, hl, q⟩ := h
    refine ⟨_, (pss_cons (ps_set (i := 1) sc_law.nd rfl (by first | exact Or.inl rfl | exact Or.inr rfl) (C8.pe_c c_Lbag hr.room (by decide) (by rfl) (pa_cons (pv 0) pa_nil)))
  (pss_cons (ps_for PassesOwn.never rfl (pi_range1 (by rfl) T.b_range (pa_cons (pe_op op_add pe_int (pe_callB (call_min2 rfl) (by rfl) T.b_min (by decide +kernel) (pa_cons pe_int (pa_cons (pe_callB call_len_seq (by rfl) T.b_len PySem.boot_len (pa_cons (pv 0) pa_nil)) pa_nil)))) pa_nil)) (pg_name (i := 2) sc_law.nd rfl (by first | exact Or.inl rfl | exact Or.inr rfl))
    (pss_cons (ps_set (i := 3) sc_law.nd rfl (by first | exact Or.inl rfl | exact Or.inr rfl) (pe_bm PySem.F.plainAttrs_str PySem.F.slot_str_join PySem.F.type_str_join mt_join pe_str (pa_cons (pe_lc (own := [("_law_place", 4)]) (g := gName 4) (tt := tYes) (by rfl) sc_law.nd (pi_range1 (by rfl) T.b_range (pa_cons (pe_op op_add pe_int (C8.pe_c c_Ldraw hr.room (by decide) (by rfl) (pa_cons (pv 1) (pa_cons pe_int pa_nil)))) pa_nil)) (blkOk_by (N := ["_law_script", "_law_bag_here", "_law_turn", "_law_title", "_law_place", "_law_point", "_law_wording", "_law_number", "_law_other"]) (sc := defScope s_law) (by decide +kernel)) (fun _ _ _ _ _ => (pg_name (i := 4) sc_law.nd rfl (by first | exact Or.inl rfl | exact Or.inr rfl))) (fun _ _ _ _ _ => pts_nil) (fun _ _ _ _ _ => (pe_ix (r := rIxS) ix_str pe_str (C8.pe_c c_Ldraw hr.room (by decide) (by rfl) (pa_cons (pv 1) (pa_cons pe_int pa_nil))) (fun _ _ => rfl)))) pa_nil)))
    (pss_cons (ps_set (i := 5) sc_law.nd rfl (by first | exact Or.inl rfl | exact Or.inr rfl) (pe_callTy call_tuple_of (by rfl) T.b_tuple (by decide +kernel) (pa_cons (pe_lc (own := [("_law_place", 4)]) (g := gName 4) (tt := tYes) (by rfl) sc_law.nd (pi_range1 (by rfl) T.b_range (pa_cons (pe_op op_add pe_int (C8.pe_c c_Ldraw hr.room (by decide) (by rfl) (pa_cons (pv 1) (pa_cons pe_int pa_nil)))) pa_nil)) (blkOk_by (N := ["_law_script", "_law_bag_here", "_law_turn", "_law_title", "_law_place", "_law_point", "_law_wording", "_law_number", "_law_other"]) (sc := defScope s_law) (by decide +kernel)) (fun _ _ _ _ _ => (pg_name (i := 4) sc_law.nd rfl (by first | exact Or.inl rfl | exact Or.inr rfl))) (fun _ _ _ _ _ => pts_nil) (fun _ _ _ _ _ => (C8.pe_c c_Ldraw hr.room (by decide) (by rfl) (pa_cons (pv 1) (pa_cons (pe_ix (r := rIxT K) ix_tup (pe_tup (pa_cons pe_int (pa_cons (pe_op op_pow pe_int pe_int) pa_nil))) (C8.pe_c c_Ldraw hr.room (by decide) (by rfl) (pa_cons (pv 1) (pa_cons pe_int pa_nil))) (fun _ _ => rfl)) pa_nil))))) pa_nil)))
    (pss_cons (ps_set (i := 6) sc_law.nd rfl (by first | exact Or.inl rfl | exact Or.inr rfl) (pe_op op_add_str (pe_op op_add_str (pe_op op_add_str (pv 3) pe_str) (pe_bm PySem.F.plainAttrs_str PySem.F.slot_str_join PySem.F.type_str_join mt_join pe_str (pa_cons (pe_lc (own := [("_law_number", 7)]) (g := gName 7) (tt := tYes) (by rfl) sc_law.nd (pi_tup (pv 5)) (blkOk_by (N := ["_law_script", "_law_bag_here", "_law_turn", "_law_title", "_law_place", "_law_point", "_law_wording", "_law_number", "_law_other"]) (sc := defScope s_law) (by decide +kernel)) (fun _ _ _ _ _ => (pg_name (i := 7) sc_law.nd rfl (by first | exact Or.inl rfl | exact Or.inr rfl))) (fun _ _ _ _ _ => pts_nil) (fun _ _ _ _ _ => (pe_callTy call_str_int (by rfl) T.b_str (by decide +kernel) (pa_cons (pv 7) pa_nil)))) pa_nil))) pe_str))
    (pss_cons (ps_if (PW.pt (pw_or (pt_cmpR op_ne (pe_ck k_show_cell hr.room (by decide) (by rfl) (pk_cons (pe_tup (pa_cons (pv 3) (pa_cons (pv 5) pa_nil))) pk_nil)) (pv 6) (nomark _)) (pw_or1 (pt_cmpR (op_neD hr.room.units) (pe_ck k_read_cell hr.room (by decide) (by rfl) (pk_cons (pv 6) pk_nil)) (pe_tup (pa_cons (pv 3) (pa_cons (pv 5) pa_nil))) (nomark _)))))
      (pss_one (ps_ret pe_bl))
      pss_nil)
    (pss_cons (ps_set (i := 8) sc_law.nd rfl (by first | exact Or.inl rfl | exact Or.inr rfl) (C8.pe_c c_Lchanged hr.room (by decide) (by rfl) (pa_cons (pv 1) (pa_cons (pv 6) pa_nil))))
    (pss_one (ps_if (pt_cmpR (op_neD hr.room.units) (C8.pe_c c_Ltold hr.room (by decide) (by rfl) (pa_cons (pv 8) pa_nil)) (C8.pe_c c_Ldue hr.room (by decide) (by rfl) (pa_cons (pv 8) pa_nil)) (nomark _))
      (pss_one (ps_ret pe_bl))
      pss_nil))))))))
  (pss_one (ps_ret pe_bl)))), ?_⟩
    refine ⟨_, rfl, a, ns, rfl, ha, hl, fun b g H1 hb hg s1 bo => ?_⟩
    refine ⟨_, rfl, a, _, rfl, Or.inl (sql s1 ha), ?_⟩
    have hlap : (10 + (if ((ns.map V.int).length : Int) < 20 then ((ns.map V.int).length : Int) else 20)) ≤ 30 ∧ 0 ≤ (10 + (if ((ns.map V.int).length : Int) < 20 then ((ns.map V.int).length : Int) else 20)) := by
      split <;> omega
    refine ⟨20, _, rfl, _, _, rfl, rfl, _, rfl, by omega, by omega, ?_⟩
    generalize (10 + (if ((ns.map V.int).length : Int) < 20 then ((ns.map V.int).length : Int) else 20)) = laps at hlap
    refine for_range (fun i σ H' => ∃ (y2 y3 y5 y6 y8 : Option V), σ = [some (.ref a), some (.ref b), y2, y3, none, y5, y6, none, y8] ∧ BagOk H' b g (30 * i))
      ⟨none, none, none, none, none, rfl, bo⟩ ?_ ?_
    · rintro i σ H2 hi ⟨y2, y3, y5, y6, y8, rfl, bo2⟩
      have hi30 : i < 30 := by omega
      refine ⟨rfl, _, rfl, b, g, 8, _, rfl, bo2, by omega, by decide, by decide +kernel, fun d1 H3 d10 d11 D1 => ⟨_, _, rfl, rfl, ?_⟩⟩
      have tn : (1 + d1).toNat = (1 + d1).toNat := rfl
      refine ⟨_, rfl, by omega, by omega, fun D hD => lc_range (fun j H => BagOk H b g (30 * i + 1 + j) ∧ ∃ us : List Nat, H D = some (.lst (us.map fun c => V.str ⟨#[c]⟩)) ∧ us.length = j ∧ ∀ c ∈ us, letL c = true) ?_ ?_ ?_⟩
      · exact ⟨(D1.ok.same (snew hD)).mono (by omega), [], upd_same, rfl, fun c hc => nomatch hc⟩
      · rintro j H4 hj ⟨bo4, us, hD4, hlen, hus⟩
        have nD := D1.ok.ne hD
        have l26 : ("abcdefghijklmnopqrstuvwxyz" : Str).cps.toList.length = 26 := by decide +kernel
        refine ⟨rfl, _, rfl, b, g, 26, _, rfl, bo4, by omega, by decide, by decide +kernel, fun d2 H5 d20 d21 D2 => ?_⟩
        obtain ⟨c, hc, mc⟩ := atI_ok (xs := ("abcdefghijklmnopqrstuvwxyz" : Str).cps.toList) (i := d2) d20 (by rw [l26]; exact d21)
        have lc : letL c = true := by
          rw [← abc_is]
          exact decide_eq_true mc
        have hD5 : H5 D = some (.lst (us.map fun c => V.str ⟨#[c]⟩)) := by rw [D2.ne D nD.1 nD.2]; exact hD4
        refine ⟨_, d2, c, rfl, rfl, by decide +kernel, hc, _, hD5, ?_, ?_, us ++ [c], ?_, ?_, ?_⟩
        · rw [List.length_map, hlen, sizeLine_eq]
          omega
        · exact (D2.ok.off nD.1 nD.2).mono (by omega)
        · rw [upd_same, List.map_append]
          rfl
        · rw [List.length_append, hlen]
          rfl
        · intro c' hc'
          rcases List.mem_append.mp hc' with hc' | hc'
          · exact hus c' hc'
          · rw [List.mem_singleton.mp hc']
            exact lc
      · rintro H4 ⟨bo4, us, hD4, hlen, hus⟩
        have et : tl (Txt.join "" (us.map fun c => (⟨#[c]⟩ : Str))) = us := by
          rw [join_eq, tl_join, List.map_map]
          exact join_signs us
        have u8 : 1 ≤ us.length ∧ us.length ≤ 8 := by omega
        have nm : nmL us = true := by
          unfold nmL
          rw [decide_eq_true u8.1, decide_eq_true u8.2]
          exact List.all_eq_true.mpr hus
        refine ⟨_, D, us.map fun c => ⟨#[c]⟩, rfl, rfl, Or.inl (Or.inl (Or.inl (by rw [hD4, List.map_map]; rfl))), ?_, ?_⟩
        · rw [sum_signs]
          show us.length + _ * 0 ≤ 16777216
          omega
        generalize (Txt.join "" (us.map fun c => (⟨#[c]⟩ : Str))) = title at et ⊢
        rw [← et] at nm u8
        replace bo4 : BagOk H4 b g (30 * i + 9) := bo4.mono (by omega)
        clear hD4 hlen hus et D1 hD
        refine ⟨_, rfl, b, g, 3, _, rfl, bo4, by omega, by decide, by decide +kernel, fun d3 H5 d30 d31 D3 => ⟨_, _, rfl, rfl, ?_⟩⟩
        refine ⟨_, rfl, by omega, by omega, fun D2 hD2 => lc_range (fun j H => BagOk H b g (30 * i + 10 + 2 * j) ∧ ∃ ks : List Nat, H D2 = some (.lst (ks.map fun (k : Nat) => V.int (k : Int))) ∧ ks.length = j ∧ ∀ k ∈ ks, (numL k).length ≤ 40) ?_ ?_ ?_⟩
        · exact ⟨(D3.ok.same (snew hD2)).mono (by omega), [], upd_same, rfl, fun c hc => nomatch hc⟩
        · rintro j H6 hj ⟨bo6, ks, hD6, hk, few⟩
          have nD := D3.ok.ne hD2
          refine ⟨rfl, _, rfl, _, _, rfl, rfl, ⟨by decide, by decide, by decide +kernel⟩, by show 2 ≤ sizeLine; decide, fun t ht => ?_⟩
          have sm := snew (o := .tup [V.int 9, V.int (10 ^ (30 : Int).toNat)]) ht
          have h1 : (upd H6 t (.tup [V.int 9, V.int (10 ^ (30 : Int).toNat)])) t = some (.tup [V.int 9, V.int (10 ^ (30 : Int).toNat)]) := upd_same
          have bo7 := bo6.same sm
          have hD7 := sm _ _ hD6
          have nt := bo6.ne ht
          have ntD : t ≠ D2 := (ne_of_none hD6 ht).symm
          have all2 : ∀ v ∈ [V.int 9, V.int (10 ^ (30 : Int).toNat)], ∃ lim : Int, v = V.int lim ∧ 0 < lim ∧ lim.natAbs < 2 ^ 200 ∧ lim ≤ 10 ^ 30 := fun v hv => by
            simp only [List.mem_cons, List.not_mem_nil, or_false] at hv
            rcases hv with rfl | rfl
            · exact ⟨_, rfl, by decide, by decide +kernel, by decide +kernel⟩
            · exact ⟨_, rfl, by decide +kernel, by decide +kernel, by decide +kernel⟩
          have len2 : [V.int 9, V.int (10 ^ (30 : Int).toNat)].length = 2 := rfl
          generalize [V.int 9, V.int (10 ^ (30 : Int).toNat)] = xs at h1 sm all2 len2 bo7 hD7 ⊢
          generalize upd H6 t (.tup xs) = H7 at h1 bo7 hD7 ⊢
          refine ⟨_, rfl, b, g, 2, _, rfl, bo7, by omega, by decide, by decide +kernel, fun d4 H8 d40 d41 D4 => ?_⟩
          obtain ⟨v, hv, mv⟩ := atI_ok (xs := xs) (i := d4) d40 (by rw [len2]; exact d41)
          obtain ⟨lim, rfl, l0, l1, l2⟩ := all2 v mv
          refine ⟨t, xs, d4, _, rfl, rfl, Or.inl (Or.inl (D4.drS.ne _ _ nt.1 nt.2 h1)), hv, b, g, lim, _, rfl, D4.ok, by omega, l0, l1, fun d5 H9 d50 d51 D5 => ?_⟩
          have hD9 : H9 D2 = some (.lst (ks.map fun (k : Nat) => V.int (k : Int))) := by
            rw [D5.ne D2 nD.1 nD.2, D4.ne D2 nD.1 nD.2]
            exact hD7
          refine ⟨_, hD9, ?_, ?_, ks ++ [d5.toNat], ?_, ?_, ?_⟩
          · rw [List.length_map, hk, sizeLine_eq]
            omega
          · exact (D5.ok.off nD.1 nD.2).mono (by omega)
          · rw [upd_same, List.map_append]
            show some (HO.lst (_ ++ [V.int d5])) = some (HO.lst (_ ++ [V.int ((d5.toNat : Nat) : Int)]))
            rw [Int.toNat_of_nonneg d50]
          · rw [List.length_append, hk]
            rfl
          · intro k hk'
            rcases List.mem_append.mp hk' with hk' | hk'
            · exact few k hk'
            · rw [List.mem_singleton.mp hk']
              have z : d5.toNat < 10 ^ 30 := by
                have z2 : d5 < 10 ^ 30 := Int.lt_of_lt_of_le d51 l2
                have z3 : ((10 : Int) ^ 30).toNat = 10 ^ 30 := by decide +kernel
                omega
              exact numL_len (by decide) (Nat.lt_of_lt_of_le z (Nat.pow_le_pow_right (by decide) (by decide)))
        · rintro H6 ⟨bo6, ks, hD6, hk, few⟩
          have k3 : 1 ≤ ks.length ∧ ks.length ≤ 3 := by omega
          refine ⟨D2, _, rfl, Or.inl ⟨Or.inl (Or.inl hD6), fun pt hpt => ?_⟩⟩
          have bo7 : BagOk (upd H6 pt (.tup (ks.map fun (k : Nat) => V.int (k : Int)))) b g (30 * i + 16) := (bo6.same (snew hpt)).mono (by omega)
          have hp7 : (upd H6 pt (.tup (ks.map fun (k : Nat) => V.int (k : Int)))) pt = some (.tup (ks.map fun (k : Nat) => V.int (k : Int))) := upd_same
          generalize upd H6 pt (.tup (ks.map fun (k : Nat) => V.int (k : Int))) = H7 at bo7 hp7 ⊢
          clear hD6 hk D3 hD2 bo6 hpt
          have ht2 : SqT K H7 pt (ks.map fun (k : Nat) => V.int (k : Int)) := Or.inl (Or.inl hp7)
          have few1 : ∀ k ∈ ks, (numL k).length ≤ 100 := fun k hk => Nat.le_trans (few k hk) (by decide)
          have lt : title.length ≤ 8 := by rw [len_tl]; exact u8.2
          refine ⟨_, rfl, _, _, rfl, rfl, by rw [sizeLine_eq]; show title.length + 1 ≤ _; omega, rfl, _, rfl, pt, rfl, ⟨_, ht2⟩, fun D hD => lc_flat (walk_tup (K := K) (a := pt)) (fun i => .str (Str.ofString (toString ((ks.getD i 0 : Nat) : Int)))) ?_ hD (fun H1 sm => sqt sm ht2) (fun i H x H' y => by obtain ⟨rfl, _⟩ := y; exact same_refl) ?_ ?_⟩
          · rw [List.length_map]
            omega
          · rintro i v H1 H2 hi sm ⟨rfl, hy⟩ R hR
            rw [List.getElem?_map] at hy
            obtain ⟨k, hk, rfl⟩ := Option.map_eq_some_iff.mp hy
            have ek : ks.getD i 0 = k := by
              rw [List.getD_eq_getElem?_getD, hk]
              rfl
            rw [ek] at hR
            exact ⟨rfl, _, rfl, _, rfl, log_num (few1 k (List.mem_of_getElem? hk)), hR _ same_refl⟩
          · intro H8 sm8 hD1
            have el : ((List.range (ks.map fun (k : Nat) => V.int (k : Int)).length).map fun i => V.str (Str.ofString (toString ((ks.getD i 0 : Nat) : Int)))) = (ks.map fun (k : Nat) => Str.ofString (toString ((k : Nat) : Int))).map V.str := by
              rw [List.length_map, List.map_map]
              have z := range_map_get (ks.map fun (k : Nat) => V.str (Str.ofString (toString ((k : Nat) : Int)))) (fun i => V.str (Str.ofString (toString ((ks.getD i 0 : Nat) : Int)))) (fun i v hv => by
                rw [List.getElem?_map] at hv
                obtain ⟨k, hk, rfl⟩ := Option.map_eq_some_iff.mp hv
                rw [List.getD_eq_getElem?_getD, hk]
                rfl)
              rw [List.length_map] at z
              exact z
            rw [el] at hD1
            have es : ((ks.map fun (k : Nat) => Str.ofString (toString ((k : Nat) : Int))).map (·.length)).sum + (ks.map fun (k : Nat) => Str.ofString (toString ((k : Nat) : Int))).length * 1 ≤ 20000 := by
              have z := sum_few few1
              rw [List.map_map, List.length_map]
              have e2 : ((fun x : Str => x.length) ∘ fun (k : Nat) => Str.ofString (toString ((k : Nat) : Int))) = fun (k : Nat) => (numL k).length := by
                funext k
                show (Str.ofString (toString ((k : Nat) : Int))).length = _
                rw [len_tl, tl_num]
              rw [e2]
              have : 100 * ks.length ≤ 10000 := by omega
              omega
            have ej : TL.tl (Txt.join " " (ks.map fun (k : Nat) => Str.ofString (toString ((k : Nat) : Int)))) = joinL [32] (ks.map numL) := by
              rw [join_eq, tl_join, List.map_map]
              congr 1
              refine List.map_congr_left fun k _ => ?_
              exact tl_num k
            have lj : (Txt.join " " (ks.map fun (k : Nat) => Str.ofString (toString ((k : Nat) : Int)))).length ≤ 20000 := by
              rw [len_tl, ej]
              have z := sum_few few1
              have z2 : 100 * ks.length ≤ 10000 := by omega
              exact Nat.le_trans (join_len ks) (by omega)
            generalize (ks.map fun (k : Nat) => Str.ofString (toString ((k : Nat) : Int))) = ys at hD1 es ej lj ⊢
            refine ⟨_, D, ys, rfl, rfl, Or.inl (Or.inl (Or.inl hD1)), Nat.le_trans es (by decide), _, _, rfl, rfl, ?_, _, _, rfl, rfl, ?_, ?_⟩
            · rw [sizeLine_eq, len_tl, tl_append]
              rw [len_tl] at lt
              rw [List.length_append]
              show (TL.tl title).length + 1 + _ ≤ _
              omega
            · rw [sizeLine_eq, len_tl, tl_append, tl_append, List.length_append, List.length_append, ← len_tl, ← len_tl (Txt.join " " ys)]
              show title.length + 1 + _ + 1 ≤ _
              omega
            have ew : tl (((title ++ "[") ++ Txt.join " " ys) ++ "]") = cellL (tl title) ks := by
              rw [tl_append, tl_append, tl_append, ej]
              unfold cellL
              rw [List.append_assoc, List.append_assoc]
              rfl
            generalize ((title ++ "[") ++ Txt.join " " ys) ++ "]" = y at ew ⊢
            replace bo7 := bo7.same sm8
            replace hp7 := sm8 _ _ hp7
            clear el es ej lj hD1 ht2 hD sm8 H7
            have ic : IsC (tl y) (tl title) ks := ⟨nm, (fun e => by rw [e] at k3; simp at k3), k3.2, few, ew⟩
            have ly : y.length ≤ 400 := by
              rw [len_tl, ew]
              exact cellL_len u8.2 k3.2 few
            have ay : Asc 400 y := ⟨ly, fun c hc => cellL_asc nm c (by rw [← ew]; exact hc)⟩
            have dcell : ∀ {H3 : Hp} {t : Addr}, Same H8 H3 → H3 t = some (.tup [.str title, .ref pt]) → Dp K H3 (.ref t) (cellD title ks) := fun {H3 t} s3 ht => .tup (Or.inl (Or.inl ht)) (.cons (.str title) (.cons (dnat (s3 _ _ hp7)) .nil))
            refine ⟨_, rfl, _, rfl, (by show 2 ≤ sizeLine; decide), fun t ht => ⟨.ref t, title, ks, rfl, dcell (snew ht) upd_same, by omega, by omega, few1, fun z H9 s9 ez => ?_⟩⟩
            have ez' : z = y := ext_tl (by rw [ez, ew])
            rw [ez']
            have bo9 := (bo7.same (snew ht)).same s9
            have s89 := same_tr (snew (o := .tup [.str title, .ref pt]) ht) s9
            clear ez ez' s9
            refine ⟨_, rfl, rfl, _, rfl, ?_⟩
            have e1 : (!decide (V.str y = V.str y)) = false := by simp
            rw [e1]
            refine iteF ?_
            refine ⟨_, rfl, y, rfl, by omega, .inl ⟨title, ks, ic, fun v H10 s10 dv => ?_⟩⟩
            refine ⟨_, rfl, _, rfl, (by show 2 ≤ sizeLine; decide), fun t2 ht2 => ?_⟩
            have sh : ∀ {n : Str} {p : List Nat}, nmL (tl n) = true → SeqAt.shaped (cellD n p) = true := fun {n p} hn => by
              have z := good_cell (p := p) hn
              unfold SeqAt.shaped
              rw [Bool.and_eq_true]
              exact ⟨z.1, decide_eq_true (by have := z.2; omega)⟩
            refine ⟨_, _, dpm (snew ht2) _ _ dv, dcell (same_tr s89 (same_tr s10 (snew ht2))) upd_same, sh nm, sh nm, _, rfl, ?_⟩
            rw [SeqAt.eqv_refl _ (SeqAt.canLay_of_shaped (sh nm))]
            refine iteF ?_
            have bo10 := (bo9.same s10).same (snew (o := .tup [.str title, .ref pt]) ht2)
            generalize upd H10 t2 (.tup [.str title, .ref pt]) = H11 at bo10 ⊢
            refine ⟨_, rfl, _, rfl, b, g, _, y, rfl, bo10, by omega, ay, fun o m' H12 hm DS ao => ?_⟩
            have lo := ao.1
            have bo12 := DS.ok
            refine ⟨_, rfl, o, rfl, lo, ?_⟩
            by_cases hc : ∃ n p, IsC (tl o) (tl n) p
            · obtain ⟨n, p, c⟩ := hc
              refine .inl ⟨n, p, c, fun l v H13 s13 hl dv => ⟨_, rfl, o, rfl, lo, ao.2, .inl ⟨n, p, c, fun l2 v2 H14 s14 hl2 dv2 => ?_⟩⟩⟩
              have shl : SeqAt.shaped (.list [cellD n p]) = true := shaped_list fun d hd => by
                rw [List.mem_singleton.mp hd]
                exact good_cell c.nm
              refine ⟨.list [cellD n p], .list [cellD n p], .lst (Or.inl (Or.inl (s14 _ _ hl))) (.cons (dpm s14 _ _ dv) .nil), .lst (Or.inl (Or.inl hl2)) (.cons dv2 .nil), shl, shl, _, rfl, ?_⟩
              rw [SeqAt.eqv_refl _ (SeqAt.canLay_of_shaped shl)]
              exact iteF ⟨_, _, _, _, _, rfl, ((bo12.same s13).same s14).mono (by omega)⟩
            · have nc : ∀ n p, ¬ IsC (tl o) n p := fun n p c => hc ⟨⟨n.toArray⟩, p, c⟩
              refine .inr ⟨nc, fun l H13 s13 hl => ⟨_, rfl, o, rfl, lo, ao.2, .inr ⟨nc, fun l2 H14 s14 hl2 => ?_⟩⟩⟩
              have shl : SeqAt.shaped (.list []) = true := by decide +kernel
              refine ⟨.list [], .list [], .lst (Or.inl (Or.inl (s14 _ _ hl))) .nil, .lst (Or.inl (Or.inl hl2)) .nil, shl, shl, _, rfl, ?_⟩
              rw [SeqAt.eqv_refl _ (SeqAt.canLay_of_shaped shl)]
              exact iteF ⟨_, _, _, _, _, rfl, ((bo12.same s13).same s14).mono (by omega)⟩
    · rintro σ H2 ⟨y2, y3, y5, y6, y8, rfl, bo2⟩
      exact q H2
end
end Fr

namespace Fr
open PySem PySem.Spec PyProof.Rows L2
section
variable {P : Program} {w : World} {K : PySem.W.Frag} {mg mb : Str → Option Value} {a : Addr} {cs : List (Addr × Addr)} {s : Shared} {vs : List Value} {ns : List Int}
/-- what is tracked when the law is called: the tables, and the script unless it is written down -/
structure Begin (K : PySem.W.Frag) (cs : List (Addr × Addr)) (a : Addr) (so : Obj) (ns : List Int) (H : Hp) : Prop where
  tab : ∀ p ∈ cs, H p.2 = some (.tbl #[])
  scr : SqL K H a (ns.map V.int)
  only : ∀ b u, H b = some u → (u = .tbl #[] ∧ ∃ p ∈ cs, p.2 = b) ∨ (b = a ∧ u = .frz so (.lst (ns.map V.int)) ∧ K.lookup a = none)
theorem begin_ex (inK : K.In s.heap) (ha : s.heap.get? a = some { cls := .type "list", data := .seq vs.toArray }) (hi : IntsAre vs ns) (hl : ns.length ≤ sizeLine) (hT : ∀ p ∈ cs, s.heap.get? p.2 = some { cls := .none, data := .fields #[] }) :
    ∃ H, Begin K cs a { cls := .type "list", data := .seq vs.toArray } ns H := by
  have na : ¬ ∃ p ∈ cs, p.2 = a := by
    rintro ⟨p, hp, e⟩
    have z := hT p hp
    rw [e, ha] at z
    have z2 : Data.seq vs.toArray _ = Data.fields #[] := congrArg Obj.data (Option.some.inj z)
    cases z2
  haveI : DecidablePred fun b => ∃ p ∈ cs, p.2 = b := fun b => Classical.propDecidable _
  refine ⟨fun b => if ∃ p ∈ cs, p.2 = b then some (.tbl #[]) else if b = a then (match K.lookup a with | none => some (.frz { cls := .type "list", data := .seq vs.toArray } (.lst (ns.map V.int))) | some _ => none) else none, ⟨fun p hp => if_pos ⟨p, hp, rfl⟩, ?_, ?_⟩⟩
  · cases hk : K.lookup a with
    | none =>
      refine .inl (.inr ⟨{ cls := .type "list", data := .seq vs.toArray }, ?_⟩)
      exact (if_neg na).trans (if_pos rfl)
    | some o =>
      have e := inK a o hk
      rw [ha] at e
      cases e
      exact .inr ⟨_, vs.toArray, _, hk, rfl, rfl, rfl, by rw [List.size_toArray, hi.length]; exact hl, by simpa using vals_ints hi⟩
  · intro b u h
    by_cases h1 : ∃ p ∈ cs, p.2 = b
    · rw [if_pos h1] at h
      cases h
      exact .inl ⟨rfl, h1⟩
    · rw [if_neg h1] at h
      by_cases h2 : b = a
      · rw [if_pos h2] at h
        cases hk : K.lookup a with
        | none =>
          rw [hk] at h
          cases h
          exact .inr ⟨h2, rfl, rfl⟩
        | some o =>
          rw [hk] at h
          cases h
      · rw [if_neg h2] at h
        cases h
theorem law_callG {k : Nat} {fa : Addr} {fd : FuncData} {x : Str} {sp : Sp} (inK : K.In s.heap) (hns : s.heap.Ns mainGlobals mg) (hb : s.heap.Ns builtinsNs mb) (hbb : ∀ x : Str, x ≠ "__name__" → mb x = bootBuiltins x) (hlim : s.heap.NoLimit) (hg : s.gens = #[])
    (hT : ∀ p ∈ cs, s.heap.get? p.2 = some { cls := .none, data := .fields #[] }) (nT : ∀ p ∈ cs, K.lookup p.2 = none) (hC : ∀ p ∈ cs, PySem.W.CodeHd s.heap p.1 p.2)
    (hbm : ∃ (bm : Addr) (ob : Obj), mg "__builtins__" = some (.ref bm) ∧ bm ≠ builtinsNs ∧ s.heap.get? bm = some ob ∧ ob.cls = .type "module" ∧ ob.dict = some builtinsNs ∧ ob.data = .plain)
    (ha : s.heap.get? a = some { cls := .type "list", data := .seq vs.toArray }) (hi : IntsAre vs ns) (hl : ns.length ≤ sizeLine) (hr : Room k callerA)
    (F : ∀ base : Heap, K.In base → base.Ns mainGlobals mg → (∀ p ∈ cs, LamX.TabB base mg p.1 p.2) → FnG P w K mg base k fa fd [x] sp) (bind : ∀ (s : Shared) (u : Value), BindsTo s fd ⟨[u], []⟩ [(x, u)])
    (hsp : ∀ H : Hp, (∀ p ∈ cs, H p.2 = some (.tbl #[])) → SqL K H a (ns.map V.int) → sp [.ref a] H (fun v _ => v = .bl true) fun _ _ _ => False) :
    codeAny (model P w) callerA (.call (.ref fa) ⟨[.ref a], []⟩) (fun r s' => r = .ok (.ret (.bool true)) ∧ OldK s.heap s'.heap ∧ s'.os = s.os ∧ AllBare s'.gens) s := by
  obtain ⟨H, B⟩ := begin_ex inK ha hi hl hT
  have hok : HOk P w H s.heap := by
    intro b u h
    rcases B.only b u h with ⟨rfl, p, hp, rfl⟩ | ⟨rfl, rfl, _⟩
    · exact hT p hp
    · exact ⟨ha, by rw [List.length_map]; exact hl, vs, _, vals_ints hi, ha⟩
  -- what is no list and no empty table is not tracked
  have out : ∀ {b : Addr} {o : Obj}, s.heap.get? b = some o → (∀ ys n, o.data ≠ .seq ys n) → o.data ≠ .fields #[] → H b = none := by
    intro b o h1 h2 h3
    cases hb : H b with
    | none => rfl
    | some u =>
      rcases B.only b u hb with ⟨_, p, hp, rfl⟩ | ⟨rfl, _, _⟩
      · rw [hT p hp] at h1
        cases h1
        exact (h3 rfl).elim
      · rw [ha] at h1
        cases h1
        exact (h2 _ _ rfl).elim
  have low : ∀ {b : Addr} {o : Obj}, s.heap.get? b = some o → (∀ ys n, o.data ≠ .seq ys n) → o.data ≠ .fields #[] → (hidT s.heap H).get? b = some o := fun h1 h2 h3 => hidT_get h1 (out h1 h2 h3)
  have nsB : ∀ {b : Addr} {m : Str → Option Value}, s.heap.Ns b m → (hidT s.heap H).Ns b m := by
    rintro b m ⟨o, es, ep, h1, h2, h3⟩
    exact ⟨o, es, ep, low h1 (fun ys n z => by rw [h2] at z; cases z) (fun z => by rw [h2] at z; cases z), h2, h3⟩
  have inB : K.In (hidT s.heap H) := by
    intro b o h
    refine hidT_get (inK b o h) ?_
    cases hb : H b with
    | none => rfl
    | some u =>
      rcases B.only b u hb with ⟨_, p, hp, rfl⟩ | ⟨rfl, _, z⟩
      · rw [nT p hp] at h
        cases h
      · rw [z] at h
        cases h
  have md : L2.Mod K mg (hidT s.heap H) := by
    obtain ⟨mc, l1, l2⟩ := hlim
    exact ⟨inB, nsB hns, ⟨mb, nsB hb, hbb⟩, ⟨mc, nsB l1, l2⟩⟩
  have tb : ∀ p ∈ cs, LamX.TabB (hidT s.heap H) mg p.1 p.2 := by
    intro p hp
    have hp0 := hT p hp
    constructor
    · obtain ⟨o, us, f1, f2, f3, f4, f5, f6, f7, g, r1, r2, r3, r4, r5, r6, r7, r8, ne⟩ := hC p hp
      refine ⟨o, us, f1, f2, f3, f4, f5, f6, f7, low g (fun ys n z => by rw [r2] at z; cases z) (fun z => ?_), r1, r2, r3, r4, r5, r6, r7, r8, ne⟩
      rw [r2] at z
      cases z
      simp at r3
    · obtain ⟨bm, ob, b1, b2, b3, b4, b5, b6⟩ := hbm
      refine ⟨bm, ob, b1, b2, fun z => ?_, fun z => ?_, low b3 (fun ys n z => by rw [b6] at z; cases z) (fun z => by rw [b6] at z; cases z), b4, b5, b6⟩
      · obtain ⟨o, es, ep, e1, e2, _⟩ := hns
        rw [z, e1] at b3
        cases b3
        rw [e2] at b6
        cases b6
      · rw [z, hp0] at b3
        cases b3
        cases b6
    · intro z
      obtain ⟨o, es, ep, e1, e2, _⟩ := hns
      rw [z, hp0] at e1
      cases e1
      cases e2
  have env : Env0 P w K mg (hidT s.heap H) callerA [] s H :=
    { frames := rfl, mod := md, bs := fun _ _ z => of_hidT z, bsz := Nat.le_of_eq (hidT_size _ _), funs := trivial, frf := fun b z => absurd (show b ∈ ([] : List Addr) from z) (List.not_mem_nil), hok := hok, bare := .of_eq hg }
  refine codeAny_mono ((F _ inB (nsB hns) tb).go callerA [] s H ⟨[.ref a], []⟩ [.ref a] [.ref a] _ _ ⟨hr, rfl⟩ env (bind s (.ref a)) (.cons rfl .nil) (hsp H B.tab B.scr)) ?_
  intro rs s2 z
  match rs, z with
  | .error e, z => exact (show False from z).elim
  | .ok .next, z => exact z.elim
  | .ok .brk, z => exact z.elim
  | .ok .cont, z => exact z.elim
  | .ok (.ret u), z =>
    obtain ⟨v, H2, os, bare, un, hok2, ru, rfl⟩ := z
    obtain rfl : u = Value.bool true := ru
    have grow : ∀ p ∈ cs, ∃ more : Array Value, s2.heap.get? p.2 = some { cls := .none, data := .fields more } := fun p hp => by
      obtain ⟨more, e⟩ := un.tbls p.2 #[] (B.tab p hp)
      exact ⟨_, hok2 _ _ e⟩
    have keep : ∀ b o, (¬ ∃ p ∈ cs, p.2 = b) → s.heap.get? b = some o → s2.heap.get? b = some o := by
      intro b o nb h
      cases hb : H b with
      | none => exact un.keep b o h hb (fun z => absurd (show b ∈ ([] : List Addr) from z) List.not_mem_nil) List.not_mem_nil
      | some u =>
        rcases B.only b u hb with ⟨_, z⟩ | ⟨rfl, rfl, _⟩
        · exact (nb z).elim
        · have h1 := (hok _ _ hb).1
          rw [h] at h1
          cases h1
          exact (hok2 _ _ (un.frzs _ _ _ hb)).1
    refine ⟨rfl, ⟨fun b o h => ?_, fun b o h => ?_⟩, os, bare⟩
    · by_cases hb : ∃ p ∈ cs, p.2 = b
      · obtain ⟨p, hp, rfl⟩ := hb
        obtain ⟨more, e⟩ := grow p hp
        have h0 := hT p hp
        rw [h] at h0
        cases h0
        refine .inr (.inl ⟨((hC p hp).tab (hT p hp)).isCodeTable, rfl, #[], more, rfl, ?_⟩)
        rw [Array.empty_append]
        exact e
      · exact .inl (keep b o hb h)
    · by_cases hb : ∃ p ∈ cs, p.2 = b
      · obtain ⟨p, hp, rfl⟩ := hb
        obtain ⟨more, e⟩ := grow p hp
        exact ⟨_, e⟩
      · exact ⟨o, keep b o hb h⟩
/-- what is to be known of a law's def, at the heap behind its program's top -/
def LawAtG (l : PySem.W.OpenLaw) (w : World) (K : PySem.W.Frag) (k n : Nat) (x : Str) (mg : Str → Option Value) (fa : Addr) (h : Heap) : Prop :=
  ∃ (fd : FuncData) (cs : List (Addr × Addr)) (sp : Sp), ((∀ p ∈ cs, h.get? p.2 = some { cls := .none, data := .fields #[] }) ∧ (∀ p ∈ cs, K.lookup p.2 = none) ∧ ∀ p ∈ cs, PySem.W.CodeHd h p.1 p.2) ∧ (∀ (s : Shared) (u : Value), BindsTo s fd ⟨[u], []⟩ [(x, u)]) ∧
    (∀ (H : Hp) (a : Addr) (ns : List Int), ns.length ≤ n → (∀ p ∈ cs, H p.2 = some (.tbl #[])) → SqL K H a (ns.map V.int) → sp [.ref a] H (fun v _ => v = .bl true) fun _ _ _ => False) ∧
    ∀ base : Heap, K.In base → base.Ns mainGlobals mg → (∀ p ∈ cs, LamX.TabB base mg p.1 p.2) → FnG l.prog w K mg base k fa fd [x] sp
theorem walk_ofG {l : PySem.W.OpenLaw} {n k : Nat} {q : Program} {loose : List Str} {XP : (Str → Option Value) → Heap → Prop} {YP : World → Heap → Prop} {d : DefRec} {K : Params → PySem.W.Frag} {x : Str}
    (hn : l.most = some n) (hz : n ≤ sizeLine) (hdf : d.params.defaults = []) (hr : Room k callerA) (hY : ∀ (w : World) (h : Heap), YP w h → (K w.params).In h)
    (F : ∀ (w : World) (mg : Str → Option Value) (fa : Addr) (h : Heap), YP w h → (K w.params).In h → h.Ns mainGlobals mg → mg d.name = some (.ref fa) → LawAtG l w (K w.params) k n x mg fa h) : PySem.W.WalkO q loose XP YP l.row.toRowW d [] (fun f vs => PySem.call f vs) := by
  refine Att.attach_callB hn hdf ?_
  intro w _ s mg mb fa _ _ _ _ a vs ns G Y _ _ _ hmg hobj hints hlen _ hg
  have inK := hY w _ Y
  obtain ⟨fd, cs, sp, ⟨h1, h2, h3⟩, hb, hsp, hF⟩ := F w mg fa _ Y inK G.T.g hmg
  exact law_callG inK G.T.g G.T.b G.T.builtins G.T.nolimit hg h1 h2 h3 G.T.bmain hobj hints (Nat.le_trans hlen hz) hr hF hb fun H t => hsp H a ns hlen t
end
end Fr

namespace Fr
open PySem PySem.Spec PyProof.Rows L2
def ExcRow (K : PySem.W.Frag) (C : Addr) : Prop := ∃ nm q N bs bm sn sub ab col dd k0 k1 k2 k3 k5, K.lookup C = some (excClassObj nm q C N bs bm true sn sub ab col dd k0 k1 k2 k3 k5 "ValueError.__new__") ∧ PySem.HandSPX.refsVE bm = true
theorem excRow_of {K : PySem.W.Frag} {C N : Addr} {nm q : Str} {bs bm sub : List Value} {sn : List Str} {ab : Bool} {col : Option Bool} {dd : Option Addr} {k0 k1 k2 k3 k5 : Option Value} (l : K.lookup C = some (excClassObj nm q C N bs bm true sn sub ab col dd k0 k1 k2 k3 k5 "ValueError.__new__")) (r : PySem.HandSPX.refsVE bm = true) : ExcRow K C := ⟨_, _, _, _, _, _, _, _, _, _, _, _, _, _, _, l, r⟩

theorem all_mk {l : PySem.W.OpenLaw} {w : World} {K : PySem.W.Frag} {h : Heap} {mg : Str → Option Value} {fa : Addr} (X : K.In h) (G : h.Ns mainGlobals mg) (hfa : mg "law" = some (.ref fa))
    {CU CI fE f1 f2 f3 f4 f5 f6 f7 f8 f9 f10 f11 : Addr} {od1 an1 od2 an2 od3 an3 od4 an4 od5 an5 od6 an6 od7 an7 od8 an8 od9 an9 od10 an10 od11 an11 odE anE : Option Addr} {sl1 sl2 sl3 sl4 sl5 sl6 sl7 sl8 sl9 sl10 sl11 slE : Array (Option Value)} {oc1 kV1 dc1 pm1 ct1 cd1 oc2 kV2 dc2 pm2 ct2 cd2 oc3 kV3 dc3 pm3 ct3 cd3 oc4 kV4 dc4 pm4 ct4 cd4 oc5 kV5 dc5 pm5 ct5 cd5 oc6 kV6 dc6 pm6 ct6 cd6 oc7 kV7 dc7 pm7 ct7 cd7 oc8 kV8 dc8 pm8 ct8 cd8 oc9 kV9 dc9 pm9 ct9 cd9 oc10 kV10 dc10 pm10 ct10 cd10 oc11 kV11 dc11 pm11 ct11 cd11 ocE kVE dcE pmE ctE cdE : Value} {t_MOST_DIMENSIONS t_MOST_LETTERS t_MOST_DIGITS : Tok}
    (a1 : PySem.W.nsIn K mainGlobals "is_name" = some (some (.ref f1)))
    (l1 : K.lookup f1 = some ⟨oc1, od1, .func (PySem.W.fnOf "is_name" "is_name" (defArgs s_is_name) (defBody s_is_name) (defScope s_is_name) .none kV1 dc1 pm1 an1 cd1 ct1), sl1⟩)
    (e1 : PySem.W.codeIn K cd1 "is_name" = true)
    (k1 : PySem.W.keepIn K (.ref f1) = true)
    (a2 : PySem.W.nsIn K mainGlobals "show_cell" = some (some (.ref f2)))
    (l2 : K.lookup f2 = some ⟨oc2, od2, .func (PySem.W.fnOf "show_cell" "show_cell" (defArgs s_show_cell) (defBody s_show_cell) (defScope s_show_cell) .none kV2 dc2 pm2 an2 cd2 ct2), sl2⟩)
    (e2 : PySem.W.codeIn K cd2 "show_cell" = true)
    (k2 : PySem.W.keepIn K (.ref f2) = true)
    (a3 : PySem.W.nsIn K mainGlobals "read_cell" = some (some (.ref f3)))
    (l3 : K.lookup f3 = some ⟨oc3, od3, .func (PySem.W.fnOf "read_cell" "read_cell" (defArgs s_read_cell) (defBody s_read_cell) (defScope s_read_cell) .none kV3 dc3 pm3 an3 cd3 ct3), sl3⟩)
    (e3 : PySem.W.codeIn K cd3 "read_cell" = true)
    (k3 : PySem.W.keepIn K (.ref f3) = true)
    (a4 : PySem.W.nsIn K mainGlobals "read_integers" = some (some (.ref f4)))
    (l4 : K.lookup f4 = some ⟨oc4, od4, .func (PySem.W.fnOf "read_integers" "read_integers" (defArgs s_read_integers) (defBody s_read_integers) (defScope s_read_integers) .none kV4 dc4 pm4 an4 cd4 ct4), sl4⟩)
    (e4 : PySem.W.codeIn K cd4 "read_integers" = true)
    (k4 : PySem.W.keepIn K (.ref f4) = true)
    (a5 : PySem.W.nsIn K mainGlobals "read_integer" = some (some (.ref f5)))
    (l5 : K.lookup f5 = some ⟨oc5, od5, .func (PySem.W.fnOf "read_integer" "read_integer" (defArgs s_read_integer) (defBody s_read_integer) (defScope s_read_integer) .none kV5 dc5 pm5 an5 cd5 ct5), sl5⟩)
    (e5 : PySem.W.codeIn K cd5 "read_integer" = true)
    (k5 : PySem.W.keepIn K (.ref f5) = true)
    (a6 : PySem.W.nsIn K mainGlobals "_law_bag" = some (some (.ref f6)))
    (l6 : K.lookup f6 = some ⟨oc6, od6, .func (PySem.W.fnOf "_law_bag" "_law_bag" (defArgs s_Lbag) (defBody s_Lbag) (defScope s_Lbag) .none kV6 dc6 pm6 an6 cd6 ct6), sl6⟩)
    (e6 : PySem.W.codeIn K cd6 "_law_bag" = true)
    (k6 : PySem.W.keepIn K (.ref f6) = true)
    (a7 : PySem.W.nsIn K mainGlobals "_law_draw" = some (some (.ref f7)))
    (l7 : K.lookup f7 = some ⟨oc7, od7, .func (PySem.W.fnOf "_law_draw" "_law_draw" (defArgs s_Ldraw) (defBody s_Ldraw) (defScope s_Ldraw) .none kV7 dc7 pm7 an7 cd7 ct7), sl7⟩)
    (e7 : PySem.W.codeIn K cd7 "_law_draw" = true)
    (k7 : PySem.W.keepIn K (.ref f7) = true)
    (a8 : PySem.W.nsIn K mainGlobals "_law_due" = some (some (.ref f8)))
    (l8 : K.lookup f8 = some ⟨oc8, od8, .func (PySem.W.fnOf "_law_due" "_law_due" (defArgs s_Ldue) (defBody s_Ldue) (defScope s_Ldue) .none kV8 dc8 pm8 an8 cd8 ct8), sl8⟩)
    (e8 : PySem.W.codeIn K cd8 "_law_due" = true)
    (k8 : PySem.W.keepIn K (.ref f8) = true)
    (a9 : PySem.W.nsIn K mainGlobals "_law_changed" = some (some (.ref f9)))
    (l9 : K.lookup f9 = some ⟨oc9, od9, .func (PySem.W.fnOf "_law_changed" "_law_changed" (defArgs s_Lchanged) (defBody s_Lchanged) (defScope s_Lchanged) .none kV9 dc9 pm9 an9 cd9 ct9), sl9⟩)
    (e9 : PySem.W.codeIn K cd9 "_law_changed" = true)
    (k9 : PySem.W.keepIn K (.ref f9) = true)
    (a10 : PySem.W.nsIn K mainGlobals "_law_told" = some (some (.ref f10)))
    (l10 : K.lookup f10 = some ⟨oc10, od10, .func (PySem.W.fnOf "_law_told" "_law_told" (defArgs s_Ltold) (defBody s_Ltold) (defScope s_Ltold) .none kV10 dc10 pm10 an10 cd10 ct10), sl10⟩)
    (e10 : PySem.W.codeIn K cd10 "_law_told" = true)
    (k10 : PySem.W.keepIn K (.ref f10) = true)
    (a11 : PySem.W.nsIn K mainGlobals "law" = some (some (.ref f11)))
    (l11 : K.lookup f11 = some ⟨oc11, od11, .func (PySem.W.fnOf "law" "law" (defArgs s_law) (defBody s_law) (defScope s_law) .none kV11 dc11 pm11 an11 cd11 ct11), sl11⟩)
    (e11 : PySem.W.codeIn K cd11 "law" = true)
    (k11 : PySem.W.keepIn K (.ref f11) = true)
    (cgCU : PySem.W.nsIn K mainGlobals "Unreadable" = some (some (.ref CU)))
    (cgCI : PySem.W.nsIn K mainGlobals "InvalidCell" = some (some (.ref CI)))
    (xx : ExcRow K CU)
    (sa : PySem.W.findIn K (.ref CU) "__setattr__" = some (some (.builtin "object.__setattr__")))
    (ex : PySem.W.subIn K (.ref CU) (.type "BaseException") = some true)
    (ty : PySem.W.typeIn K (.ref CU) = some (.type "type"))
    (kp : PySem.W.keepIn K (.ref CU) = true)
    (ga : PySem.W.findIn K (.ref CU) "__getattribute__" = some (some (.builtin "BaseException.__getattribute__")))
    (gg : PySem.W.findIn K (.ref CU) "__getattr__" = some none)
    (hd : PySem.W.hasDictIn K CU = true)
    (kc : PySem.W.findIn K (.ref CU) "__class__" = some (some (.builtin "object.__class__")))
    (km : PySem.W.mroIn K CU (.type "object") = some true)
    (in_ : PySem.W.findIn K (.ref CU) "__init__" = some (some (.ref fE)))
    (no : PySem.W.findIn K (.ref CU) "value" = some none)
    (kg : PySem.W.specialIn K (.builtin "object.__class__") "__get__" = some (some (.builtin "getset_descriptor.__get__")))
    (kt : PySem.W.takesIn K (.builtin "object.__class__") = some true)
    (lE : K.lookup fE = some ⟨ocE, odE, .func (PySem.W.fnOf "__init__" "ReadError.__init__" (defArgs s_ReadError_init) (defBody s_ReadError_init) (defScope s_ReadError_init) .none kVE dcE pmE anE cdE ctE), slE⟩)
    (eE : PySem.W.codeIn K cdE "ReadError.__init__" = true)
    (kE : PySem.W.keepIn K (.ref fE) = true)
    (tyE : PySem.W.typeIn K (.ref fE) = some (.type "function"))
    (hxU : PySem.W.exmOne K (.ref CU) (.ref CU) = some true)
    (hxI : PySem.W.kitOne K (.ref CU) (.ref CI) = some false)
    (z_len : PySem.W.nsIn K mainGlobals "len" = some none)
    (z_abs : PySem.W.nsIn K mainGlobals "abs" = some none)
    (z_min : PySem.W.nsIn K mainGlobals "min" = some none)
    (z_range : PySem.W.nsIn K mainGlobals "range" = some none)
    (z_all : PySem.W.nsIn K mainGlobals "all" = some none)
    (z_int : PySem.W.nsIn K mainGlobals "int" = some none)
    (z_str : PySem.W.nsIn K mainGlobals "str" = some none)
    (z_tuple : PySem.W.nsIn K mainGlobals "tuple" = some none)
    (z_isinstance : PySem.W.nsIn K mainGlobals "isinstance" = some none)
    (v_MOST_DIMENSIONS : PySem.W.nsIn K mainGlobals "MOST_DIMENSIONS" = some (some (.int 3 t_MOST_DIMENSIONS)))
    (v_MOST_LETTERS : PySem.W.nsIn K mainGlobals "MOST_LETTERS" = some (some (.int 8 t_MOST_LETTERS)))
    (v_MOST_DIGITS : PySem.W.nsIn K mainGlobals "MOST_DIGITS" = some (some (.int 40 t_MOST_DIGITS)))
    : LawAtG l w K 7 63 "_law_script" mg fa h := by
  have e := hfa.symm.trans (PySem.W.mg_of X G a11)
  cases e
  have T : Txt mg := ⟨PySem.W.mg_none_of X G z_len, PySem.W.mg_none_of X G z_abs, PySem.W.mg_none_of X G z_min, PySem.W.mg_none_of X G z_range, PySem.W.mg_none_of X G z_all, PySem.W.mg_none_of X G z_int, PySem.W.mg_none_of X G z_str, PySem.W.mg_none_of X G z_tuple, PySem.W.mg_none_of X G z_isinstance, ⟨_, PySem.W.mg_of X G v_MOST_DIMENSIONS, ⟨_, rfl⟩⟩, ⟨_, PySem.W.mg_of X G v_MOST_LETTERS, ⟨_, rfl⟩⟩, ⟨_, PySem.W.mg_of X G v_MOST_DIGITS, ⟨_, rfl⟩⟩⟩
  have EU : ErrC K CU := ⟨⟨xx, sa, ex, ty, kp⟩, ga, gg, hd, kc, kg, kt, km⟩
  have F1 := fun_mk (st := s_is_name) l1 e1 k1
  have b1 := F1.binds (ps := ["text"]) fun _ _ _ _ _ _ us hl => match us, hl with | [_], _ => rfl
  have F2 := fun_mk (st := s_show_cell) l2 e2 k2
  have b2 := F2.binds (ps := ["cell"]) fun _ _ _ _ _ _ us hl => match us, hl with | [_], _ => rfl
  have F3 := fun_mk (st := s_read_cell) l3 e3 k3
  have b3 := F3.binds (ps := ["text"]) fun _ _ _ _ _ _ us hl => match us, hl with | [_], _ => rfl
  have F4 := fun_mk (st := s_read_integers) l4 e4 k4
  have b4 := F4.binds (ps := ["part", "text"]) fun _ _ _ _ _ _ us hl => match us, hl with | [_, _], _ => rfl
  have F5 := fun_mk (st := s_read_integer) l5 e5 k5
  have b5 := F5.binds (ps := ["word", "text"]) fun _ _ _ _ _ _ us hl => match us, hl with | [_, _], _ => rfl
  have F6 := fun_mk (st := s_Lbag) l6 e6 k6
  have b6 := F6.binds (ps := ["_law_script"]) fun _ _ _ _ _ _ us hl => match us, hl with | [_], _ => rfl
  have F7 := fun_mk (st := s_Ldraw) l7 e7 k7
  have b7 := F7.binds (ps := ["_law_bag_here", "_law_many"]) fun _ _ _ _ _ _ us hl => match us, hl with | [_, _], _ => rfl
  have F8 := fun_mk (st := s_Ldue) l8 e8 k8
  have b8 := F8.binds (ps := ["_law_wording"]) fun _ _ _ _ _ _ us hl => match us, hl with | [_], _ => rfl
  have F9 := fun_mk (st := s_Lchanged) l9 e9 k9
  have b9 := F9.binds (ps := ["_law_bag_here", "_law_wording"]) fun _ _ _ _ _ _ us hl => match us, hl with | [_, _], _ => rfl
  have F10 := fun_mk (st := s_Ltold) l10 e10 k10
  have b10 := F10.binds (ps := ["_law_wording"]) fun _ _ _ _ _ _ us hl => match us, hl with | [_], _ => rfl
  have F11 := fun_mk (st := s_law) l11 e11 k11
  have FE := fun_mk (st := s_ReadError_init) lE eE kE
  have bE := FE.binds (ps := ["self", "value"]) fun _ _ _ _ _ _ us hl => match us, hl with | [_, _], _ => rfl
  refine ⟨PySem.W.fnOf "law" "law" (defArgs s_law) (defBody s_law) (defScope s_law) .none kV11 dc11 pm11 an11 cd11 ct11, [], spLaw K, ⟨fun p hp => absurd hp List.not_mem_nil, fun p hp => absurd hp List.not_mem_nil, fun p hp => absurd hp List.not_mem_nil⟩, fun s v => .of_eq rfl, fun H a ns hl _ hS => ⟨a, ns, rfl, hS, hl, fun _ => rfl⟩, fun base KB GB _ => ?_⟩
  have r_Unreadable : MkR l.prog w K mg base 1 "Unreadable" CU := ⟨EU, no, _, _, _, in_, tyE, ok_errI FE, bE, PySem.W.mg_of X G cgCU⟩
  have c_Lbag : C8.Cal l.prog w K mg base 1 "_law_bag" (spBag K) [] := ⟨_, _, _, _, ok_bag F6 T, PySem.W.mg_of X G a6, k6, b6, .nil⟩
  have c_Ldraw : C8.Cal l.prog w K mg base 1 "_law_draw" spDraw [] := ⟨_, _, _, _, ok_draw F7 T, PySem.W.mg_of X G a7, k7, b7, .nil⟩
  have c_is_name : C8.Cal l.prog w K mg base 1 "is_name" spIsName [] := ⟨_, _, _, _, ok_is_name F1 T, PySem.W.mg_of X G a1, k1, b1, .nil⟩
  have c_show_cell : C8.Cal l.prog w K mg base 1 "show_cell" (spShowCell K) [] := ⟨_, _, _, _, ok_show_cell F2 T, PySem.W.mg_of X G a2, k2, b2, .nil⟩
  have x_read_integer : CalX l.prog w K mg base 3 "read_integer" (spReadInt CU) := ⟨_, _, _, ok_read_integer F5 T r_Unreadable, PySem.W.mg_of X G a5, k5, b5⟩
  have x_read_integers : CalX l.prog w K mg base 4 "read_integers" (spReadInts CU) := ⟨_, _, _, ok_read_integers F4 T x_read_integer, PySem.W.mg_of X G a4, k4, b4⟩
  have x_read_cell : CalX l.prog w K mg base 5 "read_cell" (spReadCell K CU) := ⟨_, _, _, ok_read_cell F3 T c_is_name c_show_cell x_read_integers r_Unreadable, PySem.W.mg_of X G a3, k3, b3⟩
  have c_Ldue : C8.Cal l.prog w K mg base 1 "_law_due" (spDue K) [] := ⟨_, _, _, _, ok_due F8 T, PySem.W.mg_of X G a8, k8, b8, .nil⟩
  have c_Lchanged : C8.Cal l.prog w K mg base 2 "_law_changed" spChanged [] := ⟨_, _, _, _, ok_changed F9 T c_Ldraw, PySem.W.mg_of X G a9, k9, b9, .nil⟩
  have c_Ltold : C8.Cal l.prog w K mg base 6 "_law_told" (spTold K) [] := ⟨_, _, _, _, ok_told F10 T (PySem.W.mg_of X G cgCU) (PySem.W.mg_of X G cgCI) EU no hxU hxI x_read_cell, PySem.W.mg_of X G a10, k10, b10, .nil⟩
  have k_show_cell : CalY l.prog w K mg base 1 "show_cell" (spShowCell K) ["cell"] kwO := ⟨CX0, _, _, _, _, ok_show_cell F2 T, PySem.W.mg_of X G a2, k2, kbO fun s v => .of_eq (by rfl), fun X _ _ => pass0⟩
  have k_read_cell : CalY l.prog w K mg base 5 "read_cell" (spReadCell K CU) ["text"] kwO := ⟨L2.CX l.prog w, _, _, _, _, ok_read_cell F3 T c_is_name c_show_cell x_read_integers r_Unreadable, PySem.W.mg_of X G a3, k3, kbO fun s v => .of_eq (by rfl), fun X e1 e2 => by rw [← e1, ← e2]; exact pass_none⟩
  exact ok_law F11 T c_Lbag c_Ldraw c_Lchanged c_Ltold c_Ldue k_show_cell k_read_cell
end Fr

open PySem PySem.W PyProof.Rows
set_option maxRecDepth 100000 in
set_option maxHeartbeats 0 in
theorem PySem.Challenge.cw_farreads_k50_cells_in_texts_holds : PySem.Challenge.rw_farreads_k50_cells_in_texts.Holds := by
  w_on; o_law; k_head; (case hw => w_witness2)
  k_fill
  refine Fr.walk_ofG (n := 63) (k := 7) (x := "_law_script") (l := PySem.Challenge.rw_farreads_k50_cells_in_texts) rfl (by decide) rfl ⟨rfl, by decide, by decide⟩ (fun w h Y => PySem.W.kIn_of Y) ?F
  case F =>
    intro w mg fa h Y KX G hmg
    refine' Fr.all_mk KX G hmg ?a1 ?l1 ?e1 ?k1 ?a2 ?l2 ?e2 ?k2 ?a3 ?l3 ?e3 ?k3 ?a4 ?l4 ?e4 ?k4 ?a5 ?l5 ?e5 ?k5 ?a6 ?l6 ?e6 ?k6 ?a7 ?l7 ?e7 ?k7 ?a8 ?l8 ?e8 ?k8 ?a9 ?l9 ?e9 ?k9 ?a10 ?l10 ?e10 ?k10 ?a11 ?l11 ?e11 ?k11 ?cgCU ?cgCI ?xx ?sa ?ex ?ty ?kp ?ga ?gg ?hd ?kc ?km ?in_ ?no ?kg ?kt ?lE ?eE ?kE ?tyE ?hxU ?hxI ?z_len ?z_abs ?z_min ?z_range ?z_all ?z_int ?z_str ?z_tuple ?z_isinstance ?v_MOST_DIMENSIONS ?v_MOST_LETTERS ?v_MOST_DIGITS
    (case a1 => k_is)
    (case l1 => k_is)
    (case e1 => k_is)
    (case k1 => k_is)
    (case a2 => k_is)
    (case l2 => k_is)
    (case e2 => k_is)
    (case k2 => k_is)
    (case a3 => k_is)
    (case l3 => k_is)
    (case e3 => k_is)
    (case k3 => k_is)
    (case a4 => k_is)
    (case l4 => k_is)
    (case e4 => k_is)
    (case k4 => k_is)
    (case a5 => k_is)
    (case l5 => k_is)
    (case e5 => k_is)
    (case k5 => k_is)
    (case a6 => k_is)
    (case l6 => k_is)
    (case e6 => k_is)
    (case k6 => k_is)
    (case a7 => k_is)
    (case l7 => k_is)
    (case e7 => k_is)
    (case k7 => k_is)
    (case a8 => k_is)
    (case l8 => k_is)
    (case e8 => k_is)
    (case k8 => k_is)
    (case a9 => k_is)
    (case l9 => k_is)
    (case e9 => k_is)
    (case k9 => k_is)
    (case a10 => k_is)
    (case l10 => k_is)
    (case e10 => k_is)
    (case k10 => k_is)
    (case a11 => k_is)
    (case l11 => k_is)
    (case e11 => k_is)
    (case k11 => k_is)
    (case cgCU => k_is)
    (case cgCI => k_is)
    (case xx => (refine' Fr.excRow_of ?l ?r; (case l => k_is); (case r => decide +kernel)))
    (case sa => k_is)
    (case ex => k_is)
    (case ty => k_is)
    (case kp => k_is)
    (case ga => k_is)
    (case gg => k_is)
    (case hd => k_is)
    (case kc => k_is)
    (case km => k_is)
    (case in_ => k_is)
    (case no => k_is)
    (case kg => k_is)
    (case kt => k_is)
    (case lE => k_is)
    (case eE => k_is)
    (case kE => k_is)
    (case tyE => k_is)
    (case hxU => kernel_rfl)
    (case hxI => kernel_rfl)
    (case z_len => k_is)
    (case z_abs => k_is)
    (case z_min => k_is)
    (case z_range => k_is)
    (case z_all => k_is)
    (case z_int => k_is)
    (case z_str => k_is)
    (case z_tuple => k_is)
    (case z_isinstance => k_is)
    (case v_MOST_DIMENSIONS => k_is)
    (case v_MOST_LETTERS => k_is)
    (case v_MOST_DIGITS => k_is)
